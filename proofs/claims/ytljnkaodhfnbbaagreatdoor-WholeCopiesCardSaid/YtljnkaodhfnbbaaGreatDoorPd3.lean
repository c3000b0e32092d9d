import Derived.Test.YtljnkaodhfnbbaaGreatDoorPd2
import Derived.WalkSpells
import Derived.Test.YtljnkaodhfnbbaaGreatDoorChecked
import Derived.WalkKit
import Derived.LaidEql
import Derived.Stop.Asserts
import Derived.Stop.IfaceNil
import Derived.RowKitTokens
import Derived.Lib.IfaceEq
import Derived.Lib.Hide
import Derived.LoopTactic
import Derived.Outline
import Derived.Deep.Cut
import Derived.Test.YtljnkaodhfnbbaaGreatDoorPd1
import Derived.ProofKit
import Derived.OpenShut
import Derived.ChangeOld
import Derived.Deep.Slices
import Derived.WideShapes
import Derived.Test.YtljnkaodhfnbbaaGreatDoorRows
import Derived.LaidHandle
import Derived.LaidLaws
import Derived.LaidMore
import Derived.Stop.Joined
set_option maxRecDepth 100000
namespace Go.Proofs.YtljnkaodhfnbbaaGreatDoor.Fs
open Go.RowKit Go.Maps
open Fl (R4 z4 K4 rec4 rat goodF goodFB okR okL doE newR file arr4 sto4 sto4_own sto4_other sto4_size sto4_below own4 row_cell row_frozen ret_bool)
open Rw (Rd Ow At)
attribute [local irreducible] Sd.wpSd wpQuiet Sf.wpSf
def SetPost (w:World) (s:Nat) (F:Nat→Prop) (d:Int) (b:Bool) (A':Abs) (e:Ending) (w':World):Prop:=e = .returned (.bool b)∧St w' s (Fx F w w') A' d∧Only F w w'
theorem sB_some {C:List Ent} {n r:Int} {c:Ent} (h:look Ent.n n C=some c) (h0:0≤r) (h1:r < c.l.length) (h2:r≠0):sB (C.map Ent.abs) n r=true:=by
 unfold sB;rw [gB_some h,decide_eq_true ⟨h0,h1⟩,decide_eq_true h2]
 rfl
theorem sA_some {C:List Ent} {n r:Int} {c:Ent} (h:look Ent.n n C=some c) (h0:0≤r) (h1:r < c.l.length) (h2:r≠0) (x:R4):sA (C.map Ent.abs) n r x=(put Ent.n (c.recs (c.l.set r.toNat x)) C).map Ent.abs:=by
 have hb:=sB_some h h0 h1 h2;have he:look key n (C.map Ent.abs)=some c.abs:=by rw [abs_look,h];rfl
 unfold sA;rw [he];simp only [hb,if_true];rw [abs_put];obtain ⟨_,rfl⟩:=look_some h
 rfl
theorem sA_no {A:Abs} {n r:Int} (h:sB A n r=false) (x:R4):sA A n r x=A:=by
 unfold sA
 split
 ·rfl
 ·rw [h];rfl
theorem box_rec (w:World) (x:R4):(w.alloc (.cells (arr4 x) 42)).heap[w.heap.size]? = some (.cells (arr4 x) 42 (0,0))∧Below w.heap.size w (w.alloc (.cells (arr4 x) 42))∧(w.alloc (.cells (arr4 x) 42)).heap.size=w.heap.size+1:=⟨heap_alloc_new w _,(Below.refl w.heap.size w).alloc (Nat.le_refl _) _,by simp⟩
set_option maxHeartbeats 400000 in
theorem set_zero (w:World) (s:Value) (n:Int) (x:R4):Calls Tryz.prog 120 #[s,.int .i64 n,.int .i64 0,rec4 x] w fun e w'=>e = .returned (.bool false)∧Below w.heap.size w w':=by
 unfold rec4
 go_enter Tryz.func120,Tryz.ntmps120
 go_wp2
 go_ret
 exact ⟨rfl,(Below.refl w.heap.size w).alloc (Nat.le_refl _) _⟩
set_option maxHeartbeats 400000 in
theorem set_none (w:World) (s:Value) (n r:Int) (x:R4) (hr:r≠0) (hh:∀ W,Below w.heap.size w W→Calls Tryz.prog 85 #[s,.int .i64 n,.int .i64 r] W fun e w'=>e = .returned (.bool false)∧Below W.heap.size W w') :
 Calls Tryz.prog 120 #[s,.int .i64 n,.int .i64 r,rec4 x] w fun e w'=>e = .returned (.bool false)∧Below w.heap.size w w':=by
 obtain ⟨h1,hB,hz⟩:=box_rec w x;have HB:=Lib.hid hB;have HH:=Lib.hid (hh _ hB);clear h1 hB hz hh;have hr0:(r == 0)=false:=by simpa using hr
 unfold rec4;unfold arr4 at *
 go_enter Tryz.func120,Tryz.ntmps120
 go_wp2_with fail;refine HH.out.mono ?_;rintro e w1 ⟨rfl,b1⟩;have B1:=Lib.hid (HB.out.trans (b1.mono HB.out.size));clear b1 HH HB;go_wp2
 go_ret
 exact ⟨rfl,B1.out⟩
structure SetC (s:Nat) (F:Nat→Prop) (m:Value) (C:List Ent) (d:Int) (g:Nat) (x:R4) (W:World):Prop where
 row:W.heap[s]? = some (.cells #[m,.int .i64 d] 178 (0,0))
 mp:Mp W F m C
 box:W.heap[g]? = some (.cells (arr4 x) 42 (0,0))
set_option maxHeartbeats 1000000 in
theorem set_yes {w:World} {s:Nat} {F:Nat→Prop} {m:Value} {C:List Ent} {d:Int} (S:Sto w s F m C d) {n:Int} (hn:Wf n) (k:Nat) (x:R4) (hx:okR x) {c:Ent} (hc:look Ent.n n C=some c) (hk:k < c.l.length) (hk0:k≠0) :
 Calls Tryz.prog 120 #[.pointer (some ⟨s,0,none⟩),.int .i64 n,.int .i64 (k:Int),rec4 x] w (SetPost w s F d true ((put Ent.n (c.recs (c.l.set k x)) C).map Ent.abs)):=by
 obtain ⟨h1,hB,hz⟩:=box_rec w x;have H1:=Lib.hid h1;have HB:=Lib.hid hB;have HZ:=Lib.hid hz;have hh:=has_any (S.below hB) hn (k:Int);rw [gB_some hc,decide_eq_true (⟨by omega,by omega⟩:0≤(k:Int)∧(k:Int) < c.l.length)] at hh;have HH:=Lib.hid hh;have SS:=Lib.hid S;have HN:=Lib.hid hn;have L:=Lib.hid (lv_some hc);obtain ⟨ho,_,_,_,_,hm⟩:=S.find hc;obtain ⟨g,cap,e1,_,_,_,_,_,_⟩:=ho.form (by omega);have ea:c.a=some ⟨g,0,none⟩:=by unfold Ent.sl at e1;injection e1
 rw [ea] at L;have FIN:Hid (∀ W,Below w.heap.size w W→SetPost w s F d true ((put Ent.n (c.recs (c.l.set k x)) C).map Ent.abs) (.returned (.bool true)) (sto4 W g (k * 4) x)):=fun W hb=>by
  obtain ⟨S1,O1⟩:=(S.below hb).write hm e1 hk hk0 hx;have O2:=(Only.of_below (G:=F) hb).trans O1 fun _ _ g=>g;exact ⟨rfl,⟨_,_,S1.wide (fun j hj=>.inl hj) (Fx.low S.low O2.size),rfl⟩,O2⟩
 have OW:=Lib.hid (And.intro ho (And.intro e1 hk));have CB:Hid (∀ W,SetC s F m C d w.heap.size x W→∀ g',g=g'→((sto4 W g' (k * 4) x).heap[s]? = some (.cells #[m,.int .i64 d] 178 (0,0))∧Mp (sto4 W g' (k * 4) x) F m C∧(sto4 W g' (k * 4) x).heap[w.heap.size]? = some (.cells (arr4 x) 42 (0,0)))):=fun W h g' eg=>by
  subst eg;obtain ⟨n1,n2⟩:=S.off hm;rw [e1] at n1 n2;have hgl:=S.low g (S.mine c hm g (by rw [e1];rfl));exact ⟨sto4_other h.row fun e=>n1 (by rw [e];rfl),h.mp.kept fun b hb=>sto4_other rfl fun e=>n2 b hb (by rw [e];rfl),sto4_other h.box (by omega)⟩
 have hq:k < c.l.length:=hk;clear h1 hB hz hh ho e1 hc S hn hk hm ea;generalize put Ent.n (c.recs (c.l.set k x)) C=C' at *;have hr0:((k:Int) == 0)=false:=by simpa using hk0
 have OW2:Hid (∀ W,Below w.heap.size w W→(W.cell? ⟨g,k * 4,none⟩=some (.int .u8 (rat c.l k).1)∧W.cell? ⟨g,k * 4+1,none⟩=some (.int .u8 (rat c.l k).2.1)∧W.cell? ⟨g,k * 4+2,none⟩=some (.int .u8 (rat c.l k).2.2.1)∧W.cell? ⟨g,k * 4+3,none⟩=some (.int .u8 (rat c.l k).2.2.2))∧(∀ j,W.frozen? ⟨g,j,none⟩=false)):=fun W hb=>by
  have o:=OW.out.1.keep hb;rw [OW.out.2.1] at o;have:=own4 o k OW.out.2.2;exact ⟨this.1,this.2.1⟩
 clear OW;generalize rat c.l k=y0 at *;generalize c.l.length=q at *;generalize c.p=p at *;generalize c.cap=ccap at *;unfold rec4;have X4:Hid (arr4 x=#[.int .u8 x.1,.int .u8 x.2.1,.int .u8 x.2.2.1,.int .u8 x.2.2.2]):=rfl;unfold arr4 at H1 HB HZ HH
 go_enter Tryz.func120,Tryz.ntmps120
 go_wp2_with fail;generalize (w.alloc (.cells #[.int .u8 x.1,.int .u8 x.2.1,.int .u8 x.2.2.1,.int .u8 x.2.2.2] 42))=W at *;refine HH.out.mono ?_;rintro e w1 ⟨rfl,b1⟩;have hz:=HZ.out;have G:w1.heap[w.heap.size]? = some (.cells (arr4 x) 42 (0,0)):=(b1.block _ (by omega)).trans H1.out;have B1:=Lib.hid (HB.out.trans (b1.mono HB.out.size));have S1:=SS.out.below B1.out;have C0:SetC s F m C d w.heap.size x w1.drew:=⟨S1.row,S1.mp,G⟩;clear b1 HH HB H1 HZ hz G S1 SS;go_wp2_with fail;have hF:=run_fieldF;have c0:=Sc.cell_in (C:=SetC s F m C d w.heap.size x) (a:=⟨s,0,none⟩) (fun W' h=>row_cell h.row 0);have x0:=Sc.cell_in (C:=SetC s F m C d w.heap.size x) (a:=⟨w.heap.size,0,none⟩) (v:=.int .u8 x.1) (fun W' h=>row_cell h.box 0);have x1:=Sc.cell_in (C:=SetC s F m C d w.heap.size x) (a:=⟨w.heap.size,1,none⟩) (v:=.int .u8 x.2.1) (fun W' h=>row_cell h.box 1);have x2:=Sc.cell_in (C:=SetC s F m C d w.heap.size x) (a:=⟨w.heap.size,2,none⟩) (v:=.int .u8 x.2.2.1) (fun W' h=>row_cell h.box 2);have x3:=Sc.cell_in (C:=SetC s F m C d w.heap.size x) (a:=⟨w.heap.size,3,none⟩) (v:=.int .u8 x.2.2.2) (fun W' h=>row_cell h.box 3);have hlk:∀ P:Sc.In (SetC s F m C d w.heap.size x),(Instr.lookup 176 m (.int .i64 n) false).run Tryz.prog P.world = .ok (.agg #[.int .i64 p,.slice (some ⟨g,0,none⟩) q ccap]) P.world:=fun P=>by
  have:=run_look P.ok.mp HN.out false;rw [L.out] at this;exact this
 have ne:Nonempty (Sc.In (SetC s F m C d w.heap.size x)):=⟨⟨_,C0⟩⟩;refine Sc.start (SetC s F m C d w.heap.size x) [(false,0),(false,1),(false,2),(false,3),(false,4),(false,5),(false,6),(false,7),(false,8),(false,9),(true,10)] (by kernel_rfl) (by kernel_rfl) (by kernel_rfl) C0 ?_;dsimp only [Sd.picks,List.getElem?_cons_succ,List.getElem?_cons_zero]
 repeat (refine Sd.lit ?_;quiet_step (fail);refine wpQuiet_nil ?_)
 have BW:Below w.heap.size w w1.drew:=B1.out.trans ((Below.refl _ _).drew);obtain ⟨⟨d0,d1,d2,d3⟩,hfr⟩:=OW2.out w1.drew BW;have f0:=hfr (k * 4);have f1:=hfr (k * 4+1);have f2:=hfr (k * 4+2);have f3:=hfr (k * 4+3);have L1:SetC s F m C d w.heap.size x (sto4 w1.drew g (k * 4) x):=by
  obtain ⟨a1,a2,a3⟩:=CB.out _ C0 _ rfl;exact ⟨a1,a2,a3⟩
 have RES:=Lib.hid (FIN.out w1.drew BW);clear hfr OW2 CB FIN C0 B1 BW;generalize w1.drew=W1 at *;refine Sd.call (by rfl) (fun K hK=>?_);go_simp;refine hK _ _ (Sc.Cl.of L1) ?_;clear hK K d0 d1 d2 d3 f0 f1 f2 f3 c0 x0 x1 x2 x3 hlk
 show Sd.wpSd _ _ _ _ _ _ (sto4 W1 g (k * 4) x)
 generalize sto4 W1 g (k * 4) x=W2 at *;refine Sd.done ?_;go_wp2
 go_ret
 exact RES.out
theorem set_any {w:World} {s:Nat} {F:Nat→Prop} {A:Abs} {d:Int} (S:St w s F A d) {n:Int} (hn:Wf n) (r:Int) (x:R4) (hx:okR x) :
 Calls Tryz.prog 120 #[.pointer (some ⟨s,0,none⟩),.int .i64 n,.int .i64 r,rec4 x] w (SetPost w s F d (sB A n r) (sA A n r x)):=by
 obtain ⟨m,C,h,rfl⟩:=S;have no:∀ e w',sB (C.map Ent.abs) n r=false→(e = .returned (.bool false)∧Below w.heap.size w w')→SetPost w s F d (sB (C.map Ent.abs) n r) (sA (C.map Ent.abs) n r x) e w':=fun e w' hb ⟨he,b⟩=>by
  unfold SetPost;rw [hb,sA_no hb x];exact ⟨he,St.fx ⟨m,C,h,rfl⟩ b,Only.of_below b⟩
 by_cases hr:r=0
 ·subst hr
  exact (set_zero w _ n x).mono fun e w'=>no e w' (by unfold sB;simp)
 ·have none:gB (C.map Ent.abs) n r=false→Calls Tryz.prog 120 #[.pointer (some ⟨s,0,none⟩),.int .i64 n,.int .i64 r,rec4 x] w (SetPost w s F d (sB (C.map Ent.abs) n r) (sA (C.map Ent.abs) n r x)):=fun hg =>
   (set_none w _ n r x hr fun W hb=>by
     have:=has_any (h.below hb) hn r
     rwa [hg] at this).mono fun e w'=>no e w' (by unfold sB;rw [hg];rfl)
  cases hk:look Ent.n n C with
  | none=>exact none (gB_none hk)
  | some c =>
    by_cases h2:0≤r∧r < c.l.length
    ·rw [sB_some hk h2.1 h2.2 hr,sA_some hk h2.1 h2.2 hr]
     obtain ⟨k,rfl⟩:∃ k:Nat,r=k:=⟨r.toNat,by omega⟩;rw [Int.toNat_natCast];exact set_yes h hn k x hx hk (by omega) (by omega)
    ·exact none (by rw [gB_some hk,decide_eq_false h2])
end Go.Proofs.YtljnkaodhfnbbaaGreatDoor.Fs
namespace Go.Proofs.YtljnkaodhfnbbaaGreatDoor.Fs
open Go.RowKit Go.Maps
open Fl (R4 z4 K4 rec4 rat goodF goodFB okR okL doE newR file arr4 sto4 sto2 sto2_row sto2_other sto2_below sto2_size row_cell row_frozen good_any)
open Rw (Rd Ow At)
attribute [local irreducible] Sd.wpSd wpQuiet Sf.wpSf
section
variable {w W W':World} {s b:Nat} {F:Nat→Prop} {C:List Ent} {d:Int} {c:Ent}
theorem Sto.place (h:Sto w s F (.map (some b)) C d) (hb:Below w.heap.size w W) (hg:W.grownBy W' (some b)) (mp:Mp W' F (.map (some b)) (Fs.put Ent.n c C)) (ow:Ow K4 W w.heap.size 42 c.sl c.l) (hn:0≤c.n∧c.n≤63) (hgd:goodF c.p c.l) (hl:okL c.l) :
 St W' s (Fx F w W') ((Fs.put Ent.n c C).map Ent.abs) d∧Only F w W':=by
 have hne:=h.map_ne;have hFb:=h.mp.isMap.1;have hbl:=h.low b hFb;have hsl:=h.low s h.foot;have O:Only F w W':=(Only.of_below hb).trans (Only.grown (G:=fun k=>k=b) rfl hg) fun k _ e=>e ▸ hFb;have off:∀ k,c.sl.ownBlock=some k→w.heap.size≤k∧k < W.heap.size:=ow_new ow;refine ⟨⟨_,_,h.put (w':=W') (d':=d) (F':=Fx F w W') ?_ (fun k hk=>.inl hk) (mp.wide fun k hk=>.inl hk) (fun e he hne=>?_) ?_ (fun k hk=>.inr ⟨(off k hk).1,Nat.lt_of_lt_of_le (off k hk).2 hg.size⟩) (fun e he hne k hk hk'=>?_) hn hgd hl (Fx.low h.low O.size),rfl⟩,O⟩
 ·rw [hg.block s (Nat.lt_of_lt_of_le hsl hb.size) (by intro e;injection e with e;exact hne e.symm),hb.block s hsl]
  exact h.row
 ·exact ow_only (G:=fun k=>k=b) ((h.own e he).keep hb) (fun k hk e'=>(h.off he).2 b rfl (by rw [hk,e'])) (Only.grown rfl hg)
 ·exact ow_only (G:=fun k=>k=b) (ow.low (Nat.zero_le _)) (fun k hk e'=>by have:=(off k hk).1;omega) (Only.grown rfl hg)
 ·have:=(off k hk).1
  have:=h.low k (h.mine e he k hk')
  omega
theorem Sto.make (h:Sto w s F (.map none) C d) (hb:Below w.heap.size w W):Sto ((W.alloc (.map #[] 0)).setCell ⟨s,0,none⟩ (.map (some W.heap.size))) s (Fx F w ((W.alloc (.map #[] 0)).setCell ⟨s,0,none⟩ (.map (some W.heap.size)))) (.map (some W.heap.size)) C d∧Only F w ((W.alloc (.map #[] 0)).setCell ⟨s,0,none⟩ (.map (some W.heap.size))):=by
 have hC:C = []:=by
  rcases h.mp with ⟨_,e⟩ | ⟨b,e,_⟩
  ·exact e
  ·cases e
 subst hC;have hsl:=h.low s h.foot;have B2:Below w.heap.size w (W.alloc (.map #[] 0)):=hb.alloc hb.size _;have O:Only F w ((W.alloc (.map #[] 0)).setCell ⟨s,0,none⟩ (.map (some W.heap.size))):=(Only.of_below B2).trans (Only.set F _ (a:=⟨s,0,none⟩) h.foot _) fun _ _ g=>g;refine ⟨⟨?_,.inl h.foot,.inr ⟨W.heap.size,rfl,.inr ⟨hb.size,by simp [World.setCell]⟩,?_⟩,nofun,nofun,List.Pairwise.nil,h.ok,Fx.low h.low O.size⟩,O⟩
 ·have:=Rw.heap_setCell_same (w:=W.alloc (.map #[] 0)) (g:=s) (j:=0) ((B2.block s hsl).trans h.row) (.map (some W.heap.size))
  rw [this]
  simp
 ·have:=World.ownsMap_made (H:=Value) W Tryz.prog 3 Rh
  exact this.setCell (a:=⟨s,0,none⟩) (fun e=>by have:=hb.size;simp only at e;omega) _
theorem Fx.trans {w1 w2:World} (h1:Only F w w1) (h2:w1.heap.size≤w2.heap.size):∀ k,Fx (Fx F w w1) w1 w2 k→Fx F w w2 k:=by
 have:=h1.size;rintro k ((g | ⟨a,b⟩) | ⟨a,b⟩)
 ·exact .inl g
 ·exact .inr ⟨a,by omega⟩
 ·exact .inr ⟨by omega,b⟩
theorem Only.trans' {w1 w2:World} (h1:Only F w w1) (h2:Only (Fx F w w1) w1 w2):Only F w w2:=h1.trans h2 fun k hk g=>by
 rcases g with g | ⟨a,_⟩
 ·exact g
 ·omega
end
def AddPost (w:World) (s:Nat) (F:Nat→Prop) (d:Int) (z:Int) (A':Abs) (e:Ending) (w':World):Prop:=e = .returned (.int .i64 z)∧St w' s (Fx F w w') A' d∧Only F w w'
theorem box_file (w:World) (p:Int) (v:Value):(w.alloc (.cells #[.int .i64 p,v] 70)).heap[w.heap.size]? = some (.cells #[.int .i64 p,v] 70 (0,0))∧Below w.heap.size w (w.alloc (.cells #[.int .i64 p,v] 70))∧(w.alloc (.cells #[.int .i64 p,v] 70)).heap.size=w.heap.size+1:=⟨heap_alloc_new w _,(Below.refl w.heap.size w).alloc (Nat.le_refl _) _,by simp⟩
theorem add_1 (w:World) (s:Nat) (n p:Int) (a:Option Addr) (q cap:Nat) (hn:¬ (0≤n∧n≤63)):Calls Tryz.prog 78 #[.pointer (some ⟨s,0,none⟩),.int .i64 n,.agg #[.int .i64 p,.slice a q cap]] w fun e w'=>e = .returned (.int .i64 1)∧Below w.heap.size w w':=by
 by_cases h:n < 0
 ·go_enter Tryz.func78,Tryz.ntmps78
  go_wp2
  go_ret
  exact ⟨rfl,(Below.refl w.heap.size w).alloc (Nat.le_refl _) _⟩
 ·have h2:64≤n:=by omega
  go_enter Tryz.func78,Tryz.ntmps78
  go_wp2
  go_ret
  exact ⟨rfl,(Below.refl w.heap.size w).alloc (Nat.le_refl _) _⟩
theorem add_2 (w:World) (s:Nat) (n p:Int) (a:Option Addr) (q cap:Nat) (l:List R4) (R:Rd K4 w (.slice a q cap) l) (hn:0≤n∧n≤63) (hg:¬ goodF p l):Calls Tryz.prog 78 #[.pointer (some ⟨s,0,none⟩),.int .i64 n,.agg #[.int .i64 p,.slice a q cap]] w fun e w'=>e = .returned (.int .i64 2)∧Below w.heap.size w w':=by
 obtain ⟨h1,hB,hz⟩:=box_file w p (.slice a q cap);have HB:=Lib.hid hB;have GA:=good_any _ p (.slice a q cap) l (R.below hB);rw [show goodFB p l=false from decide_eq_false hg] at GA;have HG:=Lib.hid GA;have n1:0≤n:=hn.1;have n2:n < 64:=by omega
 clear h1 hB hz R GA hg hn;unfold file at HG
 go_enter Tryz.func78,Tryz.ntmps78
 go_wp2_with fail;refine HG.out.mono ?_;rintro e w1 ⟨rfl,b1⟩;have B1:=Lib.hid (HB.out.trans (b1.mono HB.out.size));clear b1 HG HB;go_wp2
 go_ret
 exact ⟨rfl,B1.out⟩
set_option maxHeartbeats 1000000 in
theorem add_10 {w:World} {s:Nat} {F:Nat→Prop} {m:Value} {C:List Ent} {d:Int} (S:Sto w s F m C d) (n p:Int) (a:Option Addr) (q cap:Nat) (l:List R4) (R:Rd K4 w (.slice a q cap) l) (hn:0≤n∧n≤63) (hg:goodF p l) {c:Ent} (hc:look Ent.n n C=some c) :
 Calls Tryz.prog 78 #[.pointer (some ⟨s,0,none⟩),.int .i64 n,.agg #[.int .i64 p,.slice a q cap]] w fun e w'=>e = .returned (.int .i64 10)∧Below w.heap.size w w':=by
 obtain ⟨h1,hB,hz⟩:=box_file w p (.slice a q cap);have HB:=Lib.hid hB;have GA:=good_any _ p (.slice a q cap) l (R.below hB);rw [show goodFB p l=true from decide_eq_true hg] at GA;have HG:=Lib.hid GA;have SS:=Lib.hid S;have n1:0≤n:=hn.1;have n2:n < 64:=by omega
 have HN:Hid (Wf n):=WalkArith.wf_i64 (by omega);have L:=Lib.hid (lv_some hc);have LB:=Lib.hid (lb_some hc);clear h1 hB hz R GA hg hn S hc;unfold file at HG
 go_enter Tryz.func78,Tryz.ntmps78
 go_wp2_with fail;refine HG.out.mono ?_;rintro e w1 ⟨rfl,b1⟩;have B1:=Lib.hid (HB.out.trans (b1.mono HB.out.size));have S1:=SS.out.below B1.out;have c0:w1.cell? ⟨s,0,none⟩=some m:=row_cell S1.row 0;have M:=Lib.hid S1.mp;clear b1 HG HB S1 SS
 go_wp2_with (at_lookup;refine at_look1 rfl _ _ rfl M.out rfl _ rfl HN.out _ L.out _ LB.out ?_)
 go_ret
 exact ⟨rfl,B1.out.alloc B1.out.size _⟩
end Go.Proofs.YtljnkaodhfnbbaaGreatDoor.Fs
namespace Go.Proofs.YtljnkaodhfnbbaaGreatDoor.Fs
open Go.RowKit Go.Maps
open Fl (R4 z4 K4 rec4 rat goodF goodFB okR okL doE newR file arr4 row_cell row_frozen good_any)
open Rw (Rd Ow At)
attribute [local irreducible] Sd.wpSd wpQuiet Sf.wpSf
structure AddC (s:Nat) (m:Value) (d:Int) (g:Nat) (p:Int) (v:Value) (W:World):Prop where
 row:W.heap[s]? = some (.cells #[m,.int .i64 d] 178 (0,0))
 box:W.heap[g]? = some (.cells #[.int .i64 p,v] 70 (0,0))
theorem mk_eql (b:Option Nat) (W:World):(binOp .eql 176 (.map b) (.map none)).run Tryz.prog W = .ok (.bool b.isNone) W:=run_eql_map_nil W _ _ _ b Tryz.underlying176
theorem off_s {w:World} {v:Value} {l:List R4} {s:Nat} {o:Option Nat} {d:Int} {T:TypeId} (R:Rd K4 w v l) (h0:0 < l.length) (row:w.heap[s]? = some (.cells #[.map o,.int .i64 d] T (0,0))):∀ k,v.ownBlock=some k→k=s→False:=fun k hk e=>by
 obtain ⟨a,cap,rfl,_,_,h3⟩:=R;obtain ⟨b,off,rfl,hA⟩:=h3 h0;obtain rfl:b=k:=by simpa [Value.ownBlock] using hk
 subst e;have c:=hA 0 h0 0 _ rfl;have r:=row_cell row (off+0 * 4+0);have:w.cell? ⟨b,off+0 * 4+0,none⟩=some (.int .u8 (l.getD 0 z4).1):=c;rw [r] at this
 match off,this with
 | 0,h=>simp at h
 | 1,h=>simp at h
 | k+2,h=>simp at h
set_option maxHeartbeats 2000000 in
theorem add_some {w:World} {s b:Nat} {F:Nat→Prop} {C:List Ent} {d:Int} (S:Sto w s F (.map (some b)) C d) (n p:Int) (a:Option Addr) (q cap:Nat) (l:List R4) (R:Rd K4 w (.slice a q cap) l) (hn:0≤n∧n≤63) (hg:goodF p l) (hl:okL l) (hc:look Ent.n n C=none) :
 Calls Tryz.prog 78 #[.pointer (some ⟨s,0,none⟩),.int .i64 n,.agg #[.int .i64 p,.slice a q cap]] w (AddPost w s F d 0 (put key (n,p,l) (C.map Ent.abs))):=by
 obtain ⟨h1,hB,hz⟩:=box_file w p (.slice a q cap);have HB:=Lib.hid hB;have H1:=Lib.hid h1;have HZ:=Lib.hid hz;have RR:=Lib.hid R;have HL:=Lib.hid hl;have HGD:=Lib.hid hg;have GA:=good_any _ p (.slice a q cap) l (R.below hB);rw [show goodFB p l=true from decide_eq_true hg] at GA;have HG:=Lib.hid GA;have SS:=Lib.hid S;have n1:0≤n:=hn.1;have n2:n < 64:=by omega
 have HN:Hid (Wf n):=WalkArith.wf_i64 (by omega);have L:=Lib.hid (lv_none hc);have LB:=Lib.hid (lb_none hc);have FIN:Hid (∀ (u:Value) W W',Below w.heap.size w W→W.grownBy W' (some b)→Ow K4 W w.heap.size 42 u l→(∀ c:Ent,c.n=n→c.file=file p u→c.l=l→Mp W' F (.map (some b)) (put Ent.n c C))→AddPost w s F d 0 (put key (n,p,l) (C.map Ent.abs)) (.returned (.int .i64 0)) W'):=fun u W W' hb hgr ow mp=>by
  obtain ⟨au,cu,rfl,_⟩:=ow.slice;obtain ⟨S1,O1⟩:=S.place (c:=⟨n,p,au,cu,l⟩) hb hgr (mp _ rfl rfl rfl) ow hn hg hl;rw [abs_put] at S1;exact ⟨rfl,S1,O1⟩
 have hne:b≠s:=S.map_ne;have hbl:=S.low b S.mp.isMap.1;have hlen:=S.len;clear h1 hB hz R GA hg hn S hc hl;unfold file at HG
 go_enter Tryz.func78,Tryz.ntmps78
 go_wp2_with fail;generalize (w.alloc (.cells #[.int .i64 p,.slice a q cap] 70))=W at *;refine HG.out.mono ?_;rintro e w1 ⟨rfl,b1⟩;have B1:=Lib.hid (HB.out.trans (b1.mono HB.out.size));have S1:=SS.out.below B1.out;have c0:w1.cell? ⟨s,0,none⟩=some (.map (some b)):=row_cell S1.row 0;have M:=Lib.hid S1.mp;have hz:=HZ.out;have G1:=Lib.hid ((b1.block w.heap.size (by omega)).trans H1.out);have hE:=mk_eql (some b);have B2:=Lib.hid (B1.out.alloc B1.out.size (.cells #[.int .i64 0,.slice none 0 0] 70));have G2:=Lib.hid ((Below.heap_alloc w1 (.cells #[.int .i64 0,.slice none 0 0] 70) w.heap.size (by have:=b1.size;omega)).trans G1.out);have c2:(w1.alloc (.cells #[.int .i64 0,.slice none 0 0] 70)).cell? ⟨s,0,none⟩=some (.map (some b)):=row_cell (SS.out.below B2.out).row 0;clear b1 HG HB S1 G1 H1 hz
 go_wp2_with (at_lookup;refine at_look1 rfl _ _ rfl M.out rfl _ rfl HN.out _ L.out _ LB.out ?_)
 clear c0 c2 M hE B1;generalize (w1.alloc (.cells #[.int .i64 0,.slice none 0 0] 70))=W2 at *;have S2:=Lib.hid (SS.out.below B2.out);have C0:AddC s (.map (some b)) d w.heap.size p (.slice a q cap) W2.drew:=⟨S2.out.row,G2.out⟩;have c0:=Sc.cell_in (C:=AddC s (.map (some b)) d w.heap.size p (.slice a q cap)) (a:=⟨s,0,none⟩) (fun W' h=>row_cell h.row 0);have r0:=Sc.cell_in (C:=AddC s (.map (some b)) d w.heap.size p (.slice a q cap)) (a:=⟨w.heap.size,0,none⟩) (fun W' h=>row_cell h.box 0);have r1:=Sc.cell_in (C:=AddC s (.map (some b)) d w.heap.size p (.slice a q cap)) (a:=⟨w.heap.size,1,none⟩) (fun W' h=>row_cell h.box 1);have ne:Nonempty (Sc.In (AddC s (.map (some b)) d w.heap.size p (.slice a q cap))):=⟨⟨_,C0⟩⟩;have BW:=Lib.hid (B2.out.trans ((Below.refl W2.heap.size W2).drew.mono B2.out.size));refine Sc.start (AddC s (.map (some b)) d w.heap.size p (.slice a q cap)) [(false,0),(false,1),(false,2),(false,3),(false,4),(false,5),(true,6),(true,7)] (by kernel_rfl) (by kernel_rfl) (by kernel_rfl) C0 ?_;dsimp only [Sd.picks,List.getElem?_cons_succ,List.getElem?_cons_zero]
 repeat (refine Sd.lit ?_;quiet_step (fail);refine wpQuiet_nil ?_)
 refine Sd.call (by rfl) (fun K hK=>?_);have CA:=copied_any W2.drew p (.slice a q cap) l (RR.out.below BW.out) (by have:=HGD.out.2.2.2.1;omega);unfold file at CA;go_simp;refine CA.mono ?_;rintro e w3 ⟨u,rfl,o3,b3⟩;have hszz:w.heap.size≤W2.drew.heap.size:=B2.out.size;have B3:=Lib.hid (BW.out.trans (b3.mono hszz));have O3:=Lib.hid (o3.low hszz);have S3:=SS.out.below B3.out;have G3:w3.heap[w.heap.size]? = _:=(b3.block _ (by have:=HZ.out;have:=lt_of_block G2.out;exact this)).trans C0.box;refine hK _ _ (Sc.Cl.of ⟨S3.row,G3⟩) ?_;clear hK K b3 o3 CA C0 G2 B2 BW c0 r0 r1 S2;have M3:=Lib.hid S3.mp;have R3:=Lib.hid S3.row;have G3':=Lib.hid G3;clear S3 G3;obtain ⟨au,cu,rfl,_⟩:=O3.out.slice;refine Sd.call (by rfl) (fun K hK=>?_);refine wp_put _ _ _ rfl rfl M3.out ⟨n,p,au,cu,l⟩ rfl rfl HN.out (by unfold maxLen;omega) (fun w4 m4 g4=>?_)
 have RES:=Lib.hid (FIN.out _ w3 w4 B3.out g4 O3.out (fun c e1 e2 e3=>by
  obtain ⟨cn,cp,ca,cc,cl⟩:=c;simp only at e1 e3;subst e1 e3;unfold Ent.file Fl.file Ent.sl at e2;injection e2 with e2;have e4:=congrArg (fun t:Array Value=>t[0]?) e2;have e5:=congrArg (fun t:Array Value=>t[1]?) e2
  simp at e4 e5
  obtain ⟨rfl,rfl⟩:=e5;subst e4
  exact m4))
 have hws:=lt_of_block R3.out;have hwg:=lt_of_block G3'.out;refine hK _ _ (Sc.Cl.of ⟨(g4.block s hws (by intro e;injection e with e;exact hne e.symm)).trans R3.out,(g4.block w.heap.size hwg (by intro e;injection e with e;omega)).trans G3'.out⟩) ?_;clear hK K m4 g4 FIN;refine Sd.done ?_;go_wp2
 go_ret
 exact RES.out
set_option maxHeartbeats 2000000 in
theorem add_make {w:World} {s:Nat} {F:Nat→Prop} {C:List Ent} {d:Int} (S:Sto w s F (.map none) C d) (n p:Int) (a:Option Addr) (q cap:Nat) (l:List R4) (R:Rd K4 w (.slice a q cap) l) (hn:0≤n∧n≤63) (hg:goodF p l) (hl:okL l) (hc:look Ent.n n C=none) :
 Calls Tryz.prog 78 #[.pointer (some ⟨s,0,none⟩),.int .i64 n,.agg #[.int .i64 p,.slice a q cap]] w (AddPost w s F d 0 (put key (n,p,l) (C.map Ent.abs))):=by
 obtain ⟨h1,hB,hz⟩:=box_file w p (.slice a q cap);have HB:=Lib.hid hB;have H1:=Lib.hid h1;have HZ:=Lib.hid hz;have RR:=Lib.hid R;have HL:=Lib.hid hl;have HGD:=Lib.hid hg;have GA:=good_any _ p (.slice a q cap) l (R.below hB);rw [show goodFB p l=true from decide_eq_true hg] at GA;have HG:=Lib.hid GA;have SS:=Lib.hid S;have n1:0≤n:=hn.1;have n2:n < 64:=by omega
 have HN:Hid (Wf n):=WalkArith.wf_i64 (by omega);have L:=Lib.hid (lv_none hc);have LB:=Lib.hid (lb_none hc);have HNG:=Lib.hid (And.intro hn (And.intro hg hl));have hlen:=S.len;have hsl:=S.low s S.foot;clear h1 hB hz R GA hg hn S hc hl;unfold file at HG;have hmm:=@run_makeMap Tryz.prog
 go_enter Tryz.func78,Tryz.ntmps78
 go_wp2_with fail;generalize (w.alloc (.cells #[.int .i64 p,.slice a q cap] 70))=W at *;refine HG.out.mono ?_;rintro e w1 ⟨rfl,b1⟩;have B1:=Lib.hid (HB.out.trans (b1.mono HB.out.size));have S1:=SS.out.below B1.out;have c0:w1.cell? ⟨s,0,none⟩=some (.map none):=row_cell S1.row 0;have M:=Lib.hid S1.mp;have hz:=HZ.out;have G1:=Lib.hid ((b1.block w.heap.size (by omega)).trans H1.out);have hE:=mk_eql none;have B2:=Lib.hid (B1.out.alloc B1.out.size (.cells #[.int .i64 0,.slice none 0 0] 70));have G2:=Lib.hid ((Below.heap_alloc w1 (.cells #[.int .i64 0,.slice none 0 0] 70) w.heap.size (by have:=b1.size;omega)).trans G1.out);have S2:=SS.out.below B2.out;have c2:(w1.alloc (.cells #[.int .i64 0,.slice none 0 0] 70)).cell? ⟨s,0,none⟩=some (.map none):=row_cell S2.row 0;have hz2:(w1.alloc (.cells #[.int .i64 0,.slice none 0 0] 70)).heap.size=w1.heap.size+1:=by simp
 have MK:=SS.out.make B2.out;have S3:=(S2.below ((Below.refl _ _).alloc (Nat.le_refl _) (.map #[] 0)));have c3:((w1.alloc (.cells #[.int .i64 0,.slice none 0 0] 70)).alloc (.map #[] 0)).cell? ⟨s,0,none⟩=some (.map none):=row_cell S3.row 0;have f3:((w1.alloc (.cells #[.int .i64 0,.slice none 0 0] 70)).alloc (.map #[] 0)).frozen? ⟨s,0,none⟩=false:=row_frozen S3.row 0;have hgs:w.heap.size≠s:=by omega
 have G3:=Lib.hid ((Below.heap_setCell ((w1.alloc (.cells #[.int .i64 0,.slice none 0 0] 70)).alloc (.map #[] 0)) ⟨s,0,none⟩ (.map (some (w1.heap.size+1))) w.heap.size hgs).trans ((Below.heap_alloc (w1.alloc (.cells #[.int .i64 0,.slice none 0 0] 70)) (.map #[] 0) w.heap.size (by have:=B2.out.size;have:=b1.size;omega)).trans G2.out));rw [hz2] at MK;have S3':=Lib.hid MK.1;have O3':=Lib.hid MK.2;have OS:Only (fun k=>k=s) w ((((w1.alloc (.cells #[.int .i64 0,.slice none 0 0] 70)).alloc (.map #[] 0)).setCell ⟨s,0,none⟩ (.map (some (w1.heap.size+1))))):=(Only.of_below (B2.out.alloc B2.out.size _)).trans (Only.set (fun k=>k=s) _ (a:=⟨s,0,none⟩) rfl _) fun _ _ g=>g;have R3:=Lib.hid (rd_only RR.out (fun h0 k hk e=>off_s RR.out h0 SS.out.row k hk e) OS);clear b1 HG HB S1 G1 H1 hz G2 S2 S3 MK hz2 OS
 go_wp2_with (at_lookup;refine at_look1 rfl _ _ rfl M.out rfl _ rfl HN.out _ L.out _ LB.out ?_)
 clear c0 c2 c3 f3 M hE hmm B2 B1;generalize hb:w1.heap.size+1=b at *;clear hb;generalize (((w1.alloc (.cells #[.int .i64 0,.slice none 0 0] 70)).alloc (.map #[] 0)).setCell ⟨s,0,none⟩ (.map (some b)))=W2 at *;have hne:b≠s:=S3'.out.map_ne;have hcl:C.length < maxLen:=by unfold maxLen;omega
 have hws2:w.heap.size < W2.heap.size:=lt_of_block G3.out;have C0:AddC s (.map (some b)) d w.heap.size p (.slice a q cap) W2.drew:=⟨S3'.out.row,G3.out⟩;have c0:=Sc.cell_in (C:=AddC s (.map (some b)) d w.heap.size p (.slice a q cap)) (a:=⟨s,0,none⟩) (fun W' h=>row_cell h.row 0);have r0:=Sc.cell_in (C:=AddC s (.map (some b)) d w.heap.size p (.slice a q cap)) (a:=⟨w.heap.size,0,none⟩) (fun W' h=>row_cell h.box 0);have r1:=Sc.cell_in (C:=AddC s (.map (some b)) d w.heap.size p (.slice a q cap)) (a:=⟨w.heap.size,1,none⟩) (fun W' h=>row_cell h.box 1);have ne:Nonempty (Sc.In (AddC s (.map (some b)) d w.heap.size p (.slice a q cap))):=⟨⟨_,C0⟩⟩;have BW:Hid (Below W2.heap.size W2 W2.drew):=Lib.hid ((Below.refl W2.heap.size W2).drew);have hFb:=S3'.out.mp.isMap.1;have hbl:=S3'.out.low b hFb;have hbg:w.heap.size≠b:=fun e=>by
  obtain ⟨_,es,cl,hm⟩:=S3'.out.mp.isMap;rw [← e] at hm;have:=G3.out.symm.trans hm
  cases this
 refine Sc.start (AddC s (.map (some b)) d w.heap.size p (.slice a q cap)) [(false,0),(false,1),(false,2),(false,3),(false,4),(false,5),(true,6),(true,7)] (by kernel_rfl) (by kernel_rfl) (by kernel_rfl) C0 ?_;dsimp only [Sd.picks,List.getElem?_cons_succ,List.getElem?_cons_zero]
 repeat (refine Sd.lit ?_;quiet_step (fail);refine wpQuiet_nil ?_)
 refine Sd.call (by rfl) (fun K hK=>?_);have CA:=copied_any W2.drew p (.slice a q cap) l (R3.out.below BW.out) (by have:=HGD.out.2.2.2.1;omega);unfold file at CA;go_simp;refine CA.mono ?_;rintro e w3 ⟨u,rfl,o3,b3⟩;have B3:=Lib.hid (BW.out.trans (b3.mono (Nat.le_refl W2.heap.size)));have O3:Hid (Ow K4 w3 W2.heap.size 42 u l):=o3;have S4:=S3'.out.below B3.out;have G4:w3.heap[w.heap.size]? = _:=(b3.block _ hws2).trans C0.box;refine hK _ _ (Sc.Cl.of ⟨S4.row,G4⟩) ?_;clear hK K b3 o3 CA C0 G3 BW c0 r0 r1 R3;have M3:=Lib.hid S4.mp;have R4':=Lib.hid S4.row;have G3':=Lib.hid G4;clear S4 G4;obtain ⟨au,cu,rfl,_⟩:=O3.out.slice;refine Sd.call (by rfl) (fun K hK=>?_);refine wp_put _ _ _ rfl rfl M3.out ⟨n,p,au,cu,l⟩ rfl rfl HN.out hcl (fun w4 m4 g4=>?_);have RES:Hid (AddPost w s F d 0 (put key (n,p,l) (C.map Ent.abs)) (.returned (.int .i64 0)) w4):=by
  obtain ⟨P1,P2⟩:=S3'.out.place (c:=⟨n,p,au,cu,l⟩) B3.out g4 m4 O3.out HNG.out.1 HNG.out.2.1 HNG.out.2.2;rw [abs_put] at P1;exact ⟨rfl,P1.wide (Fx.trans O3'.out P2.size) (Fx.low SS.out.low (O3'.out.trans' P2).size),O3'.out.trans' P2⟩
 have hws:=lt_of_block R4'.out;have hwg:=lt_of_block G3'.out;refine hK _ _ (Sc.Cl.of ⟨(g4.block s hws (by intro e;injection e with e;exact hne e.symm)).trans R4'.out,(g4.block w.heap.size hwg (by intro e;injection e with e;exact hbg e)).trans G3'.out⟩) ?_;clear hK K m4 g4;refine Sd.done ?_;go_wp2
 go_ret
 exact RES.out
theorem look_abs {C:List Ent} {n:Int} : look key n (C.map Ent.abs)=(look Ent.n n C).map Ent.abs:=abs_look n C
theorem add_any {w:World} {s:Nat} {F:Nat→Prop} {A:Abs} {d:Int} (S:St w s F A d) (n p:Int) (v:Value) (l:List R4) (R:Rd K4 w v l) (hl:okL l) :
 Calls Tryz.prog 78 #[.pointer (some ⟨s,0,none⟩),.int .i64 n,file p v] w (AddPost w s F d (addE A n p l) (addA A n p l)):=by
 obtain ⟨m,C,h,rfl⟩:=S;obtain ⟨a,cap,rfl,_⟩:=R.slice;have no:∀ z e w',addE (C.map Ent.abs) n p l=z→z≠0→(e = .returned (.int .i64 z)∧Below w.heap.size w w')→AddPost w s F d (addE (C.map Ent.abs) n p l) (addA (C.map Ent.abs) n p l) e w':=fun z e w' hz h0 ⟨he,b⟩=>by
  unfold AddPost addA;rw [hz,if_neg h0];exact ⟨he,St.fx ⟨m,C,h,rfl⟩ b,Only.of_below b⟩
 by_cases hn:0≤n∧n≤63
 ·by_cases hg:goodF p l
  ·cases hc:look Ent.n n C with
   | some c=>exact (add_10 h n p a _ cap l R hn hg hc).mono fun e w'=>no 10 e w' (by unfold addE;rw [if_pos hn,if_pos hg,look_abs,hc];rfl) (by decide)
   | none =>
     have e0:addE (C.map Ent.abs) n p l=0:=by unfold addE;rw [if_pos hn,if_pos hg,look_abs,hc];rfl
     unfold addA;rw [e0,if_pos rfl]
     rcases h.mp with ⟨rfl,_⟩ | ⟨b,rfl,_,_⟩
     ·exact add_make h n p a _ cap l R hn hg hl hc
     ·exact add_some h n p a _ cap l R hn hg hl hc
  ·exact (add_2 w s n p a _ cap l R hn hg).mono fun e w'=>no 2 e w' (by unfold addE;rw [if_pos hn,if_neg hg]) (by decide)
 ·exact (add_1 w s n p a _ cap hn).mono fun e w'=>no 1 e w' (by unfold addE;rw [if_neg hn]) (by decide)
end Go.Proofs.YtljnkaodhfnbbaaGreatDoor.Fs
namespace Go.Proofs.YtljnkaodhfnbbaaGreatDoor.Fs
open Go.RowKit Go.Extern.Stop Go.Stop Go.Extern
def flt (n e:Int):Value:=.agg #[.int .i64 n,.iface 25 (.int .i64 e)]
def fault (n e:Int):Value:=.iface 292 (flt n e)
theorem isTypeOf (v:Value) (w:World):(Extern.ReflectliteType.typeOf #[.iface 25 v]).run Tryz.prog w = .ok (.iface 337 (.agg #[.pointer (some ⟨2,25,none⟩)])) w:=by kernel_rfl
theorem isTypeOfF (v:Value) (w:World):(Extern.ReflectliteType.typeOf #[.iface 292 v]).run Tryz.prog w = .ok (.iface 337 (.agg #[.pointer (some ⟨2,292,none⟩)])) w:=by kernel_rfl
def compF : Array Value → Sem Value := Extern.ReflectliteType.method fun t => do Rtype.noPackHeld "Comparable" t; pure (.bool (← typeInfo t).comparable)
theorem isComparable (w:World):(compF #[.agg #[.pointer (some ⟨2,25,none⟩)]]).run Tryz.prog w = .ok (.bool true) w:=by kernel_rfl
theorem isMethodComparable (v : Value) (w : World) : (Go.method 526 337 v "Comparable").run Tryz.prog w = .ok (305, v) w := by kernel_rfl
theorem noIsF (v:Value) (xT:TypeId) (w:World):(Instr.typeAssert (.iface 292 v) xT 339 true).run Tryz.prog w = .ok (.tuple #[.nilIface,.bool false]) w:=run_typeAssert_lacksB Tryz.underlying339 (by kernel_rfl) (by kernel_rfl) v xT w
theorem noIsE (v:Value) (xT:TypeId) (w:World):(Instr.typeAssert (.iface 25 v) xT 339 true).run Tryz.prog w = .ok (.tuple #[.nilIface,.bool false]) w:=run_typeAssert_lacksB Tryz.underlying339 (by kernel_rfl) (by kernel_rfl) v xT w
theorem hasUnwrapF (v:Value) (xT:TypeId) (w:World):(Instr.typeAssert (.iface 292 v) xT 342 true).run Tryz.prog w = .ok (.tuple #[.iface 292 v,.bool true]) w:=run_typeAssert_hasB Tryz.underlying342 (by kernel_rfl) v xT w
theorem noUnwrapE (v:Value) (xT:TypeId) (w:World):(Instr.typeAssert (.iface 25 v) xT 342 true).run Tryz.prog w = .ok (.tuple #[.nilIface,.bool false]) w:=run_typeAssert_lacksB Tryz.underlying342 (by kernel_rfl) (by kernel_rfl) v xT w
theorem noUnwrapsE (v:Value) (xT:TypeId) (w:World):(Instr.typeAssert (.iface 25 v) xT 344 true).run Tryz.prog w = .ok (.tuple #[.nilIface,.bool false]) w:=run_typeAssert_lacksB Tryz.underlying344 (by kernel_rfl) (by kernel_rfl) v xT w
theorem methodUnwrap (v : Value) (w : World) : (Go.method 526 292 v "Unwrap").run Tryz.prog w = .ok (299, v) w := by kernel_rfl
theorem eql_errno (a b:Int) (w:World):(binOp .eql 214 (.iface 25 (.int .i64 a)) (.iface 25 (.int .i64 b))).run Tryz.prog w = .ok (.bool (decide (a=b))) w:=by
 have:=Lib.run_eql_iface_int (P:=Tryz.prog) w (t:=214) (tx:=25) (k:=.i64) (q:=.i64) a b Tryz.underlying214 (by kernel_rfl) Tryz.underlying25;rw [this]
 congr 2
theorem eql_types (v u:Value) (w:World):(binOp .eql 214 (.iface 292 v) (.iface 25 u)).run Tryz.prog w = .ok (.bool false) w:=run_eql_iface_types (P:=Tryz.prog) _ _ v u Tryz.underlying214 (by decide) w
theorem ret_b {a b:Bool} (h:a=b):Ending.returned (.bool a) = .returned (.bool b):=by rw [h]
theorem unwrap_any (w:World) (n:Int) (x:Value):Calls Tryz.prog 299 #[.agg #[.int .i64 n,x]] w fun e w'=>e = .returned x∧Below w.heap.size w w':=by
 go_enter Tryz.func299,Tryz.ntmps299
 go_wp2
 go_ret
 exact ⟨rfl,(Below.refl w.heap.size w).alloc (Nat.le_refl _) _⟩
set_option maxHeartbeats 2000000 in
theorem is_loop (n e:Int) (w:World):Calls Tryz.prog 180 #[fault n e,.iface 25 (.int .i64 5),.bool true] w fun ev w'=>ev = .returned (.bool (decide (e=5)))∧Below w.heap.size w w':=by
 have nF:=noIsF;have nE:=noIsE;have uF:=hasUnwrapF;have uE:=noUnwrapE;have vE:=noUnwrapsE;have mU:=methodUnwrap;have hty:=eql_types;have heq:=eql_errno;unfold fault flt
 by_cases h:e=5
 ·have hd:=decide_eq_true h
  go_enter Tryz.func180,Tryz.ntmps180
  go_wp2;refine wp_loop_rounds 2 ?_;rw [rounds_succ]
  go_wp2_with (go_at_call 299;refine (unwrap_any _ _ _).mono ?_;rintro ev w1 ⟨rfl,b1⟩)
  rw [rounds_succ];go_wp2
  go_ret
  exact ⟨ret_b hd.symm,b1⟩
 ·have hd:=decide_eq_false h
  go_enter Tryz.func180,Tryz.ntmps180
  go_wp2;refine wp_loop_rounds 2 ?_;rw [rounds_succ]
  go_wp2_with (go_at_call 299;refine (unwrap_any _ _ _).mono ?_;rintro ev w1 ⟨rfl,b1⟩)
  rw [rounds_succ];go_wp2
  go_ret
  exact ⟨ret_b hd.symm,b1⟩
set_option maxHeartbeats 2000000 in
theorem is_any (n e:Int) (w:World):Calls Tryz.prog 134 #[fault n e,.iface 25 (.int .i64 5)] w fun ev w'=>ev = .returned (.bool (decide (e=5)))∧Below w.heap.size w w':=by
 have h8:=@run_callFunc_extern Tryz.prog 179 _ Extern.ReflectliteType.typeOf Tryz.func179 (by kernel_rfl) (by kernel_rfl) (by kernel_rfl) (by kernel_rfl);have h32:=@run_callFunc_extern Tryz.prog 305 _ compF Tryz.func305 (by kernel_rfl) (by kernel_rfl) (by kernel_rfl) (by kernel_rfl);have tT:=isTypeOf;have cT:=isComparable;have mR:=isMethodComparable;have L:=Lib.hid (is_loop n e w);unfold fault flt at *
 go_enter Tryz.func134,Tryz.ntmps134
 go_wp2_with (go_at_call 180;refine L.out.mono ?_;rintro ev w1 ⟨rfl,b1⟩)
 go_ret
 exact ⟨rfl,b1⟩
end Go.Proofs.YtljnkaodhfnbbaaGreatDoor.Fs
namespace Go.Proofs.YtljnkaodhfnbbaaGreatDoor.Fs
open Go.RowKit Go.Extern.Stop Go.Stop Go.Extern
def valF:Array Value→Sem Value:=fun args=>ReflectliteValue.unpack (args.getD 0 (.tuple #[]))
def typF : Array Value → Sem Value := ReflectliteValue.methodAny (ReflectliteValue.valueError "reflectlite.Value.Type" 0) (fun t _ _ _ => ReflectliteType.toType t)
def nilF : Array Value → Sem Value := ReflectliteValue.method (ReflectliteValue.valueError "reflectlite.Value.IsNil" 0) ReflectliteValue.isNil
def kinF:Array Value→Sem Value:=ReflectliteType.abiMethod fun t=>do pure (.int .u8 (← Rtype.kind t))
def eleF:Array Value→Sem Value:=ReflectliteType.method ReflectliteType.elem
def impF : Array Value → Sem Value := ReflectliteType.relation "Implements" ReflectliteType.implements_
def asgF : Array Value → Sem Value := ReflectliteType.relation "AssignableTo" ReflectliteType.assignableTo
def elvF : Array Value → Sem Value := ReflectliteValue.method (ReflectliteValue.valueError "reflectlite.Value.Elem" 0) ReflectliteValue.elem
theorem valP (t:Addr) (w:World):(valF #[.iface 273 (.pointer (some t))]).run Tryz.prog w = .ok (.agg #[.pointer (some ⟨2,273,none⟩),.pointer (some ⟨w.heap.size,0,none⟩),.int .u64 150]) (w.alloc (.cells #[.pointer (some t)] 273)):=by kernel_rfl
theorem valE (e:Int) (w:World):(valF #[.iface 25 (.int .i64 e)]).run Tryz.prog w = .ok (.agg #[.pointer (some ⟨2,25,none⟩),.pointer (some ⟨w.heap.size,0,none⟩),.int .u64 130]) (w.alloc (.cells #[.int .i64 e] 25)):=by kernel_rfl
theorem typP (a:Addr) (w:World):(typF #[.agg #[.pointer (some ⟨2,273,none⟩),.pointer (some a),.int .u64 150]]).run Tryz.prog w = .ok (.iface 337 (.agg #[.pointer (some ⟨2,273,none⟩)])) w:=by kernel_rfl
theorem mKind (h : Value) (w : World) : (Go.method 526 337 (.agg #[h]) "Kind").run Tryz.prog w = .ok (289, h) w := by kernel_rfl
theorem mElem (h : Value) (w : World) : (Go.method 526 337 (.agg #[h]) "Elem").run Tryz.prog w = .ok (306, .agg #[h]) w := by kernel_rfl
theorem mImp (h : Value) (w : World) : (Go.method 526 337 (.agg #[h]) "Implements").run Tryz.prog w = .ok (307, .agg #[h]) w := by kernel_rfl
theorem mAsg (h : Value) (w : World) : (Go.method 526 337 (.agg #[h]) "AssignableTo").run Tryz.prog w = .ok (304, .agg #[h]) w := by kernel_rfl
theorem kindP (w:World):(kinF #[.pointer (some ⟨2,273,none⟩)]).run Tryz.prog w = .ok (.int .u8 22) w:=by kernel_rfl
theorem kindE (w:World):(kinF #[.pointer (some ⟨2,25,none⟩)]).run Tryz.prog w = .ok (.int .u8 2) w:=by kernel_rfl
theorem elemP (w:World):(eleF #[.agg #[.pointer (some ⟨2,273,none⟩)]]).run Tryz.prog w = .ok (.iface 337 (.agg #[.pointer (some ⟨2,25,none⟩)])) w:=by kernel_rfl
theorem impE (w:World):(impF #[.agg #[.pointer (some ⟨2,25,none⟩)],.iface 337 (.agg #[.pointer (some ⟨2,214,none⟩)])]).run Tryz.prog w = .ok (.bool true) w:=by kernel_rfl
theorem asgE (w:World):(asgF #[.agg #[.pointer (some ⟨2,25,none⟩)],.iface 337 (.agg #[.pointer (some ⟨2,25,none⟩)])]).run Tryz.prog w = .ok (.bool true) w:=by kernel_rfl
theorem asgF' (w:World):(asgF #[.agg #[.pointer (some ⟨2,292,none⟩)],.iface 337 (.agg #[.pointer (some ⟨2,25,none⟩)])]).run Tryz.prog w = .ok (.bool false) w:=by kernel_rfl
theorem noAsF (v:Value) (xT:TypeId) (w:World):(Instr.typeAssert (.iface 292 v) xT 363 true).run Tryz.prog w = .ok (.tuple #[.nilIface,.bool false]) w:=run_typeAssert_lacksB Tryz.underlying363 (by kernel_rfl) (by kernel_rfl) v xT w
theorem rlm (z:Sem Value) (f:TypeId→Addr→Nat→Nat→Sem Value) (v:Value) :
 ReflectliteValue.method z f #[v]=(do match ← ReflectliteValue.parts v with | none=>z | some (t,a,fl)=>f t a fl (fl % 32)):=rfl
theorem partsP (a:Addr) (w:World):(ReflectliteValue.parts (.agg #[.pointer (some ⟨2,273,none⟩),.pointer (some a),.int .u64 150])).run Tryz.prog w = .ok (some (273,a,150)) w:=by kernel_rfl
theorem nilP (a p:Addr) (W:World) (ha:W.cell? a=some (.pointer (some p))):(nilF #[.agg #[.pointer (some ⟨2,273,none⟩),.pointer (some a),.int .u64 150]]).run Tryz.prog W = .ok (.bool false) W:=by
 unfold nilF;rw [rlm];simp only [Sem.run_bind,partsP,Result.andThen]
 simp [ReflectliteValue.isNil,loadVar,isAgg,underlying,Tryz.underlying273,ha,Result.andThen]
theorem elemOfP (w:World):(Rtype.elem? 273).run Tryz.prog w = .ok (some 25) w:=by kernel_rfl
theorem mkE (p:Addr) (w:World):(ReflectliteValue.mk 25 p ReflectliteValue.flagAddr).run Tryz.prog w = .ok (.agg #[.pointer (some ⟨2,25,none⟩),.pointer (some p),.int .u64 386]) w:=by kernel_rfl
theorem elvP (a p:Addr) (W:World) (ha:W.cell? a=some (.pointer (some p))):(elvF #[.agg #[.pointer (some ⟨2,273,none⟩),.pointer (some a),.int .u64 150]]).run Tryz.prog W = .ok (.agg #[.pointer (some ⟨2,25,none⟩),.pointer (some p),.int .u64 386]) W:=by
 unfold elvF;rw [rlm];simp only [Sem.run_bind,partsP,Result.andThen]
 simp [ReflectliteValue.elem,loadVar,isAgg,underlying,Tryz.underlying273,ha,Result.andThen,elemOfP,mkE]
theorem rls (v x:Value):ReflectliteValue.set #[v,x]=(do
 let (some (dst,a,fl),some (src,b,_)):=(← ReflectliteValue.parts v,← ReflectliteValue.parts x)
  | unsupported (.noEntry "extern/(internal/reflectlite.Value).Set.zeroValue")
 if fl / ReflectliteValue.flagAddr % 2 == 0 then unsupported (.noEntry "extern/(internal/reflectlite.Value).Set.unaddressable")
 let val ← loadVar src b
 if ← Rtype.directlyAssignable dst src then storeVar dst a val
 else if ← Rtype.implements dst src then
  if (← Rtype.kind src) == 20 then
   match val with
   | .nilIface => unsupported (.noEntry "extern/reflectlite: a nil value of one interface type handed on as a value of another")
   | _=>storeVar dst a val
  else storeVar dst a (.iface src val)
 else panicString ("reflectlite.Set: value of type " ++ (← Rtype.spelt src) ++ " is not assignable to type " ++ (← Rtype.spelt dst))
 pure (.tuple #[])):=rfl
theorem partsEa (a:Addr) (w:World):(ReflectliteValue.parts (.agg #[.pointer (some ⟨2,25,none⟩),.pointer (some a),.int .u64 386])).run Tryz.prog w = .ok (some (25,a,386)) w:=by kernel_rfl
theorem partsE (a:Addr) (w:World):(ReflectliteValue.parts (.agg #[.pointer (some ⟨2,25,none⟩),.pointer (some a),.int .u64 130])).run Tryz.prog w = .ok (some (25,a,130)) w:=by kernel_rfl
theorem directE (w:World):(Rtype.directlyAssignable 25 25).run Tryz.prog w = .ok true w:=by kernel_rfl
theorem setE (ta b:Addr) (e:Int) (old:Value) (W:World) (hb:W.cell? b=some (.int .i64 e)) (ht:W.cell? ta=some old) (hf:W.frozen? ta=false) :
 (ReflectliteValue.set #[.agg #[.pointer (some ⟨2,25,none⟩),.pointer (some ta),.int .u64 386],.agg #[.pointer (some ⟨2,25,none⟩),.pointer (some b),.int .u64 130]]).run Tryz.prog W
   = .ok (.tuple #[]) (W.setCell ta (.int .i64 e)):=by
 rw [rls];simp only [Sem.run_bind,partsEa,partsE,Result.andThen]
 simp [ReflectliteValue.flagAddr,loadVar,isAgg,underlying,Tryz.underlying25,hb,Result.andThen,directE,storeVar,Value.cells,storeCells,Addr.add]
 rw [run_store Tryz.prog W ta _ _ (by rfl)]
 simp [ht,hf]
end Go.Proofs.YtljnkaodhfnbbaaGreatDoor.Fs
namespace Go.Proofs.YtljnkaodhfnbbaaGreatDoor.Fs
open Go.RowKit Go.Extern.Stop Go.Stop Go.Extern
open Fl (row_cell row_frozen)
def Glob (w:World):Prop:=w.cell? ⟨1,0,none⟩=some (.iface 337 (.agg #[.pointer (some ⟨2,214,none⟩)]))
theorem Glob.below {w w':World} (h:Glob w) (b:Below w.heap.size w w'):Glob w':=(b.cell (World.block_lt_of_cell? _ _ h)).trans h
theorem Glob.only {G:Nat→Prop} {w w':World} (h:Glob w) (hn:¬ G 1) (o:Only G w w'):Glob w':=o.cell h hn
def AsPost (w:World) (tb:Nat) (e:Int) (ev:Ending) (w':World):Prop:=ev = .returned (.bool true)∧w'.heap[tb]? = some (.cells #[.int .i64 e] 25 (0,0))∧Only (fun k=>k=tb) w w'
set_option maxHeartbeats 4000000 in
theorem as_loop (n e:Int) (tb b:Nat) (w:World) (hb:w.cell? ⟨b,0,none⟩=some (.pointer (some ⟨tb,0,none⟩))) (ht:w.heap[tb]? = some (.cells #[.int .i64 0] 25 (0,0))) :
 Calls Tryz.prog 204 #[fault n e,.iface 273 (.pointer (some ⟨tb,0,none⟩)),.agg #[.pointer (some ⟨2,273,none⟩),.pointer (some ⟨b,0,none⟩),.int .u64 150],.iface 337 (.agg #[.pointer (some ⟨2,25,none⟩)])] w (AsPost w tb e):=by
 have h42:=@run_callFunc_extern Tryz.prog 179 _ Extern.ReflectliteType.typeOf Tryz.func179 (by kernel_rfl) (by kernel_rfl) (by kernel_rfl) (by kernel_rfl);have h102:=@run_callFunc_extern Tryz.prog 304 _ asgF Tryz.func304 (by kernel_rfl) (by kernel_rfl) (by kernel_rfl) (by kernel_rfl);have h60:=@run_callFunc_extern Tryz.prog 231 _ elvF Tryz.func231 (by kernel_rfl) (by kernel_rfl) (by kernel_rfl) (by kernel_rfl);have h50:=@run_callFunc_extern Tryz.prog 201 _ valF Tryz.func201 (by kernel_rfl) (by kernel_rfl) (by kernel_rfl) (by kernel_rfl);have h61:=@run_callFunc_extern Tryz.prog 232 _ ReflectliteValue.set Tryz.func232 (by kernel_rfl) (by kernel_rfl) (by kernel_rfl) (by kernel_rfl);have tF:=isTypeOfF;have tE:=isTypeOf;have mA:=mAsg;have aF:=asgF';have aE:=asgE;have nA:=noAsF;have uF:=hasUnwrapF;have mU:=methodUnwrap;have vE:=valE;have HB:=Lib.hid hb;have HT:=Lib.hid ht;have B0:=Lib.hid ((Below.refl w.heap.size w).alloc (Nat.le_refl _) (.cells #[.pointer (some ⟨2,273,none⟩),.pointer (some ⟨b,0,none⟩),.int .u64 150] 319));clear hb ht;unfold fault flt
 go_enter Tryz.func204,Tryz.ntmps204
 go_wp2;refine wp_loop_rounds 2 ?_;rw [rounds_succ]
 go_wp2_with (go_at_call 299;refine (unwrap_any _ _ _).mono ?_;rintro ev w1 ⟨rfl,b1⟩)
 have B1:=Lib.hid (B0.out.trans (b1.mono B0.out.size));have G0:w1.heap[w.heap.size]? = some (.cells #[.pointer (some ⟨2,273,none⟩),.pointer (some ⟨b,0,none⟩),.int .u64 150] 319 (0,0)):=(b1.block _ (by simp)).trans (heap_alloc_new w _);have e0:w1.cell? ⟨w.heap.size,0,none⟩=some (.pointer (some ⟨2,273,none⟩)):=row_cell G0 0;have e1:w1.cell? ⟨w.heap.size,1,none⟩=some (.pointer (some ⟨b,0,none⟩)):=row_cell G0 1;have e2:w1.cell? ⟨w.heap.size,2,none⟩=some (.int .u64 150):=row_cell G0 2;have hbl:=World.block_lt_of_cell? _ _ HB.out;have el:=elvP ⟨b,0,none⟩ ⟨tb,0,none⟩ w1 ((B1.out.cell hbl).trans HB.out);have htl:=lt_of_block HT.out;have T1:=(B1.out.block tb htl).trans HT.out;have T2:=(Below.heap_alloc w1 (.cells #[.int .i64 e] 25) tb (by have:=B1.out.size;omega)).trans T1;have st:=setE ⟨tb,0,none⟩ ⟨w1.heap.size,0,none⟩ e (.int .i64 0) (w1.alloc (.cells #[.int .i64 e] 25)) (by simp) (row_cell T2 0) (row_frozen T2 0);have RES:Hid (AsPost w tb e (.returned (.bool true)) ((w1.alloc (.cells #[.int .i64 e] 25)).setCell ⟨tb,0,none⟩ (.int .i64 e))):=by
  refine ⟨rfl,?_,?_⟩
  ·have:=Rw.heap_setCell_same (j:=0) T2 (.int .i64 e)
   rw [this]
   simp
  ·exact (Only.of_below (B1.out.alloc B1.out.size _)).trans (Only.set (fun k=>k=tb) _ (a:=⟨tb,0,none⟩) rfl _) fun _ _ g=>g
 clear b1 G0 T1 T2 HB HT B0 B1 hbl htl;rw [rounds_succ];go_wp2
 go_ret
 exact RES.out
set_option maxHeartbeats 4000000 in
theorem as_any (n e:Int) (tb:Nat) (w:World) (hg:Glob w) (ht:w.heap[tb]? = some (.cells #[.int .i64 0] 25 (0,0))) :
 Calls Tryz.prog 163 #[fault n e,.iface 273 (.pointer (some ⟨tb,0,none⟩))] w (AsPost w tb e):=by
 have h50:=@run_callFunc_extern Tryz.prog 201 _ valF Tryz.func201 (by kernel_rfl) (by kernel_rfl) (by kernel_rfl) (by kernel_rfl);have h51:=@run_callFunc_extern Tryz.prog 202 _ typF Tryz.func202 (by kernel_rfl) (by kernel_rfl) (by kernel_rfl) (by kernel_rfl);have h52:=@run_callFunc_extern Tryz.prog 203 _ nilF Tryz.func203 (by kernel_rfl) (by kernel_rfl) (by kernel_rfl) (by kernel_rfl);have h95:=@run_callFunc_extern Tryz.prog 289 _ kinF Tryz.func289 (by kernel_rfl) (by kernel_rfl) (by kernel_rfl) (by kernel_rfl);have h104:=@run_callFunc_extern Tryz.prog 306 _ eleF Tryz.func306 (by kernel_rfl) (by kernel_rfl) (by kernel_rfl) (by kernel_rfl);have h105:=@run_callFunc_extern Tryz.prog 307 _ impF Tryz.func307 (by kernel_rfl) (by kernel_rfl) (by kernel_rfl) (by kernel_rfl);have f6:=valP;have f7:=typP;have mK:=mKind;have mE:=mElem;have mI:=mImp;have kP:=kindP;have kE:=kindE;have eP:=elemP;have iE:=impE;have hlt:0 < w.heap.size:=Nat.lt_of_le_of_lt (Nat.zero_le _) (World.block_lt_of_cell? _ _ hg);have htl:=lt_of_block ht;have B2:Below w.heap.size w ((w.alloc (.cells #[.pointer (some ⟨tb,0,none⟩)] 273)).alloc (.cells #[.pointer (some ⟨2,273,none⟩),.pointer (some ⟨w.heap.size,0,none⟩),.int .u64 150] 319)):=((Below.refl w.heap.size w).alloc (Nat.le_refl _) _).alloc (by simp) _;have n8:=nilP ⟨w.heap.size,0,none⟩ ⟨tb,0,none⟩ ((w.alloc (.cells #[.pointer (some ⟨tb,0,none⟩)] 273)).alloc (.cells #[.pointer (some ⟨2,273,none⟩),.pointer (some ⟨w.heap.size,0,none⟩),.int .u64 150] 319)) (by simp);have hg2:((w.alloc (.cells #[.pointer (some ⟨tb,0,none⟩)] 273)).alloc (.cells #[.pointer (some ⟨2,273,none⟩),.pointer (some ⟨w.heap.size,0,none⟩),.int .u64 150] 319)).cell? ⟨1,0,none⟩=some (.iface 337 (.agg #[.pointer (some ⟨2,214,none⟩)])):=hg.below B2;have AL:=Lib.hid (as_loop n e tb w.heap.size ((w.alloc (.cells #[.pointer (some ⟨tb,0,none⟩)] 273)).alloc (.cells #[.pointer (some ⟨2,273,none⟩),.pointer (some ⟨w.heap.size,0,none⟩),.int .u64 150] 319)) (by simp) ((B2.block tb htl).trans ht));have BB:=Lib.hid B2;have HTL:=Lib.hid htl;clear hg ht B2 htl;unfold fault flt at *
 go_enter Tryz.func163,Tryz.ntmps163
 go_wp2_with (go_at_call 204;refine AL.out.mono ?_;rintro ev w1 ⟨rfl,r1,o1⟩)
 go_ret
 exact ⟨rfl,r1,(Only.of_below BB.out).trans o1 fun _ _ g=>g⟩
set_option maxHeartbeats 1000000 in
theorem number_any (n e:Int) (w:World) (hg:Glob w):Calls Tryz.prog 135 #[fault n e] w fun ev w'=>ev = .returned (.int .i64 e)∧Below w.heap.size w w':=by
 have B0:=Lib.hid ((Below.refl w.heap.size w).alloc (Nat.le_refl _) (.cells #[.int .i64 0] 25));have AS:=Lib.hid (as_any n e w.heap.size (w.alloc (.cells #[.int .i64 0] 25)) (hg.below B0.out) (heap_alloc_new w _));clear hg;unfold fault flt at *
 go_enter Tryz.func135,Tryz.ntmps135
 go_wp2_with fail;refine AS.out.mono ?_;rintro ev w1 ⟨rfl,r1,o1⟩;have c1:w1.cell? ⟨w.heap.size,0,none⟩=some (.int .i64 e):=row_cell r1 0;have BB:=Lib.hid (B0.out.trans (o1.below (by simp) fun k hk=>by rw [hk];exact Nat.le_refl _));clear r1 o1 B0 AS;go_wp2
 go_ret
 exact ⟨rfl,BB.out⟩
end Go.Proofs.YtljnkaodhfnbbaaGreatDoor.Fs
namespace Go.Proofs.YtljnkaodhfnbbaaGreatDoor.Fs
open Go.RowKit Go.Maps
open Fl (R4 z4 K4 rec4 rat goodF goodFB okR okL doE newR file arr4 sto2 sto4 sto2_row sto2_other sto2_below sto2_size sto4_row sto4_other sto4_below sto4_size row_cell row_frozen do_any DoPost)
open Rw (Rd Ow At)
attribute [local irreducible] Sd.wpSd wpQuiet Sf.wpSf
structure Ask0 (w:World) (o f r:Int) (x:R4) (W:World):Prop where
 adr:W.heap[w.heap.size]? = some (.cells #[.int .i64 o,.int .i64 f,.int .i64 r] 66 (0,0))
 arg:W.heap[w.heap.size+1]? = some (.cells (arr4 x) 42 (0,0))
 res:W.heap[w.heap.size+2]? = some (.cells (arr4 z4) 42 (0,0))
 siz:w.heap.size+3≤W.heap.size
 bel:Below w.heap.size w W
theorem Ask0.mono {w W W':World} {o f r:Int} {x:R4} (h:Ask0 w o f r x W) (b:Below W.heap.size W W'):Ask0 w o f r x W' :=
 have s:=h.siz
 ⟨(b.block _ (by omega)).trans h.adr,(b.block _ (by omega)).trans h.arg,(b.block _ (by omega)).trans h.res,Nat.le_trans h.siz b.size,h.bel.trans (b.mono (by omega))⟩
theorem ask0_of (w:World) (o f r:Int) (x:R4):Ask0 w o f r x (((w.alloc (.cells #[.int .i64 o,.int .i64 f,.int .i64 r] 66)).alloc (.cells #[.int .u8 x.1,.int .u8 x.2.1,.int .u8 x.2.2.1,.int .u8 x.2.2.2] 42)).alloc (.cells #[.int .u8 0,.int .u8 0,.int .u8 0,.int .u8 0] 42)):=by
 have z1:∀ a,(w.alloc a).heap.size=w.heap.size+1:=fun a=>by simp
 have z2:∀ a b,((w.alloc a).alloc b).heap.size=w.heap.size+2:=fun a b=>by simp
 refine ⟨?_,?_,?_,by simp,(((Below.refl w.heap.size w).alloc (Nat.le_refl _) _).alloc (by simp) _).alloc (by simp;omega) _⟩
 ·exact (Below.heap_alloc _ _ _ (by rw [z2];omega)).trans ((Below.heap_alloc _ _ _ (by rw [z1];omega)).trans (heap_alloc_new w _))
 ·have:=heap_alloc_new (w.alloc (.cells #[.int .i64 o,.int .i64 f,.int .i64 r] 66)) (.cells (arr4 x) 42)
  rw [z1] at this;exact (Below.heap_alloc _ _ _ (by rw [z2];omega)).trans this
 ·have:=heap_alloc_new ((w.alloc (.cells #[.int .i64 o,.int .i64 f,.int .i64 r] 66)).alloc (.cells (arr4 x) 42)) (.cells (arr4 z4) 42)
  rw [z2] at this;exact this
def Adr (w:World) (o f r:Int) (W:World):Prop:=W.heap[w.heap.size]? = some (.cells #[.int .i64 o,.int .i64 f,.int .i64 r] 66 (0,0))
def AskNo (w:World) (f k:Int) (e:Ending) (w':World):Prop:=e = .returned (.tuple #[rec4 z4,fault f k])∧Below w.heap.size w w'
set_option maxHeartbeats 2000000 in
theorem ask_none {w:World} {s:Nat} {F:Nat→Prop} {m:Value} {C:List Ent} {d:Int} (S:Sto w s F m C d) (o f r:Int) (x:R4) (hn:Wf f) (hk:look Ent.n f C=none) :
 Calls Tryz.prog 133 #[.pointer (some ⟨s,0,none⟩),Ad.addr o f r,rec4 x] w (AskNo w f 3):=by
 have A0:=ask0_of w o f r x;have S0:Hid (Ask0 w o f r x (((w.alloc (.cells #[.int .i64 o,.int .i64 f,.int .i64 r] 66)).alloc (.cells #[.int .u8 x.1,.int .u8 x.2.1,.int .u8 x.2.2.1,.int .u8 x.2.2.2] 42)).alloc (.cells #[.int .u8 0,.int .u8 0,.int .u8 0,.int .u8 0] 42))):=A0;have SS:=Lib.hid (S.below A0.bel);have HN:=Lib.hid hn;have L:=Lib.hid (lv_none hk);have LB:=Lib.hid (lb_none hk);clear A0 hn;clear S hk;unfold rec4;unfold Ad.addr
 go_enter Tryz.func133,Tryz.ntmps133
 go_wp2_with fail;generalize (((w.alloc (.cells #[.int .i64 o,.int .i64 f,.int .i64 r] 66)).alloc (.cells #[.int .u8 x.1,.int .u8 x.2.1,.int .u8 x.2.2.1,.int .u8 x.2.2.2] 42)).alloc (.cells #[.int .u8 0,.int .u8 0,.int .u8 0,.int .u8 0] 42))=W at *;have c0:=Sd.cell_by (show W.cell? ⟨s,0,none⟩=some m from row_cell SS.out.row 0);have a1:=Sd.cell_by (show W.cell? ⟨w.heap.size,1,none⟩=some (.int .i64 f) from row_cell S0.out.adr 1);have hlk:∀ P:Sd.By W,(Instr.lookup 176 m (.int .i64 f) true).run Tryz.prog P.world = .ok (.tuple #[.agg #[.int .i64 0,.slice none 0 0],.bool false]) P.world:=fun P=>by
  have:=run_look (SS.out.below P.below).mp HN.out true;rw [L.out,LB.out] at this;exact this
 refine Sf.start [(0,0),(0,1),(0,2),(0,3),(0,4),(0,5),(0,6),(0,7),(0,8),(0,9),(2,10),(1,11),(0,12)] [⟨10,8,#[.int .i64 0,.slice none 0 0],70⟩] (by kernel_rfl) (by kernel_rfl) (by kernel_rfl) (by decide) (by decide) ?_ ?_ ?_
 ·simp
 ·intro f hf
  simp only [List.mem_cons,List.not_mem_nil,or_false] at hf;subst hf;exact ⟨_,rfl,rfl,rfl,fun ρ w=>by go_simp⟩
 dsimp only [Sf.picks,List.getElem?_cons_succ,List.getElem?_cons_zero];have BW:=Lib.hid ((Below.refl W.heap.size W).drew)
 repeat (refine Sf.lit (fun xs=>?_);simp only [Sf.fill,List.foldl_cons,List.foldl_nil];quiet_step (fail);refine wpQuiet_nil ?_)
 refine Sf.meet (fun gF w7 hb hc row n7 hH hL=>?_);have B7:=Lib.hid (BW.out.trans (hb.mono BW.out.size));have R7:Hid (w7.heap[gF]? = some (.cells #[.int .i64 0,.slice none 0 0] 70 (0,0))):=row;clear hb hc row hH hL BW;refine Sf.call (fun xs w9 hb hc=>⟨by rfl,fun K hK=>?_⟩);have B9:=Lib.hid (B7.out.trans (hb.mono B7.out.size));have R9:=(hb.block _ (lt_of_block R7.out)).trans R7.out;have k0:w9.cell? ⟨gF,0,none⟩=some (.int .i64 0):=row_cell R9 0;have k1:w9.cell? ⟨gF,1,none⟩=some (.slice none 0 0):=row_cell R9 1;have f0:=row_frozen R9 0;have f1:=row_frozen R9 1;have RA:=Lib.hid (sto2_row R9 0 (.slice none 0 0));have BA:=Lib.hid (sto2_below (p:=0) (v:=.slice none 0 0) B9.out n7);have hsz:=sto2_size w9 gF 0 (.slice none 0 0);clear hb hc B7 R7 R9 B9;simp only [Sf.fill,List.foldl_nil];go_simp;refine hK _ _ (Sd.Cl.of BA.out) (by rw [← hsz];exact Nat.le_refl _) (fun h=>absurd rfl h) ?_;clear hK K k0 k1 f0 f1 hsz
 show Sf.wpSf _ _ _ _ _ _ _ _ _ _ (sto2 w9 gF 0 (.slice none 0 0))
 generalize sto2 w9 gF 0 (.slice none 0 0)=wA at *
 repeat (refine Sf.lit (fun xs=>?_);simp only [Sf.fill,List.foldl_nil];quiet_step (fail);refine wpQuiet_nil ?_)
 refine Sf.done (fun wB hb hc=>?_);have BX:=Lib.hid (BA.out.trans (hb.mono BA.out.size));have G1:=Lib.hid ((hb.block _ (lt_of_block RA.out)).trans RA.out);have S1:=Lib.hid (S0.out.mono BX.out);have N7:Hid (W.heap.size≤gF):=n7;clear hb hc BA RA c0 a1 hlk n7 S0;clear BX G1 N7 SS;go_wp2_with fail;have C0:Adr w o f r wB.drew:=S1.out.adr;have a1:=Sc.cell_in (C:=Adr w o f r) (a:=⟨w.heap.size,1,none⟩) (v:=.int .i64 f) (fun W' h=>row_cell h 1);have ne:Nonempty (Sc.In (Adr w o f r)):=⟨⟨_,C0⟩⟩;refine Sc.start (Adr w o f r) [(false,0),(false,1),(false,2),(false,3),(false,4),(false,5),(true,6),(false,7)] (by kernel_rfl) (by kernel_rfl) (by kernel_rfl) C0 ?_;dsimp only [Sd.picks,List.getElem?_cons_succ,List.getElem?_cons_zero]
 repeat (refine Sd.lit ?_;quiet_step (fail);refine wpQuiet_nil ?_)
 have S2:=Lib.hid (S1.out.mono ((Below.refl wB.heap.size wB).drew));clear S1 C0 a1;generalize wB.drew=Wy at *;refine Sd.call (by rfl) (fun K hK=>?_);have d0:Wy.cell? ⟨w.heap.size+2,0,none⟩=some (.int .u8 0):=row_cell S2.out.res 0;have d1:Wy.cell? ⟨w.heap.size+2,1,none⟩=some (.int .u8 0):=row_cell S2.out.res 1;have d2:Wy.cell? ⟨w.heap.size+2,2,none⟩=some (.int .u8 0):=row_cell S2.out.res 2;have d3:Wy.cell? ⟨w.heap.size+2,3,none⟩=some (.int .u8 0):=row_cell S2.out.res 3;have k0:=row_frozen S2.out.res 0;have k1:=row_frozen S2.out.res 1;have k2:=row_frozen S2.out.res 2;have k3:=row_frozen S2.out.res 3;have L2:Adr w o f r (sto4 Wy (w.heap.size+2) 0 z4):=sto4_other S2.out.adr (by omega);have R3:=Lib.hid (sto4_row S2.out.res z4);have B3:=Lib.hid (sto4_below (o:=0) (r:=z4) S2.out.bel (show w.heap.size≤w.heap.size+2 by omega));clear S2;go_simp;refine hK _ _ (Sc.Cl.of L2) ?_;clear hK K d0 d1 d2 d3 k0 k1 k2 k3 L2
 show Sd.wpSd _ _ _ _ _ _ (sto4 Wy (w.heap.size+2) 0 z4)
 generalize sto4 Wy (w.heap.size+2) 0 z4=Wz at *
 repeat (refine Sd.lit ?_;quiet_step (fail);refine wpQuiet_nil ?_)
 refine Sd.done ?_;go_wp2
 (try simp only [Exit.inBlock,Exit.then])
 exact bodyPost_ret (results_rec (p:=6) (r:=7) rfl _ _ (w.heap.size+2) z4 (fault f 3) rfl rfl R3.out) rfl ⟨rfl,B3.out⟩
theorem do_err (w:World) (p:Int) (v:Value) (l:List R4) (R:Rd K4 w v l) (hl:okL l) (o r k:Int) (x:R4) (he:doE p l o r=k) (hk:k≠0):Calls Tryz.prog 178 #[file p v,.int .i64 o,.int .i64 r,rec4 x] w fun e w'=>∃ a cap,e = .returned (.tuple #[file 0 (.slice a 0 cap),rec4 z4,.int .i64 k])∧Below w.heap.size w w' :=
 (do_any w p v l R hl o r x).mono fun e w' ⟨u,h1,h2,h3⟩=>by
   rw [he,if_neg hk] at h2;obtain ⟨a,cap,rfl,_⟩:=h2.slice;rw [he,if_neg hk,if_neg hk] at h1;exact ⟨a,cap,h1,h3⟩
theorem do_ok (w:World) (p:Int) (v:Value) (l:List R4) (R:Rd K4 w v l) (hl:okL l) (o r:Int) (x:R4) (he:doE p l o r=0):Calls Tryz.prog 178 #[file p v,.int .i64 o,.int .i64 r,rec4 x] w fun e w'=>∃ a cap,e = .returned (.tuple #[file p (.slice a l.length cap),rec4 (newR l o r x),.int .i64 0])∧Ow K4 w' w.heap.size 42 (.slice a l.length cap) (l.set r.toNat (newR l o r x))∧Below w.heap.size w w' :=
 (do_any w p v l R hl o r x).mono fun e w' ⟨u,h1,h2,h3⟩=>by
   rw [he,if_pos rfl] at h2;obtain ⟨a,cap,rfl,_⟩:=h2.slice;rw [List.length_set] at h1 h2;rw [he,if_pos rfl,if_pos rfl] at h1;exact ⟨a,cap,h1,h2,h3⟩
theorem two_res (w:World) (q:Int) (u:Value) (y:R4):((w.alloc (.cells #[.int .i64 q,u] 70)).alloc (.cells (arr4 y) 42)).heap[w.heap.size]? = some (.cells #[.int .i64 q,u] 70 (0,0))∧((w.alloc (.cells #[.int .i64 q,u] 70)).alloc (.cells (arr4 y) 42)).heap[w.heap.size+1]? = some (.cells (arr4 y) 42 (0,0))∧Below w.heap.size w ((w.alloc (.cells #[.int .i64 q,u] 70)).alloc (.cells (arr4 y) 42)):=by
 refine ⟨(Below.heap_alloc _ _ _ (by simp)).trans (heap_alloc_new w _),?_,((Below.refl w.heap.size w).alloc (Nat.le_refl _) _).alloc (by simp) _⟩;have:=heap_alloc_new (w.alloc (.cells #[.int .i64 q,u] 70)) (.cells (arr4 y) 42)
 simpa using this
set_option maxHeartbeats 2000000 in
theorem ask_err {w:World} {s:Nat} {F:Nat→Prop} {m:Value} {C:List Ent} {d:Int} (S:Sto w s F m C d) (o f r k:Int) (x:R4) (hn:Wf f) {c:Ent} (hk:look Ent.n f C=some c) (he:doE c.p c.l o r=k) (h0:k≠0) :
 Calls Tryz.prog 133 #[.pointer (some ⟨s,0,none⟩),Ad.addr o f r,rec4 x] w (AskNo w f k):=by
 obtain ⟨ho,hgd,hok,_,_,hcm⟩:=S.find hk;have RR:=Lib.hid (ho.rd);have OK:=Lib.hid hok;have A0:=ask0_of w o f r x;have S0:Hid (Ask0 w o f r x (((w.alloc (.cells #[.int .i64 o,.int .i64 f,.int .i64 r] 66)).alloc (.cells #[.int .u8 x.1,.int .u8 x.2.1,.int .u8 x.2.2.1,.int .u8 x.2.2.2] 42)).alloc (.cells #[.int .u8 0,.int .u8 0,.int .u8 0,.int .u8 0] 42))):=A0;have SS:=Lib.hid (S.below A0.bel);have HN:=Lib.hid hn;have L:=Lib.hid (lv_some hk);have LB:=Lib.hid (lb_some hk);obtain ⟨cn,p,a,cap,l⟩:=c;unfold Ent.sl at RR;simp only at *;have HE:=Lib.hid (And.intro he h0);have hk1:(k == 0)=false:=by simpa using h0
 obtain ⟨q,hq⟩:∃ q,q=l.length:=⟨_,rfl⟩;rw [← hq] at RR L;have HQ:=Lib.hid hq;clear S hk A0 hn ho hgd hok hcm he hq;unfold rec4;unfold Ad.addr
 go_enter Tryz.func133,Tryz.ntmps133
 go_wp2_with fail;generalize (((w.alloc (.cells #[.int .i64 o,.int .i64 f,.int .i64 r] 66)).alloc (.cells #[.int .u8 x.1,.int .u8 x.2.1,.int .u8 x.2.2.1,.int .u8 x.2.2.2] 42)).alloc (.cells #[.int .u8 0,.int .u8 0,.int .u8 0,.int .u8 0] 42))=W at *;have c0:=Sd.cell_by (show W.cell? ⟨s,0,none⟩=some m from row_cell SS.out.row 0);have a1:=Sd.cell_by (show W.cell? ⟨w.heap.size,1,none⟩=some (.int .i64 f) from row_cell S0.out.adr 1);have hlk:∀ P:Sd.By W,(Instr.lookup 176 m (.int .i64 f) true).run Tryz.prog P.world = .ok (.tuple #[.agg #[.int .i64 p,.slice a q cap],.bool true]) P.world:=fun P=>by
  have:=run_look (SS.out.below P.below).mp HN.out true;rw [L.out,LB.out] at this;exact this
 refine Sf.start [(0,0),(0,1),(0,2),(0,3),(0,4),(0,5),(0,6),(0,7),(0,8),(0,9),(2,10),(1,11),(0,12)] [⟨10,8,#[.int .i64 0,.slice none 0 0],70⟩] (by kernel_rfl) (by kernel_rfl) (by kernel_rfl) (by decide) (by decide) ?_ ?_ ?_
 ·simp
 ·intro f hf
  simp only [List.mem_cons,List.not_mem_nil,or_false] at hf;subst hf;exact ⟨_,rfl,rfl,rfl,fun ρ w=>by go_simp⟩
 dsimp only [Sf.picks,List.getElem?_cons_succ,List.getElem?_cons_zero];have BW:=Lib.hid ((Below.refl W.heap.size W).drew)
 repeat (refine Sf.lit (fun xs=>?_);simp only [Sf.fill,List.foldl_cons,List.foldl_nil];quiet_step (fail);refine wpQuiet_nil ?_)
 refine Sf.meet (fun gF w7 hb hc row n7 hH hL=>?_);have B7:=Lib.hid (BW.out.trans (hb.mono BW.out.size));have R7:Hid (w7.heap[gF]? = some (.cells #[.int .i64 0,.slice none 0 0] 70 (0,0))):=row;clear hb hc row hH hL BW;refine Sf.call (fun xs w9 hb hc=>⟨by rfl,fun K hK=>?_⟩);have B9:=Lib.hid (B7.out.trans (hb.mono B7.out.size));have R9:=(hb.block _ (lt_of_block R7.out)).trans R7.out;have k0:w9.cell? ⟨gF,0,none⟩=some (.int .i64 0):=row_cell R9 0;have k1:w9.cell? ⟨gF,1,none⟩=some (.slice none 0 0):=row_cell R9 1;have f0:=row_frozen R9 0;have f1:=row_frozen R9 1;have RA:=Lib.hid (sto2_row R9 p (.slice a q cap));have BA:=Lib.hid (sto2_below (p:=p) (v:=.slice a q cap) B9.out n7);have hsz:=sto2_size w9 gF p (.slice a q cap);clear hb hc B7 R7 R9 B9;simp only [Sf.fill,List.foldl_nil];go_simp;refine hK _ _ (Sd.Cl.of BA.out) (by rw [← hsz];exact Nat.le_refl _) (fun h=>absurd rfl h) ?_;clear hK K k0 k1 f0 f1 hsz
 show Sf.wpSf _ _ _ _ _ _ _ _ _ _ (sto2 w9 gF p (.slice a q cap))
 generalize sto2 w9 gF p (.slice a q cap)=wA at *
 repeat (refine Sf.lit (fun xs=>?_);simp only [Sf.fill,List.foldl_nil];quiet_step (fail);refine wpQuiet_nil ?_)
 refine Sf.done (fun wB hb hc=>?_);have BX:=Lib.hid (BA.out.trans (hb.mono BA.out.size));have G1:=Lib.hid ((hb.block _ (lt_of_block RA.out)).trans RA.out);have S1:=Lib.hid (S0.out.mono BX.out);have N7:Hid (W.heap.size≤gF):=n7;clear hb hc BA RA c0 a1 hlk n7 S0;have b0:wB.cell? ⟨gF,0,none⟩=some (.int .i64 p):=row_cell G1.out 0;have b1:wB.cell? ⟨gF,1,none⟩=some (.slice a q cap):=row_cell G1.out 1;have a0:wB.cell? ⟨w.heap.size,0,none⟩=some (.int .i64 o):=row_cell S1.out.adr 0;have a2:wB.cell? ⟨w.heap.size,2,none⟩=some (.int .i64 r):=row_cell S1.out.adr 2;have x0:wB.cell? ⟨w.heap.size+1,0,none⟩=some (.int .u8 x.1):=row_cell S1.out.arg 0;have x1:wB.cell? ⟨w.heap.size+1,1,none⟩=some (.int .u8 x.2.1):=row_cell S1.out.arg 1;have x2:wB.cell? ⟨w.heap.size+1,2,none⟩=some (.int .u8 x.2.2.1):=row_cell S1.out.arg 2;have x3:wB.cell? ⟨w.heap.size+1,3,none⟩=some (.int .u8 x.2.2.2):=row_cell S1.out.arg 3;have DO:=Lib.hid (do_err wB p (.slice a q cap) l (RR.out.below S1.out.bel) OK.out o r k x HE.out.1 HE.out.2);clear SS BX G1 N7 L LB;unfold file rec4 at DO;go_wp2_with fail;refine DO.out.mono ?_;rintro e w3 ⟨ua,ucap,rfl,b3⟩;obtain ⟨t1,t2,tB⟩:=two_res w3 0 (.slice ua 0 ucap) z4;have S3:=Lib.hid ((S1.out.mono b3).mono tB);clear t1 t2 tB b3 DO b0 b1 a0 a2 x0 x1 x2 x3 S1;unfold z4;unfold arr4 z4 at S3;go_wp2_with fail;generalize ((w3.alloc (.cells #[.int .i64 0,.slice ua 0 ucap] 70)).alloc (.cells #[.int .u8 0,.int .u8 0,.int .u8 0,.int .u8 0] 42))=Wq at *;have S1:Hid (Ask0 w o f r x Wq):=S3;clear S3;have C0:Adr w o f r Wq.drew:=S1.out.adr;have a1:=Sc.cell_in (C:=Adr w o f r) (a:=⟨w.heap.size,1,none⟩) (v:=.int .i64 f) (fun W' h=>row_cell h 1);have ne:Nonempty (Sc.In (Adr w o f r)):=⟨⟨_,C0⟩⟩;refine Sc.start (Adr w o f r) [(false,0),(false,1),(false,2),(false,3),(false,4),(false,5),(false,6),(true,7),(false,8)] (by kernel_rfl) (by kernel_rfl) (by kernel_rfl) C0 ?_;dsimp only [Sd.picks,List.getElem?_cons_succ,List.getElem?_cons_zero]
 repeat (refine Sd.lit ?_;quiet_step (fail);refine wpQuiet_nil ?_)
 have S2:=Lib.hid (S1.out.mono ((Below.refl Wq.heap.size Wq).drew));clear S1 C0 a1;generalize Wq.drew=Wy at *;refine Sd.call (by rfl) (fun K hK=>?_);have d0:Wy.cell? ⟨w.heap.size+2,0,none⟩=some (.int .u8 0):=row_cell S2.out.res 0;have d1:Wy.cell? ⟨w.heap.size+2,1,none⟩=some (.int .u8 0):=row_cell S2.out.res 1;have d2:Wy.cell? ⟨w.heap.size+2,2,none⟩=some (.int .u8 0):=row_cell S2.out.res 2;have d3:Wy.cell? ⟨w.heap.size+2,3,none⟩=some (.int .u8 0):=row_cell S2.out.res 3;have k0:=row_frozen S2.out.res 0;have k1:=row_frozen S2.out.res 1;have k2:=row_frozen S2.out.res 2;have k3:=row_frozen S2.out.res 3;have L2:Adr w o f r (sto4 Wy (w.heap.size+2) 0 z4):=sto4_other S2.out.adr (by omega);have R3:=Lib.hid (sto4_row S2.out.res z4);have B3:=Lib.hid (sto4_below (o:=0) (r:=z4) S2.out.bel (show w.heap.size≤w.heap.size+2 by omega));clear S2;go_simp;refine hK _ _ (Sc.Cl.of L2) ?_;clear hK K d0 d1 d2 d3 k0 k1 k2 k3 L2
 show Sd.wpSd _ _ _ _ _ _ (sto4 Wy (w.heap.size+2) 0 z4)
 generalize sto4 Wy (w.heap.size+2) 0 z4=Wz at *
 repeat (refine Sd.lit ?_;quiet_step (fail);refine wpQuiet_nil ?_)
 refine Sd.done ?_;go_wp2
 (try simp only [Exit.inBlock,Exit.then])
 exact bodyPost_ret (results_rec (p:=6) (r:=7) rfl _ _ (w.heap.size+2) z4 (fault f k) rfl rfl R3.out) rfl ⟨rfl,B3.out⟩
end Go.Proofs.YtljnkaodhfnbbaaGreatDoor.Fs
namespace Go.Proofs.YtljnkaodhfnbbaaGreatDoor.Fs
open Go.RowKit Go.Maps
open Fl (R4 z4 K4 rec4 rat goodF goodFB okR okL doE newR file arr4 sto2 sto4 sto2_row sto2_other sto2_below sto2_size sto4_row sto4_other sto4_below sto4_size row_cell row_frozen do_any DoPost)
open Rw (Rd Ow At)
attribute [local irreducible] Sd.wpSd wpQuiet Sf.wpSf
theorem Sto.place2 {w W W':World} {s b B:Nat} {F:Nat→Prop} {C:List Ent} {d:Int} {c:Ent} (h:Sto w s F (.map (some b)) C d) (hb:Below w.heap.size w W) (hB:w.heap.size≤B) (hg:W.grownBy W' (some b)) (mp:Mp W' F (.map (some b)) (Fs.put Ent.n c C)) (ow:Ow K4 W B 42 c.sl c.l) (hn:0≤c.n∧c.n≤63) (hgd:goodF c.p c.l) (hl:okL c.l) :
 St W' s (fun k=>F k∨(B≤k∧k < W'.heap.size)) ((Fs.put Ent.n c C).map Ent.abs) d∧Only F w W':=by
 have hne:=h.map_ne;have hFb:=h.mp.isMap.1;have hbl:=h.low b hFb;have hsl:=h.low s h.foot;have O:Only F w W':=(Only.of_below hb).trans (Only.grown (G:=fun k=>k=b) rfl hg) fun k _ e=>e ▸ hFb;have off:∀ k,c.sl.ownBlock=some k→B≤k∧k < W.heap.size:=ow_new ow;refine ⟨⟨_,_,h.put (w':=W') (d':=d) (F':=fun k=>F k∨(B≤k∧k < W'.heap.size)) ?_ (fun k hk=>.inl hk) (mp.wide fun k hk=>.inl hk) (fun e he hne=>?_) ?_ (fun k hk=>.inr ⟨(off k hk).1,Nat.lt_of_lt_of_le (off k hk).2 hg.size⟩) (fun e he hne k hk hk'=>?_) hn hgd hl (fun k hk=>?_),rfl⟩,O⟩
 ·rw [hg.block s (Nat.lt_of_lt_of_le hsl hb.size) (by intro e;injection e with e;exact hne e.symm),hb.block s hsl]
  exact h.row
 ·exact ow_only (G:=fun k=>k=b) ((h.own e he).keep hb) (fun k hk e'=>(h.off he).2 b rfl (by rw [hk,e'])) (Only.grown rfl hg)
 ·exact ow_only (G:=fun k=>k=b) (ow.low (Nat.zero_le _)) (fun k hk e'=>by have:=(off k hk).1;omega) (Only.grown rfl hg)
 ·have:=(off k hk).1
  have:=h.low k (h.mine e he k hk')
  omega
 ·rcases hk with hk | ⟨_,hk⟩
  ·have:=h.low k hk
   have:=O.size
   omega
  ·exact hk
def AskYes (w:World) (s:Nat) (F:Nat→Prop) (d:Int) (y:R4) (A':Abs) (e:Ending) (w':World):Prop:=e = .returned (.tuple #[rec4 y,.nilIface])∧St w' s (Fx F w w') A' d∧Only F w w'
structure OkC (w:World) (s:Nat) (m:Value) (d o f r:Int) (g:Nat) (p:Int) (u:Value) (W:World):Prop where
 row:W.heap[s]? = some (.cells #[m,.int .i64 d] 178 (0,0))
 adr:W.heap[w.heap.size]? = some (.cells #[.int .i64 o,.int .i64 f,.int .i64 r] 66 (0,0))
 box:W.heap[g]? = some (.cells #[.int .i64 p,u] 70 (0,0))
set_option maxHeartbeats 4000000 in
theorem ask_ok {w:World} {s b:Nat} {F:Nat→Prop} {C:List Ent} {d:Int} (S:Sto w s F (.map (some b)) C d) (o f r:Int) (x:R4) (hx:okR x) (hn:Wf f) {c:Ent} (hk:look Ent.n f C=some c) (he:doE c.p c.l o r=0) :
 Calls Tryz.prog 133 #[.pointer (some ⟨s,0,none⟩),Ad.addr o f r,rec4 x] w (AskYes w s F d (newR c.l o r x) (put key (f,c.p,c.l.set r.toNat (newR c.l o r x)) (C.map Ent.abs))):=by
 obtain ⟨ho,hgd,hok,_,hnm,hcm⟩:=S.find hk;have RR:=Lib.hid (ho.rd);have OK:=Lib.hid hok;have A0:=ask0_of w o f r x;have S0:Hid (Ask0 w o f r x (((w.alloc (.cells #[.int .i64 o,.int .i64 f,.int .i64 r] 66)).alloc (.cells #[.int .u8 x.1,.int .u8 x.2.1,.int .u8 x.2.2.1,.int .u8 x.2.2.2] 42)).alloc (.cells #[.int .u8 0,.int .u8 0,.int .u8 0,.int .u8 0] 42))):=A0;have SS:=Lib.hid (S.below A0.bel);have HN:=Lib.hid hn;have L:=Lib.hid (lv_some hk);have LB:=Lib.hid (lb_some hk);have SW:=Lib.hid S;have hne:=S.map_ne;have hlen:=S.len;have hsl:=S.low s S.foot;have hbl:=S.low b S.mp.isMap.1;obtain ⟨cn,p,a,cap,l⟩:=c;unfold Ent.sl at RR;simp only at *;have FIN:Hid (∀ (B:Nat) (au:Option Addr) (cu:Nat) (W W' W'':World),w.heap.size+3≤B→Below w.heap.size w W→W.grownBy W' (some b)→Ow K4 W B 42 (.slice au l.length cu) (l.set r.toNat (newR l o r x))→(∀ c:Ent,c.n=f→c.file=file p (.slice au l.length cu)→c.l=l.set r.toNat (newR l o r x)→Mp W' F (.map (some b)) (put Ent.n c C))→B≤W'.heap.size→Only (fun k=>k=w.heap.size+2) W' W''→AskYes w s F d (newR l o r x) (put key (f,p,l.set r.toNat (newR l o r x)) (C.map Ent.abs)) (.returned (.tuple #[rec4 (newR l o r x),.nilIface])) W''):=fun B au cu W W' W'' hB hb hgr ow mp hBW o2=>by
  have hlen2:(l.set r.toNat (newR l o r x)).length=l.length:=List.length_set ..;have hfile:(⟨f,p,au,cu,l.set r.toNat (newR l o r x)⟩:Ent).file=file p (.slice au l.length cu):=by unfold Ent.file Ent.sl;rw [hlen2]
  have ow':Ow K4 W B 42 (⟨f,p,au,cu,l.set r.toNat (newR l o r x)⟩:Ent).sl (l.set r.toNat (newR l o r x)):=by unfold Ent.sl;rw [hlen2];exact ow
  obtain ⟨S1,O1⟩:=S.place2 (c:=⟨f,p,au,cu,l.set r.toNat (newR l o r x)⟩) hb (by omega) hgr (mp _ rfl hfile rfl) ow' hnm (good_do he) (okL_set hok (okR_new hok hx));rw [abs_put] at S1;have O2:Only F w W'':=O1.trans (o2.mono (G':=fun k=>k=w.heap.size+2) fun _ _ g=>g) fun k hk e=>by omega
  have S2:=S1.only (G:=fun k=>k=w.heap.size+2) (fun k hk e=>by
   rcases hk with hk | ⟨hk,_⟩
   ·have:=S.low k hk;omega
   ·omega) o2
  refine ⟨rfl,S2.wide (fun k hk=>?_) (Fx.low S.low O2.size),O2⟩
  rcases hk with hk | ⟨h1,h2⟩
  ·exact .inl hk
  ·exact .inr ⟨by omega,Nat.lt_of_lt_of_le h2 o2.size⟩
 have HE:=Lib.hid he;obtain ⟨q,hq⟩:∃ q,q=l.length:=⟨_,rfl⟩;rw [← hq] at RR L FIN;have HQ:=Lib.hid hq;clear S hk A0 hn ho hgd hok hcm he hq hnm;unfold rec4;unfold Ad.addr
 go_enter Tryz.func133,Tryz.ntmps133
 go_wp2_with fail;generalize (((w.alloc (.cells #[.int .i64 o,.int .i64 f,.int .i64 r] 66)).alloc (.cells #[.int .u8 x.1,.int .u8 x.2.1,.int .u8 x.2.2.1,.int .u8 x.2.2.2] 42)).alloc (.cells #[.int .u8 0,.int .u8 0,.int .u8 0,.int .u8 0] 42))=W at *;have c0:=Sd.cell_by (show W.cell? ⟨s,0,none⟩=some (.map (some b)) from row_cell SS.out.row 0);have a1:=Sd.cell_by (show W.cell? ⟨w.heap.size,1,none⟩=some (.int .i64 f) from row_cell S0.out.adr 1);have hlk:∀ P:Sd.By W,(Instr.lookup 176 (.map (some b)) (.int .i64 f) true).run Tryz.prog P.world = .ok (.tuple #[.agg #[.int .i64 p,.slice a q cap],.bool true]) P.world:=fun P=>by
  have:=run_look (SS.out.below P.below).mp HN.out true;rw [L.out,LB.out] at this;exact this
 refine Sf.start [(0,0),(0,1),(0,2),(0,3),(0,4),(0,5),(0,6),(0,7),(0,8),(0,9),(2,10),(1,11),(0,12)] [⟨10,8,#[.int .i64 0,.slice none 0 0],70⟩] (by kernel_rfl) (by kernel_rfl) (by kernel_rfl) (by decide) (by decide) ?_ ?_ ?_
 ·simp
 ·intro f hf
  simp only [List.mem_cons,List.not_mem_nil,or_false] at hf;subst hf;exact ⟨_,rfl,rfl,rfl,fun ρ w=>by go_simp⟩
 dsimp only [Sf.picks,List.getElem?_cons_succ,List.getElem?_cons_zero];have BW:=Lib.hid ((Below.refl W.heap.size W).drew)
 repeat (refine Sf.lit (fun xs=>?_);simp only [Sf.fill,List.foldl_cons,List.foldl_nil];quiet_step (fail);refine wpQuiet_nil ?_)
 refine Sf.meet (fun gF w7 hb hc row n7 hH hL=>?_);have B7:=Lib.hid (BW.out.trans (hb.mono BW.out.size));have R7:Hid (w7.heap[gF]? = some (.cells #[.int .i64 0,.slice none 0 0] 70 (0,0))):=row;clear hb hc row hH hL BW;refine Sf.call (fun xs w9 hb hc=>⟨by rfl,fun K hK=>?_⟩);have B9:=Lib.hid (B7.out.trans (hb.mono B7.out.size));have R9:=(hb.block _ (lt_of_block R7.out)).trans R7.out;have k0:w9.cell? ⟨gF,0,none⟩=some (.int .i64 0):=row_cell R9 0;have k1:w9.cell? ⟨gF,1,none⟩=some (.slice none 0 0):=row_cell R9 1;have f0:=row_frozen R9 0;have f1:=row_frozen R9 1;have RA:=Lib.hid (sto2_row R9 p (.slice a q cap));have BA:=Lib.hid (sto2_below (p:=p) (v:=.slice a q cap) B9.out n7);have hsz:=sto2_size w9 gF p (.slice a q cap);clear hb hc B7 R7 R9 B9;simp only [Sf.fill,List.foldl_nil];go_simp;refine hK _ _ (Sd.Cl.of BA.out) (by rw [← hsz];exact Nat.le_refl _) (fun h=>absurd rfl h) ?_;clear hK K k0 k1 f0 f1 hsz
 show Sf.wpSf _ _ _ _ _ _ _ _ _ _ (sto2 w9 gF p (.slice a q cap))
 generalize sto2 w9 gF p (.slice a q cap)=wA at *
 repeat (refine Sf.lit (fun xs=>?_);simp only [Sf.fill,List.foldl_nil];quiet_step (fail);refine wpQuiet_nil ?_)
 refine Sf.done (fun wB hb hc=>?_);have BX:=Lib.hid (BA.out.trans (hb.mono BA.out.size));have G1:=Lib.hid ((hb.block _ (lt_of_block RA.out)).trans RA.out);have S1:=Lib.hid (S0.out.mono BX.out);have N7:Hid (W.heap.size≤gF):=n7;clear hb hc BA RA c0 a1 hlk n7 S0;have b0:wB.cell? ⟨gF,0,none⟩=some (.int .i64 p):=row_cell G1.out 0;have b1:wB.cell? ⟨gF,1,none⟩=some (.slice a q cap):=row_cell G1.out 1;have a0:wB.cell? ⟨w.heap.size,0,none⟩=some (.int .i64 o):=row_cell S1.out.adr 0;have a2:wB.cell? ⟨w.heap.size,2,none⟩=some (.int .i64 r):=row_cell S1.out.adr 2;have x0:wB.cell? ⟨w.heap.size+1,0,none⟩=some (.int .u8 x.1):=row_cell S1.out.arg 0;have x1:wB.cell? ⟨w.heap.size+1,1,none⟩=some (.int .u8 x.2.1):=row_cell S1.out.arg 1;have x2:wB.cell? ⟨w.heap.size+1,2,none⟩=some (.int .u8 x.2.2.1):=row_cell S1.out.arg 2;have x3:wB.cell? ⟨w.heap.size+1,3,none⟩=some (.int .u8 x.2.2.2):=row_cell S1.out.arg 3;have DO:=Lib.hid (do_ok wB p (.slice a q cap) l (RR.out.below S1.out.bel) OK.out o r x HE.out);rw [← HQ.out] at DO;have HB3:Hid (w.heap.size+3≤wB.heap.size):=S1.out.siz;clear BX G1 N7 L LB RR OK HE SS;generalize l.set r.toNat (newR l o r x)=l2 at *;generalize newR l o r x=y at *;unfold file rec4 at DO;go_wp2_with fail;refine DO.out.mono ?_;rintro e w3 ⟨ua,ucap,rfl,o3,b3⟩;obtain ⟨t1,t2,tB⟩:=two_res w3 p (.slice ua q ucap) y;have S3:=Lib.hid ((S1.out.mono b3).mono tB);have T1:=Lib.hid t1;have T2:=Lib.hid t2;have O3:=Lib.hid (o3.keep tB);have hw3:Hid (wB.heap.size≤w3.heap.size):=b3.size;clear t1 t2 tB b3 DO b0 b1 a0 a2 x0 x1 x2 x3 S1 o3;unfold arr4 at S3 T1 T2 O3;go_wp2_with fail;have TZ:Hid (w3.heap.size+2=((w3.alloc (.cells #[.int .i64 p,.slice ua q ucap] 70)).alloc (.cells #[.int .u8 y.1,.int .u8 y.2.1,.int .u8 y.2.2.1,.int .u8 y.2.2.2] 42)).heap.size):=by unfold Hid;simp
 generalize ((w3.alloc (.cells #[.int .i64 p,.slice ua q ucap] 70)).alloc (.cells #[.int .u8 y.1,.int .u8 y.2.1,.int .u8 y.2.2.1,.int .u8 y.2.2.2] 42))=Wq at *;have S5:=Lib.hid (SW.out.below S3.out.bel);have C0:OkC w s (.map (some b)) d o f r w3.heap.size p (.slice ua q ucap) Wq.drew:=⟨S5.out.row,S3.out.adr,T1.out⟩;have c0:=Sc.cell_in (C:=OkC w s (.map (some b)) d o f r w3.heap.size p (.slice ua q ucap)) (a:=⟨s,0,none⟩) (fun W' h=>row_cell h.row 0);have a1:=Sc.cell_in (C:=OkC w s (.map (some b)) d o f r w3.heap.size p (.slice ua q ucap)) (a:=⟨w.heap.size,1,none⟩) (v:=.int .i64 f) (fun W' h=>row_cell h.adr 1);have r0:=Sc.cell_in (C:=OkC w s (.map (some b)) d o f r w3.heap.size p (.slice ua q ucap)) (a:=⟨w3.heap.size,0,none⟩) (fun W' h=>row_cell h.box 0);have r1:=Sc.cell_in (C:=OkC w s (.map (some b)) d o f r w3.heap.size p (.slice ua q ucap)) (a:=⟨w3.heap.size,1,none⟩) (fun W' h=>row_cell h.box 1);have ne:Nonempty (Sc.In (OkC w s (.map (some b)) d o f r w3.heap.size p (.slice ua q ucap))):=⟨⟨_,C0⟩⟩;refine Sc.start (OkC w s (.map (some b)) d o f r w3.heap.size p (.slice ua q ucap)) [(false,0),(false,1),(false,2),(false,3),(false,4),(false,5),(false,6),(true,7)] (by kernel_rfl) (by kernel_rfl) (by kernel_rfl) C0 ?_;dsimp only [Sd.picks,List.getElem?_cons_succ,List.getElem?_cons_zero]
 repeat (refine Sd.lit ?_;quiet_step (fail);refine wpQuiet_nil ?_)
 have BD:Below Wq.heap.size Wq Wq.drew:=(Below.refl _ _).drew;have S6:=Lib.hid (S3.out.mono BD);have M6:=Lib.hid (S5.out.below BD).mp;have R6:=Lib.hid (S5.out.below BD).row;have T6:Hid (Wq.drew.heap[w3.heap.size]? = _):=T1.out;have T7:Hid (Wq.drew.heap[w3.heap.size+1]? = _):=T2.out;have O6:=Lib.hid (O3.out.keep BD);have Z6:Hid (w3.heap.size+2=Wq.drew.heap.size):=TZ.out;clear c0 a1 r0 r1 C0 S3 S5 T1 T2 O3 TZ BD;generalize Wq.drew=Wy at *;refine Sd.call (by rfl) (fun K hK=>?_);have hcl:C.length < maxLen:=by unfold maxLen;omega
 have hll2:Hid (l2.length=q):=by
  have:=O6.out;unfold Ow World.ownsRow at this
  rcases this.2 with ⟨e,h0⟩ | ⟨g,cp,cur,e,_⟩
  ·injection e with _ e _;exact h0.trans e.symm
  ·injection e with _ e _;exact e.symm
 have hfl:(⟨f,p,ua,ucap,l2⟩:Ent).file = .agg #[.int .i64 p,.slice ua q ucap]:=by unfold Ent.file Ent.sl Fl.file;rw [hll2.out]
 refine wp_put _ _ _ rfl rfl M6.out ⟨f,p,ua,ucap,l2⟩ rfl (by rw [hfl];rfl) HN.out hcl (fun w4 m4 g4=>?_);have hbne1:b≠w3.heap.size:=by have:=HB3.out;have:=hw3.out;omega
 have hbne2:b≠w3.heap.size+1:=by have:=HB3.out;have:=hw3.out;omega
 have RES:=Lib.hid (fun W''=>FIN.out wB.heap.size ua ucap Wy w4 W'' HB3.out S6.out.bel g4 O6.out (fun c e1 e2 e3=>by
  obtain ⟨cn',cp,ca,cc,cl⟩:=c;simp only at e1 e3;subst e1 e3;unfold Ent.file Fl.file Ent.sl at e2;injection e2 with e2;have e4:=congrArg (fun t:Array Value=>t[0]?) e2;have e5:=congrArg (fun t:Array Value=>t[1]?) e2
  simp at e4 e5
  obtain ⟨rfl,_,rfl⟩:=e5;subst e4
  exact m4) (by have:=g4.size;have:=Z6.out;have:=hw3.out;omega))
 have old:∀ k,k < Wy.heap.size→k≠b→w4.heap[k]? = Wy.heap[k]?:=fun k hk hne=>g4.block k hk (by intro e;injection e with e;exact hne e);have N1:w4.heap[s]? = _:=(old s (lt_of_block R6.out) (fun e=>hne e.symm)).trans R6.out;have N2:w4.heap[w.heap.size]? = _:=(old _ (lt_of_block S6.out.adr) (by omega)).trans S6.out.adr;have N3:w4.heap[w3.heap.size]? = _:=(old _ (lt_of_block T6.out) (fun e=>hbne1 e.symm)).trans T6.out;have N4:w4.heap[w3.heap.size+1]? = _:=(old _ (lt_of_block T7.out) (fun e=>hbne2 e.symm)).trans T7.out;have N5:w4.heap[w.heap.size+2]? = _:=(old _ (lt_of_block S6.out.res) (by omega)).trans S6.out.res;refine hK _ _ (Sc.Cl.of ⟨N1,N2,N3⟩) ?_;clear hK K m4 g4 FIN N1 N2 N3 old R6 M6 T6 T7 O6;refine Sd.done ?_;have y0:w4.cell? ⟨w3.heap.size+1,0,none⟩=some (.int .u8 y.1):=row_cell N4 0;have y1:w4.cell? ⟨w3.heap.size+1,1,none⟩=some (.int .u8 y.2.1):=row_cell N4 1;have y2:w4.cell? ⟨w3.heap.size+1,2,none⟩=some (.int .u8 y.2.2.1):=row_cell N4 2;have y3:w4.cell? ⟨w3.heap.size+1,3,none⟩=some (.int .u8 y.2.2.2):=row_cell N4 3;have d0:w4.cell? ⟨w.heap.size+2,0,none⟩=some (.int .u8 0):=row_cell N5 0;have d1:w4.cell? ⟨w.heap.size+2,1,none⟩=some (.int .u8 0):=row_cell N5 1;have d2:w4.cell? ⟨w.heap.size+2,2,none⟩=some (.int .u8 0):=row_cell N5 2;have d3:w4.cell? ⟨w.heap.size+2,3,none⟩=some (.int .u8 0):=row_cell N5 3;have k0:=row_frozen N5 0;have k1:=row_frozen N5 1;have k2:=row_frozen N5 2;have k3:=row_frozen N5 3;have R9:=Lib.hid (sto4_row N5 y);have O9:Hid (Only (fun k=>k=w.heap.size+2) w4 (sto4 w4 (w.heap.size+2) 0 y)):=by
  have O1:∀ W:World,∀ o v,Only (fun k=>k=w.heap.size+2) W (W.setCell ⟨w.heap.size+2,o,none⟩ v):=fun W o v=>Only.set (fun k=>k=w.heap.size+2) W (a:=⟨w.heap.size+2,o,none⟩) rfl v;exact (((O1 _ _ _).trans (O1 _ _ _) fun _ _ g=>g).trans (O1 _ _ _) fun _ _ g=>g).trans (O1 _ _ _) fun _ _ g=>g
 clear N4 N5 S6 HB3 hw3 Z6;go_wp2
 (try simp only [Exit.inBlock,Exit.then])
 exact bodyPost_ret (results_rec (p:=6) (r:=7) rfl _ _ (w.heap.size+2) y .nilIface rfl rfl R9.out) rfl (RES.out _ O9.out)
end Go.Proofs.YtljnkaodhfnbbaaGreatDoor.Fs
namespace Go.Proofs.YtljnkaodhfnbbaaGreatDoor.Ad
open Go.RowKit
def Lead (o n:Int) (k:Bool):Prop:=o=0∧n=0∧k=true∨o=1∧n=64∧k=true∨o=2∧n=128∧k=true∨(o < 0∨2 < o)∧n=0∧k=false
set_option maxHeartbeats 400000 in
theorem lead_any (w:World) (o n:Int) (k:Bool) (h:Lead o n k):Calls Tryz.prog 177 #[.int .i64 o] w fun e w'=>e = .returned (.tuple #[.int .i64 n,.bool k])∧Below w.heap.size w w':=by
 rcases h with ⟨rfl,rfl,rfl⟩ | ⟨rfl,rfl,rfl⟩ | ⟨rfl,rfl,rfl⟩ | ⟨h | h,rfl,rfl⟩
 all_goals
  go_enter Tryz.func177,Tryz.ntmps177
  go_wp2
  go_ret2
  exact ⟨rfl,Below.refl _ _⟩
theorem lead_good {o:Int} (h1:0≤o) (h2:o≤2):Lead o (64 * o) true:=by
 unfold Lead
 rcases (by omega:o=0∨o=1∨o=2) with rfl | rfl | rfl
 ·exact .inl ⟨rfl,rfl,rfl⟩
 ·exact .inr (.inl ⟨rfl,rfl,rfl⟩)
 ·exact .inr (.inr (.inl ⟨rfl,rfl,rfl⟩))
theorem lead_bad {o:Int} (h:¬ (0≤o∧o≤2)):Lead o 0 false:=.inr (.inr (.inr ⟨by omega,rfl,rfl⟩))
set_option maxHeartbeats 1000000 in
theorem good_any (w:World) (o f r:Int):Calls Tryz.prog 132 #[addr o f r] w fun e w'=>e = .returned (.bool (goodB o f r))∧Below w.heap.size w w':=by
 have B0:=Lib.hid ((Below.refl w.heap.size w).alloc (Nat.le_refl _) (.cells #[.int .i64 o,.int .i64 f,.int .i64 r] 66));unfold addr
 by_cases h0:0≤o∧o≤2
 ·have L:=Lib.hid (lead_good h0.1 h0.2)
  obtain ⟨h1,h2⟩:=h0
  go_enter Tryz.func132,Tryz.ntmps132
  go_wp2_with fail;refine (lead_any _ o _ _ L.out).mono ?_;rintro e w1 ⟨rfl,b1⟩;have B1:=Lib.hid (B0.out.trans (b1.mono B0.out.size));have c1:w1.cell? ⟨w.heap.size,1,none⟩=some (.int .i64 f):=(b1.cell (by simp)).trans (by go_simp);have c2:w1.cell? ⟨w.heap.size,2,none⟩=some (.int .i64 r):=(b1.cell (by simp)).trans (by go_simp);clear b1 B0 L
  by_cases k0:0≤f
  ·by_cases k1:f < 64
   ·by_cases k2:0≤r
    ·by_cases k3:r < 256
     ·go_wp2
      go_ret
      exact ⟨ret_bool (by first | exact (decide_eq_true (show good o f r from ⟨by omega,by omega,by omega,by omega,by omega,by omega⟩)).symm | exact (decide_eq_false (show ¬ good o f r from fun g=>by obtain ⟨_,_,_,_,_,_⟩:=g;omega)).symm | exact decide_eq_decide.2 ⟨fun h=>absurd h (by omega),fun g=>absurd g.2.2.2.2.2 (by omega)⟩),B1.out⟩
     ·go_wp2
      go_ret
      exact ⟨ret_bool (by first | exact (decide_eq_true (show good o f r from ⟨by omega,by omega,by omega,by omega,by omega,by omega⟩)).symm | exact (decide_eq_false (show ¬ good o f r from fun g=>by obtain ⟨_,_,_,_,_,_⟩:=g;omega)).symm | exact decide_eq_decide.2 ⟨fun h=>absurd h (by omega),fun g=>absurd g.2.2.2.2.2 (by omega)⟩),B1.out⟩
    ·go_wp2
     go_ret
     exact ⟨ret_bool (by first | exact (decide_eq_true (show good o f r from ⟨by omega,by omega,by omega,by omega,by omega,by omega⟩)).symm | exact (decide_eq_false (show ¬ good o f r from fun g=>by obtain ⟨_,_,_,_,_,_⟩:=g;omega)).symm | exact decide_eq_decide.2 ⟨fun h=>absurd h (by omega),fun g=>absurd g.2.2.2.2.2 (by omega)⟩),B1.out⟩
   ·go_wp2
    go_ret
    exact ⟨ret_bool (by first | exact (decide_eq_true (show good o f r from ⟨by omega,by omega,by omega,by omega,by omega,by omega⟩)).symm | exact (decide_eq_false (show ¬ good o f r from fun g=>by obtain ⟨_,_,_,_,_,_⟩:=g;omega)).symm | exact decide_eq_decide.2 ⟨fun h=>absurd h (by omega),fun g=>absurd g.2.2.2.2.2 (by omega)⟩),B1.out⟩
  ·go_wp2
   go_ret
   exact ⟨ret_bool (by first | exact (decide_eq_true (show good o f r from ⟨by omega,by omega,by omega,by omega,by omega,by omega⟩)).symm | exact (decide_eq_false (show ¬ good o f r from fun g=>by obtain ⟨_,_,_,_,_,_⟩:=g;omega)).symm | exact decide_eq_decide.2 ⟨fun h=>absurd h (by omega),fun g=>absurd g.2.2.2.2.2 (by omega)⟩),B1.out⟩
 ·have L:=Lib.hid (lead_bad h0)
  go_enter Tryz.func132,Tryz.ntmps132
  go_wp2_with fail;refine (lead_any _ o _ _ L.out).mono ?_;rintro e w1 ⟨rfl,b1⟩;have B1:=Lib.hid (B0.out.trans (b1.mono B0.out.size));have c1:w1.cell? ⟨w.heap.size,1,none⟩=some (.int .i64 f):=(b1.cell (by simp)).trans (by go_simp);have c2:w1.cell? ⟨w.heap.size,2,none⟩=some (.int .i64 r):=(b1.cell (by simp)).trans (by go_simp);clear b1 B0 L;go_wp2
  go_ret
  exact ⟨ret_bool (by first | exact (decide_eq_true (show good o f r from ⟨by omega,by omega,by omega,by omega,by omega,by omega⟩)).symm | exact (decide_eq_false (show ¬ good o f r from fun g=>by obtain ⟨_,_,_,_,_,_⟩:=g;omega)).symm | exact decide_eq_decide.2 ⟨fun h=>absurd h (by omega),fun g=>absurd g.2.2.2.2.2 (by omega)⟩),B1.out⟩
end Go.Proofs.YtljnkaodhfnbbaaGreatDoor.Ad
namespace Go.Proofs.YtljnkaodhfnbbaaGreatDoor.Fs
open Go.RowKit Go.Maps
open Fl (R4 z4 K4 rec4 rat goodF goodFB okR okL doE newR file arr4 sto2 sto4 sto4_row sto4_other sto4_below sto4_size row_cell row_frozen)
open Ad (goodB)
open Rw (Rd Ow At)
theorem ask_any {w:World} {s:Nat} {F:Nat→Prop} {m:Value} {C:List Ent} {d:Int} (S:Sto w s F m C d) (o f r:Int) (x:R4) (hx:okR x) (hn:goodB o f r=true) :
 (∃ k,k≠0∧dE (C.map Ent.abs) o f r=k∧Calls Tryz.prog 133 #[.pointer (some ⟨s,0,none⟩),Ad.addr o f r,rec4 x] w (AskNo w f k)) ∨
 (dE (C.map Ent.abs) o f r=0∧Calls Tryz.prog 133 #[.pointer (some ⟨s,0,none⟩),Ad.addr o f r,rec4 x] w (AskYes w s F d (dV (C.map Ent.abs) o f r x) (dA (C.map Ent.abs) o f r x))):=by
 have hg:Ad.good o f r:=of_decide_eq_true hn;have wf:Wf f:=WalkArith.wf_i64 (by unfold Ad.good at hg;omega)
 cases hk:look Ent.n f C with
 | none=>exact .inl ⟨3,by decide,by unfold dE;rw [if_pos hn,look_abs,hk];rfl,ask_none S o f r x wf hk⟩
 | some c =>
   have e:dE (C.map Ent.abs) o f r=doE c.p c.l o r:=by unfold dE;rw [if_pos hn,look_abs,hk];rfl
   by_cases h0:doE c.p c.l o r=0
   ·refine .inr ⟨e.trans h0,?_⟩
    have e1:dV (C.map Ent.abs) o f r x=newR c.l o r x:=by
     unfold dV;rw [e,h0,look_abs,hk]
     rfl
    have e2:dA (C.map Ent.abs) o f r x=put key (f,c.p,c.l.set r.toNat (newR c.l o r x)) (C.map Ent.abs):=by
     unfold dA;rw [e,h0,look_abs,hk]
     rfl
    rw [e1,e2]
    rcases S.mp with ⟨_,rfl⟩ | ⟨b,rfl,_,_⟩
    ·cases hk
    ·exact ask_ok S o f r x hx wf hk h0
   ·exact .inl ⟨_,h0,e,ask_err S o f r _ x wf hk rfl h0⟩
theorem Sto.count {w:World} {s:Nat} {F:Nat→Prop} {m:Value} {C:List Ent} {d:Int} (h:Sto w s F m C d) (d':Int):Sto (w.setCell ⟨s,1,none⟩ (.int .i64 d')) s F m C d'∧Only F w (w.setCell ⟨s,1,none⟩ (.int .i64 d')):=by
 have O:Only (fun k=>k=s) w (w.setCell ⟨s,1,none⟩ (.int .i64 d')):=Only.set (fun k=>k=s) w (a:=⟨s,1,none⟩) rfl _;refine ⟨⟨?_,h.foot,h.mp.kept fun b hb=>?_,fun c hc=>ow_only (G:=fun k=>k=s) (h.own c hc) (fun k hk e=>(h.off hc).1 (e ▸ hk)) O,h.mine,h.apart,h.ok,fun k hk=>Nat.lt_of_lt_of_le (h.low k hk) O.size⟩,O.mono fun k _ e=>e ▸ h.foot⟩
 ·have:=Rw.heap_setCell_same (j:=1) h.row (.int .i64 d')
  rw [this]
  simp
 ·subst hb
  exact Below.heap_setCell w _ _ b h.map_ne
def DoSPost (w:World) (s:Nat) (F:Nat→Prop) (d:Int) (y:R4) (k:Int) (A':Abs) (e:Ending) (w':World):Prop:=e = .returned (.tuple #[rec4 y,.int .i64 k])∧St w' s (Fx F w w') A' d∧Only F w w'
theorem o_sto4 (W:World) (g:Nat) (y:R4):Only (fun k=>k=g) W (sto4 W g 0 y):=by
 have O1:∀ W:World,∀ o v,Only (fun k=>k=g) W (W.setCell ⟨g,o,none⟩ v):=fun W o v=>Only.set (fun k=>k=g) W (a:=⟨g,o,none⟩) rfl v;exact (((O1 _ _ _).trans (O1 _ _ _) fun _ _ g=>g).trans (O1 _ _ _) fun _ _ g=>g).trans (O1 _ _ _) fun _ _ g=>g
def DoNo (w:World) (k:Int) (e:Ending) (w':World):Prop:=e = .returned (.tuple #[rec4 z4,.int .i64 k])∧Below w.heap.size w w'
set_option maxHeartbeats 1000000 in
theorem do_1 (w:World) (s:Nat) (o f r:Int) (x:R4) (hn:goodB o f r=false):Calls Tryz.prog 72 #[.pointer (some ⟨s,0,none⟩),Ad.addr o f r,rec4 x] w (DoNo w 1):=by
 have A0:=ask0_of w o f r x;have S0:Hid (Ask0 w o f r x (((w.alloc (.cells #[.int .i64 o,.int .i64 f,.int .i64 r] 66)).alloc (.cells #[.int .u8 x.1,.int .u8 x.2.1,.int .u8 x.2.2.1,.int .u8 x.2.2.2] 42)).alloc (.cells #[.int .u8 0,.int .u8 0,.int .u8 0,.int .u8 0] 42))):=A0;have GA:∀ W,Calls Tryz.prog 132 #[Ad.addr o f r] W fun e w'=>e = .returned (.bool false)∧Below W.heap.size W w':=fun W=>by have:=Ad.good_any W o f r;rwa [hn] at this
 have HG:=Lib.hid GA;clear A0 GA hn;unfold rec4;unfold Ad.addr at *
 go_enter Tryz.func72,Tryz.ntmps72
 have AC:=S0.out;have a0:=row_cell AC.adr 0;have a1:=row_cell AC.adr 1;have a2:=row_cell AC.adr 2;clear AC;go_wp2_with fail;generalize (((w.alloc (.cells #[.int .i64 o,.int .i64 f,.int .i64 r] 66)).alloc (.cells #[.int .u8 x.1,.int .u8 x.2.1,.int .u8 x.2.2.1,.int .u8 x.2.2.2] 42)).alloc (.cells #[.int .u8 0,.int .u8 0,.int .u8 0,.int .u8 0] 42))=W at *;refine (HG.out _).mono ?_;rintro e w1 ⟨rfl,b1⟩;have S2:=Lib.hid (S0.out.mono b1);clear b1 HG S0 a0 a1 a2;have d0:w1.cell? ⟨w.heap.size+2,0,none⟩=some (.int .u8 0):=row_cell S2.out.res 0;have d1:w1.cell? ⟨w.heap.size+2,1,none⟩=some (.int .u8 0):=row_cell S2.out.res 1;have d2:w1.cell? ⟨w.heap.size+2,2,none⟩=some (.int .u8 0):=row_cell S2.out.res 2;have d3:w1.cell? ⟨w.heap.size+2,3,none⟩=some (.int .u8 0):=row_cell S2.out.res 3;have k0:=row_frozen S2.out.res 0;have k1:=row_frozen S2.out.res 1;have k2:=row_frozen S2.out.res 2;have k3:=row_frozen S2.out.res 3;have R3:=Lib.hid (sto4_row S2.out.res z4);have B3:=Lib.hid (sto4_below (o:=0) (r:=z4) S2.out.bel (show w.heap.size≤w.heap.size+2 by omega));clear S2;go_wp2
 (try simp only [Exit.inBlock,Exit.then])
 exact bodyPost_ret (results_rec (p:=6) (r:=7) rfl _ _ (w.heap.size+2) z4 (.int .i64 1) rfl rfl R3.out) rfl ⟨rfl,B3.out⟩
set_option maxHeartbeats 2000000 in
theorem do_no (w:World) (s:Nat) (o f r k:Int) (x:R4) (hg:Glob w) (h5:k≠5) (hn:goodB o f r=true) (ha:∀ W,Below w.heap.size w W→w.heap.size+3≤W.heap.size→Calls Tryz.prog 133 #[.pointer (some ⟨s,0,none⟩),Ad.addr o f r,rec4 x] W (AskNo W f k)) :
 Calls Tryz.prog 72 #[.pointer (some ⟨s,0,none⟩),Ad.addr o f r,rec4 x] w (DoNo w k):=by
 have A0:=ask0_of w o f r x;have S0:Hid (Ask0 w o f r x (((w.alloc (.cells #[.int .i64 o,.int .i64 f,.int .i64 r] 66)).alloc (.cells #[.int .u8 x.1,.int .u8 x.2.1,.int .u8 x.2.2.1,.int .u8 x.2.2.2] 42)).alloc (.cells #[.int .u8 0,.int .u8 0,.int .u8 0,.int .u8 0] 42))):=A0;have HGL:=Lib.hid hg;have H5:=Lib.hid (decide_eq_false h5);clear hg h5;have GA:∀ W,Calls Tryz.prog 132 #[Ad.addr o f r] W fun e w'=>e = .returned (.bool true)∧Below W.heap.size W w':=fun W=>by have:=Ad.good_any W o f r;rwa [hn] at this
 have HG:=Lib.hid GA;have HA:=Lib.hid ha;clear A0 GA hn ha;unfold rec4 at *;unfold Ad.addr at *
 go_enter Tryz.func72,Tryz.ntmps72
 have AC:=S0.out;have a0:=row_cell AC.adr 0;have a1:=row_cell AC.adr 1;have a2:=row_cell AC.adr 2;clear AC;go_wp2_with fail;generalize (((w.alloc (.cells #[.int .i64 o,.int .i64 f,.int .i64 r] 66)).alloc (.cells #[.int .u8 x.1,.int .u8 x.2.1,.int .u8 x.2.2.1,.int .u8 x.2.2.2] 42)).alloc (.cells #[.int .u8 0,.int .u8 0,.int .u8 0,.int .u8 0] 42))=W at *;refine (HG.out _).mono ?_;rintro e w1 ⟨rfl,b1⟩;have S1:=Lib.hid (S0.out.mono b1);clear b1 HG S0 a0 a1 a2;have a0:w1.cell? ⟨w.heap.size,0,none⟩=some (.int .i64 o):=row_cell S1.out.adr 0;have a1:w1.cell? ⟨w.heap.size,1,none⟩=some (.int .i64 f):=row_cell S1.out.adr 1;have a2:w1.cell? ⟨w.heap.size,2,none⟩=some (.int .i64 r):=row_cell S1.out.adr 2;have x0:w1.cell? ⟨w.heap.size+1,0,none⟩=some (.int .u8 x.1):=row_cell S1.out.arg 0;have x1:w1.cell? ⟨w.heap.size+1,1,none⟩=some (.int .u8 x.2.1):=row_cell S1.out.arg 1;have x2:w1.cell? ⟨w.heap.size+1,2,none⟩=some (.int .u8 x.2.2.1):=row_cell S1.out.arg 2;have x3:w1.cell? ⟨w.heap.size+1,3,none⟩=some (.int .u8 x.2.2.2):=row_cell S1.out.arg 3;go_wp2_with fail;refine (HA.out w1 S1.out.bel S1.out.siz).mono ?_;rintro e w2 ⟨rfl,b2⟩;have B2:=Lib.hid (((Below.refl w2.heap.size w2).alloc (Nat.le_refl _) (.cells #[.int .u8 0,.int .u8 0,.int .u8 0,.int .u8 0] 42)));have S2:=Lib.hid ((S1.out.mono b2).mono B2.out);clear b2 S1 a0 a1 a2 x0 x1 x2 x3 HA;unfold rec4 z4 fault flt;go_wp2_with fail;clear B2;generalize (w2.alloc (.cells #[.int .u8 0,.int .u8 0,.int .u8 0,.int .u8 0] 42))=W2 at *;have IS:=Lib.hid (is_any f k W2);rw [H5.out] at IS;unfold fault flt at IS;refine IS.out.mono ?_;rintro e w4 ⟨rfl,b4⟩;have S4:=Lib.hid (S2.out.mono b4);clear b4 IS S2;go_wp2_with fail;have NU:=number_any f k w4 (HGL.out.below S4.out.bel);unfold fault flt at NU;refine NU.mono ?_;rintro e w5 ⟨rfl,b5⟩;have S5:=Lib.hid (S4.out.mono b5);clear b5 S4 NU;have d0:w5.cell? ⟨w.heap.size+2,0,none⟩=some (.int .u8 0):=row_cell S5.out.res 0;have d1:w5.cell? ⟨w.heap.size+2,1,none⟩=some (.int .u8 0):=row_cell S5.out.res 1;have d2:w5.cell? ⟨w.heap.size+2,2,none⟩=some (.int .u8 0):=row_cell S5.out.res 2;have d3:w5.cell? ⟨w.heap.size+2,3,none⟩=some (.int .u8 0):=row_cell S5.out.res 3;have k0:=row_frozen S5.out.res 0;have k1:=row_frozen S5.out.res 1;have k2:=row_frozen S5.out.res 2;have k3:=row_frozen S5.out.res 3;have R3:=Lib.hid (sto4_row S5.out.res z4);have B3:=Lib.hid (sto4_below (o:=0) (r:=z4) S5.out.bel (show w.heap.size≤w.heap.size+2 by omega));clear S5;go_wp2
 (try simp only [Exit.inBlock,Exit.then])
 exact bodyPost_ret (results_rec (p:=6) (r:=7) rfl _ _ (w.heap.size+2) z4 (.int .i64 k) rfl rfl R3.out) rfl ⟨rfl,B3.out⟩
set_option maxHeartbeats 2000000 in
theorem do_5 {w:World} {s:Nat} {F:Nat→Prop} {m:Value} {C:List Ent} {d:Int} (S:Sto w s F m C d) (o f r:Int) (x:R4) (hg:Glob w) (h0:¬ F 1) (hd:0≤d∧d < 1000000) (hn:goodB o f r=true) (ha:∀ W,Below w.heap.size w W→w.heap.size+3≤W.heap.size→Calls Tryz.prog 133 #[.pointer (some ⟨s,0,none⟩),Ad.addr o f r,rec4 x] W (AskNo W f 5)) :
 Calls Tryz.prog 72 #[.pointer (some ⟨s,0,none⟩),Ad.addr o f r,rec4 x] w (DoSPost w s F (d+1) z4 5 (C.map Ent.abs)):=by
 have A0:=ask0_of w o f r x;have S0:Hid (Ask0 w o f r x (((w.alloc (.cells #[.int .i64 o,.int .i64 f,.int .i64 r] 66)).alloc (.cells #[.int .u8 x.1,.int .u8 x.2.1,.int .u8 x.2.2.1,.int .u8 x.2.2.2] 42)).alloc (.cells #[.int .u8 0,.int .u8 0,.int .u8 0,.int .u8 0] 42))):=A0;have HGL:=Lib.hid hg;have SS:=Lib.hid S;have HF0:=Lib.hid h0;have W0:IntKind.i64.wrap (d+1)=d+1:=IntWalk.i64_in _ (by omega);clear hg S h0 hd;have GA:∀ W,Calls Tryz.prog 132 #[Ad.addr o f r] W fun e w'=>e = .returned (.bool true)∧Below W.heap.size W w':=fun W=>by have:=Ad.good_any W o f r;rwa [hn] at this
 have HG:=Lib.hid GA;have HA:=Lib.hid ha;clear A0 GA hn ha;unfold rec4 at *;unfold Ad.addr at *
 go_enter Tryz.func72,Tryz.ntmps72
 have AC:=S0.out;have a0:=row_cell AC.adr 0;have a1:=row_cell AC.adr 1;have a2:=row_cell AC.adr 2;clear AC;go_wp2_with fail;generalize (((w.alloc (.cells #[.int .i64 o,.int .i64 f,.int .i64 r] 66)).alloc (.cells #[.int .u8 x.1,.int .u8 x.2.1,.int .u8 x.2.2.1,.int .u8 x.2.2.2] 42)).alloc (.cells #[.int .u8 0,.int .u8 0,.int .u8 0,.int .u8 0] 42))=W at *;refine (HG.out _).mono ?_;rintro e w1 ⟨rfl,b1⟩;have S1:=Lib.hid (S0.out.mono b1);clear b1 HG S0 a0 a1 a2;have a0:w1.cell? ⟨w.heap.size,0,none⟩=some (.int .i64 o):=row_cell S1.out.adr 0;have a1:w1.cell? ⟨w.heap.size,1,none⟩=some (.int .i64 f):=row_cell S1.out.adr 1;have a2:w1.cell? ⟨w.heap.size,2,none⟩=some (.int .i64 r):=row_cell S1.out.adr 2;have x0:w1.cell? ⟨w.heap.size+1,0,none⟩=some (.int .u8 x.1):=row_cell S1.out.arg 0;have x1:w1.cell? ⟨w.heap.size+1,1,none⟩=some (.int .u8 x.2.1):=row_cell S1.out.arg 1;have x2:w1.cell? ⟨w.heap.size+1,2,none⟩=some (.int .u8 x.2.2.1):=row_cell S1.out.arg 2;have x3:w1.cell? ⟨w.heap.size+1,3,none⟩=some (.int .u8 x.2.2.2):=row_cell S1.out.arg 3;go_wp2_with fail;refine (HA.out w1 S1.out.bel S1.out.siz).mono ?_;rintro e w2 ⟨rfl,b2⟩;have B2:=Lib.hid (((Below.refl w2.heap.size w2).alloc (Nat.le_refl _) (.cells #[.int .u8 0,.int .u8 0,.int .u8 0,.int .u8 0] 42)));have S2:=Lib.hid ((S1.out.mono b2).mono B2.out);clear b2 S1 a0 a1 a2 x0 x1 x2 x3 HA;unfold rec4 z4 fault flt;go_wp2_with fail;clear B2;generalize (w2.alloc (.cells #[.int .u8 0,.int .u8 0,.int .u8 0,.int .u8 0] 42))=W2 at *;have IS:=Lib.hid (is_any f 5 W2);rw [show decide ((5:Int)=5)=true from rfl] at IS;unfold fault flt at IS;refine IS.out.mono ?_;rintro e w4 ⟨rfl,b4⟩;have S4:=Lib.hid (S2.out.mono b4);clear b4 IS S2;have T4:=SS.out.below S4.out.bel;have c1:w4.cell? ⟨s,1,none⟩=some (.int .i64 d):=row_cell T4.row 1;have f1:w4.frozen? ⟨s,1,none⟩=false:=row_frozen T4.row 1;obtain ⟨t5,t6⟩:=T4.count (d+1);have T5:=Lib.hid t5;have O5:=Lib.hid t6;have GL5:Hid (Glob (w4.setCell ⟨s,1,none⟩ (.int .i64 (d+1)))):=(HGL.out.below S4.out.bel).only HF0.out t6;have N5:Hid (Ask0 w o f r x (w4.setCell ⟨s,1,none⟩ (.int .i64 (d+1))))∨True:=.inr trivial;have hsl:=SS.out.low s SS.out.foot;have A5:Hid ((w4.setCell ⟨s,1,none⟩ (.int .i64 (d+1))).heap[w.heap.size+2]? = some (.cells (arr4 z4) 42 (0,0))):=(Below.heap_setCell w4 ⟨s,1,none⟩ _ _ (by show w.heap.size+2≠s;omega)).trans S4.out.res;have BB:Hid (Only F w (w4.setCell ⟨s,1,none⟩ (.int .i64 (d+1)))):=(Only.of_below S4.out.bel).trans t6 fun _ _ g=>g;clear T4 t5 t6 N5 S4;go_wp2_with fail;clear c1 f1;generalize w4.setCell ⟨s,1,none⟩ (.int .i64 (d+1))=w5 at *;have NU:=number_any f 5 w5 GL5.out;unfold fault flt at NU;refine NU.mono ?_;rintro e w6 ⟨rfl,b6⟩;have T6:=Lib.hid (T5.out.below b6);have A6:=Lib.hid ((b6.block _ (lt_of_block A5.out)).trans A5.out);have O6:=Lib.hid (BB.out.then b6);clear b6 NU T5 A5 BB O5;have d0:w6.cell? ⟨w.heap.size+2,0,none⟩=some (.int .u8 0):=row_cell A6.out 0;have d1:w6.cell? ⟨w.heap.size+2,1,none⟩=some (.int .u8 0):=row_cell A6.out 1;have d2:w6.cell? ⟨w.heap.size+2,2,none⟩=some (.int .u8 0):=row_cell A6.out 2;have d3:w6.cell? ⟨w.heap.size+2,3,none⟩=some (.int .u8 0):=row_cell A6.out 3;have k0:=row_frozen A6.out 0;have k1:=row_frozen A6.out 1;have k2:=row_frozen A6.out 2;have k3:=row_frozen A6.out 3;have R3:=Lib.hid (sto4_row A6.out z4);have O7:Only F w (sto4 w6 (w.heap.size+2) 0 z4):=O6.out.trans (o_sto4 w6 (w.heap.size+2) z4) fun k hk e=>by omega
 have FIN:Hid (DoSPost w s F (d+1) z4 5 (C.map Ent.abs) (.returned (.tuple #[rec4 z4,.int .i64 5])) (sto4 w6 (w.heap.size+2) 0 z4)):=⟨rfl,⟨m,C,(T6.out.only (G:=fun k=>k=w.heap.size+2) (fun k hk e=>by have:=SS.out.low k hk;omega) (o_sto4 w6 (w.heap.size+2) z4)).wide (fun k hk=>.inl hk) (Fx.low SS.out.low O7.size),rfl⟩,O7⟩;clear A6 O6 O7 T6;go_wp2
 (try simp only [Exit.inBlock,Exit.then])
 exact bodyPost_ret (results_rec (p:=6) (r:=7) rfl _ _ (w.heap.size+2) z4 (.int .i64 5) rfl rfl R3.out) rfl FIN.out
set_option maxHeartbeats 2000000 in
theorem do_yes (w:World) (s:Nat) (F:Nat→Prop) (d:Int) (A':Abs) (y:R4) (o f r:Int) (x:R4) (hF:∀ k,F k→k < w.heap.size) (hn:goodB o f r=true) (ha:∀ W,Below w.heap.size w W→w.heap.size+3≤W.heap.size→Calls Tryz.prog 133 #[.pointer (some ⟨s,0,none⟩),Ad.addr o f r,rec4 x] W (AskYes W s F d y A')) :
 Calls Tryz.prog 72 #[.pointer (some ⟨s,0,none⟩),Ad.addr o f r,rec4 x] w (DoSPost w s F d y 0 A'):=by
 have A0:=ask0_of w o f r x;have S0:Hid (Ask0 w o f r x (((w.alloc (.cells #[.int .i64 o,.int .i64 f,.int .i64 r] 66)).alloc (.cells #[.int .u8 x.1,.int .u8 x.2.1,.int .u8 x.2.2.1,.int .u8 x.2.2.2] 42)).alloc (.cells #[.int .u8 0,.int .u8 0,.int .u8 0,.int .u8 0] 42))):=A0;have HF:=Lib.hid hF;clear hF;have GA:∀ W,Calls Tryz.prog 132 #[Ad.addr o f r] W fun e w'=>e = .returned (.bool true)∧Below W.heap.size W w':=fun W=>by have:=Ad.good_any W o f r;rwa [hn] at this
 have HG:=Lib.hid GA;have HA:=Lib.hid ha;clear A0 GA hn ha;unfold rec4 at *;unfold Ad.addr at *
 go_enter Tryz.func72,Tryz.ntmps72
 have AC:=S0.out;have a0:=row_cell AC.adr 0;have a1:=row_cell AC.adr 1;have a2:=row_cell AC.adr 2;clear AC;go_wp2_with fail;generalize (((w.alloc (.cells #[.int .i64 o,.int .i64 f,.int .i64 r] 66)).alloc (.cells #[.int .u8 x.1,.int .u8 x.2.1,.int .u8 x.2.2.1,.int .u8 x.2.2.2] 42)).alloc (.cells #[.int .u8 0,.int .u8 0,.int .u8 0,.int .u8 0] 42))=W at *;refine (HG.out _).mono ?_;rintro e w1 ⟨rfl,b1⟩;have S1:=Lib.hid (S0.out.mono b1);clear b1 HG S0 a0 a1 a2;have a0:w1.cell? ⟨w.heap.size,0,none⟩=some (.int .i64 o):=row_cell S1.out.adr 0;have a1:w1.cell? ⟨w.heap.size,1,none⟩=some (.int .i64 f):=row_cell S1.out.adr 1;have a2:w1.cell? ⟨w.heap.size,2,none⟩=some (.int .i64 r):=row_cell S1.out.adr 2;have x0:w1.cell? ⟨w.heap.size+1,0,none⟩=some (.int .u8 x.1):=row_cell S1.out.arg 0;have x1:w1.cell? ⟨w.heap.size+1,1,none⟩=some (.int .u8 x.2.1):=row_cell S1.out.arg 1;have x2:w1.cell? ⟨w.heap.size+1,2,none⟩=some (.int .u8 x.2.2.1):=row_cell S1.out.arg 2;have x3:w1.cell? ⟨w.heap.size+1,3,none⟩=some (.int .u8 x.2.2.2):=row_cell S1.out.arg 3;go_wp2_with fail;refine (HA.out w1 S1.out.bel S1.out.siz).mono ?_;rintro e w2 ⟨rfl,t2,o2⟩;have hwl:w.heap.size+3≤w2.heap.size:=Nat.le_trans S1.out.siz o2.size;have RW:w2.heap[w.heap.size+2]? = some (.cells (arr4 z4) 42 (0,0)):=(o2.block _ (by have:=S1.out.siz;omega) (fun g=>by have:=HF.out _ g;omega)).trans S1.out.res;obtain ⟨g1,g2,g3⟩:=box_rec w2 y;have B2:=Lib.hid g2;have T2:=Lib.hid (t2.below g2);have A6:Hid ((w2.alloc (.cells (arr4 y) 42)).heap[w.heap.size+2]? = some (.cells (arr4 z4) 42 (0,0))):=(g2.block _ (by omega)).trans RW;have Y6:=Lib.hid g1;have hF2:Hid (∀ k,Fx F w1 w2 k→k≠w.heap.size+2∧(F k∨w.heap.size≤k)):=fun k hk=>by
  have:=S1.out.siz
  rcases hk with hk | ⟨hk,_⟩
  ·have:=HF.out k hk
   exact ⟨by omega,.inl hk⟩
  ·exact ⟨by omega,.inr (by omega)⟩
 have O6:Hid (Only F w (w2.alloc (.cells (arr4 y) 42))):=((Only.of_below S1.out.bel).trans o2 fun _ _ g=>g).then g2;clear g1 g2 g3 t2 o2 S1 a0 a1 a2 x0 x1 x2 x3 HA RW B2;unfold rec4;have Y4:Hid (arr4 y=#[.int .u8 y.1,.int .u8 y.2.1,.int .u8 y.2.2.1,.int .u8 y.2.2.2]):=rfl;rw [Y4.out] at T2 A6 Y6 O6;have y0:(w2.alloc (.cells #[.int .u8 y.1,.int .u8 y.2.1,.int .u8 y.2.2.1,.int .u8 y.2.2.2] 42)).cell? ⟨w2.heap.size,0,none⟩=some (.int .u8 y.1):=row_cell Y6.out 0;go_upto_region 5 with fail;clear y0;generalize (w2.alloc (.cells #[.int .u8 y.1,.int .u8 y.2.1,.int .u8 y.2.2.1,.int .u8 y.2.2.2] 42))=w6 at *;have y0:w6.cell? ⟨w2.heap.size,0,none⟩=some (.int .u8 y.1):=row_cell Y6.out 0;have y1:w6.cell? ⟨w2.heap.size,1,none⟩=some (.int .u8 y.2.1):=row_cell Y6.out 1;have y2:w6.cell? ⟨w2.heap.size,2,none⟩=some (.int .u8 y.2.2.1):=row_cell Y6.out 2;have y3:w6.cell? ⟨w2.heap.size,3,none⟩=some (.int .u8 y.2.2.2):=row_cell Y6.out 3;have d0:w6.cell? ⟨w.heap.size+2,0,none⟩=some (.int .u8 0):=row_cell A6.out 0;have d1:w6.cell? ⟨w.heap.size+2,1,none⟩=some (.int .u8 0):=row_cell A6.out 1;have d2:w6.cell? ⟨w.heap.size+2,2,none⟩=some (.int .u8 0):=row_cell A6.out 2;have d3:w6.cell? ⟨w.heap.size+2,3,none⟩=some (.int .u8 0):=row_cell A6.out 3;have k0:=row_frozen A6.out 0;have k1:=row_frozen A6.out 1;have k2:=row_frozen A6.out 2;have k3:=row_frozen A6.out 3;have R3:=Lib.hid (sto4_row A6.out y);have O7:Only F w (sto4 w6 (w.heap.size+2) 0 y):=O6.out.trans (o_sto4 w6 (w.heap.size+2) y) fun k hk e=>by omega
 have FIN:Hid (DoSPost w s F d y 0 A' (.returned (.tuple #[rec4 y,.int .i64 0])) (sto4 w6 (w.heap.size+2) 0 y)):=by
  have T7:=T2.out.only (G:=fun k=>k=w.heap.size+2) (fun k hk e=>(hF2.out k hk).1 e) (o_sto4 w6 (w.heap.size+2) y);refine ⟨rfl,T7.wide (fun k hk=>?_) (Fx.low HF.out O7.size),O7⟩
  rcases (hF2.out k hk).2 with h | h
  ·exact .inl h
  ·exact .inr ⟨h,T7.low k hk⟩
 clear A6 O6 O7 T2 hF2;go_wp2
 (try simp only [Exit.inBlock,Exit.then])
 exact bodyPost_ret (results_rec (p:=6) (r:=7) rfl _ _ (w.heap.size+2) y (.int .i64 0) rfl rfl R3.out) rfl FIN.out
theorem dos_any {w:World} {s:Nat} {F:Nat→Prop} {A:Abs} {d:Int} (S:St w s F A d) (hg:Glob w) (h0:¬ F 1) (hd:0≤d∧d < 1000000) (o f r:Int) (x:R4) (hx:okR x) :
 Calls Tryz.prog 72 #[.pointer (some ⟨s,0,none⟩),Ad.addr o f r,rec4 x] w (DoSPost w s F (dD A o f r d) (dV A o f r x) (dE A o f r) (dA A o f r x)):=by
 obtain ⟨m,C,h,rfl⟩:=S;have no:∀ k e w',dE (C.map Ent.abs) o f r=k→k≠0→k≠5→DoNo w k e w'→DoSPost w s F (dD (C.map Ent.abs) o f r d) (dV (C.map Ent.abs) o f r x) (dE (C.map Ent.abs) o f r) (dA (C.map Ent.abs) o f r x) e w':=fun k e w' hk h0 h5 ⟨he,b⟩=>by
  have e1:dV (C.map Ent.abs) o f r x=z4:=by unfold dV;split;rfl;rw [hk,if_neg h0]
  have e2:dA (C.map Ent.abs) o f r x=C.map Ent.abs:=by unfold dA;split;rfl;rw [hk,if_neg h0]
  have e3:dD (C.map Ent.abs) o f r d=d:=by unfold dD;rw [hk,if_neg h5]
  rw [e1,e2,e3,hk];exact ⟨he,St.fx ⟨m,C,h,rfl⟩ b,Only.of_below b⟩
 cases hn:goodB o f r with
 | false=>exact (do_1 w s o f r x hn).mono fun e w'=>no 1 e w' (by unfold dE;rw [if_neg (by rw [hn];decide)]) (by decide) (by decide)
 | true =>
   by_cases hz:dE (C.map Ent.abs) o f r=0
   ·have e3:dD (C.map Ent.abs) o f r d=d:=by unfold dD;rw [hz,if_neg (by decide)]
    rw [e3,hz];refine do_yes w s F d _ _ o f r x h.low hn fun W hb _=>?_
    rcases ask_any (h.below hb) o f r x hx hn with ⟨k,h1,h2,_⟩ | ⟨_,h3⟩
    ·exact absurd (h2.symm.trans hz) h1
    ·exact h3
   ·have ask:∀ W,Below w.heap.size w W→w.heap.size+3≤W.heap.size→Calls Tryz.prog 133 #[.pointer (some ⟨s,0,none⟩),Ad.addr o f r,rec4 x] W (AskNo W f (dE (C.map Ent.abs) o f r)):=fun W hb _=>by
     rcases ask_any (h.below hb) o f r x hx hn with ⟨k,h1,h2,h3⟩ | ⟨h3,_⟩
     ·rw [h2];exact h3
     ·exact absurd h3 hz
    by_cases h5:dE (C.map Ent.abs) o f r=5
    ·have e1:dV (C.map Ent.abs) o f r x=z4:=by unfold dV;split;rfl;rw [h5,if_neg (by decide)]
     have e2:dA (C.map Ent.abs) o f r x=C.map Ent.abs:=by unfold dA;split;rfl;rw [h5,if_neg (by decide)]
     have e3:dD (C.map Ent.abs) o f r d=d+1:=by unfold dD;rw [h5,if_pos rfl]
     rw [e1,e2,e3];rw [h5] at ask ⊢;exact do_5 h o f r x hg h0 hd hn ask
    ·exact (do_no w s o f r _ x hg h5 hn ask).mono fun e w'=>no _ e w' rfl hz h5
end Go.Proofs.YtljnkaodhfnbbaaGreatDoor.Fs
namespace Go.Proofs.YtljnkaodhfnbbaaGreatDoor.Fl
open Go.RowKit
open Rw (Rd Ow At)
theorem results_file {fn:Func} {p:Tmp} (h:fn.results=#[.cell p 70]) (tmps:Array Value) (w:World) (g:Nat) (q:Int) (v:Value) (hp:tmps.getD p undef = .pointer (some ⟨g,0,none⟩)) (hrow:w.heap[g]? = some (.cells #[.int .i64 q,v] 70 (0,0))) :
 (results fn tmps).run Tryz.prog w = .ok (file q v) w:=results_cell_row h tmps w g _ #[.int .i64 q,v] _ _ hp hrow Tryz.underlying70 rfl (by show _=some 2;kernel_rfl)
end Go.Proofs.YtljnkaodhfnbbaaGreatDoor.Fl
namespace Go.Proofs.YtljnkaodhfnbbaaGreatDoor.Fs
open Go.RowKit Go.Maps
open Fl (R4 z4 K4 rec4 rat goodF goodFB okR okL file arr4 hdr newL newP row_cell row_frozen rnew_any NewPost results_file ret_bool eq_rec)
open Rw (Rd Ow At)
def L0:List R4:=[(3,2,165,164),z4,z4,z4]
def L1:List R4:=[(3,2,165,164),z4,(9,0,0,0),z4]
def A0:Abs:=[(7,2,L0)]
theorem new_st (w:World):St (w.alloc (.cells #[.map none,.int .i64 0] 178)) w.heap.size (fun k=>k=w.heap.size) [] 0 :=
 ⟨.map none,[],⟨heap_alloc_new w _,rfl,.inl ⟨rfl,rfl⟩,nofun,nofun,List.Pairwise.nil,OkA.nil,fun k hk=>by subst hk;simp⟩,rfl⟩
theorem get_st {w:World} {s:Nat} {F:Nat→Prop} {A:Abs} {d:Int} (S:St w s F A d) {n:Int} (hn:Wf n) (r:Int):Calls Tryz.prog 31 #[.pointer (some ⟨s,0,none⟩),.int .i64 n,.int .i64 r] w (GetPost w (gV A n r) (gB A n r)):=by
 obtain ⟨m,C,h,rfl⟩:=S;exact get_any h hn r
theorem below_new (W:World) (o:Obj):Below W.heap.size W (W.alloc o):=(Below.refl _ W).alloc (Nat.le_refl _) o
end Go.Proofs.YtljnkaodhfnbbaaGreatDoor.Fs
namespace Go.Proofs.YtljnkaodhfnbbaaGreatDoor.Fl
open Go.ChangeShapes Go.WideShapes Go.ChangeAt Go.RowKit Go.Deep
open Rw (Rd Ow At)
theorem rec_cells {H:Type} {enc:TypeId×Value→H} {W:World} {base fuel:Nat} {sp:Nat→Bool} {held:Bool} {cs:List Value} {x:DataW H×List MemPlace}
 (h:DataW.trod enc Tryz.prog W base sp held fuel 42 cs=some x):∃ r:R4,cs=K4.enc r∧okR r:=by
 have c4:Tryz.prog.cellsOf 42=4:=by kernel_rfl
 have c1:Tryz.prog.cellsOf 5=1:=by kernel_rfl
 obtain ⟨xs,m,_,_,hs,hx,hi⟩:=DataW.trod_array Tryz.underlying42 h;rw [c4] at hs
 match cs,hs,xs,hx,hi with
 | [u0,u1,u2,u3],_,[x0,x1,x2,x3],_,hi =>
   have e0:=hi 0 (by omega);have e1:=hi 1 (by omega);have e2:=hi 2 (by omega);have e3:=hi 3 (by omega);rw [c1] at e0 e1 e2 e3;obtain ⟨a,ha,_,wa⟩:=DataW.trod_int Tryz.underlying5 (x:=x0) e0;obtain ⟨b,hb,_,wb⟩:=DataW.trod_int Tryz.underlying5 (x:=x1) e1;obtain ⟨c,hc,_,wc⟩:=DataW.trod_int Tryz.underlying5 (x:=x2) e2;obtain ⟨d,hd,_,wd⟩:=DataW.trod_int Tryz.underlying5 (x:=x3) e3
   simp at ha hb hc hd
   subst ha hb hc hd;exact ⟨(a,b,c,d),rfl,bounds_u8 wa,bounds_u8 wb,bounds_u8 wc,bounds_u8 wd⟩
theorem recs_of {H:Type} {enc:TypeId×Value→H} {W:World} {u:Value} {base fuel:Nat} {sp:Nat→Bool} {held:Bool} {x:DataW H×List MemPlace}
 (h:DataW.trod enc Tryz.prog W base sp held fuel 68 [u]=some x):∃ l,Rd K4 W u l∧okL l:=by
 have c4:Tryz.prog.cellsOf 42=4:=by kernel_rfl
 rcases open_slice Tryz.underlying68 h with ⟨e,_⟩ | ⟨a,len,cap,m,n,D,Pl,e,_,hl,hm,hmm,_,hx⟩
 ·simp at e
  subst e;exact ⟨[],Rw.Rd.nil _,fun r hr=>by cases hr⟩
 ·simp at e
  subst e;have hlm:len≤m:=by rw [hmm];split <;> omega
  have each:∀ i,i < m→∃ r:R4,okR r∧∀ j u,(K4.enc r)[j]? = some u→W.cell? (a.add (i * 4+j))=some u:=fun i hi=>by
   obtain ⟨cs',h1,h2⟩:=hx i hi;rw [c4] at h1;obtain ⟨_,hlen,hcell⟩:=World.cells?_some h1;obtain ⟨r,rfl,ok⟩:=rec_cells h2;refine ⟨r,ok,fun j u hu=>?_⟩;have hj:j < 4:=by have:=(List.getElem?_eq_some_iff.1 hu).1;rw [hlen] at this;exact this
   have e:=hcell j hj;rw [add_add] at e;exact e.trans hu
  obtain ⟨q,hq⟩:=choose_lt each;have hlen:((List.range len).map q).length=len:=by simp
  have get:∀ i,i < len→((List.range len).map q).getD i z4=q i:=fun i hi=>by simp [List.getD,hi]
  refine ⟨(List.range len).map q,⟨some a,cap,by rw [hlen],⟨by rw [hlen];exact hl,nofun⟩,hm,fun h0=>?_⟩,fun r hr=>?_⟩
  ·rw [hlen] at h0
   obtain ⟨b,off,spot⟩:=a;have c0:=(hq 0 (by omega)).2 0 _ rfl;have hs:spot=none:=by simpa [Addr.add] using World.cell?_spot c0
   subst hs;refine ⟨b,off,rfl,fun i hi j u hu=>?_⟩;rw [hlen] at hi;have hu':(K4.enc (q i))[j]? = some u:=by rw [← get i hi];exact hu
   have c:=(hq i (by omega)).2 j u hu';rw [add_plain] at c
   show W.cell? ⟨b,off+i * 4+j,none⟩=some u
   rw [Nat.add_assoc];exact c
  ·obtain ⟨i,hi,rfl⟩:=List.mem_map.1 hr
   exact (hq i (by have:=List.mem_range.1 hi;omega)).1
end Go.Proofs.YtljnkaodhfnbbaaGreatDoor.Fl
namespace Go.Proofs.YtljnkaodhfnbbaaGreatDoor.Fs
open Go.ChangeShapes Go.WideShapes Go.ChangeAt Go.RowKit Go.Deep
open Rw (Rd Ow At)
open Fl (R4 z4 K4 rec4 okR okL rec_cells recs_of)
section
variable {H:Type} {enc:TypeId×Value→H} {W:World} {base fuel:Nat} {sp:Nat→Bool} {held:Bool} {cs:List Value} {x:DataW H×List MemPlace}
theorem file_cells (h:DataW.trod enc Tryz.prog W base sp held fuel 70 cs=some x):∃ q u l,cs = [.int .i64 q,u]∧Rd K4 W u l∧okL l:=by
 have c2:Tryz.prog.cellsOf 70=2:=by kernel_rfl
 have c1:Tryz.prog.cellsOf 3=1:=by kernel_rfl
 have c3:Tryz.prog.cellsOf 68=1:=by kernel_rfl
 obtain ⟨xs,m,_,_,hs,hx,hi⟩:=DataW.trod_struct Tryz.underlying70 h;rw [c2] at hs
 match cs,hs,xs,hx,hi with
 | [u,v],_,[x0,x1],_,hi =>
   have e0:DataW.trod enc Tryz.prog W base sp held m 3 (([u,v].drop 0).take (Tryz.prog.cellsOf 3))=some x0:=hi 0 _ rfl;have e1:DataW.trod enc Tryz.prog W base sp held m 68 (([u,v].drop 1).take (Tryz.prog.cellsOf 68))=some x1:=hi 1 _ rfl;rw [c1] at e0;rw [c3] at e1;obtain ⟨a,ha,_⟩:=DataW.trod_int Tryz.underlying3 (x:=x0) e0
   simp at ha
   subst ha;obtain ⟨l,R,ok⟩:=recs_of (u:=v) e1;exact ⟨a,v,l,rfl,R,ok⟩
end
def laid : List (String × DataW Unit) := [("errors.errorType", Rows.laid_errors_errorType)]
theorem et : Tryz.prog.globalNamed "errors.errorType" = some 1 := by kernel_rfl
theorem rt : (Tryz.prog.cutTypes.find? (·.1 == "internal/reflectlite.rtype")).map (·.2) = some 337 := by kernel_rfl
theorem oneRow:((List.range 426).filter fun t=>Tryz.prog.rowNamed t [101,114,114,111,114]) = [214]:=by kernel_rfl
theorem tsize:Tryz.prog.types.size=426:=by kernel_rfl
theorem glob_of {W:World} (h:laidMetH Tryz.prog laid W):Glob W:=by
 have h':laidMet Tryz.prog [] W∧handlesMet Tryz.prog laid W:=h;obtain ⟨name,u,ty,e1,e2,e3,e4,e5⟩:=h'.2 _ (List.mem_singleton.2 rfl);have en:name = [101,114,114,111,114]:=(Option.some.inj e1).symm;subst en;obtain rfl:=Option.some.inj (rt.symm.trans e2);have hm:ty∈(List.range 426).filter fun t=>Tryz.prog.rowNamed t [101,114,114,111,114]:=List.mem_filter.2 ⟨List.mem_range.2 (by rw [← tsize];exact e3),e4⟩;rw [oneRow] at hm;obtain rfl:=List.mem_singleton.1 hm;have hh:typeHandle Tryz.prog 214 = .pointer (some ⟨2,214,none⟩):=by kernel_rfl
 rw [hh] at e5;have:=World.var?_cell et e5 0;unfold Glob
 simpa using this
noncomputable def laidWorld (os:Os):World :=
 let w0:=World.holding Tryz.prog os ⟨#[],#[],[]⟩
 { w0 with heap:=w0.heap.modify 1 fun
  | .cells _ t frozen=>.cells #[.iface 337 (.agg #[.pointer (some ⟨2,214,none⟩)])] t frozen
  | o=>o }
theorem laidWorld_met (os:Os) (args:Array Value):laidMetH Tryz.prog laid ((laidWorld os).forCall (fun _ _=>0) ⟨#[],args,[]⟩).memory :=
 laidMetH_of_parts (laidMet_nil _ _) (by kernel_rfl)
end Go.Proofs.YtljnkaodhfnbbaaGreatDoor.Fs
namespace Go.Proofs.YtljnkaodhfnbbaaGreatDoor.Ro
open Go.RowKit
open Rw (Rd Ow At)
open Fl (R4 z4 rec4 K4 okR hdr rat goodF)
abbrev E5:=Int×Int×Int×Int×Int
def z5:E5:=(0,0,0,0,0)
def endE:E5:=(4,0,0,0,0)
def endR:R4:=(4,0,0,0)
def ent (x:E5):Value:=.agg #[.int .i64 x.1,.int .i64 x.2.1,.int .i64 x.2.2.1,.int .i64 x.2.2.2.1,.int .i64 x.2.2.2.2]
def K5:Rw.Kind E5:=⟨fun x=>[.int .i64 x.1,.int .i64 x.2.1,.int .i64 x.2.2.1,.int .i64 x.2.2.2.1,.int .i64 x.2.2.2.2],5,by decide,fun _=>rfl,fun _ u h=>by simp at h;rcases h with rfl | rfl | rfl | rfl | rfl <;> rfl,z5⟩
def place (s f r:Int):Prop:=1≤s∧s≤16∧0≤f∧f≤63∧1≤r∧r≤255
instance (s f r:Int):Decidable (place s f r):=by unfold place;infer_instance
def placeB (s f r:Int):Bool:=decide (place s f r)
def okE (x:E5):Prop:=(1≤x.1∧x.1≤3∧(x.1≠3∨x.2.2.2.2=0)∧place x.2.1 x.2.2.1 x.2.2.2.1∧0≤x.2.2.2.2∧x.2.2.2.2≤3)∨(x.1=4∧x.2.1=0∧x.2.2.1=0∧x.2.2.2.1=0∧x.2.2.2.2=0)
instance (x:E5):Decidable (okE x):=by unfold okE;infer_instance
def okB (x:E5):Bool:=decide (okE x)
theorem ok_yes {x:E5} (h:okE x):okB x=true:=decide_eq_true h
theorem ok_no {x:E5} (h:¬ okE x):okB x=false:=decide_eq_false h
def putR (x:E5):R4:=if okE x then (64 * x.2.2.2.2+x.1,x.2.1,x.2.2.1,x.2.2.2.1) else z4
def putN (x:E5):Int:=if okE x then 0 else 1
def takeX (v:R4):E5:=(v.1 % 64,v.2.1,v.2.2.1,v.2.2.2,v.1 / 64)
def takeE (v:R4):E5:=if okE (takeX v) then takeX v else z5
def takeN (v:R4):Int:=if okE (takeX v) then 0 else 2
theorem okE_bounds {x:E5} (h:okE x):(1≤x.1∧x.1≤4)∧(0≤x.2.1∧x.2.1≤16)∧(0≤x.2.2.1∧x.2.2.1≤63)∧(0≤x.2.2.2.1∧x.2.2.2.1≤255)∧0≤x.2.2.2.2∧x.2.2.2.2≤3:=by
 unfold okE place at h
 omega
theorem ok_slot {x:E5} (h:okE x):x.1≠4↔0 < x.2.1:=by
 unfold okE place at h
 omega
theorem at5 {w:World} {b off:Nat} {l:List E5} (h:At K5 w b off l) (i:Nat) (hi:i < l.length) :
 w.cell? ⟨b,off+i * 5,none⟩=some (.int .i64 (l.getD i z5).1)∧w.cell? ⟨b,off+i * 5+1,none⟩=some (.int .i64 (l.getD i z5).2.1)∧w.cell? ⟨b,off+i * 5+2,none⟩=some (.int .i64 (l.getD i z5).2.2.1)∧w.cell? ⟨b,off+i * 5+3,none⟩=some (.int .i64 (l.getD i z5).2.2.2.1)∧w.cell? ⟨b,off+i * 5+4,none⟩=some (.int .i64 (l.getD i z5).2.2.2.2) :=
 ⟨h i hi 0 _ rfl,h i hi 1 _ rfl,h i hi 2 _ rfl,h i hi 3 _ rfl,h i hi 4 _ rfl⟩
theorem infoE:(Tryz.prog.info? 87).map (fun i=>(i.zero,i.size,i.bytes))=some (some (.agg #[.int .i64 0,.int .i64 0,.int .i64 0,.int .i64 0,.int .i64 0]),5,40):=by kernel_rfl
theorem eq_ent (x y:E5) (w:World):(Op.equalIn 10000 87 (.agg #[.int .i64 x.1,.int .i64 x.2.1,.int .i64 x.2.2.1,.int .i64 x.2.2.2.1,.int .i64 x.2.2.2.2]) (.agg #[.int .i64 y.1,.int .i64 y.2.1,.int .i64 y.2.2.1,.int .i64 y.2.2.2.1,.int .i64 y.2.2.2.2])).run Tryz.prog w = .ok (decide (x=y)) w:=by
 have u3:=Tryz.underlying3;have a3:=Tryz.isAgg3;have z3:=Tryz.sizeOf3;have hS:Tryz.prog.underlying 87=some (.struct (Tryz.prog.fieldsOf 87)):=by kernel_rfl
 have hp:Tryz.prog.stoodInHeld 87=false:=by kernel_rfl
 obtain ⟨x1,x2,x3,x4,x5⟩:=x;obtain ⟨y1,y2,y3,y4,y5⟩:=y;rw [show (10000:Nat)=9999+1 from rfl,run_equalIn_agg w 9999 87 _ _ hS hp];simp only [Program.fieldsOf,Tryz.underlying87];go_simp
 by_cases h1:x1=y1 <;> by_cases h2:x2=y2 <;> by_cases h3:x3=y3 <;> by_cases h4:x4=y4 <;> by_cases h5:x5=y5 <;> simp [h1,h2,h3,h4,h5]
end Go.Proofs.YtljnkaodhfnbbaaGreatDoor.Ro
namespace Go.Proofs.YtljnkaodhfnbbaaGreatDoor.Ro
open Go.ChangeShapes Go.WideShapes Go.ChangeAt Go.RowKit Go.Deep
open Rw (Rd Ow At)
theorem ent_cells {H:Type} {enc:TypeId×Value→H} {W:World} {base fuel:Nat} {sp:Nat→Bool} {held:Bool} {cs:List Value} {x:DataW H×List MemPlace}
 (h:DataW.trod enc Tryz.prog W base sp held fuel 87 cs=some x):∃ r:E5,cs=K5.enc r:=by
 have c5:Tryz.prog.cellsOf 87=5:=by kernel_rfl
 have c1:Tryz.prog.cellsOf 3=1:=by kernel_rfl
 obtain ⟨xs,m,_,_,hs,hx,hi⟩:=DataW.trod_struct Tryz.underlying87 h;rw [c5] at hs
 match cs,hs,xs,hx,hi with
 | [u0,u1,u2,u3,u4],_,[x0,x1,x2,x3,x4],_,hi =>
   have e0:DataW.trod enc Tryz.prog W base sp held m 3 (([u0,u1,u2,u3,u4].drop 0).take (Tryz.prog.cellsOf 3))=some x0:=hi 0 _ rfl;have e1:DataW.trod enc Tryz.prog W base sp held m 3 (([u0,u1,u2,u3,u4].drop 1).take (Tryz.prog.cellsOf 3))=some x1:=hi 1 _ rfl;have e2:DataW.trod enc Tryz.prog W base sp held m 3 (([u0,u1,u2,u3,u4].drop 2).take (Tryz.prog.cellsOf 3))=some x2:=hi 2 _ rfl;have e3:DataW.trod enc Tryz.prog W base sp held m 3 (([u0,u1,u2,u3,u4].drop 3).take (Tryz.prog.cellsOf 3))=some x3:=hi 3 _ rfl;have e4:DataW.trod enc Tryz.prog W base sp held m 3 (([u0,u1,u2,u3,u4].drop 4).take (Tryz.prog.cellsOf 3))=some x4:=hi 4 _ rfl;rw [c1] at e0 e1 e2 e3 e4;obtain ⟨a,ha,_⟩:=DataW.trod_int Tryz.underlying3 (x:=x0) e0;obtain ⟨b,hb,_⟩:=DataW.trod_int Tryz.underlying3 (x:=x1) e1;obtain ⟨c,hc,_⟩:=DataW.trod_int Tryz.underlying3 (x:=x2) e2;obtain ⟨d,hd,_⟩:=DataW.trod_int Tryz.underlying3 (x:=x3) e3;obtain ⟨e,he,_⟩:=DataW.trod_int Tryz.underlying3 (x:=x4) e4
   simp at ha hb hc hd he
   subst ha hb hc hd he;exact ⟨(a,b,c,d,e),rfl⟩
end Go.Proofs.YtljnkaodhfnbbaaGreatDoor.Ro
namespace Go.Proofs.YtljnkaodhfnbbaaGreatDoor.Ro
open Go.RowKit
open Rw (Rd Ow At)
open Fl (R4 z4 rec4 K4 okR okL hdr rat goodF)
def eat (l:List E5) (i:Nat):E5:=l.getD i z5
def prevS (l:List E5) (i:Nat):Int:=if i=0 then 0 else (eat l (i - 1)).2.1
def okAt (l:List E5) (i:Nat):Prop:=okE (eat l i)∧prevS l i < (eat l i).2.1
instance (l:List E5) (i:Nat):Decidable (okAt l i):=by unfold okAt;infer_instance
def mayP (l:List E5):Prop:=∀ i,i < l.length→okAt l i
instance (l:List E5):Decidable (mayP l):=by unfold mayP;infer_instance
def mayB (l:List E5):Bool:=decide (mayP l)
theorem prev_zero (l:List E5):prevS l 0=0:=rfl
theorem prev_next (l:List E5) (k:Nat):prevS l (k+1)=(eat l k).2.1:=rfl
theorem prev_ge {l:List E5} {n:Nat} (h:∀ i,i < n→okAt l i) (k:Nat) (hk:k≤n):(k:Int)≤prevS l k:=by
 induction k with
 | zero=>exact Int.le_refl _
 | succ k ih =>
   have h1:=ih (by omega);have h2:=(h k (by omega)).2;rw [prev_next]
   omega
theorem may_len {l:List E5} (h:mayP l):l.length≤16:=by
 have h1:=prev_ge h l.length (Nat.le_refl _)
 rcases e:l.length with _ | n
 ·omega
 ·rw [e,prev_next] at h1
  have:=(okE_bounds (h n (by omega)).1).2.1.2
  omega
theorem okAt_iff {l:List E5} {k:Nat} (h:∀ i,i < k→okAt l i):okAt l k↔okE (eat l k)∧(eat l k).1≠4∧¬ (0 < k∧(eat l k).2.1≤prevS l k):=by
 have h1:=prev_ge h k (Nat.le_refl _)
 constructor
 ·intro g
  exact ⟨g.1,(ok_slot g.1).2 (by have:=g.2;omega),by have:=g.2;omega⟩
 ·intro ⟨g1,g2,g3⟩
  refine ⟨g1,?_⟩;have:=(ok_slot g1).1 g2
  by_cases e:k=0
  ·subst e;rw [prev_zero];exact this
  ·omega
theorem eat_get {l:List E5} {i:Nat} (h:i < l.length):l[i]? = some (eat l i):=by
 unfold eat;rw [List.getD_eq_getElem?_getD,List.getElem?_eq_getElem h]
 rfl
theorem eat_mem {l:List E5} {i:Nat} (h:i < l.length):eat l i∈l:=List.mem_of_getElem? (eat_get h)
def scan:List R4→Option (List E5)
 | []=>some []
 | v :: r=>if okE (takeX v) then (if (takeX v).1=4 then some [] else (scan r).map (takeX v :: ·)) else none
def tabO (p:Int) (l:List R4):Option (List E5):=if goodF p l then (scan (l.drop 1)).filter mayB else none
def tabL (p:Int) (l:List R4):List E5:=(tabO p l).getD []
def tabN (p:Int) (l:List R4):Int:=if (tabO p l).isSome then 0 else 2
theorem tab_may (p:Int) (l:List R4):mayP (tabL p l):=by
 unfold tabL
 rcases e:tabO p l with _ | m
 ·intro i hi;exact absurd hi (by simp)
 ·unfold tabO at e
  by_cases h:goodF p l
  ·rw [if_pos h] at e
   rw [Option.filter_eq_some_iff] at e;exact of_decide_eq_true e.2
  ·rw [if_neg h] at e;cases e
theorem tab_bad {p:Int} {l:List R4} (h:¬ goodF p l):tabL p l = []∧tabN p l=2:=by
 have e:tabO p l=none:=by unfold tabO;rw [if_neg h]
 unfold tabL tabN;rw [e];exact ⟨rfl,rfl⟩
theorem tab_stop {p:Int} {l:List R4} (h:scan (l.drop 1)=none):tabL p l = []∧tabN p l=2:=by
 have e:tabO p l=none:=by unfold tabO;rw [h];split <;> rfl
 unfold tabL tabN;rw [e];exact ⟨rfl,rfl⟩
theorem tab_yes {p:Int} {l:List R4} {m:List E5} (hg:goodF p l) (h:scan (l.drop 1)=some m) (hm:mayP m):tabL p l=m∧tabN p l=0:=by
 have e:tabO p l=some m:=by unfold tabO;rw [if_pos hg,h,Option.filter_eq_some_iff];exact ⟨rfl,decide_eq_true hm⟩
 unfold tabL tabN;rw [e];exact ⟨rfl,rfl⟩
theorem tab_no {p:Int} {l:List R4} {m:List E5} (h:scan (l.drop 1)=some m) (hm:¬ mayP m):tabL p l = []∧tabN p l=2:=by
 have e:tabO p l=none:=by
  unfold tabO
  split
  ·rw [h]
   show (some m).filter mayB=none
   simp only [Option.filter,mayB,decide_eq_false hm,Bool.false_eq_true,if_false]
  ·rfl
 unfold tabL tabN;rw [e];exact ⟨rfl,rfl⟩
def Read (r:List R4) (k:Nat) (L:List E5):Prop:=L.length=k∧scan r=(scan (r.drop k)).map (L ++ ·)
theorem read_start (r:List R4):Read r 0 []:=⟨rfl,by simp⟩
theorem drop_cons {r:List R4} {k:Nat} (h:k < r.length):r.drop k=rat r k :: r.drop (k+1):=by
 rw [List.drop_eq_getElem_cons h]
 congr 1
 unfold rat;rw [List.getD_eq_getElem?_getD,List.getElem?_eq_getElem h]
 rfl
theorem read_bad {r:List R4} {k:Nat} {L:List E5} (h:Read r k L) (hk:k < r.length) (hb:¬ okE (takeX (rat r k))):scan r=none:=by
 rw [h.2,drop_cons hk];simp only [scan,if_neg hb,Option.map_none]
theorem read_end {r:List R4} {k:Nat} {L:List E5} (h:Read r k L) (hk:k < r.length) (hb:okE (takeX (rat r k))) (h4:(takeX (rat r k)).1=4):scan r=some L:=by
 rw [h.2,drop_cons hk];simp only [scan,if_pos hb,if_pos h4,Option.map_some,List.append_nil]
theorem read_next {r:List R4} {k:Nat} {L:List E5} (h:Read r k L) (hk:k < r.length) (hb:okE (takeX (rat r k))) (h4:(takeX (rat r k)).1≠4):Read r (k+1) (L ++ [takeX (rat r k)]):=by
 refine ⟨by rw [List.length_append,h.1];rfl,?_⟩;rw [h.2,drop_cons hk];simp only [scan,if_pos hb,if_neg h4,Option.map_map]
 congr 1
 funext m
 simp
theorem read_all {r:List R4} {L:List E5} (h:Read r r.length L):scan r=some L:=by
 rw [h.2,List.drop_length]
 simp [scan]
def fileL (l:List E5):List R4:=hdr 3 ((l.length:Int)+1) :: (l.map putR ++ [endR])
def fL (l:List E5):List R4:=if mayP l then fileL l else []
def fP (l:List E5):Int:=if mayP l then 3 else 0
def fN (l:List E5):Int:=if mayP l then 0 else 1
theorem may_each {l:List E5} (h:mayP l):∀ x∈l,okE x∧x.1≠4:=fun x hx=>by
 obtain ⟨i,hi,e⟩:=List.getElem_of_mem hx;have g:=(okAt_iff (fun j hj=>h j (by omega))).1 (h i hi);have e':eat l i=x:=by
  have:=eat_get hi;rw [List.getElem?_eq_getElem hi,e] at this;exact (Option.some.inj this).symm
 rw [e'] at g;exact ⟨g.1,g.2.1⟩
def part (h:R4) (l:List E5) (k:Nat):List R4:=h :: ((l.take k).map putR ++ List.replicate (l.length+1 - k) z4)
theorem part_len (h:R4) (l:List E5) (k:Nat) (hk:k≤l.length):(part h l k).length=l.length+2:=by
 simp [part,List.length_take]
 omega
theorem part_start (h:R4) (l:List E5):part h l 0=h :: List.replicate (l.length+1) z4:=by simp [part]
theorem take_next {l:List E5} {k:Nat} (hk:k < l.length):l.take (k+1)=l.take k ++ [eat l k]:=by
 rw [List.take_add_one,eat_get hk]
 rfl
theorem part_set (h:R4) {l:List E5} {k:Nat} (hk:k < l.length):(part h l k).set (1+k) (putR (eat l k))=part h l (k+1):=by
 have e1:(l.take k).length=k:=by rw [List.length_take];omega
 unfold part;rw [Nat.add_comm 1 k,List.set_cons_succ,List.set_append_right _ _ (by rw [List.length_map,e1];omega),List.length_map,e1,Nat.sub_self,take_next hk];rw [show l.length+1 - k=(l.length+1 - (k+1))+1 by omega,List.replicate_succ]
 simp
theorem part_end (h:R4) (l:List E5):(part h l l.length).set (1+l.length) endR=h :: (l.map putR ++ [endR]):=by
 unfold part;rw [Nat.add_comm 1,List.set_cons_succ,List.set_append_right _ _ (by simp),List.take_length];have e:l.length+1 - l.length=1:=by omega
 rw [e]
 simp
end Go.Proofs.YtljnkaodhfnbbaaGreatDoor.Ro
