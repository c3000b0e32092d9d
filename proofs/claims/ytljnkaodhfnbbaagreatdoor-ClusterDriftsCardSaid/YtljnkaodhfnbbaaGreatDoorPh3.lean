import Derived.Test.YtljnkaodhfnbbaaGreatDoorPh2
import Derived.WalkSpells
import Derived.Maps.Range
import Derived.Maps.RangeWalk
import Derived.Maps.RangeRun
import Derived.Deep.Cut
import Derived.Test.YtljnkaodhfnbbaaGreatDoorShelfK
import Derived.Test.YtljnkaodhfnbbaaGreatDoorChecked
import Derived.WalkKit
import Derived.LaidEql
import Derived.Stop.Asserts
import Derived.Stop.IfaceNil
import Derived.RowKitTokens
import Derived.Lib.IfaceEq
import Derived.Lib.Hide
import Derived.LoopTactic
import Derived.Outline
import Derived.Test.YtljnkaodhfnbbaaGreatDoorPh1
set_option maxRecDepth 100000
namespace Go.Proofs.YtljnkaodhfnbbaaGreatDoor.Fs
open Go.RowKit Go.Maps
open Fl (R4 z4 K4 rec4 rat goodF goodFB okR okL doE newR file arr4 sto4 sto4_own sto4_other sto4_size sto4_below own4 row_cell row_frozen ret_bool)
open Rw (Rd Ow At)
attribute [local irreducible] Sd.wpSd wpQuiet Sf.wpSf
def SetPost (w:World) (s:Nat) (F:Nat→Prop) (d:Int) (b:Bool) (A':Abs) (e:Ending) (w':World):Prop:=e = .returned (.bool b)∧St w' s (Fx F w w') A' d∧Only F w w'
theorem sB_some {C:List Ent} {n r:Int} {c:Ent} (h:look Ent.n n C=some c) (h0:0≤r) (h1:r < c.l.length) (h2:r≠0):sB (C.map Ent.abs) n r=true:=by
 unfold sB;rw [gB_some h,decide_eq_true ⟨h0,h1⟩,decide_eq_true h2]
 rfl
theorem sA_some {C:List Ent} {n r:Int} {c:Ent} (h:look Ent.n n C=some c) (h0:0≤r) (h1:r < c.l.length) (h2:r≠0) (x:R4):sA (C.map Ent.abs) n r x=(put Ent.n (c.recs (c.l.set r.toNat x)) C).map Ent.abs:=by
 have hb:=sB_some h h0 h1 h2;have he:look key n (C.map Ent.abs)=some c.abs:=by rw [abs_look,h];rfl
 unfold sA;rw [he];simp only [hb,if_true];rw [abs_put];obtain ⟨_,rfl⟩:=look_some h
 rfl
theorem sA_no {A:Abs} {n r:Int} (h:sB A n r=false) (x:R4):sA A n r x=A:=by
 unfold sA
 split
 ·rfl
 ·rw [h];rfl
theorem box_rec (w:World) (x:R4):(w.alloc (.cells (arr4 x) 42)).heap[w.heap.size]? = some (.cells (arr4 x) 42 (0,0))∧Below w.heap.size w (w.alloc (.cells (arr4 x) 42))∧(w.alloc (.cells (arr4 x) 42)).heap.size=w.heap.size+1:=⟨heap_alloc_new w _,(Below.refl w.heap.size w).alloc (Nat.le_refl _) _,by simp⟩
set_option maxHeartbeats 400000 in
theorem set_zero (w:World) (s:Value) (n:Int) (x:R4):Calls Tryz.prog 120 #[s,.int .i64 n,.int .i64 0,rec4 x] w fun e w'=>e = .returned (.bool false)∧Below w.heap.size w w':=by
 unfold rec4
 go_enter Tryz.func120,Tryz.ntmps120
 go_wp2
 go_ret
 exact ⟨rfl,(Below.refl w.heap.size w).alloc (Nat.le_refl _) _⟩
set_option maxHeartbeats 400000 in
theorem set_none (w:World) (s:Value) (n r:Int) (x:R4) (hr:r≠0) (hh:∀ W,Below w.heap.size w W→Calls Tryz.prog 85 #[s,.int .i64 n,.int .i64 r] W fun e w'=>e = .returned (.bool false)∧Below W.heap.size W w') :
 Calls Tryz.prog 120 #[s,.int .i64 n,.int .i64 r,rec4 x] w fun e w'=>e = .returned (.bool false)∧Below w.heap.size w w':=by
 obtain ⟨h1,hB,hz⟩:=box_rec w x;have HB:=Lib.hid hB;have HH:=Lib.hid (hh _ hB);clear h1 hB hz hh;have hr0:(r == 0)=false:=by simpa using hr
 unfold rec4;unfold arr4 at *
 go_enter Tryz.func120,Tryz.ntmps120
 go_wp2_with fail;refine HH.out.mono ?_;rintro e w1 ⟨rfl,b1⟩;have B1:=Lib.hid (HB.out.trans (b1.mono HB.out.size));clear b1 HH HB;go_wp2
 go_ret
 exact ⟨rfl,B1.out⟩
structure SetC (s:Nat) (F:Nat→Prop) (m:Value) (C:List Ent) (d:Int) (g:Nat) (x:R4) (W:World):Prop where
 row:W.heap[s]? = some (.cells #[m,.int .i64 d] 178 (0,0))
 mp:Mp W F m C
 box:W.heap[g]? = some (.cells (arr4 x) 42 (0,0))
set_option maxHeartbeats 1000000 in
theorem set_yes {w:World} {s:Nat} {F:Nat→Prop} {m:Value} {C:List Ent} {d:Int} (S:Sto w s F m C d) {n:Int} (hn:Wf n) (k:Nat) (x:R4) (hx:okR x) {c:Ent} (hc:look Ent.n n C=some c) (hk:k < c.l.length) (hk0:k≠0) :
 Calls Tryz.prog 120 #[.pointer (some ⟨s,0,none⟩),.int .i64 n,.int .i64 (k:Int),rec4 x] w (SetPost w s F d true ((put Ent.n (c.recs (c.l.set k x)) C).map Ent.abs)):=by
 obtain ⟨h1,hB,hz⟩:=box_rec w x;have H1:=Lib.hid h1;have HB:=Lib.hid hB;have HZ:=Lib.hid hz;have hh:=has_any (S.below hB) hn (k:Int);rw [gB_some hc,decide_eq_true (⟨by omega,by omega⟩:0≤(k:Int)∧(k:Int) < c.l.length)] at hh;have HH:=Lib.hid hh;have SS:=Lib.hid S;have HN:=Lib.hid hn;have L:=Lib.hid (lv_some hc);obtain ⟨ho,_,_,_,_,hm⟩:=S.find hc;obtain ⟨g,cap,e1,_,_,_,_,_,_⟩:=ho.form (by omega);have ea:c.a=some ⟨g,0,none⟩:=by unfold Ent.sl at e1;injection e1
 rw [ea] at L;have FIN:Hid (∀ W,Below w.heap.size w W→SetPost w s F d true ((put Ent.n (c.recs (c.l.set k x)) C).map Ent.abs) (.returned (.bool true)) (sto4 W g (k * 4) x)):=fun W hb=>by
  obtain ⟨S1,O1⟩:=(S.below hb).write hm e1 hk hk0 hx;have O2:=(Only.of_below (G:=F) hb).trans O1 fun _ _ g=>g;exact ⟨rfl,⟨_,_,S1.wide (fun j hj=>.inl hj) (Fx.low S.low O2.size),rfl⟩,O2⟩
 have OW:=Lib.hid (And.intro ho (And.intro e1 hk));have CB:Hid (∀ W,SetC s F m C d w.heap.size x W→∀ g',g=g'→((sto4 W g' (k * 4) x).heap[s]? = some (.cells #[m,.int .i64 d] 178 (0,0))∧Mp (sto4 W g' (k * 4) x) F m C∧(sto4 W g' (k * 4) x).heap[w.heap.size]? = some (.cells (arr4 x) 42 (0,0)))):=fun W h g' eg=>by
  subst eg;obtain ⟨n1,n2⟩:=S.off hm;rw [e1] at n1 n2;have hgl:=S.low g (S.mine c hm g (by rw [e1];rfl));exact ⟨sto4_other h.row fun e=>n1 (by rw [e];rfl),h.mp.kept fun b hb=>sto4_other rfl fun e=>n2 b hb (by rw [e];rfl),sto4_other h.box (by omega)⟩
 have hq:k < c.l.length:=hk;clear h1 hB hz hh ho e1 hc S hn hk hm ea;generalize put Ent.n (c.recs (c.l.set k x)) C=C' at *;have hr0:((k:Int) == 0)=false:=by simpa using hk0
 have OW2:Hid (∀ W,Below w.heap.size w W→(W.cell? ⟨g,k * 4,none⟩=some (.int .u8 (rat c.l k).1)∧W.cell? ⟨g,k * 4+1,none⟩=some (.int .u8 (rat c.l k).2.1)∧W.cell? ⟨g,k * 4+2,none⟩=some (.int .u8 (rat c.l k).2.2.1)∧W.cell? ⟨g,k * 4+3,none⟩=some (.int .u8 (rat c.l k).2.2.2))∧(∀ j,W.frozen? ⟨g,j,none⟩=false)):=fun W hb=>by
  have o:=OW.out.1.keep hb;rw [OW.out.2.1] at o;have:=own4 o k OW.out.2.2;exact ⟨this.1,this.2.1⟩
 clear OW;generalize rat c.l k=y0 at *;generalize c.l.length=q at *;generalize c.p=p at *;generalize c.cap=ccap at *;unfold rec4;have X4:Hid (arr4 x=#[.int .u8 x.1,.int .u8 x.2.1,.int .u8 x.2.2.1,.int .u8 x.2.2.2]):=rfl;unfold arr4 at H1 HB HZ HH
 go_enter Tryz.func120,Tryz.ntmps120
 go_wp2_with fail;generalize (w.alloc (.cells #[.int .u8 x.1,.int .u8 x.2.1,.int .u8 x.2.2.1,.int .u8 x.2.2.2] 42))=W at *;refine HH.out.mono ?_;rintro e w1 ⟨rfl,b1⟩;have hz:=HZ.out;have G:w1.heap[w.heap.size]? = some (.cells (arr4 x) 42 (0,0)):=(b1.block _ (by omega)).trans H1.out;have B1:=Lib.hid (HB.out.trans (b1.mono HB.out.size));have S1:=SS.out.below B1.out;have C0:SetC s F m C d w.heap.size x w1.drew:=⟨S1.row,S1.mp,G⟩;clear b1 HH HB H1 HZ hz G S1 SS;go_wp2_with fail;have hF:=run_fieldF;have c0:=Sc.cell_in (C:=SetC s F m C d w.heap.size x) (a:=⟨s,0,none⟩) (fun W' h=>row_cell h.row 0);have x0:=Sc.cell_in (C:=SetC s F m C d w.heap.size x) (a:=⟨w.heap.size,0,none⟩) (v:=.int .u8 x.1) (fun W' h=>row_cell h.box 0);have x1:=Sc.cell_in (C:=SetC s F m C d w.heap.size x) (a:=⟨w.heap.size,1,none⟩) (v:=.int .u8 x.2.1) (fun W' h=>row_cell h.box 1);have x2:=Sc.cell_in (C:=SetC s F m C d w.heap.size x) (a:=⟨w.heap.size,2,none⟩) (v:=.int .u8 x.2.2.1) (fun W' h=>row_cell h.box 2);have x3:=Sc.cell_in (C:=SetC s F m C d w.heap.size x) (a:=⟨w.heap.size,3,none⟩) (v:=.int .u8 x.2.2.2) (fun W' h=>row_cell h.box 3);have hlk:∀ P:Sc.In (SetC s F m C d w.heap.size x),(Instr.lookup 176 m (.int .i64 n) false).run Tryz.prog P.world = .ok (.agg #[.int .i64 p,.slice (some ⟨g,0,none⟩) q ccap]) P.world:=fun P=>by
  have:=run_look P.ok.mp HN.out false;rw [L.out] at this;exact this
 have ne:Nonempty (Sc.In (SetC s F m C d w.heap.size x)):=⟨⟨_,C0⟩⟩;refine Sc.start (SetC s F m C d w.heap.size x) [(false,0),(false,1),(false,2),(false,3),(false,4),(false,5),(false,6),(false,7),(false,8),(false,9),(true,10)] (by kernel_rfl) (by kernel_rfl) (by kernel_rfl) C0 ?_;dsimp only [Sd.picks,List.getElem?_cons_succ,List.getElem?_cons_zero]
 repeat (refine Sd.lit ?_;quiet_step (fail);refine wpQuiet_nil ?_)
 have BW:Below w.heap.size w w1.drew:=B1.out.trans ((Below.refl _ _).drew);obtain ⟨⟨d0,d1,d2,d3⟩,hfr⟩:=OW2.out w1.drew BW;have f0:=hfr (k * 4);have f1:=hfr (k * 4+1);have f2:=hfr (k * 4+2);have f3:=hfr (k * 4+3);have L1:SetC s F m C d w.heap.size x (sto4 w1.drew g (k * 4) x):=by
  obtain ⟨a1,a2,a3⟩:=CB.out _ C0 _ rfl;exact ⟨a1,a2,a3⟩
 have RES:=Lib.hid (FIN.out w1.drew BW);clear hfr OW2 CB FIN C0 B1 BW;generalize w1.drew=W1 at *;refine Sd.call (by rfl) (fun K hK=>?_);go_simp;refine hK _ _ (Sc.Cl.of L1) ?_;clear hK K d0 d1 d2 d3 f0 f1 f2 f3 c0 x0 x1 x2 x3 hlk
 show Sd.wpSd _ _ _ _ _ _ (sto4 W1 g (k * 4) x)
 generalize sto4 W1 g (k * 4) x=W2 at *;refine Sd.done ?_;go_wp2
 go_ret
 exact RES.out
theorem set_any {w:World} {s:Nat} {F:Nat→Prop} {A:Abs} {d:Int} (S:St w s F A d) {n:Int} (hn:Wf n) (r:Int) (x:R4) (hx:okR x) :
 Calls Tryz.prog 120 #[.pointer (some ⟨s,0,none⟩),.int .i64 n,.int .i64 r,rec4 x] w (SetPost w s F d (sB A n r) (sA A n r x)):=by
 obtain ⟨m,C,h,rfl⟩:=S;have no:∀ e w',sB (C.map Ent.abs) n r=false→(e = .returned (.bool false)∧Below w.heap.size w w')→SetPost w s F d (sB (C.map Ent.abs) n r) (sA (C.map Ent.abs) n r x) e w':=fun e w' hb ⟨he,b⟩=>by
  unfold SetPost;rw [hb,sA_no hb x];exact ⟨he,St.fx ⟨m,C,h,rfl⟩ b,Only.of_below b⟩
 by_cases hr:r=0
 ·subst hr
  exact (set_zero w _ n x).mono fun e w'=>no e w' (by unfold sB;simp)
 ·have none:gB (C.map Ent.abs) n r=false→Calls Tryz.prog 120 #[.pointer (some ⟨s,0,none⟩),.int .i64 n,.int .i64 r,rec4 x] w (SetPost w s F d (sB (C.map Ent.abs) n r) (sA (C.map Ent.abs) n r x)):=fun hg =>
   (set_none w _ n r x hr fun W hb=>by
     have:=has_any (h.below hb) hn r
     rwa [hg] at this).mono fun e w'=>no e w' (by unfold sB;rw [hg];rfl)
  cases hk:look Ent.n n C with
  | none=>exact none (gB_none hk)
  | some c =>
    by_cases h2:0≤r∧r < c.l.length
    ·rw [sB_some hk h2.1 h2.2 hr,sA_some hk h2.1 h2.2 hr]
     obtain ⟨k,rfl⟩:∃ k:Nat,r=k:=⟨r.toNat,by omega⟩;rw [Int.toNat_natCast];exact set_yes h hn k x hx hk (by omega) (by omega)
    ·exact none (by rw [gB_some hk,decide_eq_false h2])
end Go.Proofs.YtljnkaodhfnbbaaGreatDoor.Fs
namespace Go.Proofs.YtljnkaodhfnbbaaGreatDoor.Fs
open Go.RowKit Go.Maps
open Fl (R4 z4 K4 rec4 rat goodF goodFB okR okL doE newR file arr4 sto4 sto2 sto2_row sto2_other sto2_below sto2_size row_cell row_frozen good_any)
open Rw (Rd Ow At)
attribute [local irreducible] Sd.wpSd wpQuiet Sf.wpSf
section
variable {w W W':World} {s b:Nat} {F:Nat→Prop} {C:List Ent} {d:Int} {c:Ent}
theorem Sto.place (h:Sto w s F (.map (some b)) C d) (hb:Below w.heap.size w W) (hg:W.grownBy W' (some b)) (mp:Mp W' F (.map (some b)) (Fs.put Ent.n c C)) (ow:Ow K4 W w.heap.size 42 c.sl c.l) (hn:0≤c.n∧c.n≤63) (hgd:goodF c.p c.l) (hl:okL c.l) :
 St W' s (Fx F w W') ((Fs.put Ent.n c C).map Ent.abs) d∧Only F w W':=by
 have hne:=h.map_ne;have hFb:=h.mp.isMap.1;have hbl:=h.low b hFb;have hsl:=h.low s h.foot;have O:Only F w W':=(Only.of_below hb).trans (Only.grown (G:=fun k=>k=b) rfl hg) fun k _ e=>e ▸ hFb;have off:∀ k,c.sl.ownBlock=some k→w.heap.size≤k∧k < W.heap.size:=ow_new ow;refine ⟨⟨_,_,h.put (w':=W') (d':=d) (F':=Fx F w W') ?_ (fun k hk=>.inl hk) (mp.wide fun k hk=>.inl hk) (fun e he hne=>?_) ?_ (fun k hk=>.inr ⟨(off k hk).1,Nat.lt_of_lt_of_le (off k hk).2 hg.size⟩) (fun e he hne k hk hk'=>?_) hn hgd hl (Fx.low h.low O.size),rfl⟩,O⟩
 ·rw [hg.block s (Nat.lt_of_lt_of_le hsl hb.size) (by intro e;injection e with e;exact hne e.symm),hb.block s hsl]
  exact h.row
 ·exact ow_only (G:=fun k=>k=b) ((h.own e he).keep hb) (fun k hk e'=>(h.off he).2 b rfl (by rw [hk,e'])) (Only.grown rfl hg)
 ·exact ow_only (G:=fun k=>k=b) (ow.low (Nat.zero_le _)) (fun k hk e'=>by have:=(off k hk).1;omega) (Only.grown rfl hg)
 ·have:=(off k hk).1
  have:=h.low k (h.mine e he k hk')
  omega
theorem Sto.make (h:Sto w s F (.map none) C d) (hb:Below w.heap.size w W):Sto ((W.alloc (.map #[] 0)).setCell ⟨s,0,none⟩ (.map (some W.heap.size))) s (Fx F w ((W.alloc (.map #[] 0)).setCell ⟨s,0,none⟩ (.map (some W.heap.size)))) (.map (some W.heap.size)) C d∧Only F w ((W.alloc (.map #[] 0)).setCell ⟨s,0,none⟩ (.map (some W.heap.size))):=by
 have hC:C = []:=by
  rcases h.mp with ⟨_,e⟩ | ⟨b,e,_⟩
  ·exact e
  ·cases e
 subst hC;have hsl:=h.low s h.foot;have B2:Below w.heap.size w (W.alloc (.map #[] 0)):=hb.alloc hb.size _;have O:Only F w ((W.alloc (.map #[] 0)).setCell ⟨s,0,none⟩ (.map (some W.heap.size))):=(Only.of_below B2).trans (Only.set F _ (a:=⟨s,0,none⟩) h.foot _) fun _ _ g=>g;refine ⟨⟨?_,.inl h.foot,.inr ⟨W.heap.size,rfl,.inr ⟨hb.size,by simp [World.setCell]⟩,?_⟩,nofun,nofun,List.Pairwise.nil,h.ok,Fx.low h.low O.size⟩,O⟩
 ·have:=Rw.heap_setCell_same (w:=W.alloc (.map #[] 0)) (g:=s) (j:=0) ((B2.block s hsl).trans h.row) (.map (some W.heap.size))
  rw [this]
  simp
 ·have:=World.ownsMap_made (H:=Value) W Tryz.prog 3 Rh
  exact this.setCell (a:=⟨s,0,none⟩) (fun e=>by have:=hb.size;simp only at e;omega) _
theorem Fx.trans {w1 w2:World} (h1:Only F w w1) (h2:w1.heap.size≤w2.heap.size):∀ k,Fx (Fx F w w1) w1 w2 k→Fx F w w2 k:=by
 have:=h1.size;rintro k ((g | ⟨a,b⟩) | ⟨a,b⟩)
 ·exact .inl g
 ·exact .inr ⟨a,by omega⟩
 ·exact .inr ⟨by omega,b⟩
theorem Only.trans' {w1 w2:World} (h1:Only F w w1) (h2:Only (Fx F w w1) w1 w2):Only F w w2:=h1.trans h2 fun k hk g=>by
 rcases g with g | ⟨a,_⟩
 ·exact g
 ·omega
end
def AddPost (w:World) (s:Nat) (F:Nat→Prop) (d:Int) (z:Int) (A':Abs) (e:Ending) (w':World):Prop:=e = .returned (.int .i64 z)∧St w' s (Fx F w w') A' d∧Only F w w'
theorem box_file (w:World) (p:Int) (v:Value):(w.alloc (.cells #[.int .i64 p,v] 70)).heap[w.heap.size]? = some (.cells #[.int .i64 p,v] 70 (0,0))∧Below w.heap.size w (w.alloc (.cells #[.int .i64 p,v] 70))∧(w.alloc (.cells #[.int .i64 p,v] 70)).heap.size=w.heap.size+1:=⟨heap_alloc_new w _,(Below.refl w.heap.size w).alloc (Nat.le_refl _) _,by simp⟩
theorem add_1 (w:World) (s:Nat) (n p:Int) (a:Option Addr) (q cap:Nat) (hn:¬ (0≤n∧n≤63)):Calls Tryz.prog 78 #[.pointer (some ⟨s,0,none⟩),.int .i64 n,.agg #[.int .i64 p,.slice a q cap]] w fun e w'=>e = .returned (.int .i64 1)∧Below w.heap.size w w':=by
 by_cases h:n < 0
 ·go_enter Tryz.func78,Tryz.ntmps78
  go_wp2
  go_ret
  exact ⟨rfl,(Below.refl w.heap.size w).alloc (Nat.le_refl _) _⟩
 ·have h2:64≤n:=by omega
  go_enter Tryz.func78,Tryz.ntmps78
  go_wp2
  go_ret
  exact ⟨rfl,(Below.refl w.heap.size w).alloc (Nat.le_refl _) _⟩
theorem add_2 (w:World) (s:Nat) (n p:Int) (a:Option Addr) (q cap:Nat) (l:List R4) (R:Rd K4 w (.slice a q cap) l) (hn:0≤n∧n≤63) (hg:¬ goodF p l):Calls Tryz.prog 78 #[.pointer (some ⟨s,0,none⟩),.int .i64 n,.agg #[.int .i64 p,.slice a q cap]] w fun e w'=>e = .returned (.int .i64 2)∧Below w.heap.size w w':=by
 obtain ⟨h1,hB,hz⟩:=box_file w p (.slice a q cap);have HB:=Lib.hid hB;have GA:=good_any _ p (.slice a q cap) l (R.below hB);rw [show goodFB p l=false from decide_eq_false hg] at GA;have HG:=Lib.hid GA;have n1:0≤n:=hn.1;have n2:n < 64:=by omega
 clear h1 hB hz R GA hg hn;unfold file at HG
 go_enter Tryz.func78,Tryz.ntmps78
 go_wp2_with fail;refine HG.out.mono ?_;rintro e w1 ⟨rfl,b1⟩;have B1:=Lib.hid (HB.out.trans (b1.mono HB.out.size));clear b1 HG HB;go_wp2
 go_ret
 exact ⟨rfl,B1.out⟩
set_option maxHeartbeats 1000000 in
theorem add_10 {w:World} {s:Nat} {F:Nat→Prop} {m:Value} {C:List Ent} {d:Int} (S:Sto w s F m C d) (n p:Int) (a:Option Addr) (q cap:Nat) (l:List R4) (R:Rd K4 w (.slice a q cap) l) (hn:0≤n∧n≤63) (hg:goodF p l) {c:Ent} (hc:look Ent.n n C=some c) :
 Calls Tryz.prog 78 #[.pointer (some ⟨s,0,none⟩),.int .i64 n,.agg #[.int .i64 p,.slice a q cap]] w fun e w'=>e = .returned (.int .i64 10)∧Below w.heap.size w w':=by
 obtain ⟨h1,hB,hz⟩:=box_file w p (.slice a q cap);have HB:=Lib.hid hB;have GA:=good_any _ p (.slice a q cap) l (R.below hB);rw [show goodFB p l=true from decide_eq_true hg] at GA;have HG:=Lib.hid GA;have SS:=Lib.hid S;have n1:0≤n:=hn.1;have n2:n < 64:=by omega
 have HN:Hid (Wf n):=WalkArith.wf_i64 (by omega);have L:=Lib.hid (lv_some hc);have LB:=Lib.hid (lb_some hc);clear h1 hB hz R GA hg hn S hc;unfold file at HG
 go_enter Tryz.func78,Tryz.ntmps78
 go_wp2_with fail;refine HG.out.mono ?_;rintro e w1 ⟨rfl,b1⟩;have B1:=Lib.hid (HB.out.trans (b1.mono HB.out.size));have S1:=SS.out.below B1.out;have c0:w1.cell? ⟨s,0,none⟩=some m:=row_cell S1.row 0;have M:=Lib.hid S1.mp;clear b1 HG HB S1 SS
 go_wp2_with (at_lookup;refine at_look1 rfl _ _ rfl M.out rfl _ rfl HN.out _ L.out _ LB.out ?_)
 go_ret
 exact ⟨rfl,B1.out.alloc B1.out.size _⟩
end Go.Proofs.YtljnkaodhfnbbaaGreatDoor.Fs
namespace Go.Proofs.YtljnkaodhfnbbaaGreatDoor.Fs
open Go.RowKit Go.Maps
open Fl (R4 z4 K4 rec4 rat goodF goodFB okR okL doE newR file arr4 row_cell row_frozen good_any)
open Rw (Rd Ow At)
attribute [local irreducible] Sd.wpSd wpQuiet Sf.wpSf
structure AddC (s:Nat) (m:Value) (d:Int) (g:Nat) (p:Int) (v:Value) (W:World):Prop where
 row:W.heap[s]? = some (.cells #[m,.int .i64 d] 178 (0,0))
 box:W.heap[g]? = some (.cells #[.int .i64 p,v] 70 (0,0))
theorem mk_eql (b:Option Nat) (W:World):(binOp .eql 176 (.map b) (.map none)).run Tryz.prog W = .ok (.bool b.isNone) W:=run_eql_map_nil W _ _ _ b Tryz.underlying176
theorem off_s {w:World} {v:Value} {l:List R4} {s:Nat} {o:Option Nat} {d:Int} {T:TypeId} (R:Rd K4 w v l) (h0:0 < l.length) (row:w.heap[s]? = some (.cells #[.map o,.int .i64 d] T (0,0))):∀ k,v.ownBlock=some k→k=s→False:=fun k hk e=>by
 obtain ⟨a,cap,rfl,_,_,h3⟩:=R;obtain ⟨b,off,rfl,hA⟩:=h3 h0;obtain rfl:b=k:=by simpa [Value.ownBlock] using hk
 subst e;have c:=hA 0 h0 0 _ rfl;have r:=row_cell row (off+0 * 4+0);have:w.cell? ⟨b,off+0 * 4+0,none⟩=some (.int .u8 (l.getD 0 z4).1):=c;rw [r] at this
 match off,this with
 | 0,h=>simp at h
 | 1,h=>simp at h
 | k+2,h=>simp at h
set_option maxHeartbeats 2000000 in
theorem add_some {w:World} {s b:Nat} {F:Nat→Prop} {C:List Ent} {d:Int} (S:Sto w s F (.map (some b)) C d) (n p:Int) (a:Option Addr) (q cap:Nat) (l:List R4) (R:Rd K4 w (.slice a q cap) l) (hn:0≤n∧n≤63) (hg:goodF p l) (hl:okL l) (hc:look Ent.n n C=none) :
 Calls Tryz.prog 78 #[.pointer (some ⟨s,0,none⟩),.int .i64 n,.agg #[.int .i64 p,.slice a q cap]] w (AddPost w s F d 0 (put key (n,p,l) (C.map Ent.abs))):=by
 obtain ⟨h1,hB,hz⟩:=box_file w p (.slice a q cap);have HB:=Lib.hid hB;have H1:=Lib.hid h1;have HZ:=Lib.hid hz;have RR:=Lib.hid R;have HL:=Lib.hid hl;have HGD:=Lib.hid hg;have GA:=good_any _ p (.slice a q cap) l (R.below hB);rw [show goodFB p l=true from decide_eq_true hg] at GA;have HG:=Lib.hid GA;have SS:=Lib.hid S;have n1:0≤n:=hn.1;have n2:n < 64:=by omega
 have HN:Hid (Wf n):=WalkArith.wf_i64 (by omega);have L:=Lib.hid (lv_none hc);have LB:=Lib.hid (lb_none hc);have FIN:Hid (∀ (u:Value) W W',Below w.heap.size w W→W.grownBy W' (some b)→Ow K4 W w.heap.size 42 u l→(∀ c:Ent,c.n=n→c.file=file p u→c.l=l→Mp W' F (.map (some b)) (put Ent.n c C))→AddPost w s F d 0 (put key (n,p,l) (C.map Ent.abs)) (.returned (.int .i64 0)) W'):=fun u W W' hb hgr ow mp=>by
  obtain ⟨au,cu,rfl,_⟩:=ow.slice;obtain ⟨S1,O1⟩:=S.place (c:=⟨n,p,au,cu,l⟩) hb hgr (mp _ rfl rfl rfl) ow hn hg hl;rw [abs_put] at S1;exact ⟨rfl,S1,O1⟩
 have hne:b≠s:=S.map_ne;have hbl:=S.low b S.mp.isMap.1;have hlen:=S.len;clear h1 hB hz R GA hg hn S hc hl;unfold file at HG
 go_enter Tryz.func78,Tryz.ntmps78
 go_wp2_with fail;generalize (w.alloc (.cells #[.int .i64 p,.slice a q cap] 70))=W at *;refine HG.out.mono ?_;rintro e w1 ⟨rfl,b1⟩;have B1:=Lib.hid (HB.out.trans (b1.mono HB.out.size));have S1:=SS.out.below B1.out;have c0:w1.cell? ⟨s,0,none⟩=some (.map (some b)):=row_cell S1.row 0;have M:=Lib.hid S1.mp;have hz:=HZ.out;have G1:=Lib.hid ((b1.block w.heap.size (by omega)).trans H1.out);have hE:=mk_eql (some b);have B2:=Lib.hid (B1.out.alloc B1.out.size (.cells #[.int .i64 0,.slice none 0 0] 70));have G2:=Lib.hid ((Below.heap_alloc w1 (.cells #[.int .i64 0,.slice none 0 0] 70) w.heap.size (by have:=b1.size;omega)).trans G1.out);have c2:(w1.alloc (.cells #[.int .i64 0,.slice none 0 0] 70)).cell? ⟨s,0,none⟩=some (.map (some b)):=row_cell (SS.out.below B2.out).row 0;clear b1 HG HB S1 G1 H1 hz
 go_wp2_with (at_lookup;refine at_look1 rfl _ _ rfl M.out rfl _ rfl HN.out _ L.out _ LB.out ?_)
 clear c0 c2 M hE B1;generalize (w1.alloc (.cells #[.int .i64 0,.slice none 0 0] 70))=W2 at *;have S2:=Lib.hid (SS.out.below B2.out);have C0:AddC s (.map (some b)) d w.heap.size p (.slice a q cap) W2.drew:=⟨S2.out.row,G2.out⟩;have c0:=Sc.cell_in (C:=AddC s (.map (some b)) d w.heap.size p (.slice a q cap)) (a:=⟨s,0,none⟩) (fun W' h=>row_cell h.row 0);have r0:=Sc.cell_in (C:=AddC s (.map (some b)) d w.heap.size p (.slice a q cap)) (a:=⟨w.heap.size,0,none⟩) (fun W' h=>row_cell h.box 0);have r1:=Sc.cell_in (C:=AddC s (.map (some b)) d w.heap.size p (.slice a q cap)) (a:=⟨w.heap.size,1,none⟩) (fun W' h=>row_cell h.box 1);have ne:Nonempty (Sc.In (AddC s (.map (some b)) d w.heap.size p (.slice a q cap))):=⟨⟨_,C0⟩⟩;have BW:=Lib.hid (B2.out.trans ((Below.refl W2.heap.size W2).drew.mono B2.out.size));refine Sc.start (AddC s (.map (some b)) d w.heap.size p (.slice a q cap)) [(false,0),(false,1),(false,2),(false,3),(false,4),(false,5),(true,6),(true,7)] (by kernel_rfl) (by kernel_rfl) (by kernel_rfl) C0 ?_;dsimp only [Sd.picks,List.getElem?_cons_succ,List.getElem?_cons_zero]
 repeat (refine Sd.lit ?_;quiet_step (fail);refine wpQuiet_nil ?_)
 refine Sd.call (by rfl) (fun K hK=>?_);have CA:=copied_any W2.drew p (.slice a q cap) l (RR.out.below BW.out) (by have:=HGD.out.2.2.2.1;omega);unfold file at CA;go_simp;refine CA.mono ?_;rintro e w3 ⟨u,rfl,o3,b3⟩;have hszz:w.heap.size≤W2.drew.heap.size:=B2.out.size;have B3:=Lib.hid (BW.out.trans (b3.mono hszz));have O3:=Lib.hid (o3.low hszz);have S3:=SS.out.below B3.out;have G3:w3.heap[w.heap.size]? = _:=(b3.block _ (by have:=HZ.out;have:=lt_of_block G2.out;exact this)).trans C0.box;refine hK _ _ (Sc.Cl.of ⟨S3.row,G3⟩) ?_;clear hK K b3 o3 CA C0 G2 B2 BW c0 r0 r1 S2;have M3:=Lib.hid S3.mp;have R3:=Lib.hid S3.row;have G3':=Lib.hid G3;clear S3 G3;obtain ⟨au,cu,rfl,_⟩:=O3.out.slice;refine Sd.call (by rfl) (fun K hK=>?_);refine wp_put _ _ _ rfl rfl M3.out ⟨n,p,au,cu,l⟩ rfl rfl HN.out (by unfold maxLen;omega) (fun w4 m4 g4=>?_)
 have RES:=Lib.hid (FIN.out _ w3 w4 B3.out g4 O3.out (fun c e1 e2 e3=>by
  obtain ⟨cn,cp,ca,cc,cl⟩:=c;simp only at e1 e3;subst e1 e3;unfold Ent.file Fl.file Ent.sl at e2;injection e2 with e2;have e4:=congrArg (fun t:Array Value=>t[0]?) e2;have e5:=congrArg (fun t:Array Value=>t[1]?) e2
  simp at e4 e5
  obtain ⟨rfl,rfl⟩:=e5;subst e4
  exact m4))
 have hws:=lt_of_block R3.out;have hwg:=lt_of_block G3'.out;refine hK _ _ (Sc.Cl.of ⟨(g4.block s hws (by intro e;injection e with e;exact hne e.symm)).trans R3.out,(g4.block w.heap.size hwg (by intro e;injection e with e;omega)).trans G3'.out⟩) ?_;clear hK K m4 g4 FIN;refine Sd.done ?_;go_wp2
 go_ret
 exact RES.out
set_option maxHeartbeats 2000000 in
theorem add_make {w:World} {s:Nat} {F:Nat→Prop} {C:List Ent} {d:Int} (S:Sto w s F (.map none) C d) (n p:Int) (a:Option Addr) (q cap:Nat) (l:List R4) (R:Rd K4 w (.slice a q cap) l) (hn:0≤n∧n≤63) (hg:goodF p l) (hl:okL l) (hc:look Ent.n n C=none) :
 Calls Tryz.prog 78 #[.pointer (some ⟨s,0,none⟩),.int .i64 n,.agg #[.int .i64 p,.slice a q cap]] w (AddPost w s F d 0 (put key (n,p,l) (C.map Ent.abs))):=by
 obtain ⟨h1,hB,hz⟩:=box_file w p (.slice a q cap);have HB:=Lib.hid hB;have H1:=Lib.hid h1;have HZ:=Lib.hid hz;have RR:=Lib.hid R;have HL:=Lib.hid hl;have HGD:=Lib.hid hg;have GA:=good_any _ p (.slice a q cap) l (R.below hB);rw [show goodFB p l=true from decide_eq_true hg] at GA;have HG:=Lib.hid GA;have SS:=Lib.hid S;have n1:0≤n:=hn.1;have n2:n < 64:=by omega
 have HN:Hid (Wf n):=WalkArith.wf_i64 (by omega);have L:=Lib.hid (lv_none hc);have LB:=Lib.hid (lb_none hc);have HNG:=Lib.hid (And.intro hn (And.intro hg hl));have hlen:=S.len;have hsl:=S.low s S.foot;clear h1 hB hz R GA hg hn S hc hl;unfold file at HG;have hmm:=@run_makeMap Tryz.prog
 go_enter Tryz.func78,Tryz.ntmps78
 go_wp2_with fail;generalize (w.alloc (.cells #[.int .i64 p,.slice a q cap] 70))=W at *;refine HG.out.mono ?_;rintro e w1 ⟨rfl,b1⟩;have B1:=Lib.hid (HB.out.trans (b1.mono HB.out.size));have S1:=SS.out.below B1.out;have c0:w1.cell? ⟨s,0,none⟩=some (.map none):=row_cell S1.row 0;have M:=Lib.hid S1.mp;have hz:=HZ.out;have G1:=Lib.hid ((b1.block w.heap.size (by omega)).trans H1.out);have hE:=mk_eql none;have B2:=Lib.hid (B1.out.alloc B1.out.size (.cells #[.int .i64 0,.slice none 0 0] 70));have G2:=Lib.hid ((Below.heap_alloc w1 (.cells #[.int .i64 0,.slice none 0 0] 70) w.heap.size (by have:=b1.size;omega)).trans G1.out);have S2:=SS.out.below B2.out;have c2:(w1.alloc (.cells #[.int .i64 0,.slice none 0 0] 70)).cell? ⟨s,0,none⟩=some (.map none):=row_cell S2.row 0;have hz2:(w1.alloc (.cells #[.int .i64 0,.slice none 0 0] 70)).heap.size=w1.heap.size+1:=by simp
 have MK:=SS.out.make B2.out;have S3:=(S2.below ((Below.refl _ _).alloc (Nat.le_refl _) (.map #[] 0)));have c3:((w1.alloc (.cells #[.int .i64 0,.slice none 0 0] 70)).alloc (.map #[] 0)).cell? ⟨s,0,none⟩=some (.map none):=row_cell S3.row 0;have f3:((w1.alloc (.cells #[.int .i64 0,.slice none 0 0] 70)).alloc (.map #[] 0)).frozen? ⟨s,0,none⟩=false:=row_frozen S3.row 0;have hgs:w.heap.size≠s:=by omega
 have G3:=Lib.hid ((Below.heap_setCell ((w1.alloc (.cells #[.int .i64 0,.slice none 0 0] 70)).alloc (.map #[] 0)) ⟨s,0,none⟩ (.map (some (w1.heap.size+1))) w.heap.size hgs).trans ((Below.heap_alloc (w1.alloc (.cells #[.int .i64 0,.slice none 0 0] 70)) (.map #[] 0) w.heap.size (by have:=B2.out.size;have:=b1.size;omega)).trans G2.out));rw [hz2] at MK;have S3':=Lib.hid MK.1;have O3':=Lib.hid MK.2;have OS:Only (fun k=>k=s) w ((((w1.alloc (.cells #[.int .i64 0,.slice none 0 0] 70)).alloc (.map #[] 0)).setCell ⟨s,0,none⟩ (.map (some (w1.heap.size+1))))):=(Only.of_below (B2.out.alloc B2.out.size _)).trans (Only.set (fun k=>k=s) _ (a:=⟨s,0,none⟩) rfl _) fun _ _ g=>g;have R3:=Lib.hid (rd_only RR.out (fun h0 k hk e=>off_s RR.out h0 SS.out.row k hk e) OS);clear b1 HG HB S1 G1 H1 hz G2 S2 S3 MK hz2 OS
 go_wp2_with (at_lookup;refine at_look1 rfl _ _ rfl M.out rfl _ rfl HN.out _ L.out _ LB.out ?_)
 clear c0 c2 c3 f3 M hE hmm B2 B1;generalize hb:w1.heap.size+1=b at *;clear hb;generalize (((w1.alloc (.cells #[.int .i64 0,.slice none 0 0] 70)).alloc (.map #[] 0)).setCell ⟨s,0,none⟩ (.map (some b)))=W2 at *;have hne:b≠s:=S3'.out.map_ne;have hcl:C.length < maxLen:=by unfold maxLen;omega
 have hws2:w.heap.size < W2.heap.size:=lt_of_block G3.out;have C0:AddC s (.map (some b)) d w.heap.size p (.slice a q cap) W2.drew:=⟨S3'.out.row,G3.out⟩;have c0:=Sc.cell_in (C:=AddC s (.map (some b)) d w.heap.size p (.slice a q cap)) (a:=⟨s,0,none⟩) (fun W' h=>row_cell h.row 0);have r0:=Sc.cell_in (C:=AddC s (.map (some b)) d w.heap.size p (.slice a q cap)) (a:=⟨w.heap.size,0,none⟩) (fun W' h=>row_cell h.box 0);have r1:=Sc.cell_in (C:=AddC s (.map (some b)) d w.heap.size p (.slice a q cap)) (a:=⟨w.heap.size,1,none⟩) (fun W' h=>row_cell h.box 1);have ne:Nonempty (Sc.In (AddC s (.map (some b)) d w.heap.size p (.slice a q cap))):=⟨⟨_,C0⟩⟩;have BW:Hid (Below W2.heap.size W2 W2.drew):=Lib.hid ((Below.refl W2.heap.size W2).drew);have hFb:=S3'.out.mp.isMap.1;have hbl:=S3'.out.low b hFb;have hbg:w.heap.size≠b:=fun e=>by
  obtain ⟨_,es,cl,hm⟩:=S3'.out.mp.isMap;rw [← e] at hm;have:=G3.out.symm.trans hm
  cases this
 refine Sc.start (AddC s (.map (some b)) d w.heap.size p (.slice a q cap)) [(false,0),(false,1),(false,2),(false,3),(false,4),(false,5),(true,6),(true,7)] (by kernel_rfl) (by kernel_rfl) (by kernel_rfl) C0 ?_;dsimp only [Sd.picks,List.getElem?_cons_succ,List.getElem?_cons_zero]
 repeat (refine Sd.lit ?_;quiet_step (fail);refine wpQuiet_nil ?_)
 refine Sd.call (by rfl) (fun K hK=>?_);have CA:=copied_any W2.drew p (.slice a q cap) l (R3.out.below BW.out) (by have:=HGD.out.2.2.2.1;omega);unfold file at CA;go_simp;refine CA.mono ?_;rintro e w3 ⟨u,rfl,o3,b3⟩;have B3:=Lib.hid (BW.out.trans (b3.mono (Nat.le_refl W2.heap.size)));have O3:Hid (Ow K4 w3 W2.heap.size 42 u l):=o3;have S4:=S3'.out.below B3.out;have G4:w3.heap[w.heap.size]? = _:=(b3.block _ hws2).trans C0.box;refine hK _ _ (Sc.Cl.of ⟨S4.row,G4⟩) ?_;clear hK K b3 o3 CA C0 G3 BW c0 r0 r1 R3;have M3:=Lib.hid S4.mp;have R4':=Lib.hid S4.row;have G3':=Lib.hid G4;clear S4 G4;obtain ⟨au,cu,rfl,_⟩:=O3.out.slice;refine Sd.call (by rfl) (fun K hK=>?_);refine wp_put _ _ _ rfl rfl M3.out ⟨n,p,au,cu,l⟩ rfl rfl HN.out hcl (fun w4 m4 g4=>?_);have RES:Hid (AddPost w s F d 0 (put key (n,p,l) (C.map Ent.abs)) (.returned (.int .i64 0)) w4):=by
  obtain ⟨P1,P2⟩:=S3'.out.place (c:=⟨n,p,au,cu,l⟩) B3.out g4 m4 O3.out HNG.out.1 HNG.out.2.1 HNG.out.2.2;rw [abs_put] at P1;exact ⟨rfl,P1.wide (Fx.trans O3'.out P2.size) (Fx.low SS.out.low (O3'.out.trans' P2).size),O3'.out.trans' P2⟩
 have hws:=lt_of_block R4'.out;have hwg:=lt_of_block G3'.out;refine hK _ _ (Sc.Cl.of ⟨(g4.block s hws (by intro e;injection e with e;exact hne e.symm)).trans R4'.out,(g4.block w.heap.size hwg (by intro e;injection e with e;exact hbg e)).trans G3'.out⟩) ?_;clear hK K m4 g4;refine Sd.done ?_;go_wp2
 go_ret
 exact RES.out
theorem look_abs {C:List Ent} {n:Int} : look key n (C.map Ent.abs)=(look Ent.n n C).map Ent.abs:=abs_look n C
theorem add_any {w:World} {s:Nat} {F:Nat→Prop} {A:Abs} {d:Int} (S:St w s F A d) (n p:Int) (v:Value) (l:List R4) (R:Rd K4 w v l) (hl:okL l) :
 Calls Tryz.prog 78 #[.pointer (some ⟨s,0,none⟩),.int .i64 n,file p v] w (AddPost w s F d (addE A n p l) (addA A n p l)):=by
 obtain ⟨m,C,h,rfl⟩:=S;obtain ⟨a,cap,rfl,_⟩:=R.slice;have no:∀ z e w',addE (C.map Ent.abs) n p l=z→z≠0→(e = .returned (.int .i64 z)∧Below w.heap.size w w')→AddPost w s F d (addE (C.map Ent.abs) n p l) (addA (C.map Ent.abs) n p l) e w':=fun z e w' hz h0 ⟨he,b⟩=>by
  unfold AddPost addA;rw [hz,if_neg h0];exact ⟨he,St.fx ⟨m,C,h,rfl⟩ b,Only.of_below b⟩
 by_cases hn:0≤n∧n≤63
 ·by_cases hg:goodF p l
  ·cases hc:look Ent.n n C with
   | some c=>exact (add_10 h n p a _ cap l R hn hg hc).mono fun e w'=>no 10 e w' (by unfold addE;rw [if_pos hn,if_pos hg,look_abs,hc];rfl) (by decide)
   | none =>
     have e0:addE (C.map Ent.abs) n p l=0:=by unfold addE;rw [if_pos hn,if_pos hg,look_abs,hc];rfl
     unfold addA;rw [e0,if_pos rfl]
     rcases h.mp with ⟨rfl,_⟩ | ⟨b,rfl,_,_⟩
     ·exact add_make h n p a _ cap l R hn hg hl hc
     ·exact add_some h n p a _ cap l R hn hg hl hc
  ·exact (add_2 w s n p a _ cap l R hn hg).mono fun e w'=>no 2 e w' (by unfold addE;rw [if_pos hn,if_neg hg]) (by decide)
 ·exact (add_1 w s n p a _ cap hn).mono fun e w'=>no 1 e w' (by unfold addE;rw [if_neg hn]) (by decide)
end Go.Proofs.YtljnkaodhfnbbaaGreatDoor.Fs
namespace Go.Proofs.YtljnkaodhfnbbaaGreatDoor.Fs
open Go.RowKit Go.Maps
open Fl (R4 z4 K4 rec4 rat goodF goodFB okR okL file arr4 row_cell row_frozen)
open Rw (Rd Ow At)
attribute [local irreducible] Sd.wpSd wpQuiet
theorem grown_of {w w':World} (h:Below w.heap.size w w'):w.grownBy w' none:=⟨h.os,h.tape,h.output,h.size,fun k hk _=>h.block k hk⟩
theorem srt_eq:∀ {A B:Abs},Srt key A→Srt key B→(∀ e,e∈A↔e∈B)→A=B
 | [],[],_,_,_=>rfl
 | [],b :: B,_,_,h=>by have:=(h b).2 (List.mem_cons_self ..);cases this
 | a :: A,[],_,_,h=>by have:=(h a).1 (List.mem_cons_self ..);cases this
 | a :: A,b :: B,ha,hb,h=>by
   obtain ⟨ha1,ha2⟩:=List.pairwise_cons.1 ha;obtain ⟨hb1,hb2⟩:=List.pairwise_cons.1 hb;have e:a=b:=by
    rcases List.mem_cons.1 ((h a).1 (List.mem_cons_self ..)) with e | e
    ·exact e
    ·rcases List.mem_cons.1 ((h b).2 (List.mem_cons_self ..)) with e2 | e2
     ·exact e2.symm
     ·have:=ha1 b e2;have:=hb1 a e;omega
   subst e
   congr 1
   refine srt_eq ha2 hb2 fun e=>⟨fun he=>?_,fun he=>?_⟩
   ·rcases List.mem_cons.1 ((h e).1 (List.mem_cons_of_mem _ he)) with rfl | h2
    ·have:=ha1 e he;omega
    ·exact h2
   ·rcases List.mem_cons.1 ((h e).2 (List.mem_cons_of_mem _ he)) with rfl | h2
    ·have:=hb1 e he;omega
    ·exact h2
theorem St.as {w:World} {s:Nat} {F:Nat→Prop} {A:Abs} {d d':Int} {m:Value} {T:TypeId} (h:St w s F A d) (row:w.heap[s]? = some (.cells #[m,.int .i64 d'] T (0,0))):∃ C,Sto w s F m C d∧C.map Ent.abs=A:=by
 obtain ⟨m',C,h,e⟩:=h;have r:=h.row.symm.trans row;injection r with r;injection r with r _ _;have e4:=congrArg (fun t:Array Value=>t[0]?) r
 simp at e4
 subst e4;exact ⟨C,h,e⟩
theorem below_new1 (W:World) (o:Obj):Below W.heap.size W (W.alloc o):=(Below.refl _ W).alloc (Nat.le_refl _) o
def CopySt (w:World) (A:Abs) (d:Int) (e:Ending) (w':World):Prop:=∃ g F,e = .returned (.pointer (some ⟨g,0,none⟩))∧St w' g F A d∧(∀ k,F k→w.heap.size≤k)∧Below w.heap.size w w'
structure CI (w:World) (b:Nat) (C:List Ent) (d:Int) (wr:World) (left:Lit→Bool) (cnt:Nat) (F:Nat→Prop) (C2:List Ent):Prop where
 rg:wr.ranges Tryz.prog 3 Rh b (w.heap.size+2) C.length (dat C) left cnt
 has:∀ kl,left kl=true→Maps.has (dat C) kl=true
 st:Sto wr (w.heap.size+1) F (.map (some w.heap.size)) C2 d
 mem:∀ e,e∈C2.map Ent.abs↔e∈C.map Ent.abs∧left (.int .i64 e.1)=false
 lo:∀ k,F k→w.heap.size≤k
 off:¬ F (w.heap.size+2)
 bel:Below w.heap.size w wr
theorem copy0 (w:World) (d:Int):Sto ((w.alloc (.map #[] 0)).alloc (.cells #[.map (some w.heap.size),.int .i64 d] 178)) (w.heap.size+1) (fun k=>k=w.heap.size∨k=w.heap.size+1) (.map (some w.heap.size)) [] d:=by
 have hz:(w.alloc (.map #[] 0)).heap.size=w.heap.size+1:=by simp
 have hr:=heap_alloc_new (w.alloc (.map #[] 0)) (.cells #[.map (some w.heap.size),.int .i64 d] 178);rw [hz] at hr;have mp:Mp (w.alloc (.map #[] 0)) (fun k=>k=w.heap.size∨k=w.heap.size+1) (.map (some w.heap.size)) []:=.inr ⟨w.heap.size,rfl,.inl rfl,World.ownsMap_made _ _ _ _⟩;refine ⟨hr,.inr rfl,mp.kept fun b hb=>?_,nofun,nofun,List.Pairwise.nil,OkA.nil,fun k hk=>?_⟩
 ·injection hb with hb
  injection hb with hb;subst hb;exact Below.heap_alloc _ _ _ (by omega)
 ·simp
  omega
set_option maxHeartbeats 4000000 in
theorem copy_some {w:World} {s b:Nat} {F:Nat→Prop} {C:List Ent} {d:Int} (S:Sto w s F (.map (some b)) C d):Calls Tryz.prog 84 #[.pointer (some ⟨s,0,none⟩)] w (CopySt w (C.map Ent.abs) d):=by
 have SS:=Lib.hid S;have hsl:=S.low s S.foot;obtain ⟨hFb,_⟩:=S.mp.isMap;have hbl:=S.low b hFb;have hown:w.ownsMap Tryz.prog 3 Rh b C.length (dat C):=by
  rcases S.mp with ⟨e,_⟩ | ⟨b',e,_,h⟩
  ·cases e
  ·injection e with e
   injection e with e;subst e;exact h
 have hmm:=@run_makeMap Tryz.prog;have e1:(w.alloc (.map #[] 0)).heap.size=w.heap.size+1:=by simp
 have B1:Below w.heap.size w (w.alloc (.map #[] 0)):=(Below.refl w.heap.size w).alloc (Nat.le_refl _) _;have c1:(w.alloc (.map #[] 0)).cell? ⟨s,1,none⟩=some (.int .i64 d):=row_cell (S.below B1).row 1;have S2:=Lib.hid (copy0 w d);have e2:((w.alloc (.map #[] 0)).alloc (.cells #[.map (some w.heap.size),.int .i64 d] 178)).heap.size=w.heap.size+2:=by simp
 have B2:Below w.heap.size w ((w.alloc (.map #[] 0)).alloc (.cells #[.map (some w.heap.size),.int .i64 d] 178)):=B1.alloc B1.size _;have c0:((w.alloc (.map #[] 0)).alloc (.cells #[.map (some w.heap.size),.int .i64 d] 178)).cell? ⟨s,0,none⟩=some (.map (some b)):=row_cell (S.below B2).row 0;have own2:((w.alloc (.map #[] 0)).alloc (.cells #[.map (some w.heap.size),.int .i64 d] 178)).ownsMap Tryz.prog 3 Rh b C.length (dat C):=hown.kept (grown_of B2) (by simp);clear S hown
 go_enter Tryz.func84,Tryz.ntmps84
 go_wp2_with (first
  | (at_range;refine wpList_range_own _ rfl _ 176 rfl 3 70 law Tryz.underlying176 _ b C.length _ rfl own2 ?_;intro w0 hrg0 hg0 hs0)
  | fail)
 go_frame
 clear c0 c1 hmm;rw [e2] at hrg0 hs0 ⊢
 go_loopw [4] (fun _ wr=>∃ left cnt F2 C2,Hid (CI w b C d wr left cnt F2 C2)) (fun _ wr=>wr.rangeLeft b (w.heap.size+2))
 case atStart =>
  have B3:Below ((w.alloc (.map #[] 0)).alloc (.cells #[.map (some w.heap.size),.int .i64 d] 178)).heap.size ((w.alloc (.map #[] 0)).alloc (.cells #[.map (some w.heap.size),.int .i64 d] 178)) w0:=(Below.refl _ _).grown hg0 (Nat.le_refl _) (fun j hj=>by cases hj);refine ⟨_,_,_,[],⟨hrg0,fun kl h=>h,S2.out.below B3,fun e=>⟨nofun,fun ⟨h1,h2⟩=>?_⟩,fun k hk=>by rcases hk with rfl | rfl <;> omega,fun hk=>by rcases hk with hk | hk <;> omega,B2.trans (B3.mono (by omega))⟩⟩;obtain ⟨c,hc,rfl⟩:=List.mem_map.1 h1;rw [dat_has,lb,Option.isSome_eq_false_iff,Option.isNone_iff_eq_none] at h2;exact absurd rfl (look_none.1 h2 c hc)
 case round =>
  obtain ⟨left,cnt,F2,C2,I⟩:=hrel;have hrg:=I.out.rg;clear hrg0 hg0 hs0 own2 B1 B2 e1 e2 S2
  go_wp2_with (first
   | (at_next;refine wpList_next_ranges _ rfl _ rfl 3 law Rh (Value.int .i64) id (fun key kl hkey=>by obtain ⟨x,rfl,_⟩:=Maps.keyOf_int_inv Tryz.underlying3 hkey;exact ⟨x,rfl⟩) (fun v y _=>⟨v,rfl⟩) b (w.heap.size+2) C.length _ _ _ rfl hrg ?_ ?_)
   | fail)
  ·intro hc0 hl0
   clear hrg;have RES:Hid (CopySt w (C.map Ent.abs) d (.returned (.pointer (some ⟨w.heap.size+1,0,none⟩))) wr):=by
    have e:C2.map Ent.abs=C.map Ent.abs:=srt_eq I.out.st.ok.srt SS.out.ok.srt fun e=>(I.out.mem e).trans ⟨fun h=>h.1,fun h=>⟨h,hl0 _⟩⟩;exact ⟨_,F2,rfl,⟨_,C2,I.out.st,e⟩,I.out.lo,I.out.bel⟩
   go_wp2
   go_ret
   exact RES.out
  ·intro x v kl y y2 w1 cnt1 hkey hlk hv hat hrg1 hlt hg1 hs1 hen
   obtain ⟨x',ex,rfl,hwx⟩:=Maps.keyOf_int_inv Tryz.underlying3 hkey
   cases ex
   have hh:=I.out.has _ hlk;rw [dat_has] at hh;obtain ⟨c,hc⟩:∃ c,look Ent.n x C=some c:=Option.isSome_iff_exists.1 hh;have hv':v=c.file:=by
    have h1:=hat (.held (file 0 (.slice none 0 0)));rw [dat_at,lv_some hc] at h1;obtain ⟨h2,_⟩:DataW.held v=y∧[]=y2:=by simpa [Rh] using hv
    have h3:=h1.trans h2.symm;injection h3 with h3;exact h3.symm
   subst hv';obtain ⟨fo,fg,fl,fn,fr,fm⟩:=SS.out.find hc;have hsb:w.heap.size+2 < w1.heap.size:=by have:=hrg.lt;omega
   have B1:Below w.heap.size w w1:=I.out.bel.grown hg1 I.out.bel.size (fun j hj=>by cases hj;omega);have O1:Only (fun k=>k=w.heap.size+2) wr w1:=Only.grown rfl hg1;have S1:=Lib.hid (I.out.st.only (G:=fun k=>k=w.heap.size+2) (fun k hk (e:k=w.heap.size+2)=>I.out.off (e ▸ hk)) O1);have R1:=Lib.hid (((SS.out.below B1).own c fm).rd);have BB:=Lib.hid B1;have RG:=Lib.hid hrg1;have RG0:=Lib.hid hrg;have FF:=Lib.hid (And.intro fo (And.intro fg (And.intro fl (And.intro fr hlt))));have HM:=Lib.hid (And.intro hlk hwx);clear hkey hh hat hv hc fo fg fl hrg1 hg1 hs1 B1 O1 fr hrg hlt hlk;obtain ⟨cn,cp,ca,cc,cl⟩:=c;simp only at fn;subst fn;unfold Ent.sl at R1;simp only at R1;have hq:cl.length≤260:=by have:cl.length≤256:=FF.out.2.1.2.2.2.1;omega
   unfold Ent.file Fl.file Ent.sl at hen ⊢;simp only at hen ⊢;go_upto_region 7 with fail;have H1:=heap_alloc_new w1 (.cells #[.int .i64 cp,.slice ca cl.length cc] 70);have hb1:=below_new1 w1 (.cells #[.int .i64 cp,.slice ca cl.length cc] 70);have hz2:(w1.alloc (.cells #[.int .i64 cp,.slice ca cl.length cc] 70)).heap.size=w1.heap.size+1:=by simp
   have W2g:Below w1.heap.size w1 (w1.alloc (.cells #[.int .i64 cp,.slice ca cl.length cc] 70)).drew:=hb1.trans ((Below.refl w1.heap.size _).drew);have S2:=Lib.hid (S1.out.below W2g);have C0:AddC (w.heap.size+1) (.map (some w.heap.size)) d w1.heap.size cp (.slice ca cl.length cc) (w1.alloc (.cells #[.int .i64 cp,.slice ca cl.length cc] 70)).drew:=⟨S2.out.row,H1⟩;have WB:=Lib.hid W2g;have hsz:w1.heap.size+1=(w1.alloc (.cells #[.int .i64 cp,.slice ca cl.length cc] 70)).drew.heap.size:=hz2.symm;clear H1 hb1 hz2 W2g hen;generalize (w1.alloc (.cells #[.int .i64 cp,.slice ca cl.length cc] 70))=W2 at *;have k0:=Sc.cell_in (C:=AddC (w.heap.size+1) (.map (some w.heap.size)) d w1.heap.size cp (.slice ca cl.length cc)) (a:=⟨w.heap.size+1,0,none⟩) (fun W' h=>row_cell h.row 0);have r0:=Sc.cell_in (C:=AddC (w.heap.size+1) (.map (some w.heap.size)) d w1.heap.size cp (.slice ca cl.length cc)) (a:=⟨w1.heap.size,0,none⟩) (fun W' h=>row_cell h.box 0);have r1:=Sc.cell_in (C:=AddC (w.heap.size+1) (.map (some w.heap.size)) d w1.heap.size cp (.slice ca cl.length cc)) (a:=⟨w1.heap.size,1,none⟩) (fun W' h=>row_cell h.box 1);have ne:Nonempty (Sc.In (AddC (w.heap.size+1) (.map (some w.heap.size)) d w1.heap.size cp (.slice ca cl.length cc))):=⟨⟨_,C0⟩⟩;refine Sc.start (AddC (w.heap.size+1) (.map (some w.heap.size)) d w1.heap.size cp (.slice ca cl.length cc)) [(false,0),(false,1),(false,2),(false,3),(false,4),(false,5),(true,6),(true,7)] (by kernel_rfl) (by kernel_rfl) (by kernel_rfl) C0 ?_;dsimp only [Sd.picks,List.getElem?_cons_succ,List.getElem?_cons_zero]
   repeat (refine Sd.lit ?_;quiet_step (fail);refine wpQuiet_nil ?_)
   clear k0 r0 r1;generalize W2.drew=Wd at *;refine Sd.call (by rfl) (fun K hK=>?_);have CA:=copied_any Wd cp (.slice ca cl.length cc) cl (R1.out.below WB.out) hq;unfold file at CA;go_simp;refine CA.mono ?_;rintro e w3 ⟨u,rfl,o3,b3⟩;have S3:=S2.out.below b3;have W3:=Lib.hid (WB.out.trans (b3.mono (by omega)));have G3:w3.heap[w1.heap.size]? = _:=(b3.block _ (by omega)).trans C0.box;refine hK _ _ (Sc.Cl.of ⟨S3.row,G3⟩) ?_;have O3:=Lib.hid o3;have M3:=Lib.hid S3.mp;have T3:=Lib.hid S3;have RR3:=Lib.hid S3.row;have GG3:=Lib.hid G3;have BD:=Lib.hid b3;clear hK K CA b3 o3 S3 G3 C0;obtain ⟨au,cu,rfl,_⟩:=O3.out.slice;refine Sd.call (by rfl) (fun K hK=>?_);have hl2:=T3.out.len;refine wp_put _ _ _ rfl rfl M3.out ⟨cn,cp,au,cu,cl⟩ rfl rfl HM.out.2 (by unfold maxLen;omega) (fun w4 m4 g4=>?_);have hws:=lt_of_block RR3.out;have hwg:=lt_of_block GG3.out;have row4:=(g4.block (w.heap.size+1) hws (by intro e;injection e with e;omega)).trans RR3.out;refine hK _ _ (Sc.Cl.of ⟨row4,(g4.block w1.heap.size hwg (by intro e;injection e with e;omega)).trans GG3.out⟩) ?_;have NEW:∃ F4 C4,Hid (CI w b C d w4 (fun z=>left z && !z.sameKey (.int .i64 cn)) cnt1 F4 C4):=by
    obtain ⟨P1,P2⟩:=S2.out.place (c:=⟨cn,cp,au,cu,cl⟩) BD.out g4 m4 O3.out FF.out.2.2.2.1 FF.out.2.1 FF.out.2.2.1;obtain ⟨C4,P3,P4⟩:=P1.as row4;have rg3:=RG.out.kept (grown_of W3.out) (by simp) (by simp);have rg4:=rg3.kept g4 (fun e=>by have:=Option.some.inj e;omega) (fun e=>by have:=Option.some.inj e;omega);have hB1:=hsb;have hb3:=W3.out.size;refine ⟨_,C4,⟨rg4,fun kl h=>I.out.has kl (by simp at h;exact h.1),P3,fun e=>?_,fun k hk=>?_,fun hk=>?_,(BB.out.trans (W3.out.mono (by omega))).grown g4 (by omega) (fun j hj=>by cases hj;exact Nat.le_refl _)⟩⟩
    ·rw [P4,abs_put,mem_put,I.out.mem]
     show _↔_∧(left (.int .i64 e.1) && !(Lit.int .i64 e.1).sameKey (.int .i64 cn))=false
     have hin:(cn,cp,cl)∈C.map Ent.abs:=List.mem_map.2 ⟨_,fm,rfl⟩;have hsk:(Lit.int .i64 e.1).sameKey (.int .i64 cn)=decide (e.1=cn):=by simp [Lit.sameKey]
     rw [hsk]
     constructor
     ·rintro (rfl | ⟨⟨h1,h2⟩,h3⟩)
      ·exact ⟨hin,by simp [Ent.abs]⟩
      ·exact ⟨h1,by rw [h2];rfl⟩
     ·rintro ⟨h1,h2⟩
      by_cases he:e.1=cn
      ·left
       have q1:=look_at SS.out.ok.srt h1;have q2:=look_at SS.out.ok.srt hin;have:look key (key e) (C.map Ent.abs)=look key (key (cn,cp,cl)) (C.map Ent.abs):=by rw [show key e=key (cn,cp,cl) from he]
       exact Option.some.inj (q1.symm.trans (this.trans q2))
      ·right
       simp [he] at h2
       exact ⟨⟨h1,h2⟩,he⟩
    ·rcases hk with hk | ⟨hk,_⟩
     ·exact I.out.lo k hk
     ·omega
    ·rcases hk with hk | ⟨hk,_⟩
     ·exact I.out.off hk
     ·omega
   clear hK K m4 g4 row4;refine Sd.done ?_;obtain ⟨F4,C4,NEW⟩:=NEW;have MS:Hid (w4.rangeLeft b (w.heap.size+2) < wr.rangeLeft b (w.heap.size+2)):=by
    show _ < _
    rw [NEW.out.rg.left_eq,RG0.out.left_eq];exact FF.out.2.2.2.2
   go_wp2
   go_roundw
   case rel=>exact ⟨_,_,_,_,NEW⟩
   case measure=>exact MS.out
set_option maxHeartbeats 1000000 in
theorem copy_none {w:World} {s:Nat} {F:Nat→Prop} {C:List Ent} {d:Int} (S:Sto w s F (.map none) C d):Calls Tryz.prog 84 #[.pointer (some ⟨s,0,none⟩)] w (CopySt w (C.map Ent.abs) d):=by
 obtain rfl:C = []:=by
  rcases S.mp with ⟨_,e⟩ | ⟨b,e,_⟩
  ·exact e
  ·cases e
 have hmm:=@run_makeMap Tryz.prog;have e1:(w.alloc (.map #[] 0)).heap.size=w.heap.size+1:=by simp
 have B1:Below w.heap.size w (w.alloc (.map #[] 0)):=(Below.refl w.heap.size w).alloc (Nat.le_refl _) _;have c1:(w.alloc (.map #[] 0)).cell? ⟨s,1,none⟩=some (.int .i64 d):=row_cell (S.below B1).row 1;have S2:=copy0 w d;have e2:((w.alloc (.map #[] 0)).alloc (.cells #[.map (some w.heap.size),.int .i64 d] 178)).heap.size=w.heap.size+2:=by simp
 have B2:Below w.heap.size w ((w.alloc (.map #[] 0)).alloc (.cells #[.map (some w.heap.size),.int .i64 d] 178)):=B1.alloc B1.size _;have c0:((w.alloc (.map #[] 0)).alloc (.cells #[.map (some w.heap.size),.int .i64 d] 178)).cell? ⟨s,0,none⟩=some (.map none):=row_cell (S.below B2).row 0;have hrg:=run_range_nilMap (P:=Tryz.prog) ((w.alloc (.map #[] 0)).alloc (.cells #[.map (some w.heap.size),.int .i64 d] 178)) 176 3 70 Tryz.underlying176;have hnx:∀ ty,(Instr.next (.pointer (some ⟨((w.alloc (.map #[] 0)).alloc (.cells #[.map (some w.heap.size),.int .i64 d] 178)).heap.size,0,none⟩)) false ty).run Tryz.prog (((w.alloc (.map #[] 0)).alloc (.cells #[.map (some w.heap.size),.int .i64 d] 178)).alloc (.mapIter none 0 #[] 0))=_:=fun ty=>run_next_nilMap _ ty 0 0 #[];have RES:Hid (CopySt w (([]:List Ent).map Ent.abs) d (.returned (.pointer (some ⟨w.heap.size+1,0,none⟩))) (((w.alloc (.map #[] 0)).alloc (.cells #[.map (some w.heap.size),.int .i64 d] 178)).alloc (.mapIter none 0 #[] 0))) :=
  ⟨_,_,rfl,⟨_,[],S2.below ((Below.refl _ _).alloc (Nat.le_refl _) _),rfl⟩,fun k hk=>by rcases hk with rfl | rfl <;> omega,B2.alloc B2.size _⟩
 rw [e2] at hrg hnx;clear S S2 B1 B2
 go_enter Tryz.func84,Tryz.ntmps84
 go_wp2;refine wp_loop_rounds 1 ?_;rw [rounds_succ];go_wp2
 go_ret
 exact RES.out
theorem copy_any {w:World} {s:Nat} {F:Nat→Prop} {A:Abs} {d:Int} (S:St w s F A d):Calls Tryz.prog 84 #[.pointer (some ⟨s,0,none⟩)] w (CopySt w A d):=by
 obtain ⟨m,C,h,rfl⟩:=S
 rcases h.mp with ⟨rfl,_⟩ | ⟨b,rfl,_⟩
 ·exact copy_none h
 ·exact copy_some h
end Go.Proofs.YtljnkaodhfnbbaaGreatDoor.Fs
namespace Go.Proofs.YtljnkaodhfnbbaaGreatDoor.Fs
open Go.RowKit Go.Maps Go.Sort Go.Shelf
open Rw (Rd Ow At)
theorem sortsL (m:Nat):AnyZI.SortsIn Tryz.prog sortedL_ren Fence.wide m :=
 ⟨fun blk off cap ss W hH hblk hsz=>callsIn_wide.2 (AnyM.slices_Sort_int sortL blk off cap ss W hH hblk hsz),
  fun p cap W=>callsIn_wide.2 (AnyM.slices_Sort_int_none sortL p cap W)⟩
theorem keys_any (mb:Option Nat) (W:World):Calls Tryz.prog 129 #[.map mb] W fun e w'=>e = .returned (.func (.func 175) #[] #[.pointer (some ⟨W.heap.size,0,none⟩)])∧w'=W.alloc (.cells #[.map mb] 176) :=
 (callsIn_wide (n:=5)).1 (AnyZI.keys_in keysL Fence.wide 5 trivial rfl mb W)
def KI:Rw.Kind Int:=Rw.int .i64
theorem flat_int:∀ l:List Int,KI.flat l=l.map encZ
 | []=>rfl
 | a :: r=>by
   have:=flat_int r
   show [Value.int .i64 a] ++ KI.flat r=_
   rw [this]
   rfl
theorem keys_dat (C:List Ent):intKeys (dat C)=C.map Ent.n:=by
 show (C.map ent).map (fun p=>Go.intOf p.1)=_
 rw [List.map_map]
 rfl
theorem sort_keys {C:List Ent} (h:Srt Ent.n C) {ss:List Int} (hp:ss.Perm (intKeys (dat C))):ss.mergeSort (fun x y=>decide (x≤y))=C.map Ent.n:=by
 have e:=mergeSort_of_perm_i hp
 show ss.mergeSort leI=_
 rw [e,keys_dat];refine List.mergeSort_of_pairwise ?_;rw [List.pairwise_map];exact h.imp fun h=>by simp only [leI,decide_eq_true_eq];exact Int.le_of_lt h
theorem size_dat (C:List Ent):Maps.size (dat C)=C.length:=by unfold dat Maps.size;simp
def SortPost (w:World) (C:List Ent) (e:Ending) (w':World):Prop:=∃ v,e = .returned v∧Ow KI w' w.heap.size 3 v (C.map Ent.n)∧Below w.heap.size w w'
set_option maxHeartbeats 1000000 in
theorem sorted_any {w:World} {F:Nat→Prop} {mb:Option Nat} {C:List Ent} (M:Mp w F (.map mb) C) (hs:Srt Ent.n C) (hl:C.length≤64) :
 Calls Tryz.prog 128 #[.func (.func 175) #[] #[.pointer (some ⟨w.heap.size,0,none⟩)]] (w.alloc (.cells #[.map mb] 176)) (SortPost w C):=by
 have B0:Below w.heap.size w (w.alloc (.cells #[.map mb] 176)):=(Below.refl w.heap.size w).alloc (Nat.le_refl _) _
 rcases M with ⟨e,rfl⟩ | ⟨b,e,_,hown⟩
 ·obtain rfl:mb=none:=by injection e
  have hseq:SeqGives Fence.wide 2 Tryz.prog 175 #[.pointer (some ⟨w.heap.size,0,none⟩)] encZ (fun ss:List Int=>ss = []) 0 (w.alloc (.cells #[.map none] 176)) :=
   AnyZI.keys_gives_nil (ρ:=keysL_ren) { keysL with } Fence.wide _ trivial rfl w.heap.size _ (by simp) (by simp)
  have cS:=AnyZI.sorted_in sortedL Fence.wide 5 trivial trivial trivial trivial rfl (by omega) (sortsL _) (enters_of Tryz.func174 (by kernel_rfl) rfl) 175 #[.pointer (some ⟨w.heap.size,0,none⟩)] trivial (enters_of Tryz.func175 (by kernel_rfl) rfl) _ 0 (Nat.zero_le _) (by omega) _ hseq;refine ((callsIn_wide (n:=5)).1 cS).mono ?_;rintro e w' ⟨v,ss,rfl,rfl,hrow,hnil,hb⟩;obtain rfl:v = .slice none 0 0:=hnil.2 rfl;exact ⟨_,rfl,Ow.nil _ _ _,B0.trans (hb.mono (by simp))⟩
 ·obtain rfl:mb=some b:=by injection e
  have hbl:=hown.lt;have hseq:SeqGives Fence.wide 2 Tryz.prog 175 #[.pointer (some ⟨w.heap.size,0,none⟩)] encZ (fun ss=>ss.Perm (intKeys (dat C))) (Maps.size (dat C)) (w.alloc (.cells #[.map (some b)] 176)) :=
   AnyZI.keys_gives (ρ:=keysL_ren) { keysL with } Fence.wide _ trivial rfl (by omega) w.heap.size b C.length (dat C) _ (by simp) (by simp) (by
    obtain ⟨es,clock,hb,Ft,hs,hD⟩:=hown
    exact ⟨es,clock,(Below.heap_alloc _ _ b hbl).trans hb,Ft,hs,hD⟩)
  have cS:=AnyZI.sorted_in sortedL Fence.wide 5 trivial trivial trivial trivial rfl (by omega) (sortsL _) (enters_of Tryz.func174 (by kernel_rfl) rfl) 175 #[.pointer (some ⟨w.heap.size,0,none⟩)] trivial (enters_of Tryz.func175 (by kernel_rfl) rfl) _ _ (by rw [size_dat];unfold maxLen;omega) (by rw [size_dat];omega) _ hseq;refine ((callsIn_wide (n:=5)).1 cS).mono ?_;rintro e w' ⟨v,ss,rfl,hS,hrow,hnil,hb⟩;refine ⟨v,rfl,?_,B0.trans (hb.mono (by simp))⟩;have e1:=sort_keys hs hS;have e2:ss.length=(C.map Ent.n).length:=by rw [← keys_dat];exact hS.length_eq
  show w'.ownsRow w.heap.size 3 1 v (C.map Ent.n).length (KI.flat (C.map Ent.n))
  rw [flat_int,← e1,List.length_mergeSort];exact ownsRow_base_a hrow (by simp)
end Go.Proofs.YtljnkaodhfnbbaaGreatDoor.Fs
namespace Go.Proofs.YtljnkaodhfnbbaaGreatDoor.Fs
open Go.RowKit Go.Maps
open Fl (R4 z4 K4 rec4 rat goodF goodFB okR okL file row_cell row_frozen)
open Rw (Rd Ow At)
theorem infoE3:(Tryz.prog.info? 72).map (fun i=>(i.zero,i.size,i.bytes))=some (some (.agg #[.int .i64 0,.int .i64 0,.slice none 0 0]),3,40):=by kernel_rfl
theorem run_buildN (n p:Int) (a:Option Addr) (q cap:Nat) (w:World):(Instr.build 72 #[(0,.int .i64 n),(1,.agg #[.int .i64 p,.slice a q cap])]).run Tryz.prog w = .ok (.agg #[.int .i64 n,.int .i64 p,.slice a q cap]) w:=by kernel_rfl
theorem copied_agg (w:World) (p:Int) (v:Value) (l:List R4) (q:Nat) (R:Rd K4 w v l) (hl:l.length≤260) (hq:l.length=q):Calls Tryz.prog 130 #[.agg #[.int .i64 p,v]] w fun e w'=>∃ a cap,e = .returned (.agg #[.int .i64 p,.slice a q cap])∧Ow K4 w' w.heap.size 42 (.slice a q cap) l∧Below w.heap.size w w' :=
 (copied_any w p v l R hl).mono fun e w' ⟨u,h1,h2,h3⟩=>by
   obtain ⟨a,cap,rfl,_⟩:=h2.slice;rw [hq] at h1 h2;exact ⟨a,cap,h1,h2,h3⟩
theorem ow_far {α:Type} {K:Rw.Kind α} {w w':World} {B E T:Nat} {v:Value} {l:List α} (h:Ow K w B E v l) (hne:E≠T) (f:Rw.Far T w w'):Ow K w' B E v l:=by
 obtain ⟨h1,h2⟩:=h;refine ⟨h1,?_⟩
 rcases h2 with h2 | ⟨g,cap,cur,e,hB,hh,r⟩
 ·exact .inl h2
 ·exact .inr ⟨g,cap,cur,e,hB,f g _ _ hh hne,r⟩
def FRel (w:World) (C:List Ent) (v:Value) (k:Nat) (wr:World):Prop:=∃ L:List Ent,Ow E3 wr w.heap.size 72 v L∧L.map Ent.abs=(C.take k).map Ent.abs∧(∀ c∈L,Ow K4 wr w.heap.size 42 c.sl c.l)∧Below w.heap.size w wr
def FilesPost (w:World) (A:Abs) (e:Ending) (w':World):Prop:=∃ v,e = .returned v∧(∀ F:Nat→Prop,(∀ k,F k→k < w.heap.size)→Ls F w' v A)∧Below w.heap.size w w'
theorem ls_of {w w2 w':World} {C:List Ent} {v:Value} {A:Abs} (h:FRel w2 C v C.length w') (hA:C.map Ent.abs=A) (hb:w.heap.size≤w2.heap.size) (F:Nat→Prop) (hF:∀ k,F k→k < w.heap.size):Ls F w' v A:=by
 obtain ⟨L,o,e,r,b⟩:=h;rw [List.take_length] at e;exact ⟨L,⟨o.rd,fun _ k hk g=>by have:=(ow_new o k hk).1;have:=hF k g;omega,fun c hc=>(r c hc).rd,fun c hc _ k hk g=>by have:=(ow_new (r c hc) k hk).1;have:=hF k g;omega⟩,e.trans hA⟩
set_option maxHeartbeats 4000000 in
theorem files_any {w:World} {s:Nat} {F:Nat→Prop} {A:Abs} {d:Int} (S:St w s F A d):Calls Tryz.prog 70 #[.pointer (some ⟨s,0,none⟩)] w (FilesPost w A):=by
 obtain ⟨m,C,h,hA⟩:=S;obtain ⟨mb,rfl⟩:∃ mb,m = .map mb:=by
  rcases h.mp with ⟨e,_⟩ | ⟨b,e,_⟩
  ·exact ⟨_,e⟩
  ·exact ⟨_,e⟩
 have srt:Srt Ent.n C:=(map_srt (κ:=Ent.n) (κ':=key) abs_key).1 h.ok.srt;have c0:w.cell? ⟨s,0,none⟩=some (.map mb):=row_cell h.row 0;have SO:=Lib.hid (sorted_any h.mp srt h.len);have SS:=Lib.hid h;have HL:=Lib.hid h.len;have HS:=Lib.hid srt;have HA:=Lib.hid hA;clear h hA srt
 go_enter Tryz.func70,Tryz.ntmps70
 go_wp2_with (first
  | (go_at_call 129;refine (keys_any _ _).mono ?_;rintro e w1 ⟨rfl,rfl⟩)
  | (go_at_call 128;refine SO.out.mono ?_;rintro e w2 ⟨vk,rfl,ok,b2⟩;obtain ⟨ka,kc,rfl,hkc⟩:=ok.slice;rw [List.length_map] at ok ⊢))
 have OK:=Lib.hid ok;have B2:=Lib.hid b2;have S2:=Lib.hid (SS.out.below b2);clear c0 ok b2 SO SS hkc;generalize hn:C.length=n at *;have HN:=Lib.hid hn;clear hn
 go_loopw [3,15] (fun v i wr=>∃ k:Nat,k≤n∧i = .int .i64 k∧Hid (FRel w2 C v k wr)) (fun _ i _=>n - (intOf i).toNat)
 case atStart=>exact ⟨0,Nat.zero_le _,rfl,[],Ow.nil _ _ _,by simp,nofun,Below.refl _ _⟩
 case round =>
  obtain ⟨k,hk,rfl,R⟩:=hrel
  by_cases hlt:k < n
  ·obtain ⟨L,oL,eL,rL,bL⟩:=R.out
   have hkC:k < C.length:=by have:=HN.out;omega
   obtain ⟨⟨cn,cp,ca,cc,cl⟩,hc⟩:∃ c:Ent,C[k]? = some c:=⟨_,List.getElem?_eq_getElem hkC⟩;obtain ⟨g,off,ek,hK⟩:∃ g cap,(Value.slice ka n kc) = .slice (some ⟨g,0,none⟩) n cap∧w2.cell? ⟨g,k,none⟩=some (.int .i64 cn):=by
    obtain ⟨g,cap,e1,_,_,_,_,_,hAt⟩:=OK.out.form (by rw [List.length_map];omega);rw [List.length_map,HN.out] at e1;have c:=hAt k (by rw [List.length_map];exact hkC) 0 (.int .i64 ((C.map Ent.n).getD k 0)) rfl;have e0:(C.map Ent.n).getD k 0=cn:=by rw [List.getD_eq_getElem?_getD,List.getElem?_map,hc];rfl
    rw [e0] at c;have e:0+k * KI.n+0=k:=by show 0+k * 1+0=k;omega
    rw [e] at c;exact ⟨g,cap,e1,c⟩
   obtain ⟨rfl,rfl⟩:ka=some ⟨g,0,none⟩∧kc=off:=by injection ek with e1 _ e3;exact ⟨e1,e3⟩
   have kr:=(bL.cell (World.block_lt_of_cell? _ _ hK)).trans hK;have SR:=S2.out.below bL;have c0:wr.cell? ⟨s,0,none⟩=some (.map mb):=row_cell SR.row 0;have M:=Lib.hid SR.mp;have hin:=List.mem_of_getElem? hc;have hl:look Ent.n cn C=some ⟨cn,cp,ca,cc,cl⟩:=look_at HS.out hin;have LV:=Lib.hid (lv_some hl);obtain ⟨ho,hg,-,-,hnm,-⟩:=SR.find hl;have WN:Hid (Wf cn):=WalkArith.wf_i64 (by omega);have RC:=Lib.hid (ho.rd);have GL:Hid (cl.length≤260):=by have:=hg.2.2.2.1;show cl.length≤260;simp only at this;omega
   have TK:Hid (∀ e:Ent,e.abs=(cn,cp,cl)→(L ++ [e]).map Ent.abs=(C.take (k+1)).map Ent.abs):=fun e he=>by
    rw [List.take_add_one,hc,List.map_append,List.map_append,eL]
    show _ ++ [e.abs]=_ ++ [(cn,cp,cl)]
    rw [he]
   have LL:Hid (L.length≤64):=by
    have e:=congrArg List.length eL;rw [List.length_map,List.length_map,List.length_take] at e;have:=HL.out
    show _≤64
    omega
   have OL:=Lib.hid oL;have RL:=Lib.hid rL;have BL:=Lib.hid bL;obtain ⟨va,vc,ev,-⟩:=oL.slice;clear R hK ek SR hin hl ho hg hnm oL rL bL eL hkC hc;unfold Ent.sl at RC;simp only at *;generalize hq:cl.length=q at *;have HQ:=Lib.hid hq;clear hq;generalize hLl:L.length=Ln at *;have HLl:=Lib.hid hLl;subst ev;clear hLl;have CA:=fun W (hb:Below wr.heap.size wr W)=>copied_agg W cp (.slice ca q cc) cl q (by have:=RC.out.below hb;exact this) (by rw [HQ.out];exact GL.out) HQ.out;have CC:=Lib.hid CA;clear CA;have hF:=run_fieldF;have hBN:=run_buildN;have hn64:n≤64:=HL.out;have hw2:Hid (w2.heap.size≤wr.heap.size):=BL.out.size
   go_wp2_with (first
    | (at_lookup;refine at_look0 rfl _ _ rfl M.out rfl _ rfl WN.out _ LV.out ?_)
    | (go_at_call 130;refine (CC.out _ (Below.refl _ _)).mono ?_;rintro e w3 ⟨ua,uc,rfl,o3,b3⟩;have O3:=Lib.hid o3;have B3:=Lib.hid b3;clear o3 b3)
    | (at_builtin;refine Rw.push_far (K:=E3) Tryz.underlying47 infoE3 rfl (by omega) rfl _ _ rfl w2.heap.size _ L ?e0 ((OL.out.keep B3.out).alloc _) _ ⟨cn,cp,ua,uc,cl⟩ rfl ?d1 ?d2 ?d3 ?_))
   case e0=>rfl
   case d1 =>
    intro j u hu
    unfold E3 Ent.sl at hu;simp only [HQ.out] at hu
    match j,hu with
    | 0,hu=>simp at hu;subst hu;go_simp
    | 1,hu=>simp at hu;subst hu;go_simp
    | 2,hu=>simp at hu;subst hu;go_simp
    | j+3,hu=>simp at hu
   case d2=>rw [HLl.out];have:=LL.out;omega
   case d3=>have:=B3.out.size;have:=hw2.out;simp;omega
   intro v' w4 o4 b4 f4
   have N2:Hid (FRel w2 C v' (k+1) w4):=by
    have hs3:=B3.out.size;have hs2:=hw2.out;refine ⟨L ++ [⟨cn,cp,ua,uc,cl⟩],o4,TK.out _ rfl,fun c hc=>?_,((BL.out.trans (B3.out.mono hs2)).alloc (by omega) _).trans b4⟩
    rcases List.mem_append.1 hc with hc | hc
    ·exact ow_far (((RL.out c hc).keep B3.out).alloc _) (by decide) f4
    ·obtain rfl:c=_:=List.mem_singleton.1 hc
     have o:Ow K4 w3 wr.heap.size 42 (⟨cn,cp,ua,uc,cl⟩:Ent).sl cl:=by unfold Ent.sl;rw [HQ.out];exact O3.out
     exact ow_far ((o.low hs2).alloc _) (by decide) f4
   clear o4 b4 f4;go_wp2
   go_roundw
   case rel=>exact ⟨k+1,by omega,by go_num,N2⟩
   case measure=>simp [intOf];omega
  ·obtain rfl:k=n:=by omega
   have E:=Lib.hid (fun (F:Nat→Prop) (hF:∀ k,F k→k < w.heap.size)=>ls_of (w:=w) (by rw [HN.out];exact R.out) HA.out B2.out.size F hF);have BR:Hid (Below w2.heap.size w2 wr):=by obtain ⟨_,_,_,_,b⟩:=R.out;exact b
   clear R;go_wp2
   go_ret
   exact ⟨_,rfl,E.out,B2.out.trans (BR.out.mono B2.out.size)⟩
end Go.Proofs.YtljnkaodhfnbbaaGreatDoor.Fs
namespace Go.Proofs.YtljnkaodhfnbbaaGreatDoor.Fs
open Go.RowKit Go.Extern.Stop Go.Stop Go.Extern
def flt (n e:Int):Value:=.agg #[.int .i64 n,.iface 25 (.int .i64 e)]
def fault (n e:Int):Value:=.iface 292 (flt n e)
theorem isTypeOf (v:Value) (w:World):(Extern.ReflectliteType.typeOf #[.iface 25 v]).run Tryz.prog w = .ok (.iface 337 (.agg #[.pointer (some ⟨2,25,none⟩)])) w:=by kernel_rfl
theorem isTypeOfF (v:Value) (w:World):(Extern.ReflectliteType.typeOf #[.iface 292 v]).run Tryz.prog w = .ok (.iface 337 (.agg #[.pointer (some ⟨2,292,none⟩)])) w:=by kernel_rfl
def compF : Array Value → Sem Value := Extern.ReflectliteType.method fun t => do Rtype.noPackHeld "Comparable" t; pure (.bool (← typeInfo t).comparable)
theorem isComparable (w:World):(compF #[.agg #[.pointer (some ⟨2,25,none⟩)]]).run Tryz.prog w = .ok (.bool true) w:=by kernel_rfl
theorem isMethodComparable (v : Value) (w : World) : (Go.method 526 337 v "Comparable").run Tryz.prog w = .ok (305, v) w := by kernel_rfl
theorem noIsF (v:Value) (xT:TypeId) (w:World):(Instr.typeAssert (.iface 292 v) xT 339 true).run Tryz.prog w = .ok (.tuple #[.nilIface,.bool false]) w:=run_typeAssert_lacksB Tryz.underlying339 (by kernel_rfl) (by kernel_rfl) v xT w
theorem noIsE (v:Value) (xT:TypeId) (w:World):(Instr.typeAssert (.iface 25 v) xT 339 true).run Tryz.prog w = .ok (.tuple #[.nilIface,.bool false]) w:=run_typeAssert_lacksB Tryz.underlying339 (by kernel_rfl) (by kernel_rfl) v xT w
theorem hasUnwrapF (v:Value) (xT:TypeId) (w:World):(Instr.typeAssert (.iface 292 v) xT 342 true).run Tryz.prog w = .ok (.tuple #[.iface 292 v,.bool true]) w:=run_typeAssert_hasB Tryz.underlying342 (by kernel_rfl) v xT w
theorem noUnwrapE (v:Value) (xT:TypeId) (w:World):(Instr.typeAssert (.iface 25 v) xT 342 true).run Tryz.prog w = .ok (.tuple #[.nilIface,.bool false]) w:=run_typeAssert_lacksB Tryz.underlying342 (by kernel_rfl) (by kernel_rfl) v xT w
theorem noUnwrapsE (v:Value) (xT:TypeId) (w:World):(Instr.typeAssert (.iface 25 v) xT 344 true).run Tryz.prog w = .ok (.tuple #[.nilIface,.bool false]) w:=run_typeAssert_lacksB Tryz.underlying344 (by kernel_rfl) (by kernel_rfl) v xT w
theorem methodUnwrap (v : Value) (w : World) : (Go.method 526 292 v "Unwrap").run Tryz.prog w = .ok (299, v) w := by kernel_rfl
theorem eql_errno (a b:Int) (w:World):(binOp .eql 214 (.iface 25 (.int .i64 a)) (.iface 25 (.int .i64 b))).run Tryz.prog w = .ok (.bool (decide (a=b))) w:=by
 have:=Lib.run_eql_iface_int (P:=Tryz.prog) w (t:=214) (tx:=25) (k:=.i64) (q:=.i64) a b Tryz.underlying214 (by kernel_rfl) Tryz.underlying25;rw [this]
 congr 2
theorem eql_types (v u:Value) (w:World):(binOp .eql 214 (.iface 292 v) (.iface 25 u)).run Tryz.prog w = .ok (.bool false) w:=run_eql_iface_types (P:=Tryz.prog) _ _ v u Tryz.underlying214 (by decide) w
theorem ret_b {a b:Bool} (h:a=b):Ending.returned (.bool a) = .returned (.bool b):=by rw [h]
theorem unwrap_any (w:World) (n:Int) (x:Value):Calls Tryz.prog 299 #[.agg #[.int .i64 n,x]] w fun e w'=>e = .returned x∧Below w.heap.size w w':=by
 go_enter Tryz.func299,Tryz.ntmps299
 go_wp2
 go_ret
 exact ⟨rfl,(Below.refl w.heap.size w).alloc (Nat.le_refl _) _⟩
set_option maxHeartbeats 2000000 in
theorem is_loop (n e:Int) (w:World):Calls Tryz.prog 180 #[fault n e,.iface 25 (.int .i64 5),.bool true] w fun ev w'=>ev = .returned (.bool (decide (e=5)))∧Below w.heap.size w w':=by
 have nF:=noIsF;have nE:=noIsE;have uF:=hasUnwrapF;have uE:=noUnwrapE;have vE:=noUnwrapsE;have mU:=methodUnwrap;have hty:=eql_types;have heq:=eql_errno;unfold fault flt
 by_cases h:e=5
 ·have hd:=decide_eq_true h
  go_enter Tryz.func180,Tryz.ntmps180
  go_wp2;refine wp_loop_rounds 2 ?_;rw [rounds_succ]
  go_wp2_with (go_at_call 299;refine (unwrap_any _ _ _).mono ?_;rintro ev w1 ⟨rfl,b1⟩)
  rw [rounds_succ];go_wp2
  go_ret
  exact ⟨ret_b hd.symm,b1⟩
 ·have hd:=decide_eq_false h
  go_enter Tryz.func180,Tryz.ntmps180
  go_wp2;refine wp_loop_rounds 2 ?_;rw [rounds_succ]
  go_wp2_with (go_at_call 299;refine (unwrap_any _ _ _).mono ?_;rintro ev w1 ⟨rfl,b1⟩)
  rw [rounds_succ];go_wp2
  go_ret
  exact ⟨ret_b hd.symm,b1⟩
set_option maxHeartbeats 2000000 in
theorem is_any (n e:Int) (w:World):Calls Tryz.prog 134 #[fault n e,.iface 25 (.int .i64 5)] w fun ev w'=>ev = .returned (.bool (decide (e=5)))∧Below w.heap.size w w':=by
 have h8:=@run_callFunc_extern Tryz.prog 179 _ Extern.ReflectliteType.typeOf Tryz.func179 (by kernel_rfl) (by kernel_rfl) (by kernel_rfl) (by kernel_rfl);have h32:=@run_callFunc_extern Tryz.prog 305 _ compF Tryz.func305 (by kernel_rfl) (by kernel_rfl) (by kernel_rfl) (by kernel_rfl);have tT:=isTypeOf;have cT:=isComparable;have mR:=isMethodComparable;have L:=Lib.hid (is_loop n e w);unfold fault flt at *
 go_enter Tryz.func134,Tryz.ntmps134
 go_wp2_with (go_at_call 180;refine L.out.mono ?_;rintro ev w1 ⟨rfl,b1⟩)
 go_ret
 exact ⟨rfl,b1⟩
end Go.Proofs.YtljnkaodhfnbbaaGreatDoor.Fs
namespace Go.Proofs.YtljnkaodhfnbbaaGreatDoor.Fs
open Go.RowKit Go.Extern.Stop Go.Stop Go.Extern
def valF:Array Value→Sem Value:=fun args=>ReflectliteValue.unpack (args.getD 0 (.tuple #[]))
def typF : Array Value → Sem Value := ReflectliteValue.methodAny (ReflectliteValue.valueError "reflectlite.Value.Type" 0) (fun t _ _ _ => ReflectliteType.toType t)
def nilF : Array Value → Sem Value := ReflectliteValue.method (ReflectliteValue.valueError "reflectlite.Value.IsNil" 0) ReflectliteValue.isNil
def kinF:Array Value→Sem Value:=ReflectliteType.abiMethod fun t=>do pure (.int .u8 (← Rtype.kind t))
def eleF:Array Value→Sem Value:=ReflectliteType.method ReflectliteType.elem
def impF : Array Value → Sem Value := ReflectliteType.relation "Implements" ReflectliteType.implements_
def asgF : Array Value → Sem Value := ReflectliteType.relation "AssignableTo" ReflectliteType.assignableTo
def elvF : Array Value → Sem Value := ReflectliteValue.method (ReflectliteValue.valueError "reflectlite.Value.Elem" 0) ReflectliteValue.elem
theorem valP (t:Addr) (w:World):(valF #[.iface 273 (.pointer (some t))]).run Tryz.prog w = .ok (.agg #[.pointer (some ⟨2,273,none⟩),.pointer (some ⟨w.heap.size,0,none⟩),.int .u64 150]) (w.alloc (.cells #[.pointer (some t)] 273)):=by kernel_rfl
theorem valE (e:Int) (w:World):(valF #[.iface 25 (.int .i64 e)]).run Tryz.prog w = .ok (.agg #[.pointer (some ⟨2,25,none⟩),.pointer (some ⟨w.heap.size,0,none⟩),.int .u64 130]) (w.alloc (.cells #[.int .i64 e] 25)):=by kernel_rfl
theorem typP (a:Addr) (w:World):(typF #[.agg #[.pointer (some ⟨2,273,none⟩),.pointer (some a),.int .u64 150]]).run Tryz.prog w = .ok (.iface 337 (.agg #[.pointer (some ⟨2,273,none⟩)])) w:=by kernel_rfl
theorem mKind (h : Value) (w : World) : (Go.method 526 337 (.agg #[h]) "Kind").run Tryz.prog w = .ok (289, h) w := by kernel_rfl
theorem mElem (h : Value) (w : World) : (Go.method 526 337 (.agg #[h]) "Elem").run Tryz.prog w = .ok (306, .agg #[h]) w := by kernel_rfl
theorem mImp (h : Value) (w : World) : (Go.method 526 337 (.agg #[h]) "Implements").run Tryz.prog w = .ok (307, .agg #[h]) w := by kernel_rfl
theorem mAsg (h : Value) (w : World) : (Go.method 526 337 (.agg #[h]) "AssignableTo").run Tryz.prog w = .ok (304, .agg #[h]) w := by kernel_rfl
theorem kindP (w:World):(kinF #[.pointer (some ⟨2,273,none⟩)]).run Tryz.prog w = .ok (.int .u8 22) w:=by kernel_rfl
theorem kindE (w:World):(kinF #[.pointer (some ⟨2,25,none⟩)]).run Tryz.prog w = .ok (.int .u8 2) w:=by kernel_rfl
theorem elemP (w:World):(eleF #[.agg #[.pointer (some ⟨2,273,none⟩)]]).run Tryz.prog w = .ok (.iface 337 (.agg #[.pointer (some ⟨2,25,none⟩)])) w:=by kernel_rfl
theorem impE (w:World):(impF #[.agg #[.pointer (some ⟨2,25,none⟩)],.iface 337 (.agg #[.pointer (some ⟨2,214,none⟩)])]).run Tryz.prog w = .ok (.bool true) w:=by kernel_rfl
theorem asgE (w:World):(asgF #[.agg #[.pointer (some ⟨2,25,none⟩)],.iface 337 (.agg #[.pointer (some ⟨2,25,none⟩)])]).run Tryz.prog w = .ok (.bool true) w:=by kernel_rfl
theorem asgF' (w:World):(asgF #[.agg #[.pointer (some ⟨2,292,none⟩)],.iface 337 (.agg #[.pointer (some ⟨2,25,none⟩)])]).run Tryz.prog w = .ok (.bool false) w:=by kernel_rfl
theorem noAsF (v:Value) (xT:TypeId) (w:World):(Instr.typeAssert (.iface 292 v) xT 363 true).run Tryz.prog w = .ok (.tuple #[.nilIface,.bool false]) w:=run_typeAssert_lacksB Tryz.underlying363 (by kernel_rfl) (by kernel_rfl) v xT w
theorem rlm (z:Sem Value) (f:TypeId→Addr→Nat→Nat→Sem Value) (v:Value) :
 ReflectliteValue.method z f #[v]=(do match ← ReflectliteValue.parts v with | none=>z | some (t,a,fl)=>f t a fl (fl % 32)):=rfl
theorem partsP (a:Addr) (w:World):(ReflectliteValue.parts (.agg #[.pointer (some ⟨2,273,none⟩),.pointer (some a),.int .u64 150])).run Tryz.prog w = .ok (some (273,a,150)) w:=by kernel_rfl
theorem nilP (a p:Addr) (W:World) (ha:W.cell? a=some (.pointer (some p))):(nilF #[.agg #[.pointer (some ⟨2,273,none⟩),.pointer (some a),.int .u64 150]]).run Tryz.prog W = .ok (.bool false) W:=by
 unfold nilF;rw [rlm];simp only [Sem.run_bind,partsP,Result.andThen]
 simp [ReflectliteValue.isNil,loadVar,isAgg,underlying,Tryz.underlying273,ha,Result.andThen]
theorem elemOfP (w:World):(Rtype.elem? 273).run Tryz.prog w = .ok (some 25) w:=by kernel_rfl
theorem mkE (p:Addr) (w:World):(ReflectliteValue.mk 25 p ReflectliteValue.flagAddr).run Tryz.prog w = .ok (.agg #[.pointer (some ⟨2,25,none⟩),.pointer (some p),.int .u64 386]) w:=by kernel_rfl
theorem elvP (a p:Addr) (W:World) (ha:W.cell? a=some (.pointer (some p))):(elvF #[.agg #[.pointer (some ⟨2,273,none⟩),.pointer (some a),.int .u64 150]]).run Tryz.prog W = .ok (.agg #[.pointer (some ⟨2,25,none⟩),.pointer (some p),.int .u64 386]) W:=by
 unfold elvF;rw [rlm];simp only [Sem.run_bind,partsP,Result.andThen]
 simp [ReflectliteValue.elem,loadVar,isAgg,underlying,Tryz.underlying273,ha,Result.andThen,elemOfP,mkE]
theorem rls (v x:Value):ReflectliteValue.set #[v,x]=(do
 let (some (dst,a,fl),some (src,b,_)):=(← ReflectliteValue.parts v,← ReflectliteValue.parts x)
  | unsupported (.noEntry "extern/(internal/reflectlite.Value).Set.zeroValue")
 if fl / ReflectliteValue.flagAddr % 2 == 0 then unsupported (.noEntry "extern/(internal/reflectlite.Value).Set.unaddressable")
 let val ← loadVar src b
 if ← Rtype.directlyAssignable dst src then storeVar dst a val
 else if ← Rtype.implements dst src then
  if (← Rtype.kind src) == 20 then
   match val with
   | .nilIface => unsupported (.noEntry "extern/reflectlite: a nil value of one interface type handed on as a value of another")
   | _=>storeVar dst a val
  else storeVar dst a (.iface src val)
 else panicString ("reflectlite.Set: value of type " ++ (← Rtype.spelt src) ++ " is not assignable to type " ++ (← Rtype.spelt dst))
 pure (.tuple #[])):=rfl
theorem partsEa (a:Addr) (w:World):(ReflectliteValue.parts (.agg #[.pointer (some ⟨2,25,none⟩),.pointer (some a),.int .u64 386])).run Tryz.prog w = .ok (some (25,a,386)) w:=by kernel_rfl
theorem partsE (a:Addr) (w:World):(ReflectliteValue.parts (.agg #[.pointer (some ⟨2,25,none⟩),.pointer (some a),.int .u64 130])).run Tryz.prog w = .ok (some (25,a,130)) w:=by kernel_rfl
theorem directE (w:World):(Rtype.directlyAssignable 25 25).run Tryz.prog w = .ok true w:=by kernel_rfl
theorem setE (ta b:Addr) (e:Int) (old:Value) (W:World) (hb:W.cell? b=some (.int .i64 e)) (ht:W.cell? ta=some old) (hf:W.frozen? ta=false) :
 (ReflectliteValue.set #[.agg #[.pointer (some ⟨2,25,none⟩),.pointer (some ta),.int .u64 386],.agg #[.pointer (some ⟨2,25,none⟩),.pointer (some b),.int .u64 130]]).run Tryz.prog W
   = .ok (.tuple #[]) (W.setCell ta (.int .i64 e)):=by
 rw [rls];simp only [Sem.run_bind,partsEa,partsE,Result.andThen]
 simp [ReflectliteValue.flagAddr,loadVar,isAgg,underlying,Tryz.underlying25,hb,Result.andThen,directE,storeVar,Value.cells,storeCells,Addr.add]
 rw [run_store Tryz.prog W ta _ _ (by rfl)]
 simp [ht,hf]
end Go.Proofs.YtljnkaodhfnbbaaGreatDoor.Fs
namespace Go.Proofs.YtljnkaodhfnbbaaGreatDoor.Fs
open Go.RowKit Go.Extern.Stop Go.Stop Go.Extern
open Fl (row_cell row_frozen)
def Glob (w:World):Prop:=w.cell? ⟨1,0,none⟩=some (.iface 337 (.agg #[.pointer (some ⟨2,214,none⟩)]))
theorem Glob.below {w w':World} (h:Glob w) (b:Below w.heap.size w w'):Glob w':=(b.cell (World.block_lt_of_cell? _ _ h)).trans h
theorem Glob.only {G:Nat→Prop} {w w':World} (h:Glob w) (hn:¬ G 1) (o:Only G w w'):Glob w':=o.cell h hn
def AsPost (w:World) (tb:Nat) (e:Int) (ev:Ending) (w':World):Prop:=ev = .returned (.bool true)∧w'.heap[tb]? = some (.cells #[.int .i64 e] 25 (0,0))∧Only (fun k=>k=tb) w w'
set_option maxHeartbeats 4000000 in
theorem as_loop (n e:Int) (tb b:Nat) (w:World) (hb:w.cell? ⟨b,0,none⟩=some (.pointer (some ⟨tb,0,none⟩))) (ht:w.heap[tb]? = some (.cells #[.int .i64 0] 25 (0,0))) :
 Calls Tryz.prog 204 #[fault n e,.iface 273 (.pointer (some ⟨tb,0,none⟩)),.agg #[.pointer (some ⟨2,273,none⟩),.pointer (some ⟨b,0,none⟩),.int .u64 150],.iface 337 (.agg #[.pointer (some ⟨2,25,none⟩)])] w (AsPost w tb e):=by
 have h42:=@run_callFunc_extern Tryz.prog 179 _ Extern.ReflectliteType.typeOf Tryz.func179 (by kernel_rfl) (by kernel_rfl) (by kernel_rfl) (by kernel_rfl);have h102:=@run_callFunc_extern Tryz.prog 304 _ asgF Tryz.func304 (by kernel_rfl) (by kernel_rfl) (by kernel_rfl) (by kernel_rfl);have h60:=@run_callFunc_extern Tryz.prog 231 _ elvF Tryz.func231 (by kernel_rfl) (by kernel_rfl) (by kernel_rfl) (by kernel_rfl);have h50:=@run_callFunc_extern Tryz.prog 201 _ valF Tryz.func201 (by kernel_rfl) (by kernel_rfl) (by kernel_rfl) (by kernel_rfl);have h61:=@run_callFunc_extern Tryz.prog 232 _ ReflectliteValue.set Tryz.func232 (by kernel_rfl) (by kernel_rfl) (by kernel_rfl) (by kernel_rfl);have tF:=isTypeOfF;have tE:=isTypeOf;have mA:=mAsg;have aF:=asgF';have aE:=asgE;have nA:=noAsF;have uF:=hasUnwrapF;have mU:=methodUnwrap;have vE:=valE;have HB:=Lib.hid hb;have HT:=Lib.hid ht;have B0:=Lib.hid ((Below.refl w.heap.size w).alloc (Nat.le_refl _) (.cells #[.pointer (some ⟨2,273,none⟩),.pointer (some ⟨b,0,none⟩),.int .u64 150] 319));clear hb ht;unfold fault flt
 go_enter Tryz.func204,Tryz.ntmps204
 go_wp2;refine wp_loop_rounds 2 ?_;rw [rounds_succ]
 go_wp2_with (go_at_call 299;refine (unwrap_any _ _ _).mono ?_;rintro ev w1 ⟨rfl,b1⟩)
 have B1:=Lib.hid (B0.out.trans (b1.mono B0.out.size));have G0:w1.heap[w.heap.size]? = some (.cells #[.pointer (some ⟨2,273,none⟩),.pointer (some ⟨b,0,none⟩),.int .u64 150] 319 (0,0)):=(b1.block _ (by simp)).trans (heap_alloc_new w _);have e0:w1.cell? ⟨w.heap.size,0,none⟩=some (.pointer (some ⟨2,273,none⟩)):=row_cell G0 0;have e1:w1.cell? ⟨w.heap.size,1,none⟩=some (.pointer (some ⟨b,0,none⟩)):=row_cell G0 1;have e2:w1.cell? ⟨w.heap.size,2,none⟩=some (.int .u64 150):=row_cell G0 2;have hbl:=World.block_lt_of_cell? _ _ HB.out;have el:=elvP ⟨b,0,none⟩ ⟨tb,0,none⟩ w1 ((B1.out.cell hbl).trans HB.out);have htl:=lt_of_block HT.out;have T1:=(B1.out.block tb htl).trans HT.out;have T2:=(Below.heap_alloc w1 (.cells #[.int .i64 e] 25) tb (by have:=B1.out.size;omega)).trans T1;have st:=setE ⟨tb,0,none⟩ ⟨w1.heap.size,0,none⟩ e (.int .i64 0) (w1.alloc (.cells #[.int .i64 e] 25)) (by simp) (row_cell T2 0) (row_frozen T2 0);have RES:Hid (AsPost w tb e (.returned (.bool true)) ((w1.alloc (.cells #[.int .i64 e] 25)).setCell ⟨tb,0,none⟩ (.int .i64 e))):=by
  refine ⟨rfl,?_,?_⟩
  ·have:=Rw.heap_setCell_same (j:=0) T2 (.int .i64 e)
   rw [this]
   simp
  ·exact (Only.of_below (B1.out.alloc B1.out.size _)).trans (Only.set (fun k=>k=tb) _ (a:=⟨tb,0,none⟩) rfl _) fun _ _ g=>g
 clear b1 G0 T1 T2 HB HT B0 B1 hbl htl;rw [rounds_succ];go_wp2
 go_ret
 exact RES.out
set_option maxHeartbeats 4000000 in
theorem as_any (n e:Int) (tb:Nat) (w:World) (hg:Glob w) (ht:w.heap[tb]? = some (.cells #[.int .i64 0] 25 (0,0))) :
 Calls Tryz.prog 163 #[fault n e,.iface 273 (.pointer (some ⟨tb,0,none⟩))] w (AsPost w tb e):=by
 have h50:=@run_callFunc_extern Tryz.prog 201 _ valF Tryz.func201 (by kernel_rfl) (by kernel_rfl) (by kernel_rfl) (by kernel_rfl);have h51:=@run_callFunc_extern Tryz.prog 202 _ typF Tryz.func202 (by kernel_rfl) (by kernel_rfl) (by kernel_rfl) (by kernel_rfl);have h52:=@run_callFunc_extern Tryz.prog 203 _ nilF Tryz.func203 (by kernel_rfl) (by kernel_rfl) (by kernel_rfl) (by kernel_rfl);have h95:=@run_callFunc_extern Tryz.prog 289 _ kinF Tryz.func289 (by kernel_rfl) (by kernel_rfl) (by kernel_rfl) (by kernel_rfl);have h104:=@run_callFunc_extern Tryz.prog 306 _ eleF Tryz.func306 (by kernel_rfl) (by kernel_rfl) (by kernel_rfl) (by kernel_rfl);have h105:=@run_callFunc_extern Tryz.prog 307 _ impF Tryz.func307 (by kernel_rfl) (by kernel_rfl) (by kernel_rfl) (by kernel_rfl);have f6:=valP;have f7:=typP;have mK:=mKind;have mE:=mElem;have mI:=mImp;have kP:=kindP;have kE:=kindE;have eP:=elemP;have iE:=impE;have hlt:0 < w.heap.size:=Nat.lt_of_le_of_lt (Nat.zero_le _) (World.block_lt_of_cell? _ _ hg);have htl:=lt_of_block ht;have B2:Below w.heap.size w ((w.alloc (.cells #[.pointer (some ⟨tb,0,none⟩)] 273)).alloc (.cells #[.pointer (some ⟨2,273,none⟩),.pointer (some ⟨w.heap.size,0,none⟩),.int .u64 150] 319)):=((Below.refl w.heap.size w).alloc (Nat.le_refl _) _).alloc (by simp) _;have n8:=nilP ⟨w.heap.size,0,none⟩ ⟨tb,0,none⟩ ((w.alloc (.cells #[.pointer (some ⟨tb,0,none⟩)] 273)).alloc (.cells #[.pointer (some ⟨2,273,none⟩),.pointer (some ⟨w.heap.size,0,none⟩),.int .u64 150] 319)) (by simp);have hg2:((w.alloc (.cells #[.pointer (some ⟨tb,0,none⟩)] 273)).alloc (.cells #[.pointer (some ⟨2,273,none⟩),.pointer (some ⟨w.heap.size,0,none⟩),.int .u64 150] 319)).cell? ⟨1,0,none⟩=some (.iface 337 (.agg #[.pointer (some ⟨2,214,none⟩)])):=hg.below B2;have AL:=Lib.hid (as_loop n e tb w.heap.size ((w.alloc (.cells #[.pointer (some ⟨tb,0,none⟩)] 273)).alloc (.cells #[.pointer (some ⟨2,273,none⟩),.pointer (some ⟨w.heap.size,0,none⟩),.int .u64 150] 319)) (by simp) ((B2.block tb htl).trans ht));have BB:=Lib.hid B2;have HTL:=Lib.hid htl;clear hg ht B2 htl;unfold fault flt at *
 go_enter Tryz.func163,Tryz.ntmps163
 go_wp2_with (go_at_call 204;refine AL.out.mono ?_;rintro ev w1 ⟨rfl,r1,o1⟩)
 go_ret
 exact ⟨rfl,r1,(Only.of_below BB.out).trans o1 fun _ _ g=>g⟩
set_option maxHeartbeats 1000000 in
theorem number_any (n e:Int) (w:World) (hg:Glob w):Calls Tryz.prog 135 #[fault n e] w fun ev w'=>ev = .returned (.int .i64 e)∧Below w.heap.size w w':=by
 have B0:=Lib.hid ((Below.refl w.heap.size w).alloc (Nat.le_refl _) (.cells #[.int .i64 0] 25));have AS:=Lib.hid (as_any n e w.heap.size (w.alloc (.cells #[.int .i64 0] 25)) (hg.below B0.out) (heap_alloc_new w _));clear hg;unfold fault flt at *
 go_enter Tryz.func135,Tryz.ntmps135
 go_wp2_with fail;refine AS.out.mono ?_;rintro ev w1 ⟨rfl,r1,o1⟩;have c1:w1.cell? ⟨w.heap.size,0,none⟩=some (.int .i64 e):=row_cell r1 0;have BB:=Lib.hid (B0.out.trans (o1.below (by simp) fun k hk=>by rw [hk];exact Nat.le_refl _));clear r1 o1 B0 AS;go_wp2
 go_ret
 exact ⟨rfl,BB.out⟩
end Go.Proofs.YtljnkaodhfnbbaaGreatDoor.Fs
namespace Go.Proofs.YtljnkaodhfnbbaaGreatDoor.Fs
open Go.RowKit Go.Maps
open Fl (R4 z4 K4 rec4 rat goodF goodFB okR okL doE newR file arr4 sto2 sto4 sto2_row sto2_other sto2_below sto2_size sto4_row sto4_other sto4_below sto4_size row_cell row_frozen do_any DoPost)
open Rw (Rd Ow At)
attribute [local irreducible] Sd.wpSd wpQuiet Sf.wpSf
structure Ask0 (w:World) (o f r:Int) (x:R4) (W:World):Prop where
 adr:W.heap[w.heap.size]? = some (.cells #[.int .i64 o,.int .i64 f,.int .i64 r] 66 (0,0))
 arg:W.heap[w.heap.size+1]? = some (.cells (arr4 x) 42 (0,0))
 res:W.heap[w.heap.size+2]? = some (.cells (arr4 z4) 42 (0,0))
 siz:w.heap.size+3≤W.heap.size
 bel:Below w.heap.size w W
theorem Ask0.mono {w W W':World} {o f r:Int} {x:R4} (h:Ask0 w o f r x W) (b:Below W.heap.size W W'):Ask0 w o f r x W' :=
 have s:=h.siz
 ⟨(b.block _ (by omega)).trans h.adr,(b.block _ (by omega)).trans h.arg,(b.block _ (by omega)).trans h.res,Nat.le_trans h.siz b.size,h.bel.trans (b.mono (by omega))⟩
theorem ask0_of (w:World) (o f r:Int) (x:R4):Ask0 w o f r x (((w.alloc (.cells #[.int .i64 o,.int .i64 f,.int .i64 r] 66)).alloc (.cells #[.int .u8 x.1,.int .u8 x.2.1,.int .u8 x.2.2.1,.int .u8 x.2.2.2] 42)).alloc (.cells #[.int .u8 0,.int .u8 0,.int .u8 0,.int .u8 0] 42)):=by
 have z1:∀ a,(w.alloc a).heap.size=w.heap.size+1:=fun a=>by simp
 have z2:∀ a b,((w.alloc a).alloc b).heap.size=w.heap.size+2:=fun a b=>by simp
 refine ⟨?_,?_,?_,by simp,(((Below.refl w.heap.size w).alloc (Nat.le_refl _) _).alloc (by simp) _).alloc (by simp;omega) _⟩
 ·exact (Below.heap_alloc _ _ _ (by rw [z2];omega)).trans ((Below.heap_alloc _ _ _ (by rw [z1];omega)).trans (heap_alloc_new w _))
 ·have:=heap_alloc_new (w.alloc (.cells #[.int .i64 o,.int .i64 f,.int .i64 r] 66)) (.cells (arr4 x) 42)
  rw [z1] at this;exact (Below.heap_alloc _ _ _ (by rw [z2];omega)).trans this
 ·have:=heap_alloc_new ((w.alloc (.cells #[.int .i64 o,.int .i64 f,.int .i64 r] 66)).alloc (.cells (arr4 x) 42)) (.cells (arr4 z4) 42)
  rw [z2] at this;exact this
def Adr (w:World) (o f r:Int) (W:World):Prop:=W.heap[w.heap.size]? = some (.cells #[.int .i64 o,.int .i64 f,.int .i64 r] 66 (0,0))
def AskNo (w:World) (f k:Int) (e:Ending) (w':World):Prop:=e = .returned (.tuple #[rec4 z4,fault f k])∧Below w.heap.size w w'
set_option maxHeartbeats 2000000 in
theorem ask_none {w:World} {s:Nat} {F:Nat→Prop} {m:Value} {C:List Ent} {d:Int} (S:Sto w s F m C d) (o f r:Int) (x:R4) (hn:Wf f) (hk:look Ent.n f C=none) :
 Calls Tryz.prog 133 #[.pointer (some ⟨s,0,none⟩),Ad.addr o f r,rec4 x] w (AskNo w f 3):=by
 have A0:=ask0_of w o f r x;have S0:Hid (Ask0 w o f r x (((w.alloc (.cells #[.int .i64 o,.int .i64 f,.int .i64 r] 66)).alloc (.cells #[.int .u8 x.1,.int .u8 x.2.1,.int .u8 x.2.2.1,.int .u8 x.2.2.2] 42)).alloc (.cells #[.int .u8 0,.int .u8 0,.int .u8 0,.int .u8 0] 42))):=A0;have SS:=Lib.hid (S.below A0.bel);have HN:=Lib.hid hn;have L:=Lib.hid (lv_none hk);have LB:=Lib.hid (lb_none hk);clear A0 hn;clear S hk;unfold rec4;unfold Ad.addr
 go_enter Tryz.func133,Tryz.ntmps133
 go_wp2_with fail;generalize (((w.alloc (.cells #[.int .i64 o,.int .i64 f,.int .i64 r] 66)).alloc (.cells #[.int .u8 x.1,.int .u8 x.2.1,.int .u8 x.2.2.1,.int .u8 x.2.2.2] 42)).alloc (.cells #[.int .u8 0,.int .u8 0,.int .u8 0,.int .u8 0] 42))=W at *;have c0:=Sd.cell_by (show W.cell? ⟨s,0,none⟩=some m from row_cell SS.out.row 0);have a1:=Sd.cell_by (show W.cell? ⟨w.heap.size,1,none⟩=some (.int .i64 f) from row_cell S0.out.adr 1);have hlk:∀ P:Sd.By W,(Instr.lookup 176 m (.int .i64 f) true).run Tryz.prog P.world = .ok (.tuple #[.agg #[.int .i64 0,.slice none 0 0],.bool false]) P.world:=fun P=>by
  have:=run_look (SS.out.below P.below).mp HN.out true;rw [L.out,LB.out] at this;exact this
 refine Sf.start [(0,0),(0,1),(0,2),(0,3),(0,4),(0,5),(0,6),(0,7),(0,8),(0,9),(2,10),(1,11),(0,12)] [⟨10,8,#[.int .i64 0,.slice none 0 0],70⟩] (by kernel_rfl) (by kernel_rfl) (by kernel_rfl) (by decide) (by decide) ?_ ?_ ?_
 ·simp
 ·intro f hf
  simp only [List.mem_cons,List.not_mem_nil,or_false] at hf;subst hf;exact ⟨_,rfl,rfl,rfl,fun ρ w=>by go_simp⟩
 dsimp only [Sf.picks,List.getElem?_cons_succ,List.getElem?_cons_zero];have BW:=Lib.hid ((Below.refl W.heap.size W).drew)
 repeat (refine Sf.lit (fun xs=>?_);simp only [Sf.fill,List.foldl_cons,List.foldl_nil];quiet_step (fail);refine wpQuiet_nil ?_)
 refine Sf.meet (fun gF w7 hb hc row n7 hH hL=>?_);have B7:=Lib.hid (BW.out.trans (hb.mono BW.out.size));have R7:Hid (w7.heap[gF]? = some (.cells #[.int .i64 0,.slice none 0 0] 70 (0,0))):=row;clear hb hc row hH hL BW;refine Sf.call (fun xs w9 hb hc=>⟨by rfl,fun K hK=>?_⟩);have B9:=Lib.hid (B7.out.trans (hb.mono B7.out.size));have R9:=(hb.block _ (lt_of_block R7.out)).trans R7.out;have k0:w9.cell? ⟨gF,0,none⟩=some (.int .i64 0):=row_cell R9 0;have k1:w9.cell? ⟨gF,1,none⟩=some (.slice none 0 0):=row_cell R9 1;have f0:=row_frozen R9 0;have f1:=row_frozen R9 1;have RA:=Lib.hid (sto2_row R9 0 (.slice none 0 0));have BA:=Lib.hid (sto2_below (p:=0) (v:=.slice none 0 0) B9.out n7);have hsz:=sto2_size w9 gF 0 (.slice none 0 0);clear hb hc B7 R7 R9 B9;simp only [Sf.fill,List.foldl_nil];go_simp;refine hK _ _ (Sd.Cl.of BA.out) (by rw [← hsz];exact Nat.le_refl _) (fun h=>absurd rfl h) ?_;clear hK K k0 k1 f0 f1 hsz
 show Sf.wpSf _ _ _ _ _ _ _ _ _ _ (sto2 w9 gF 0 (.slice none 0 0))
 generalize sto2 w9 gF 0 (.slice none 0 0)=wA at *
 repeat (refine Sf.lit (fun xs=>?_);simp only [Sf.fill,List.foldl_nil];quiet_step (fail);refine wpQuiet_nil ?_)
 refine Sf.done (fun wB hb hc=>?_);have BX:=Lib.hid (BA.out.trans (hb.mono BA.out.size));have G1:=Lib.hid ((hb.block _ (lt_of_block RA.out)).trans RA.out);have S1:=Lib.hid (S0.out.mono BX.out);have N7:Hid (W.heap.size≤gF):=n7;clear hb hc BA RA c0 a1 hlk n7 S0;clear BX G1 N7 SS;go_wp2_with fail;have C0:Adr w o f r wB.drew:=S1.out.adr;have a1:=Sc.cell_in (C:=Adr w o f r) (a:=⟨w.heap.size,1,none⟩) (v:=.int .i64 f) (fun W' h=>row_cell h 1);have ne:Nonempty (Sc.In (Adr w o f r)):=⟨⟨_,C0⟩⟩;refine Sc.start (Adr w o f r) [(false,0),(false,1),(false,2),(false,3),(false,4),(false,5),(true,6),(false,7)] (by kernel_rfl) (by kernel_rfl) (by kernel_rfl) C0 ?_;dsimp only [Sd.picks,List.getElem?_cons_succ,List.getElem?_cons_zero]
 repeat (refine Sd.lit ?_;quiet_step (fail);refine wpQuiet_nil ?_)
 have S2:=Lib.hid (S1.out.mono ((Below.refl wB.heap.size wB).drew));clear S1 C0 a1;generalize wB.drew=Wy at *;refine Sd.call (by rfl) (fun K hK=>?_);have d0:Wy.cell? ⟨w.heap.size+2,0,none⟩=some (.int .u8 0):=row_cell S2.out.res 0;have d1:Wy.cell? ⟨w.heap.size+2,1,none⟩=some (.int .u8 0):=row_cell S2.out.res 1;have d2:Wy.cell? ⟨w.heap.size+2,2,none⟩=some (.int .u8 0):=row_cell S2.out.res 2;have d3:Wy.cell? ⟨w.heap.size+2,3,none⟩=some (.int .u8 0):=row_cell S2.out.res 3;have k0:=row_frozen S2.out.res 0;have k1:=row_frozen S2.out.res 1;have k2:=row_frozen S2.out.res 2;have k3:=row_frozen S2.out.res 3;have L2:Adr w o f r (sto4 Wy (w.heap.size+2) 0 z4):=sto4_other S2.out.adr (by omega);have R3:=Lib.hid (sto4_row S2.out.res z4);have B3:=Lib.hid (sto4_below (o:=0) (r:=z4) S2.out.bel (show w.heap.size≤w.heap.size+2 by omega));clear S2;go_simp;refine hK _ _ (Sc.Cl.of L2) ?_;clear hK K d0 d1 d2 d3 k0 k1 k2 k3 L2
 show Sd.wpSd _ _ _ _ _ _ (sto4 Wy (w.heap.size+2) 0 z4)
 generalize sto4 Wy (w.heap.size+2) 0 z4=Wz at *
 repeat (refine Sd.lit ?_;quiet_step (fail);refine wpQuiet_nil ?_)
 refine Sd.done ?_;go_wp2
 (try simp only [Exit.inBlock,Exit.then])
 exact bodyPost_ret (results_rec (p:=6) (r:=7) rfl _ _ (w.heap.size+2) z4 (fault f 3) rfl rfl R3.out) rfl ⟨rfl,B3.out⟩
theorem do_err (w:World) (p:Int) (v:Value) (l:List R4) (R:Rd K4 w v l) (hl:okL l) (o r k:Int) (x:R4) (he:doE p l o r=k) (hk:k≠0):Calls Tryz.prog 178 #[file p v,.int .i64 o,.int .i64 r,rec4 x] w fun e w'=>∃ a cap,e = .returned (.tuple #[file 0 (.slice a 0 cap),rec4 z4,.int .i64 k])∧Below w.heap.size w w' :=
 (do_any w p v l R hl o r x).mono fun e w' ⟨u,h1,h2,h3⟩=>by
   rw [he,if_neg hk] at h2;obtain ⟨a,cap,rfl,_⟩:=h2.slice;rw [he,if_neg hk,if_neg hk] at h1;exact ⟨a,cap,h1,h3⟩
theorem do_ok (w:World) (p:Int) (v:Value) (l:List R4) (R:Rd K4 w v l) (hl:okL l) (o r:Int) (x:R4) (he:doE p l o r=0):Calls Tryz.prog 178 #[file p v,.int .i64 o,.int .i64 r,rec4 x] w fun e w'=>∃ a cap,e = .returned (.tuple #[file p (.slice a l.length cap),rec4 (newR l o r x),.int .i64 0])∧Ow K4 w' w.heap.size 42 (.slice a l.length cap) (l.set r.toNat (newR l o r x))∧Below w.heap.size w w' :=
 (do_any w p v l R hl o r x).mono fun e w' ⟨u,h1,h2,h3⟩=>by
   rw [he,if_pos rfl] at h2;obtain ⟨a,cap,rfl,_⟩:=h2.slice;rw [List.length_set] at h1 h2;rw [he,if_pos rfl,if_pos rfl] at h1;exact ⟨a,cap,h1,h2,h3⟩
theorem two_res (w:World) (q:Int) (u:Value) (y:R4):((w.alloc (.cells #[.int .i64 q,u] 70)).alloc (.cells (arr4 y) 42)).heap[w.heap.size]? = some (.cells #[.int .i64 q,u] 70 (0,0))∧((w.alloc (.cells #[.int .i64 q,u] 70)).alloc (.cells (arr4 y) 42)).heap[w.heap.size+1]? = some (.cells (arr4 y) 42 (0,0))∧Below w.heap.size w ((w.alloc (.cells #[.int .i64 q,u] 70)).alloc (.cells (arr4 y) 42)):=by
 refine ⟨(Below.heap_alloc _ _ _ (by simp)).trans (heap_alloc_new w _),?_,((Below.refl w.heap.size w).alloc (Nat.le_refl _) _).alloc (by simp) _⟩;have:=heap_alloc_new (w.alloc (.cells #[.int .i64 q,u] 70)) (.cells (arr4 y) 42)
 simpa using this
set_option maxHeartbeats 2000000 in
theorem ask_err {w:World} {s:Nat} {F:Nat→Prop} {m:Value} {C:List Ent} {d:Int} (S:Sto w s F m C d) (o f r k:Int) (x:R4) (hn:Wf f) {c:Ent} (hk:look Ent.n f C=some c) (he:doE c.p c.l o r=k) (h0:k≠0) :
 Calls Tryz.prog 133 #[.pointer (some ⟨s,0,none⟩),Ad.addr o f r,rec4 x] w (AskNo w f k):=by
 obtain ⟨ho,hgd,hok,_,_,hcm⟩:=S.find hk;have RR:=Lib.hid (ho.rd);have OK:=Lib.hid hok;have A0:=ask0_of w o f r x;have S0:Hid (Ask0 w o f r x (((w.alloc (.cells #[.int .i64 o,.int .i64 f,.int .i64 r] 66)).alloc (.cells #[.int .u8 x.1,.int .u8 x.2.1,.int .u8 x.2.2.1,.int .u8 x.2.2.2] 42)).alloc (.cells #[.int .u8 0,.int .u8 0,.int .u8 0,.int .u8 0] 42))):=A0;have SS:=Lib.hid (S.below A0.bel);have HN:=Lib.hid hn;have L:=Lib.hid (lv_some hk);have LB:=Lib.hid (lb_some hk);obtain ⟨cn,p,a,cap,l⟩:=c;unfold Ent.sl at RR;simp only at *;have HE:=Lib.hid (And.intro he h0);have hk1:(k == 0)=false:=by simpa using h0
 obtain ⟨q,hq⟩:∃ q,q=l.length:=⟨_,rfl⟩;rw [← hq] at RR L;have HQ:=Lib.hid hq;clear S hk A0 hn ho hgd hok hcm he hq;unfold rec4;unfold Ad.addr
 go_enter Tryz.func133,Tryz.ntmps133
 go_wp2_with fail;generalize (((w.alloc (.cells #[.int .i64 o,.int .i64 f,.int .i64 r] 66)).alloc (.cells #[.int .u8 x.1,.int .u8 x.2.1,.int .u8 x.2.2.1,.int .u8 x.2.2.2] 42)).alloc (.cells #[.int .u8 0,.int .u8 0,.int .u8 0,.int .u8 0] 42))=W at *;have c0:=Sd.cell_by (show W.cell? ⟨s,0,none⟩=some m from row_cell SS.out.row 0);have a1:=Sd.cell_by (show W.cell? ⟨w.heap.size,1,none⟩=some (.int .i64 f) from row_cell S0.out.adr 1);have hlk:∀ P:Sd.By W,(Instr.lookup 176 m (.int .i64 f) true).run Tryz.prog P.world = .ok (.tuple #[.agg #[.int .i64 p,.slice a q cap],.bool true]) P.world:=fun P=>by
  have:=run_look (SS.out.below P.below).mp HN.out true;rw [L.out,LB.out] at this;exact this
 refine Sf.start [(0,0),(0,1),(0,2),(0,3),(0,4),(0,5),(0,6),(0,7),(0,8),(0,9),(2,10),(1,11),(0,12)] [⟨10,8,#[.int .i64 0,.slice none 0 0],70⟩] (by kernel_rfl) (by kernel_rfl) (by kernel_rfl) (by decide) (by decide) ?_ ?_ ?_
 ·simp
 ·intro f hf
  simp only [List.mem_cons,List.not_mem_nil,or_false] at hf;subst hf;exact ⟨_,rfl,rfl,rfl,fun ρ w=>by go_simp⟩
 dsimp only [Sf.picks,List.getElem?_cons_succ,List.getElem?_cons_zero];have BW:=Lib.hid ((Below.refl W.heap.size W).drew)
 repeat (refine Sf.lit (fun xs=>?_);simp only [Sf.fill,List.foldl_cons,List.foldl_nil];quiet_step (fail);refine wpQuiet_nil ?_)
 refine Sf.meet (fun gF w7 hb hc row n7 hH hL=>?_);have B7:=Lib.hid (BW.out.trans (hb.mono BW.out.size));have R7:Hid (w7.heap[gF]? = some (.cells #[.int .i64 0,.slice none 0 0] 70 (0,0))):=row;clear hb hc row hH hL BW;refine Sf.call (fun xs w9 hb hc=>⟨by rfl,fun K hK=>?_⟩);have B9:=Lib.hid (B7.out.trans (hb.mono B7.out.size));have R9:=(hb.block _ (lt_of_block R7.out)).trans R7.out;have k0:w9.cell? ⟨gF,0,none⟩=some (.int .i64 0):=row_cell R9 0;have k1:w9.cell? ⟨gF,1,none⟩=some (.slice none 0 0):=row_cell R9 1;have f0:=row_frozen R9 0;have f1:=row_frozen R9 1;have RA:=Lib.hid (sto2_row R9 p (.slice a q cap));have BA:=Lib.hid (sto2_below (p:=p) (v:=.slice a q cap) B9.out n7);have hsz:=sto2_size w9 gF p (.slice a q cap);clear hb hc B7 R7 R9 B9;simp only [Sf.fill,List.foldl_nil];go_simp;refine hK _ _ (Sd.Cl.of BA.out) (by rw [← hsz];exact Nat.le_refl _) (fun h=>absurd rfl h) ?_;clear hK K k0 k1 f0 f1 hsz
 show Sf.wpSf _ _ _ _ _ _ _ _ _ _ (sto2 w9 gF p (.slice a q cap))
 generalize sto2 w9 gF p (.slice a q cap)=wA at *
 repeat (refine Sf.lit (fun xs=>?_);simp only [Sf.fill,List.foldl_nil];quiet_step (fail);refine wpQuiet_nil ?_)
 refine Sf.done (fun wB hb hc=>?_);have BX:=Lib.hid (BA.out.trans (hb.mono BA.out.size));have G1:=Lib.hid ((hb.block _ (lt_of_block RA.out)).trans RA.out);have S1:=Lib.hid (S0.out.mono BX.out);have N7:Hid (W.heap.size≤gF):=n7;clear hb hc BA RA c0 a1 hlk n7 S0;have b0:wB.cell? ⟨gF,0,none⟩=some (.int .i64 p):=row_cell G1.out 0;have b1:wB.cell? ⟨gF,1,none⟩=some (.slice a q cap):=row_cell G1.out 1;have a0:wB.cell? ⟨w.heap.size,0,none⟩=some (.int .i64 o):=row_cell S1.out.adr 0;have a2:wB.cell? ⟨w.heap.size,2,none⟩=some (.int .i64 r):=row_cell S1.out.adr 2;have x0:wB.cell? ⟨w.heap.size+1,0,none⟩=some (.int .u8 x.1):=row_cell S1.out.arg 0;have x1:wB.cell? ⟨w.heap.size+1,1,none⟩=some (.int .u8 x.2.1):=row_cell S1.out.arg 1;have x2:wB.cell? ⟨w.heap.size+1,2,none⟩=some (.int .u8 x.2.2.1):=row_cell S1.out.arg 2;have x3:wB.cell? ⟨w.heap.size+1,3,none⟩=some (.int .u8 x.2.2.2):=row_cell S1.out.arg 3;have DO:=Lib.hid (do_err wB p (.slice a q cap) l (RR.out.below S1.out.bel) OK.out o r k x HE.out.1 HE.out.2);clear SS BX G1 N7 L LB;unfold file rec4 at DO;go_wp2_with fail;refine DO.out.mono ?_;rintro e w3 ⟨ua,ucap,rfl,b3⟩;obtain ⟨t1,t2,tB⟩:=two_res w3 0 (.slice ua 0 ucap) z4;have S3:=Lib.hid ((S1.out.mono b3).mono tB);clear t1 t2 tB b3 DO b0 b1 a0 a2 x0 x1 x2 x3 S1;unfold z4;unfold arr4 z4 at S3;go_wp2_with fail;generalize ((w3.alloc (.cells #[.int .i64 0,.slice ua 0 ucap] 70)).alloc (.cells #[.int .u8 0,.int .u8 0,.int .u8 0,.int .u8 0] 42))=Wq at *;have S1:Hid (Ask0 w o f r x Wq):=S3;clear S3;have C0:Adr w o f r Wq.drew:=S1.out.adr;have a1:=Sc.cell_in (C:=Adr w o f r) (a:=⟨w.heap.size,1,none⟩) (v:=.int .i64 f) (fun W' h=>row_cell h 1);have ne:Nonempty (Sc.In (Adr w o f r)):=⟨⟨_,C0⟩⟩;refine Sc.start (Adr w o f r) [(false,0),(false,1),(false,2),(false,3),(false,4),(false,5),(false,6),(true,7),(false,8)] (by kernel_rfl) (by kernel_rfl) (by kernel_rfl) C0 ?_;dsimp only [Sd.picks,List.getElem?_cons_succ,List.getElem?_cons_zero]
 repeat (refine Sd.lit ?_;quiet_step (fail);refine wpQuiet_nil ?_)
 have S2:=Lib.hid (S1.out.mono ((Below.refl Wq.heap.size Wq).drew));clear S1 C0 a1;generalize Wq.drew=Wy at *;refine Sd.call (by rfl) (fun K hK=>?_);have d0:Wy.cell? ⟨w.heap.size+2,0,none⟩=some (.int .u8 0):=row_cell S2.out.res 0;have d1:Wy.cell? ⟨w.heap.size+2,1,none⟩=some (.int .u8 0):=row_cell S2.out.res 1;have d2:Wy.cell? ⟨w.heap.size+2,2,none⟩=some (.int .u8 0):=row_cell S2.out.res 2;have d3:Wy.cell? ⟨w.heap.size+2,3,none⟩=some (.int .u8 0):=row_cell S2.out.res 3;have k0:=row_frozen S2.out.res 0;have k1:=row_frozen S2.out.res 1;have k2:=row_frozen S2.out.res 2;have k3:=row_frozen S2.out.res 3;have L2:Adr w o f r (sto4 Wy (w.heap.size+2) 0 z4):=sto4_other S2.out.adr (by omega);have R3:=Lib.hid (sto4_row S2.out.res z4);have B3:=Lib.hid (sto4_below (o:=0) (r:=z4) S2.out.bel (show w.heap.size≤w.heap.size+2 by omega));clear S2;go_simp;refine hK _ _ (Sc.Cl.of L2) ?_;clear hK K d0 d1 d2 d3 k0 k1 k2 k3 L2
 show Sd.wpSd _ _ _ _ _ _ (sto4 Wy (w.heap.size+2) 0 z4)
 generalize sto4 Wy (w.heap.size+2) 0 z4=Wz at *
 repeat (refine Sd.lit ?_;quiet_step (fail);refine wpQuiet_nil ?_)
 refine Sd.done ?_;go_wp2
 (try simp only [Exit.inBlock,Exit.then])
 exact bodyPost_ret (results_rec (p:=6) (r:=7) rfl _ _ (w.heap.size+2) z4 (fault f k) rfl rfl R3.out) rfl ⟨rfl,B3.out⟩
end Go.Proofs.YtljnkaodhfnbbaaGreatDoor.Fs
namespace Go.Proofs.YtljnkaodhfnbbaaGreatDoor.Fs
open Go.RowKit Go.Maps
open Fl (R4 z4 K4 rec4 rat goodF goodFB okR okL doE newR file arr4 sto2 sto4 sto2_row sto2_other sto2_below sto2_size sto4_row sto4_other sto4_below sto4_size row_cell row_frozen do_any DoPost)
open Rw (Rd Ow At)
attribute [local irreducible] Sd.wpSd wpQuiet Sf.wpSf
theorem Sto.place2 {w W W':World} {s b B:Nat} {F:Nat→Prop} {C:List Ent} {d:Int} {c:Ent} (h:Sto w s F (.map (some b)) C d) (hb:Below w.heap.size w W) (hB:w.heap.size≤B) (hg:W.grownBy W' (some b)) (mp:Mp W' F (.map (some b)) (Fs.put Ent.n c C)) (ow:Ow K4 W B 42 c.sl c.l) (hn:0≤c.n∧c.n≤63) (hgd:goodF c.p c.l) (hl:okL c.l) :
 St W' s (fun k=>F k∨(B≤k∧k < W'.heap.size)) ((Fs.put Ent.n c C).map Ent.abs) d∧Only F w W':=by
 have hne:=h.map_ne;have hFb:=h.mp.isMap.1;have hbl:=h.low b hFb;have hsl:=h.low s h.foot;have O:Only F w W':=(Only.of_below hb).trans (Only.grown (G:=fun k=>k=b) rfl hg) fun k _ e=>e ▸ hFb;have off:∀ k,c.sl.ownBlock=some k→B≤k∧k < W.heap.size:=ow_new ow;refine ⟨⟨_,_,h.put (w':=W') (d':=d) (F':=fun k=>F k∨(B≤k∧k < W'.heap.size)) ?_ (fun k hk=>.inl hk) (mp.wide fun k hk=>.inl hk) (fun e he hne=>?_) ?_ (fun k hk=>.inr ⟨(off k hk).1,Nat.lt_of_lt_of_le (off k hk).2 hg.size⟩) (fun e he hne k hk hk'=>?_) hn hgd hl (fun k hk=>?_),rfl⟩,O⟩
 ·rw [hg.block s (Nat.lt_of_lt_of_le hsl hb.size) (by intro e;injection e with e;exact hne e.symm),hb.block s hsl]
  exact h.row
 ·exact ow_only (G:=fun k=>k=b) ((h.own e he).keep hb) (fun k hk e'=>(h.off he).2 b rfl (by rw [hk,e'])) (Only.grown rfl hg)
 ·exact ow_only (G:=fun k=>k=b) (ow.low (Nat.zero_le _)) (fun k hk e'=>by have:=(off k hk).1;omega) (Only.grown rfl hg)
 ·have:=(off k hk).1
  have:=h.low k (h.mine e he k hk')
  omega
 ·rcases hk with hk | ⟨_,hk⟩
  ·have:=h.low k hk
   have:=O.size
   omega
  ·exact hk
def AskYes (w:World) (s:Nat) (F:Nat→Prop) (d:Int) (y:R4) (A':Abs) (e:Ending) (w':World):Prop:=e = .returned (.tuple #[rec4 y,.nilIface])∧St w' s (Fx F w w') A' d∧Only F w w'
structure OkC (w:World) (s:Nat) (m:Value) (d o f r:Int) (g:Nat) (p:Int) (u:Value) (W:World):Prop where
 row:W.heap[s]? = some (.cells #[m,.int .i64 d] 178 (0,0))
 adr:W.heap[w.heap.size]? = some (.cells #[.int .i64 o,.int .i64 f,.int .i64 r] 66 (0,0))
 box:W.heap[g]? = some (.cells #[.int .i64 p,u] 70 (0,0))
set_option maxHeartbeats 4000000 in
theorem ask_ok {w:World} {s b:Nat} {F:Nat→Prop} {C:List Ent} {d:Int} (S:Sto w s F (.map (some b)) C d) (o f r:Int) (x:R4) (hx:okR x) (hn:Wf f) {c:Ent} (hk:look Ent.n f C=some c) (he:doE c.p c.l o r=0) :
 Calls Tryz.prog 133 #[.pointer (some ⟨s,0,none⟩),Ad.addr o f r,rec4 x] w (AskYes w s F d (newR c.l o r x) (put key (f,c.p,c.l.set r.toNat (newR c.l o r x)) (C.map Ent.abs))):=by
 obtain ⟨ho,hgd,hok,_,hnm,hcm⟩:=S.find hk;have RR:=Lib.hid (ho.rd);have OK:=Lib.hid hok;have A0:=ask0_of w o f r x;have S0:Hid (Ask0 w o f r x (((w.alloc (.cells #[.int .i64 o,.int .i64 f,.int .i64 r] 66)).alloc (.cells #[.int .u8 x.1,.int .u8 x.2.1,.int .u8 x.2.2.1,.int .u8 x.2.2.2] 42)).alloc (.cells #[.int .u8 0,.int .u8 0,.int .u8 0,.int .u8 0] 42))):=A0;have SS:=Lib.hid (S.below A0.bel);have HN:=Lib.hid hn;have L:=Lib.hid (lv_some hk);have LB:=Lib.hid (lb_some hk);have SW:=Lib.hid S;have hne:=S.map_ne;have hlen:=S.len;have hsl:=S.low s S.foot;have hbl:=S.low b S.mp.isMap.1;obtain ⟨cn,p,a,cap,l⟩:=c;unfold Ent.sl at RR;simp only at *;have FIN:Hid (∀ (B:Nat) (au:Option Addr) (cu:Nat) (W W' W'':World),w.heap.size+3≤B→Below w.heap.size w W→W.grownBy W' (some b)→Ow K4 W B 42 (.slice au l.length cu) (l.set r.toNat (newR l o r x))→(∀ c:Ent,c.n=f→c.file=file p (.slice au l.length cu)→c.l=l.set r.toNat (newR l o r x)→Mp W' F (.map (some b)) (put Ent.n c C))→B≤W'.heap.size→Only (fun k=>k=w.heap.size+2) W' W''→AskYes w s F d (newR l o r x) (put key (f,p,l.set r.toNat (newR l o r x)) (C.map Ent.abs)) (.returned (.tuple #[rec4 (newR l o r x),.nilIface])) W''):=fun B au cu W W' W'' hB hb hgr ow mp hBW o2=>by
  have hlen2:(l.set r.toNat (newR l o r x)).length=l.length:=List.length_set ..;have hfile:(⟨f,p,au,cu,l.set r.toNat (newR l o r x)⟩:Ent).file=file p (.slice au l.length cu):=by unfold Ent.file Ent.sl;rw [hlen2]
  have ow':Ow K4 W B 42 (⟨f,p,au,cu,l.set r.toNat (newR l o r x)⟩:Ent).sl (l.set r.toNat (newR l o r x)):=by unfold Ent.sl;rw [hlen2];exact ow
  obtain ⟨S1,O1⟩:=S.place2 (c:=⟨f,p,au,cu,l.set r.toNat (newR l o r x)⟩) hb (by omega) hgr (mp _ rfl hfile rfl) ow' hnm (good_do he) (okL_set hok (okR_new hok hx));rw [abs_put] at S1;have O2:Only F w W'':=O1.trans (o2.mono (G':=fun k=>k=w.heap.size+2) fun _ _ g=>g) fun k hk e=>by omega
  have S2:=S1.only (G:=fun k=>k=w.heap.size+2) (fun k hk e=>by
   rcases hk with hk | ⟨hk,_⟩
   ·have:=S.low k hk;omega
   ·omega) o2
  refine ⟨rfl,S2.wide (fun k hk=>?_) (Fx.low S.low O2.size),O2⟩
  rcases hk with hk | ⟨h1,h2⟩
  ·exact .inl hk
  ·exact .inr ⟨by omega,Nat.lt_of_lt_of_le h2 o2.size⟩
 have HE:=Lib.hid he;obtain ⟨q,hq⟩:∃ q,q=l.length:=⟨_,rfl⟩;rw [← hq] at RR L FIN;have HQ:=Lib.hid hq;clear S hk A0 hn ho hgd hok hcm he hq hnm;unfold rec4;unfold Ad.addr
 go_enter Tryz.func133,Tryz.ntmps133
 go_wp2_with fail;generalize (((w.alloc (.cells #[.int .i64 o,.int .i64 f,.int .i64 r] 66)).alloc (.cells #[.int .u8 x.1,.int .u8 x.2.1,.int .u8 x.2.2.1,.int .u8 x.2.2.2] 42)).alloc (.cells #[.int .u8 0,.int .u8 0,.int .u8 0,.int .u8 0] 42))=W at *;have c0:=Sd.cell_by (show W.cell? ⟨s,0,none⟩=some (.map (some b)) from row_cell SS.out.row 0);have a1:=Sd.cell_by (show W.cell? ⟨w.heap.size,1,none⟩=some (.int .i64 f) from row_cell S0.out.adr 1);have hlk:∀ P:Sd.By W,(Instr.lookup 176 (.map (some b)) (.int .i64 f) true).run Tryz.prog P.world = .ok (.tuple #[.agg #[.int .i64 p,.slice a q cap],.bool true]) P.world:=fun P=>by
  have:=run_look (SS.out.below P.below).mp HN.out true;rw [L.out,LB.out] at this;exact this
 refine Sf.start [(0,0),(0,1),(0,2),(0,3),(0,4),(0,5),(0,6),(0,7),(0,8),(0,9),(2,10),(1,11),(0,12)] [⟨10,8,#[.int .i64 0,.slice none 0 0],70⟩] (by kernel_rfl) (by kernel_rfl) (by kernel_rfl) (by decide) (by decide) ?_ ?_ ?_
 ·simp
 ·intro f hf
  simp only [List.mem_cons,List.not_mem_nil,or_false] at hf;subst hf;exact ⟨_,rfl,rfl,rfl,fun ρ w=>by go_simp⟩
 dsimp only [Sf.picks,List.getElem?_cons_succ,List.getElem?_cons_zero];have BW:=Lib.hid ((Below.refl W.heap.size W).drew)
 repeat (refine Sf.lit (fun xs=>?_);simp only [Sf.fill,List.foldl_cons,List.foldl_nil];quiet_step (fail);refine wpQuiet_nil ?_)
 refine Sf.meet (fun gF w7 hb hc row n7 hH hL=>?_);have B7:=Lib.hid (BW.out.trans (hb.mono BW.out.size));have R7:Hid (w7.heap[gF]? = some (.cells #[.int .i64 0,.slice none 0 0] 70 (0,0))):=row;clear hb hc row hH hL BW;refine Sf.call (fun xs w9 hb hc=>⟨by rfl,fun K hK=>?_⟩);have B9:=Lib.hid (B7.out.trans (hb.mono B7.out.size));have R9:=(hb.block _ (lt_of_block R7.out)).trans R7.out;have k0:w9.cell? ⟨gF,0,none⟩=some (.int .i64 0):=row_cell R9 0;have k1:w9.cell? ⟨gF,1,none⟩=some (.slice none 0 0):=row_cell R9 1;have f0:=row_frozen R9 0;have f1:=row_frozen R9 1;have RA:=Lib.hid (sto2_row R9 p (.slice a q cap));have BA:=Lib.hid (sto2_below (p:=p) (v:=.slice a q cap) B9.out n7);have hsz:=sto2_size w9 gF p (.slice a q cap);clear hb hc B7 R7 R9 B9;simp only [Sf.fill,List.foldl_nil];go_simp;refine hK _ _ (Sd.Cl.of BA.out) (by rw [← hsz];exact Nat.le_refl _) (fun h=>absurd rfl h) ?_;clear hK K k0 k1 f0 f1 hsz
 show Sf.wpSf _ _ _ _ _ _ _ _ _ _ (sto2 w9 gF p (.slice a q cap))
 generalize sto2 w9 gF p (.slice a q cap)=wA at *
 repeat (refine Sf.lit (fun xs=>?_);simp only [Sf.fill,List.foldl_nil];quiet_step (fail);refine wpQuiet_nil ?_)
 refine Sf.done (fun wB hb hc=>?_);have BX:=Lib.hid (BA.out.trans (hb.mono BA.out.size));have G1:=Lib.hid ((hb.block _ (lt_of_block RA.out)).trans RA.out);have S1:=Lib.hid (S0.out.mono BX.out);have N7:Hid (W.heap.size≤gF):=n7;clear hb hc BA RA c0 a1 hlk n7 S0;have b0:wB.cell? ⟨gF,0,none⟩=some (.int .i64 p):=row_cell G1.out 0;have b1:wB.cell? ⟨gF,1,none⟩=some (.slice a q cap):=row_cell G1.out 1;have a0:wB.cell? ⟨w.heap.size,0,none⟩=some (.int .i64 o):=row_cell S1.out.adr 0;have a2:wB.cell? ⟨w.heap.size,2,none⟩=some (.int .i64 r):=row_cell S1.out.adr 2;have x0:wB.cell? ⟨w.heap.size+1,0,none⟩=some (.int .u8 x.1):=row_cell S1.out.arg 0;have x1:wB.cell? ⟨w.heap.size+1,1,none⟩=some (.int .u8 x.2.1):=row_cell S1.out.arg 1;have x2:wB.cell? ⟨w.heap.size+1,2,none⟩=some (.int .u8 x.2.2.1):=row_cell S1.out.arg 2;have x3:wB.cell? ⟨w.heap.size+1,3,none⟩=some (.int .u8 x.2.2.2):=row_cell S1.out.arg 3;have DO:=Lib.hid (do_ok wB p (.slice a q cap) l (RR.out.below S1.out.bel) OK.out o r x HE.out);rw [← HQ.out] at DO;have HB3:Hid (w.heap.size+3≤wB.heap.size):=S1.out.siz;clear BX G1 N7 L LB RR OK HE SS;generalize l.set r.toNat (newR l o r x)=l2 at *;generalize newR l o r x=y at *;unfold file rec4 at DO;go_wp2_with fail;refine DO.out.mono ?_;rintro e w3 ⟨ua,ucap,rfl,o3,b3⟩;obtain ⟨t1,t2,tB⟩:=two_res w3 p (.slice ua q ucap) y;have S3:=Lib.hid ((S1.out.mono b3).mono tB);have T1:=Lib.hid t1;have T2:=Lib.hid t2;have O3:=Lib.hid (o3.keep tB);have hw3:Hid (wB.heap.size≤w3.heap.size):=b3.size;clear t1 t2 tB b3 DO b0 b1 a0 a2 x0 x1 x2 x3 S1 o3;unfold arr4 at S3 T1 T2 O3;go_wp2_with fail;have TZ:Hid (w3.heap.size+2=((w3.alloc (.cells #[.int .i64 p,.slice ua q ucap] 70)).alloc (.cells #[.int .u8 y.1,.int .u8 y.2.1,.int .u8 y.2.2.1,.int .u8 y.2.2.2] 42)).heap.size):=by unfold Hid;simp
 generalize ((w3.alloc (.cells #[.int .i64 p,.slice ua q ucap] 70)).alloc (.cells #[.int .u8 y.1,.int .u8 y.2.1,.int .u8 y.2.2.1,.int .u8 y.2.2.2] 42))=Wq at *;have S5:=Lib.hid (SW.out.below S3.out.bel);have C0:OkC w s (.map (some b)) d o f r w3.heap.size p (.slice ua q ucap) Wq.drew:=⟨S5.out.row,S3.out.adr,T1.out⟩;have c0:=Sc.cell_in (C:=OkC w s (.map (some b)) d o f r w3.heap.size p (.slice ua q ucap)) (a:=⟨s,0,none⟩) (fun W' h=>row_cell h.row 0);have a1:=Sc.cell_in (C:=OkC w s (.map (some b)) d o f r w3.heap.size p (.slice ua q ucap)) (a:=⟨w.heap.size,1,none⟩) (v:=.int .i64 f) (fun W' h=>row_cell h.adr 1);have r0:=Sc.cell_in (C:=OkC w s (.map (some b)) d o f r w3.heap.size p (.slice ua q ucap)) (a:=⟨w3.heap.size,0,none⟩) (fun W' h=>row_cell h.box 0);have r1:=Sc.cell_in (C:=OkC w s (.map (some b)) d o f r w3.heap.size p (.slice ua q ucap)) (a:=⟨w3.heap.size,1,none⟩) (fun W' h=>row_cell h.box 1);have ne:Nonempty (Sc.In (OkC w s (.map (some b)) d o f r w3.heap.size p (.slice ua q ucap))):=⟨⟨_,C0⟩⟩;refine Sc.start (OkC w s (.map (some b)) d o f r w3.heap.size p (.slice ua q ucap)) [(false,0),(false,1),(false,2),(false,3),(false,4),(false,5),(false,6),(true,7)] (by kernel_rfl) (by kernel_rfl) (by kernel_rfl) C0 ?_;dsimp only [Sd.picks,List.getElem?_cons_succ,List.getElem?_cons_zero]
 repeat (refine Sd.lit ?_;quiet_step (fail);refine wpQuiet_nil ?_)
 have BD:Below Wq.heap.size Wq Wq.drew:=(Below.refl _ _).drew;have S6:=Lib.hid (S3.out.mono BD);have M6:=Lib.hid (S5.out.below BD).mp;have R6:=Lib.hid (S5.out.below BD).row;have T6:Hid (Wq.drew.heap[w3.heap.size]? = _):=T1.out;have T7:Hid (Wq.drew.heap[w3.heap.size+1]? = _):=T2.out;have O6:=Lib.hid (O3.out.keep BD);have Z6:Hid (w3.heap.size+2=Wq.drew.heap.size):=TZ.out;clear c0 a1 r0 r1 C0 S3 S5 T1 T2 O3 TZ BD;generalize Wq.drew=Wy at *;refine Sd.call (by rfl) (fun K hK=>?_);have hcl:C.length < maxLen:=by unfold maxLen;omega
 have hll2:Hid (l2.length=q):=by
  have:=O6.out;unfold Ow World.ownsRow at this
  rcases this.2 with ⟨e,h0⟩ | ⟨g,cp,cur,e,_⟩
  ·injection e with _ e _;exact h0.trans e.symm
  ·injection e with _ e _;exact e.symm
 have hfl:(⟨f,p,ua,ucap,l2⟩:Ent).file = .agg #[.int .i64 p,.slice ua q ucap]:=by unfold Ent.file Ent.sl Fl.file;rw [hll2.out]
 refine wp_put _ _ _ rfl rfl M6.out ⟨f,p,ua,ucap,l2⟩ rfl (by rw [hfl];rfl) HN.out hcl (fun w4 m4 g4=>?_);have hbne1:b≠w3.heap.size:=by have:=HB3.out;have:=hw3.out;omega
 have hbne2:b≠w3.heap.size+1:=by have:=HB3.out;have:=hw3.out;omega
 have RES:=Lib.hid (fun W''=>FIN.out wB.heap.size ua ucap Wy w4 W'' HB3.out S6.out.bel g4 O6.out (fun c e1 e2 e3=>by
  obtain ⟨cn',cp,ca,cc,cl⟩:=c;simp only at e1 e3;subst e1 e3;unfold Ent.file Fl.file Ent.sl at e2;injection e2 with e2;have e4:=congrArg (fun t:Array Value=>t[0]?) e2;have e5:=congrArg (fun t:Array Value=>t[1]?) e2
  simp at e4 e5
  obtain ⟨rfl,_,rfl⟩:=e5;subst e4
  exact m4) (by have:=g4.size;have:=Z6.out;have:=hw3.out;omega))
 have old:∀ k,k < Wy.heap.size→k≠b→w4.heap[k]? = Wy.heap[k]?:=fun k hk hne=>g4.block k hk (by intro e;injection e with e;exact hne e);have N1:w4.heap[s]? = _:=(old s (lt_of_block R6.out) (fun e=>hne e.symm)).trans R6.out;have N2:w4.heap[w.heap.size]? = _:=(old _ (lt_of_block S6.out.adr) (by omega)).trans S6.out.adr;have N3:w4.heap[w3.heap.size]? = _:=(old _ (lt_of_block T6.out) (fun e=>hbne1 e.symm)).trans T6.out;have N4:w4.heap[w3.heap.size+1]? = _:=(old _ (lt_of_block T7.out) (fun e=>hbne2 e.symm)).trans T7.out;have N5:w4.heap[w.heap.size+2]? = _:=(old _ (lt_of_block S6.out.res) (by omega)).trans S6.out.res;refine hK _ _ (Sc.Cl.of ⟨N1,N2,N3⟩) ?_;clear hK K m4 g4 FIN N1 N2 N3 old R6 M6 T6 T7 O6;refine Sd.done ?_;have y0:w4.cell? ⟨w3.heap.size+1,0,none⟩=some (.int .u8 y.1):=row_cell N4 0;have y1:w4.cell? ⟨w3.heap.size+1,1,none⟩=some (.int .u8 y.2.1):=row_cell N4 1;have y2:w4.cell? ⟨w3.heap.size+1,2,none⟩=some (.int .u8 y.2.2.1):=row_cell N4 2;have y3:w4.cell? ⟨w3.heap.size+1,3,none⟩=some (.int .u8 y.2.2.2):=row_cell N4 3;have d0:w4.cell? ⟨w.heap.size+2,0,none⟩=some (.int .u8 0):=row_cell N5 0;have d1:w4.cell? ⟨w.heap.size+2,1,none⟩=some (.int .u8 0):=row_cell N5 1;have d2:w4.cell? ⟨w.heap.size+2,2,none⟩=some (.int .u8 0):=row_cell N5 2;have d3:w4.cell? ⟨w.heap.size+2,3,none⟩=some (.int .u8 0):=row_cell N5 3;have k0:=row_frozen N5 0;have k1:=row_frozen N5 1;have k2:=row_frozen N5 2;have k3:=row_frozen N5 3;have R9:=Lib.hid (sto4_row N5 y);have O9:Hid (Only (fun k=>k=w.heap.size+2) w4 (sto4 w4 (w.heap.size+2) 0 y)):=by
  have O1:∀ W:World,∀ o v,Only (fun k=>k=w.heap.size+2) W (W.setCell ⟨w.heap.size+2,o,none⟩ v):=fun W o v=>Only.set (fun k=>k=w.heap.size+2) W (a:=⟨w.heap.size+2,o,none⟩) rfl v;exact (((O1 _ _ _).trans (O1 _ _ _) fun _ _ g=>g).trans (O1 _ _ _) fun _ _ g=>g).trans (O1 _ _ _) fun _ _ g=>g
 clear N4 N5 S6 HB3 hw3 Z6;go_wp2
 (try simp only [Exit.inBlock,Exit.then])
 exact bodyPost_ret (results_rec (p:=6) (r:=7) rfl _ _ (w.heap.size+2) y .nilIface rfl rfl R9.out) rfl (RES.out _ O9.out)
end Go.Proofs.YtljnkaodhfnbbaaGreatDoor.Fs
namespace Go.Proofs.YtljnkaodhfnbbaaGreatDoor.Ad
open Go.RowKit
def Lead (o n:Int) (k:Bool):Prop:=o=0∧n=0∧k=true∨o=1∧n=64∧k=true∨o=2∧n=128∧k=true∨(o < 0∨2 < o)∧n=0∧k=false
set_option maxHeartbeats 400000 in
theorem lead_any (w:World) (o n:Int) (k:Bool) (h:Lead o n k):Calls Tryz.prog 177 #[.int .i64 o] w fun e w'=>e = .returned (.tuple #[.int .i64 n,.bool k])∧Below w.heap.size w w':=by
 rcases h with ⟨rfl,rfl,rfl⟩ | ⟨rfl,rfl,rfl⟩ | ⟨rfl,rfl,rfl⟩ | ⟨h | h,rfl,rfl⟩
 all_goals
  go_enter Tryz.func177,Tryz.ntmps177
  go_wp2
  go_ret2
  exact ⟨rfl,Below.refl _ _⟩
theorem lead_good {o:Int} (h1:0≤o) (h2:o≤2):Lead o (64 * o) true:=by
 unfold Lead
 rcases (by omega:o=0∨o=1∨o=2) with rfl | rfl | rfl
 ·exact .inl ⟨rfl,rfl,rfl⟩
 ·exact .inr (.inl ⟨rfl,rfl,rfl⟩)
 ·exact .inr (.inr (.inl ⟨rfl,rfl,rfl⟩))
theorem lead_bad {o:Int} (h:¬ (0≤o∧o≤2)):Lead o 0 false:=.inr (.inr (.inr ⟨by omega,rfl,rfl⟩))
set_option maxHeartbeats 1000000 in
theorem good_any (w:World) (o f r:Int):Calls Tryz.prog 132 #[addr o f r] w fun e w'=>e = .returned (.bool (goodB o f r))∧Below w.heap.size w w':=by
 have B0:=Lib.hid ((Below.refl w.heap.size w).alloc (Nat.le_refl _) (.cells #[.int .i64 o,.int .i64 f,.int .i64 r] 66));unfold addr
 by_cases h0:0≤o∧o≤2
 ·have L:=Lib.hid (lead_good h0.1 h0.2)
  obtain ⟨h1,h2⟩:=h0
  go_enter Tryz.func132,Tryz.ntmps132
  go_wp2_with fail;refine (lead_any _ o _ _ L.out).mono ?_;rintro e w1 ⟨rfl,b1⟩;have B1:=Lib.hid (B0.out.trans (b1.mono B0.out.size));have c1:w1.cell? ⟨w.heap.size,1,none⟩=some (.int .i64 f):=(b1.cell (by simp)).trans (by go_simp);have c2:w1.cell? ⟨w.heap.size,2,none⟩=some (.int .i64 r):=(b1.cell (by simp)).trans (by go_simp);clear b1 B0 L
  by_cases k0:0≤f
  ·by_cases k1:f < 64
   ·by_cases k2:0≤r
    ·by_cases k3:r < 256
     ·go_wp2
      go_ret
      exact ⟨ret_bool (by first | exact (decide_eq_true (show good o f r from ⟨by omega,by omega,by omega,by omega,by omega,by omega⟩)).symm | exact (decide_eq_false (show ¬ good o f r from fun g=>by obtain ⟨_,_,_,_,_,_⟩:=g;omega)).symm | exact decide_eq_decide.2 ⟨fun h=>absurd h (by omega),fun g=>absurd g.2.2.2.2.2 (by omega)⟩),B1.out⟩
     ·go_wp2
      go_ret
      exact ⟨ret_bool (by first | exact (decide_eq_true (show good o f r from ⟨by omega,by omega,by omega,by omega,by omega,by omega⟩)).symm | exact (decide_eq_false (show ¬ good o f r from fun g=>by obtain ⟨_,_,_,_,_,_⟩:=g;omega)).symm | exact decide_eq_decide.2 ⟨fun h=>absurd h (by omega),fun g=>absurd g.2.2.2.2.2 (by omega)⟩),B1.out⟩
    ·go_wp2
     go_ret
     exact ⟨ret_bool (by first | exact (decide_eq_true (show good o f r from ⟨by omega,by omega,by omega,by omega,by omega,by omega⟩)).symm | exact (decide_eq_false (show ¬ good o f r from fun g=>by obtain ⟨_,_,_,_,_,_⟩:=g;omega)).symm | exact decide_eq_decide.2 ⟨fun h=>absurd h (by omega),fun g=>absurd g.2.2.2.2.2 (by omega)⟩),B1.out⟩
   ·go_wp2
    go_ret
    exact ⟨ret_bool (by first | exact (decide_eq_true (show good o f r from ⟨by omega,by omega,by omega,by omega,by omega,by omega⟩)).symm | exact (decide_eq_false (show ¬ good o f r from fun g=>by obtain ⟨_,_,_,_,_,_⟩:=g;omega)).symm | exact decide_eq_decide.2 ⟨fun h=>absurd h (by omega),fun g=>absurd g.2.2.2.2.2 (by omega)⟩),B1.out⟩
  ·go_wp2
   go_ret
   exact ⟨ret_bool (by first | exact (decide_eq_true (show good o f r from ⟨by omega,by omega,by omega,by omega,by omega,by omega⟩)).symm | exact (decide_eq_false (show ¬ good o f r from fun g=>by obtain ⟨_,_,_,_,_,_⟩:=g;omega)).symm | exact decide_eq_decide.2 ⟨fun h=>absurd h (by omega),fun g=>absurd g.2.2.2.2.2 (by omega)⟩),B1.out⟩
 ·have L:=Lib.hid (lead_bad h0)
  go_enter Tryz.func132,Tryz.ntmps132
  go_wp2_with fail;refine (lead_any _ o _ _ L.out).mono ?_;rintro e w1 ⟨rfl,b1⟩;have B1:=Lib.hid (B0.out.trans (b1.mono B0.out.size));have c1:w1.cell? ⟨w.heap.size,1,none⟩=some (.int .i64 f):=(b1.cell (by simp)).trans (by go_simp);have c2:w1.cell? ⟨w.heap.size,2,none⟩=some (.int .i64 r):=(b1.cell (by simp)).trans (by go_simp);clear b1 B0 L;go_wp2
  go_ret
  exact ⟨ret_bool (by first | exact (decide_eq_true (show good o f r from ⟨by omega,by omega,by omega,by omega,by omega,by omega⟩)).symm | exact (decide_eq_false (show ¬ good o f r from fun g=>by obtain ⟨_,_,_,_,_,_⟩:=g;omega)).symm | exact decide_eq_decide.2 ⟨fun h=>absurd h (by omega),fun g=>absurd g.2.2.2.2.2 (by omega)⟩),B1.out⟩
end Go.Proofs.YtljnkaodhfnbbaaGreatDoor.Ad
