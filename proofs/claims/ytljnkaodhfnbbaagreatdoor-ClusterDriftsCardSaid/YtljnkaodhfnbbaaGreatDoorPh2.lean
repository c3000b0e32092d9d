import Derived.Test.YtljnkaodhfnbbaaGreatDoorPh1
import Derived.Test.YtljnkaodhfnbbaaGreatDoorChecked
import Derived.WalkKit
import Derived.LoopTactic
import Derived.Outline
import Derived.Deep.Draws
import Derived.DeepKeys
import Derived.Laws.ResultCell
import Derived.Lib.Hide
import Derived.Maps.OwnSet
import Derived.Maps.OwnOps
set_option maxRecDepth 100000
namespace Go.Proofs.YtljnkaodhfnbbaaGreatDoor.Fl
open Go.RowKit
open Rw (Rd Ow At)
attribute [local irreducible] Sd.wpSd wpQuiet Sf.wpSf
theorem rat_set (l:List R4) (k:Nat) (hk:k < l.length) (y:R4):rat (l.set k y) k=y:=by simp [rat,List.getD,hk]
theorem set_rat (l:List R4) (k:Nat) (hk:k < l.length):l.set k (rat l k)=l:=by
 have:rat l k=l[k]:=by simp [rat,List.getD,List.getElem?_eq_getElem hk]
 rw [this,List.set_getElem_self]
theorem own4 {w:World} {B:Nat} {l:List R4} {g n cap:Nat} (h:Ow K4 w B 42 (.slice (some ⟨g,0,none⟩) n cap) l) (k:Nat) (hk:k < l.length) :
 (w.cell? ⟨g,k * 4,none⟩=some (.int .u8 (rat l k).1)∧w.cell? ⟨g,k * 4+1,none⟩=some (.int .u8 (rat l k).2.1)∧w.cell? ⟨g,k * 4+2,none⟩=some (.int .u8 (rat l k).2.2.1)∧w.cell? ⟨g,k * 4+3,none⟩=some (.int .u8 (rat l k).2.2.2))∧(∀ j,w.frozen? ⟨g,j,none⟩=false)∧B≤g∧g < w.heap.size:=by
 obtain ⟨g',cap',eg,h1,h2,_,_,hf,hA⟩:=h.form (by omega);have e:g=g':=by
  injection eg with e1;injection e1 with e1;injection e1 with e1 _ _
 subst e;have c:=at4 hA k hk;simp only [Nat.zero_add] at c;exact ⟨c,hf,h1,h2⟩
theorem own_form {w:World} {B:Nat} {l:List R4} {u:Value} (h:Ow K4 w B 42 u l) (hl:0 < l.length):∃ g cap,u = .slice (some ⟨g,0,none⟩) l.length cap:=by
 obtain ⟨g,cap,e,_⟩:=h.form hl;exact ⟨g,cap,e⟩
structure Have (w:World) (p:Int) (v:Value) (x:R4) (gF:Nat) (u:Value) (m:List R4) (W:World):Prop where
 st:Start w p v x W
 row:W.heap[gF]? = some (.cells #[.int .i64 p,u] 70 (0,0))
 own:Ow K4 W (w.heap.size+4) 42 u m
 ge:w.heap.size+4≤gF
 ne:u.ownBlock≠some gF
theorem Have.mono {w W W':World} {p:Int} {v u:Value} {x:R4} {gF:Nat} {m:List R4} (h:Have w p v x gF u m W) (b:Below W.heap.size W W'):Have w p v x gF u m W' :=
 ⟨h.st.mono b,(b.block _ (lt_of_block h.row)).trans h.row,h.own.keep b,h.ge,h.ne⟩
theorem Have.put {w W:World} {p:Int} {v:Value} {x:R4} {gF gu n cu:Nat} {m:List R4} (h:Have w p v x gF (.slice (some ⟨gu,0,none⟩) n cu) m W) (hn:n=m.length) (k:Nat) (hk:k < m.length) (y:R4) :
 Have w p v x gF (.slice (some ⟨gu,0,none⟩) n cu) (m.set k y) (sto4 W gu (k * 4) y):=by
 have hge:=(own4 h.own k hk).2.2.1;have hne:gF≠gu:=fun e=>h.ne (by rw [e];rfl);exact ⟨⟨sto4_other h.st.box (by omega),sto4_other h.st.arg (by omega),sto4_other h.st.res1 (by omega),sto4_other h.st.res2 (by omega),by rw [sto4_size];exact h.st.siz,sto4_below h.st.bel (by omega)⟩,sto4_other h.row hne,sto4_own h.own hn k hk y,h.ge,h.ne⟩
def Last (w:World) (p:Int) (gF:Nat) (u:Value) (m:List R4) (W:World):Prop:=W.heap[gF]? = some (.cells #[.int .i64 p,u] 70 (0,0))∧Ow K4 W (w.heap.size+4) 42 u m
set_option maxHeartbeats 1000000 in
theorem do_no (w:World) (p:Int) (a:Option Addr) (n cap:Nat) (l:List R4) (R:Rd K4 w (.slice a n cap) l) (op rec:Int) (x:R4) (he:¬ doE p l op rec=0):Calls Tryz.prog 178 #[file p (.slice a n cap),.int .i64 op,.int .i64 rec,rec4 x] w (DoPost w p l op rec x):=by
 have S0:Hid (Start w p (.slice a n cap) x ((((w.alloc (.cells #[.int .i64 p,.slice a n cap] 70)).alloc (.cells #[.int .u8 x.1,.int .u8 x.2.1,.int .u8 x.2.2.1,.int .u8 x.2.2.2] 42)).alloc (.cells #[.int .i64 0,.slice none 0 0] 70)).alloc (.cells #[.int .u8 0,.int .u8 0,.int .u8 0,.int .u8 0] 42))):=Lib.hid (Start.of w p _ x);have WR:=Lib.hid (wrong_any _ p _ l (R.below S0.out.bel) op rec);have E:Hid (∀ w',Below w.heap.size w w'→DoPost w p l op rec x (.returned (.tuple #[file 0 (.slice none 0 0),rec4 z4,.int .i64 (doE p l op rec)])) w'):=fun w' h=>⟨.slice none 0 0,by rw [if_neg he,if_neg he],by rw [if_neg he];exact Ow.nil _ _ _,h⟩;have hd:(doE p l op rec != 0)=true:=by simpa using he
 clear R he;generalize doE p l op rec=d at *;unfold file rec4 at *
 go_enter Tryz.func178,Tryz.ntmps178
 go_wp2_with fail;generalize (((w.alloc (.cells #[.int .i64 p,.slice a n cap] 70)).alloc (.cells #[.int .u8 x.1,.int .u8 x.2.1,.int .u8 x.2.2.1,.int .u8 x.2.2.2] 42)).alloc (.cells #[.int .i64 0,.slice none 0 0] 70)).alloc (.cells #[.int .u8 0,.int .u8 0,.int .u8 0,.int .u8 0] 42)=W at *;refine WR.out.mono ?_;rintro e w1 ⟨rfl,b1⟩;have S1:=Lib.hid (S0.out.mono b1);clear b1 S0 WR;have c0:w1.cell? ⟨w.heap.size+2,0,none⟩=some (.int .i64 0):=row_cell S1.out.res1 0;have c1:w1.cell? ⟨w.heap.size+2,1,none⟩=some (.slice none 0 0):=row_cell S1.out.res1 1;have d0:w1.cell? ⟨w.heap.size+3,0,none⟩=some (.int .u8 0):=row_cell S1.out.res2 0;have d1:w1.cell? ⟨w.heap.size+3,1,none⟩=some (.int .u8 0):=row_cell S1.out.res2 1;have d2:w1.cell? ⟨w.heap.size+3,2,none⟩=some (.int .u8 0):=row_cell S1.out.res2 2;have d3:w1.cell? ⟨w.heap.size+3,3,none⟩=some (.int .u8 0):=row_cell S1.out.res2 3;have f0:=row_frozen S1.out.res1 0;have f1:=row_frozen S1.out.res1 1;have k0:=row_frozen S1.out.res2 0;have k1:=row_frozen S1.out.res2 1;have k2:=row_frozen S1.out.res2 2;have k3:=row_frozen S1.out.res2 3;have R1:=Lib.hid (sto4_other (g:=w.heap.size+3) (o:=0) (r:=z4) (sto2_row S1.out.res1 0 (.slice none 0 0)) (by omega));have R2:=Lib.hid (sto4_row (sto2_other (g:=w.heap.size+2) (p:=0) (v:=.slice none 0 0) S1.out.res2 (by omega)) z4);have B2:=Lib.hid (sto4_below (o:=0) (r:=z4) (sto2_below (p:=0) (v:=.slice none 0 0) S1.out.bel (show w.heap.size≤w.heap.size+2 by omega)) (show w.heap.size≤w.heap.size+3 by omega));clear S1;go_wp2
 (try simp only [Exit.inBlock,Exit.then])
 exact bodyPost_ret (results_do (p:=8) (q:=9) (r:=10) rfl _ _ (w.heap.size+2) (w.heap.size+3) 0 (.slice none 0 0) z4 d rfl rfl rfl R1.out R2.out) rfl (E.out _ B2.out)
structure Read (w:World) (p:Int) (v:Value) (gF:Nat) (u:Value) (W:World):Prop where
 box:W.heap[w.heap.size]? = some (.cells #[.int .i64 p,v] 70 (0,0))
 row:W.heap[gF]? = some (.cells #[.int .i64 p,u] 70 (0,0))
 bel:Below w.heap.size w W
theorem doE_of {p op rec:Int} {l:List R4} (h:doE p l op rec=0):goodF p l∧(0≤op∧op≤2)∧0≤rec∧rec < l.length:=by
 by_cases h1:goodF p l
 ·by_cases h2:0≤op∧op≤2
  ·by_cases h3:0≤rec∧rec < l.length
   ·exact ⟨h1,h2,h3⟩
   ·rw [doE_4 h1 h2 h3] at h;omega
  ·rw [doE_1 h1 h2] at h;omega
 ·rw [doE_2 h1] at h;omega
set_option maxHeartbeats 4000000 in
theorem do_yes (w:World) (p:Int) (a:Option Addr) (n cap:Nat) (l:List R4) (R:Rd K4 w (.slice a n cap) l) (hl:okL l) (op:Int) (k:Nat) (x:R4) (he:doE p l op k=0) (ho:0≤op∧op≤2) (hk:k < l.length) (h256:l.length≤256):Calls Tryz.prog 178 #[file p (.slice a n cap),.int .i64 op,.int .i64 (k:Int),rec4 x] w (DoPost w p l op k x):=by
 obtain ⟨b,off,rfl,hA⟩:∃ b off,a=some ⟨b,off,none⟩∧At K4 w b off l:=by
  obtain ⟨a',cap',e,_,_,h4⟩:=R;injection e with e1 e2 e3;subst e1;exact h4 (by omega)
 have hn:n=l.length:=by
  obtain ⟨a',cap',e,_⟩:=R;injection e
 have S0:Hid (Start w p (.slice (some ⟨b,off,none⟩) n cap) x ((((w.alloc (.cells #[.int .i64 p,.slice (some ⟨b,off,none⟩) n cap] 70)).alloc (.cells #[.int .u8 x.1,.int .u8 x.2.1,.int .u8 x.2.2.1,.int .u8 x.2.2.2] 42)).alloc (.cells #[.int .i64 0,.slice none 0 0] 70)).alloc (.cells #[.int .u8 0,.int .u8 0,.int .u8 0,.int .u8 0] 42))):=Lib.hid (Start.of w p _ x);have WR:=Lib.hid (at_int he (wrong_any _ p _ l (R.below S0.out.bel) op k));have E:Hid (∀ y u w',y=newR l op k x→Ow K4 w' w.heap.size 42 u (l.set k y)→Below w.heap.size w w'→DoPost w p l op k x (.returned (.tuple #[file p u,rec4 y,.int .i64 0])) w'):=fun y u w' hy h hb=>⟨u,by rw [if_pos he,if_pos he,he,hy],by rw [if_pos he,← hy,Int.toNat_natCast];exact h,hb⟩;have HLL:=Lib.hid (And.intro hk (And.intro hn h256));have RR:=Lib.hid R;have HA:=Lib.hid hA;have OK:=Lib.hid hl;have hkn:k < n:=by omega
 have hn0:n < 2147483648:=by omega
 clear he R hA hl hn h256 hk;unfold file rec4 at *
 go_enter Tryz.func178,Tryz.ntmps178
 go_wp2_with fail;generalize (((w.alloc (.cells #[.int .i64 p,.slice (some ⟨b,off,none⟩) n cap] 70)).alloc (.cells #[.int .u8 x.1,.int .u8 x.2.1,.int .u8 x.2.2.1,.int .u8 x.2.2.2] 42)).alloc (.cells #[.int .i64 0,.slice none 0 0] 70)).alloc (.cells #[.int .u8 0,.int .u8 0,.int .u8 0,.int .u8 0] 42)=W at *;refine WR.out.mono ?_;rintro e w1 ⟨rfl,b1⟩;have S1:=Lib.hid (S0.out.mono b1);clear b1 S0 WR;go_wp2_with fail;have s0:=Sd.cell_by (show w1.cell? ⟨w.heap.size,0,none⟩=some (.int .i64 p) from row_cell S1.out.box 0);have s1:=Sd.cell_by (show w1.cell? ⟨w.heap.size,1,none⟩=some (.slice (some ⟨b,off,none⟩) n cap) from row_cell S1.out.box 1);refine Sf.start [(0,0),(0,1),(0,2),(0,3),(1,4),(0,5),(2,6),(1,7)] [⟨6,12,#[.int .i64 0,.slice none 0 0],70⟩] (by kernel_rfl) (by kernel_rfl) (by kernel_rfl) (by decide) (by decide) ?_ ?_ ?_
 ·simp
 ·intro f hf
  simp only [List.mem_cons,List.not_mem_nil,or_false] at hf;subst hf;exact ⟨_,rfl,rfl,rfl,fun ρ w=>by go_simp⟩
 dsimp only [Sf.picks,List.getElem?_cons_succ,List.getElem?_cons_zero];have BW:=Lib.hid ((Below.refl w1.heap.size w1).drew)
 repeat (refine Sf.lit (fun xs=>?_);simp only [Sf.fill,List.foldl_cons,List.foldl_nil];quiet_step (fail);refine wpQuiet_nil ?_)
 refine Sf.call (fun xs w3 hb hc=>⟨by rfl,fun K hK=>?_⟩);have B3:=Lib.hid (BW.out.trans (hb.mono BW.out.size));clear hb hc BW;simp only [Sf.fill,List.foldl_cons,List.foldl_nil];go_simp;have R3:=RR.out.below (S1.out.bel.trans (B3.out.mono (by have:=S1.out.siz;omega)));refine (clone_any _ _ l R3 (by have:=HLL.out.2.2;omega)).mono ?_;rintro e4 w4 ⟨u,rfl,o4,b4⟩;obtain ⟨gu,cu,rfl⟩:=own_form o4 (by have:=HLL.out.1;omega);rw [← HLL.out.2.1] at o4 ⊢;have B4:=Lib.hid (B3.out.trans (b4.mono B3.out.size));have O4:=Lib.hid o4;refine hK _ _ (Sd.Cl.of B4.out) b4.size (fun _=>b4) ?_;clear hK K b4 o4 R3
 repeat (refine Sf.lit (fun xs=>?_);simp only [Sf.fill,List.foldl_cons,List.foldl_nil];quiet_step (fail);refine wpQuiet_nil ?_)
 refine Sf.meet (fun gF w7 hb hc row n7 hH hL=>?_);have B7:=Lib.hid (B4.out.trans (hb.mono B4.out.size));have N7:=Lib.hid (O4.out.range (hH _ (List.mem_cons_self ..)));have O7:=Lib.hid (O4.out.keep hb);have R7:Hid (w7.heap[gF]? = some (.cells #[.int .i64 0,.slice none 0 0] 70 (0,0))):=row;clear hb hc row hH hL B4 O4;refine Sf.call (fun xs w9 hb hc=>⟨by rfl,fun K hK=>?_⟩);have B9:=Lib.hid (B7.out.trans (hb.mono B7.out.size));have O9:=Lib.hid (O7.out.keep hb);have R9:=(hb.block _ (lt_of_block R7.out)).trans R7.out;have c0:w9.cell? ⟨gF,0,none⟩=some (.int .i64 0):=row_cell R9 0;have c1:w9.cell? ⟨gF,1,none⟩=some (.slice none 0 0):=row_cell R9 1;have f0:=row_frozen R9 0;have f1:=row_frozen R9 1;have RA:=sto2_row R9 p (.slice (some ⟨gu,0,none⟩) n cu);have BA:=sto2_below (p:=p) (v:=.slice (some ⟨gu,0,none⟩) n cu) B9.out n7;have OA:=sto2_off (u:=.slice (some ⟨gu,0,none⟩) n cu) O9.out N7.out p;have hs1:=S1.out.siz;have hs3:=B3.out.size;have HB:Hid (Have w p (.slice (some ⟨b,off,none⟩) n cap) x gF (.slice (some ⟨gu,0,none⟩) n cu) l (sto2 w9 gF p (.slice (some ⟨gu,0,none⟩) n cu))):=⟨S1.out.mono BA,RA,OA.low (by omega),by omega,N7.out⟩;have hsz:=sto2_size w9 gF p (.slice (some ⟨gu,0,none⟩) n cu);clear hb hc B7 O7 R7 R9 RA OA B9 O9 N7;simp only [Sf.fill,List.foldl_nil];go_simp;refine hK _ _ (Sd.Cl.of BA) (by rw [← hsz];exact Nat.le_refl _) (fun h=>absurd rfl h) ?_;clear hK K c0 c1 f0 f1
 show Sf.wpSf _ _ _ _ _ _ _ _ _ _ (sto2 w9 gF p (.slice (some ⟨gu,0,none⟩) n cu))
 clear BA hsz;generalize sto2 w9 gF p (.slice (some ⟨gu,0,none⟩) n cu)=wA at *;refine Sf.done (fun wB hb hc=>?_);have HV:=Lib.hid (HB.out.mono hb);clear hb hc HB S1 B3 s0 s1 n7 hs1 hs3
 rcases (by omega:op=0∨op=1∨op=2) with rfl | rfl | rfl
 ·obtain ⟨y,hy⟩:∃ y,rat l k=y:=⟨_,rfl⟩
  have EY:Hid (∀ u w',Ow K4 w' w.heap.size 42 u (l.set k y)→Below w.heap.size w w'→DoPost w p l 0 k x (.returned (.tuple #[file p u,rec4 y,.int .i64 0])) w'):=fun u w'=>E.out y u w' (by rw [← hy];unfold newR;rw [if_neg (by decide),if_neg (by decide),Int.toNat_natCast]);rw [← set_rat l k HLL.out.1,hy] at HV;clear E hy;go_wp2_with fail;generalize wB=Wz at *;obtain ⟨⟨c0,c1,c2,c3⟩,_,_,_⟩:=own4 HV.out.own k (by rw [List.length_set];exact HLL.out.1);rw [rat_set l k HLL.out.1] at c0 c1 c2 c3;have C0:Last w p gF (.slice (some ⟨gu,0,none⟩) n cu) (l.set k y) Wz.drew:=⟨HV.out.row,HV.out.own⟩;have r0:=Sc.cell_in (C:=Last w p gF (.slice (some ⟨gu,0,none⟩) n cu) (l.set k y)) (a:=⟨gF,0,none⟩) (fun W' h=>row_cell h.1 0);have r1:=Sc.cell_in (C:=Last w p gF (.slice (some ⟨gu,0,none⟩) n cu) (l.set k y)) (a:=⟨gF,1,none⟩) (fun W' h=>row_cell h.1 1);have HQ:Hid (∀ W',Last w p gF (.slice (some ⟨gu,0,none⟩) n cu) (l.set k y) W'→(W'.cell? ⟨gu,k * 4,none⟩=some (.int .u8 y.1)∧W'.cell? ⟨gu,k * 4+1,none⟩=some (.int .u8 y.2.1)∧W'.cell? ⟨gu,k * 4+2,none⟩=some (.int .u8 y.2.2.1)∧W'.cell? ⟨gu,k * 4+3,none⟩=some (.int .u8 y.2.2.2))):=fun W' h=>by
   have:=(own4 h.2 k (by rw [List.length_set];exact HLL.out.1)).1;rw [rat_set l k HLL.out.1] at this;exact this
  have q0:=Sc.cell_in (C:=Last w p gF (.slice (some ⟨gu,0,none⟩) n cu) (l.set k y)) (fun W' h=>(HQ.out W' h).1);have q1:=Sc.cell_in (C:=Last w p gF (.slice (some ⟨gu,0,none⟩) n cu) (l.set k y)) (fun W' h=>(HQ.out W' h).2.1);have q2:=Sc.cell_in (C:=Last w p gF (.slice (some ⟨gu,0,none⟩) n cu) (l.set k y)) (fun W' h=>(HQ.out W' h).2.2.1);have q3:=Sc.cell_in (C:=Last w p gF (.slice (some ⟨gu,0,none⟩) n cu) (l.set k y)) (fun W' h=>(HQ.out W' h).2.2.2);have ne:Nonempty (Sc.In (Last w p gF (.slice (some ⟨gu,0,none⟩) n cu) (l.set k y))):=⟨⟨_,C0⟩⟩;clear c0 c1 c2 c3 HQ;refine Sc.start (Last w p gF (.slice (some ⟨gu,0,none⟩) n cu) (l.set k y)) [(false,0),(false,1),(false,2),(false,3),(false,4),(false,5),(true,6),(true,7),(false,8)] (by kernel_rfl) (by kernel_rfl) (by kernel_rfl) C0 ?_;dsimp only [Sd.picks,List.getElem?_cons_succ,List.getElem?_cons_zero]
  repeat (refine Sd.lit ?_;quiet_step (fail);refine wpQuiet_nil ?_)
  have HD:Hid (Have w p (.slice (some ⟨b,off,none⟩) n cap) x gF (.slice (some ⟨gu,0,none⟩) n cu) (l.set k y) Wz.drew):=HV.out.mono ((Below.refl _ _).drew);clear HV r0 r1 q0 q1 q2 q3 C0;generalize Wz.drew=Wy at *;refine Sd.call (by rfl) (fun K hK=>?_);have c0:Wy.cell? ⟨w.heap.size+2,0,none⟩=some (.int .i64 0):=row_cell HD.out.st.res1 0;have c1:Wy.cell? ⟨w.heap.size+2,1,none⟩=some (.slice none 0 0):=row_cell HD.out.st.res1 1;have f0:=row_frozen HD.out.st.res1 0;have f1:=row_frozen HD.out.st.res1 1;have hge:=(own4 HD.out.own k (by rw [List.length_set];exact HLL.out.1)).2.2.1;have hF:=HD.out.ge;have n1:(Value.slice (some ⟨gu,0,none⟩) n cu).ownBlock≠some (w.heap.size+2):=fun e=>by simp [Value.ownBlock] at e;omega
  have n2:(Value.slice (some ⟨gu,0,none⟩) n cu).ownBlock≠some (w.heap.size+3):=fun e=>by simp [Value.ownBlock] at e;omega
  have L1:Last w p gF (.slice (some ⟨gu,0,none⟩) n cu) (l.set k y) (sto2 Wy (w.heap.size+2) p (.slice (some ⟨gu,0,none⟩) n cu)):=⟨sto2_other HD.out.row (by omega),sto2_off HD.out.own n1 p⟩;have R1:=Lib.hid (sto2_row HD.out.st.res1 p (.slice (some ⟨gu,0,none⟩) n cu));have R2:=sto2_other (g:=w.heap.size+2) (p:=p) (v:=.slice (some ⟨gu,0,none⟩) n cu) HD.out.st.res2 (by omega);have B1:=Lib.hid (sto2_below (p:=p) (v:=.slice (some ⟨gu,0,none⟩) n cu) HD.out.st.bel (show w.heap.size≤w.heap.size+2 by omega));clear HD;go_simp;refine hK _ _ (Sc.Cl.of L1) ?_;clear hK K c0 c1 f0 f1
  show Sd.wpSd _ _ _ _ _ _ (sto2 Wy (w.heap.size+2) p (.slice (some ⟨gu,0,none⟩) n cu))
  generalize sto2 Wy (w.heap.size+2) p (.slice (some ⟨gu,0,none⟩) n cu)=Wx at *;refine Sd.call (by rfl) (fun K hK=>?_);have d0:Wx.cell? ⟨w.heap.size+3,0,none⟩=some (.int .u8 0):=row_cell R2 0;have d1:Wx.cell? ⟨w.heap.size+3,1,none⟩=some (.int .u8 0):=row_cell R2 1;have d2:Wx.cell? ⟨w.heap.size+3,2,none⟩=some (.int .u8 0):=row_cell R2 2;have d3:Wx.cell? ⟨w.heap.size+3,3,none⟩=some (.int .u8 0):=row_cell R2 3;have k0:=row_frozen R2 0;have k1:=row_frozen R2 1;have k2:=row_frozen R2 2;have k3:=row_frozen R2 3;have L2:Last w p gF (.slice (some ⟨gu,0,none⟩) n cu) (l.set k y) (sto4 Wx (w.heap.size+3) 0 y):=⟨sto4_other L1.1 (by omega),sto4_off L1.2 n2 y⟩;have R3:=Lib.hid (sto4_row R2 y);have R4:=Lib.hid (sto4_other (g:=w.heap.size+3) (o:=0) (r:=y) R1.out (by omega));have B2:=Lib.hid (sto4_below (o:=0) (r:=y) B1.out (show w.heap.size≤w.heap.size+3 by omega));clear R2 R1 B1 L1;go_simp;refine hK _ _ (Sc.Cl.of L2) ?_;clear hK K d0 d1 d2 d3 k0 k1 k2 k3
  show Sd.wpSd _ _ _ _ _ _ (sto4 Wx (w.heap.size+3) 0 y)
  have O2:=Lib.hid L2.2;clear L2;generalize sto4 Wx (w.heap.size+3) 0 y=Ww at *
  repeat (refine Sd.lit ?_;quiet_step (fail);refine wpQuiet_nil ?_)
  refine Sd.done ?_;go_wp2
  (try simp only [Exit.inBlock,Exit.then])
  exact bodyPost_ret (results_do (p:=8) (q:=9) (r:=10) rfl _ _ (w.heap.size+2) (w.heap.size+3) p _ y 0 rfl rfl rfl R4.out R3.out) rfl (EY.out _ _ (O2.out.low (by omega)) B2.out)
 ·have EY:Hid (∀ u w',Ow K4 w' w.heap.size 42 u (l.set k x)→Below w.heap.size w w'→DoPost w p l 1 k x (.returned (.tuple #[file p u,rec4 x,.int .i64 0])) w'):=fun u w'=>E.out x u w' (by unfold newR;rw [if_pos rfl])
  have HP:=Lib.hid (HV.out.put HLL.out.2.1 k HLL.out.1 x);obtain ⟨⟨c0,c1,c2,c3⟩,hfr,_,_⟩:=own4 HV.out.own k HLL.out.1;have f0:=hfr (k * 4);have f1:=hfr (k * 4+1);have f2:=hfr (k * 4+2);have f3:=hfr (k * 4+3);have r1:wB.cell? ⟨gF,1,none⟩=some (.slice (some ⟨gu,0,none⟩) n cu):=row_cell HV.out.row 1;have a0:wB.cell? ⟨w.heap.size+1,0,none⟩=some (.int .u8 x.1):=row_cell HV.out.st.arg 0;have a1:wB.cell? ⟨w.heap.size+1,1,none⟩=some (.int .u8 x.2.1):=row_cell HV.out.st.arg 1;have a2:wB.cell? ⟨w.heap.size+1,2,none⟩=some (.int .u8 x.2.2.1):=row_cell HV.out.st.arg 2;have a3:wB.cell? ⟨w.heap.size+1,3,none⟩=some (.int .u8 x.2.2.2):=row_cell HV.out.st.arg 3;clear E hfr HV;go_wp2_with fail;clear c0 c1 c2 c3 f0 f1 f2 f3 r1 a0 a1 a2 a3
  show Code.wp _ _ _ _ (sto4 wB gu (k * 4) x)
  generalize sto4 wB gu (k * 4) x=Wz at *;have HV:=HP;clear HP;obtain ⟨⟨c0,c1,c2,c3⟩,_,_,_⟩:=own4 HV.out.own k (by rw [List.length_set];exact HLL.out.1);rw [rat_set l k HLL.out.1] at c0 c1 c2 c3;have C0:Last w p gF (.slice (some ⟨gu,0,none⟩) n cu) (l.set k x) Wz.drew:=⟨HV.out.row,HV.out.own⟩;have r0:=Sc.cell_in (C:=Last w p gF (.slice (some ⟨gu,0,none⟩) n cu) (l.set k x)) (a:=⟨gF,0,none⟩) (fun W' h=>row_cell h.1 0);have r1:=Sc.cell_in (C:=Last w p gF (.slice (some ⟨gu,0,none⟩) n cu) (l.set k x)) (a:=⟨gF,1,none⟩) (fun W' h=>row_cell h.1 1);have HQ:Hid (∀ W',Last w p gF (.slice (some ⟨gu,0,none⟩) n cu) (l.set k x) W'→(W'.cell? ⟨gu,k * 4,none⟩=some (.int .u8 x.1)∧W'.cell? ⟨gu,k * 4+1,none⟩=some (.int .u8 x.2.1)∧W'.cell? ⟨gu,k * 4+2,none⟩=some (.int .u8 x.2.2.1)∧W'.cell? ⟨gu,k * 4+3,none⟩=some (.int .u8 x.2.2.2))):=fun W' h=>by
   have:=(own4 h.2 k (by rw [List.length_set];exact HLL.out.1)).1;rw [rat_set l k HLL.out.1] at this;exact this
  have q0:=Sc.cell_in (C:=Last w p gF (.slice (some ⟨gu,0,none⟩) n cu) (l.set k x)) (fun W' h=>(HQ.out W' h).1);have q1:=Sc.cell_in (C:=Last w p gF (.slice (some ⟨gu,0,none⟩) n cu) (l.set k x)) (fun W' h=>(HQ.out W' h).2.1);have q2:=Sc.cell_in (C:=Last w p gF (.slice (some ⟨gu,0,none⟩) n cu) (l.set k x)) (fun W' h=>(HQ.out W' h).2.2.1);have q3:=Sc.cell_in (C:=Last w p gF (.slice (some ⟨gu,0,none⟩) n cu) (l.set k x)) (fun W' h=>(HQ.out W' h).2.2.2);have ne:Nonempty (Sc.In (Last w p gF (.slice (some ⟨gu,0,none⟩) n cu) (l.set k x))):=⟨⟨_,C0⟩⟩;clear c0 c1 c2 c3 HQ;refine Sc.start (Last w p gF (.slice (some ⟨gu,0,none⟩) n cu) (l.set k x)) [(false,0),(false,1),(false,2),(false,3),(false,4),(false,5),(true,6),(true,7),(false,8)] (by kernel_rfl) (by kernel_rfl) (by kernel_rfl) C0 ?_;dsimp only [Sd.picks,List.getElem?_cons_succ,List.getElem?_cons_zero]
  repeat (refine Sd.lit ?_;quiet_step (fail);refine wpQuiet_nil ?_)
  have HD:Hid (Have w p (.slice (some ⟨b,off,none⟩) n cap) x gF (.slice (some ⟨gu,0,none⟩) n cu) (l.set k x) Wz.drew):=HV.out.mono ((Below.refl _ _).drew);clear HV r0 r1 q0 q1 q2 q3 C0;generalize Wz.drew=Wy at *;refine Sd.call (by rfl) (fun K hK=>?_);have c0:Wy.cell? ⟨w.heap.size+2,0,none⟩=some (.int .i64 0):=row_cell HD.out.st.res1 0;have c1:Wy.cell? ⟨w.heap.size+2,1,none⟩=some (.slice none 0 0):=row_cell HD.out.st.res1 1;have f0:=row_frozen HD.out.st.res1 0;have f1:=row_frozen HD.out.st.res1 1;have hge:=(own4 HD.out.own k (by rw [List.length_set];exact HLL.out.1)).2.2.1;have hF:=HD.out.ge;have n1:(Value.slice (some ⟨gu,0,none⟩) n cu).ownBlock≠some (w.heap.size+2):=fun e=>by simp [Value.ownBlock] at e;omega
  have n2:(Value.slice (some ⟨gu,0,none⟩) n cu).ownBlock≠some (w.heap.size+3):=fun e=>by simp [Value.ownBlock] at e;omega
  have L1:Last w p gF (.slice (some ⟨gu,0,none⟩) n cu) (l.set k x) (sto2 Wy (w.heap.size+2) p (.slice (some ⟨gu,0,none⟩) n cu)):=⟨sto2_other HD.out.row (by omega),sto2_off HD.out.own n1 p⟩;have R1:=Lib.hid (sto2_row HD.out.st.res1 p (.slice (some ⟨gu,0,none⟩) n cu));have R2:=sto2_other (g:=w.heap.size+2) (p:=p) (v:=.slice (some ⟨gu,0,none⟩) n cu) HD.out.st.res2 (by omega);have B1:=Lib.hid (sto2_below (p:=p) (v:=.slice (some ⟨gu,0,none⟩) n cu) HD.out.st.bel (show w.heap.size≤w.heap.size+2 by omega));clear HD;go_simp;refine hK _ _ (Sc.Cl.of L1) ?_;clear hK K c0 c1 f0 f1
  show Sd.wpSd _ _ _ _ _ _ (sto2 Wy (w.heap.size+2) p (.slice (some ⟨gu,0,none⟩) n cu))
  generalize sto2 Wy (w.heap.size+2) p (.slice (some ⟨gu,0,none⟩) n cu)=Wx at *;refine Sd.call (by rfl) (fun K hK=>?_);have d0:Wx.cell? ⟨w.heap.size+3,0,none⟩=some (.int .u8 0):=row_cell R2 0;have d1:Wx.cell? ⟨w.heap.size+3,1,none⟩=some (.int .u8 0):=row_cell R2 1;have d2:Wx.cell? ⟨w.heap.size+3,2,none⟩=some (.int .u8 0):=row_cell R2 2;have d3:Wx.cell? ⟨w.heap.size+3,3,none⟩=some (.int .u8 0):=row_cell R2 3;have k0:=row_frozen R2 0;have k1:=row_frozen R2 1;have k2:=row_frozen R2 2;have k3:=row_frozen R2 3;have L2:Last w p gF (.slice (some ⟨gu,0,none⟩) n cu) (l.set k x) (sto4 Wx (w.heap.size+3) 0 x):=⟨sto4_other L1.1 (by omega),sto4_off L1.2 n2 x⟩;have R3:=Lib.hid (sto4_row R2 x);have R4:=Lib.hid (sto4_other (g:=w.heap.size+3) (o:=0) (r:=x) R1.out (by omega));have B2:=Lib.hid (sto4_below (o:=0) (r:=x) B1.out (show w.heap.size≤w.heap.size+3 by omega));clear R2 R1 B1 L1;go_simp;refine hK _ _ (Sc.Cl.of L2) ?_;clear hK K d0 d1 d2 d3 k0 k1 k2 k3
  show Sd.wpSd _ _ _ _ _ _ (sto4 Wx (w.heap.size+3) 0 x)
  have O2:=Lib.hid L2.2;clear L2;generalize sto4 Wx (w.heap.size+3) 0 x=Ww at *
  repeat (refine Sd.lit ?_;quiet_step (fail);refine wpQuiet_nil ?_)
  refine Sd.done ?_;go_wp2
  (try simp only [Exit.inBlock,Exit.then])
  exact bodyPost_ret (results_do (p:=8) (q:=9) (r:=10) rfl _ _ (w.heap.size+2) (w.heap.size+3) p _ x 0 rfl rfl rfl R4.out R3.out) rfl (EY.out _ _ (O2.out.low (by omega)) B2.out)
 ·have hy:=okR_at OK.out k
  have EY:Hid (∀ u w',Ow K4 w' w.heap.size 42 u (l.set k (inc (rat l k)))→Below w.heap.size w w'→DoPost w p l 2 k x (.returned (.tuple #[file p u,rec4 (inc (rat l k)),.int .i64 0])) w'):=fun u w'=>E.out _ u w' (by unfold newR;rw [if_neg (by decide),if_pos rfl,Int.toNat_natCast]);have INC:=Lib.hid (fun w=>one_any w (rat l k) hy);clear E hy;go_wp2_with fail;have C0:Read w p (.slice (some ⟨b,off,none⟩) n cap) gF (.slice (some ⟨gu,0,none⟩) n cu) wB.drew:=⟨(HV.out.mono (Below.refl wB.heap.size wB).drew).st.box,(HV.out.mono (Below.refl wB.heap.size wB).drew).row,(HV.out.mono (Below.refl wB.heap.size wB).drew).st.bel⟩;have r1:=Sc.cell_in (C:=Read w p (.slice (some ⟨b,off,none⟩) n cap) gF (.slice (some ⟨gu,0,none⟩) n cu)) (a:=⟨gF,1,none⟩) (fun W' h=>row_cell h.row 1);have r2:=Sc.cell_in (C:=Read w p (.slice (some ⟨b,off,none⟩) n cap) gF (.slice (some ⟨gu,0,none⟩) n cu)) (a:=⟨w.heap.size,1,none⟩) (fun W' h=>row_cell h.box 1);have HQ:=Lib.hid (fun (W':World) (h:Read w p (.slice (some ⟨b,off,none⟩) n cap) gF (.slice (some ⟨gu,0,none⟩) n cu) W')=>at4 (HA.out.below h.bel) k HLL.out.1);have q0:=Sc.cell_in (C:=Read w p (.slice (some ⟨b,off,none⟩) n cap) gF (.slice (some ⟨gu,0,none⟩) n cu)) (fun W' h=>(HQ.out W' h).1);have q1:=Sc.cell_in (C:=Read w p (.slice (some ⟨b,off,none⟩) n cap) gF (.slice (some ⟨gu,0,none⟩) n cu)) (fun W' h=>(HQ.out W' h).2.1);have q2:=Sc.cell_in (C:=Read w p (.slice (some ⟨b,off,none⟩) n cap) gF (.slice (some ⟨gu,0,none⟩) n cu)) (fun W' h=>(HQ.out W' h).2.2.1);have q3:=Sc.cell_in (C:=Read w p (.slice (some ⟨b,off,none⟩) n cap) gF (.slice (some ⟨gu,0,none⟩) n cu)) (fun W' h=>(HQ.out W' h).2.2.2);have ne:Nonempty (Sc.In (Read w p (.slice (some ⟨b,off,none⟩) n cap) gF (.slice (some ⟨gu,0,none⟩) n cu))):=⟨⟨_,C0⟩⟩;clear HQ;refine Sc.start (Read w p (.slice (some ⟨b,off,none⟩) n cap) gF (.slice (some ⟨gu,0,none⟩) n cu)) [(false,0),(false,1),(false,2),(false,3),(false,4),(false,5),(false,6),(false,7),(true,8),(false,9),(true,10)] (by kernel_rfl) (by kernel_rfl) (by kernel_rfl) C0 ?_;dsimp only [Sd.picks,List.getElem?_cons_succ,List.getElem?_cons_zero]
  repeat (refine Sd.lit ?_;quiet_step (fail);refine wpQuiet_nil ?_)
  refine Sd.call (by rfl) (fun K hK=>?_);have IC:=INC.out;unfold rec4 at IC;go_simp;refine (IC _).mono ?_;rintro e w3 ⟨rfl,b3⟩;have HB:Hid (Have w p (.slice (some ⟨b,off,none⟩) n cap) x gF (.slice (some ⟨gu,0,none⟩) n cu) l w3):=HV.out.mono (Below.trans ((Below.refl wB.heap.size wB).drew) b3);refine hK _ _ (Sc.Cl.of ⟨HB.out.st.box,HB.out.row,HB.out.st.bel⟩) ?_;clear hK K b3 HV IC INC C0;generalize inc (rat l k)=y at *
  repeat (refine Sd.lit ?_;quiet_step (fail);refine wpQuiet_nil ?_)
  clear r1 r2 q0 q1 q2 q3;refine Sd.call (by rfl) (fun K hK=>?_);have HP:=Lib.hid (HB.out.put HLL.out.2.1 k HLL.out.1 y);obtain ⟨⟨c0,c1,c2,c3⟩,hfr,_,_⟩:=own4 HB.out.own k HLL.out.1;have f0:=hfr (k * 4);have f1:=hfr (k * 4+1);have f2:=hfr (k * 4+2);have f3:=hfr (k * 4+3);clear hfr HB;go_simp;refine hK _ _ (Sc.Cl.of ⟨HP.out.st.box,HP.out.row,HP.out.st.bel⟩) ?_;clear hK K c0 c1 c2 c3 f0 f1 f2 f3 ne
  show Sd.wpSd _ _ _ _ _ _ (sto4 w3 gu (k * 4) y)
  generalize sto4 w3 gu (k * 4) y=Wz at *;have HV:=HP;clear HP;refine Sd.done ?_;go_wp2_with fail;obtain ⟨⟨c0,c1,c2,c3⟩,_,_,_⟩:=own4 HV.out.own k (by rw [List.length_set];exact HLL.out.1);rw [rat_set l k HLL.out.1] at c0 c1 c2 c3;have C0:Last w p gF (.slice (some ⟨gu,0,none⟩) n cu) (l.set k y) Wz.drew:=⟨HV.out.row,HV.out.own⟩;have r0:=Sc.cell_in (C:=Last w p gF (.slice (some ⟨gu,0,none⟩) n cu) (l.set k y)) (a:=⟨gF,0,none⟩) (fun W' h=>row_cell h.1 0);have r1:=Sc.cell_in (C:=Last w p gF (.slice (some ⟨gu,0,none⟩) n cu) (l.set k y)) (a:=⟨gF,1,none⟩) (fun W' h=>row_cell h.1 1);have HQ:Hid (∀ W',Last w p gF (.slice (some ⟨gu,0,none⟩) n cu) (l.set k y) W'→(W'.cell? ⟨gu,k * 4,none⟩=some (.int .u8 y.1)∧W'.cell? ⟨gu,k * 4+1,none⟩=some (.int .u8 y.2.1)∧W'.cell? ⟨gu,k * 4+2,none⟩=some (.int .u8 y.2.2.1)∧W'.cell? ⟨gu,k * 4+3,none⟩=some (.int .u8 y.2.2.2))):=fun W' h=>by
   have:=(own4 h.2 k (by rw [List.length_set];exact HLL.out.1)).1;rw [rat_set l k HLL.out.1] at this;exact this
  have q0:=Sc.cell_in (C:=Last w p gF (.slice (some ⟨gu,0,none⟩) n cu) (l.set k y)) (fun W' h=>(HQ.out W' h).1);have q1:=Sc.cell_in (C:=Last w p gF (.slice (some ⟨gu,0,none⟩) n cu) (l.set k y)) (fun W' h=>(HQ.out W' h).2.1);have q2:=Sc.cell_in (C:=Last w p gF (.slice (some ⟨gu,0,none⟩) n cu) (l.set k y)) (fun W' h=>(HQ.out W' h).2.2.1);have q3:=Sc.cell_in (C:=Last w p gF (.slice (some ⟨gu,0,none⟩) n cu) (l.set k y)) (fun W' h=>(HQ.out W' h).2.2.2);have ne:Nonempty (Sc.In (Last w p gF (.slice (some ⟨gu,0,none⟩) n cu) (l.set k y))):=⟨⟨_,C0⟩⟩;clear c0 c1 c2 c3 HQ;refine Sc.start (Last w p gF (.slice (some ⟨gu,0,none⟩) n cu) (l.set k y)) [(false,0),(false,1),(false,2),(false,3),(false,4),(false,5),(true,6),(true,7),(false,8)] (by kernel_rfl) (by kernel_rfl) (by kernel_rfl) C0 ?_;dsimp only [Sd.picks,List.getElem?_cons_succ,List.getElem?_cons_zero]
  repeat (refine Sd.lit ?_;quiet_step (fail);refine wpQuiet_nil ?_)
  have HD:Hid (Have w p (.slice (some ⟨b,off,none⟩) n cap) x gF (.slice (some ⟨gu,0,none⟩) n cu) (l.set k y) Wz.drew):=HV.out.mono ((Below.refl _ _).drew);clear HV r0 r1 q0 q1 q2 q3 C0;generalize Wz.drew=Wy at *;refine Sd.call (by rfl) (fun K hK=>?_);have c0:Wy.cell? ⟨w.heap.size+2,0,none⟩=some (.int .i64 0):=row_cell HD.out.st.res1 0;have c1:Wy.cell? ⟨w.heap.size+2,1,none⟩=some (.slice none 0 0):=row_cell HD.out.st.res1 1;have f0:=row_frozen HD.out.st.res1 0;have f1:=row_frozen HD.out.st.res1 1;have hge:=(own4 HD.out.own k (by rw [List.length_set];exact HLL.out.1)).2.2.1;have hF:=HD.out.ge;have n1:(Value.slice (some ⟨gu,0,none⟩) n cu).ownBlock≠some (w.heap.size+2):=fun e=>by simp [Value.ownBlock] at e;omega
  have n2:(Value.slice (some ⟨gu,0,none⟩) n cu).ownBlock≠some (w.heap.size+3):=fun e=>by simp [Value.ownBlock] at e;omega
  have L1:Last w p gF (.slice (some ⟨gu,0,none⟩) n cu) (l.set k y) (sto2 Wy (w.heap.size+2) p (.slice (some ⟨gu,0,none⟩) n cu)):=⟨sto2_other HD.out.row (by omega),sto2_off HD.out.own n1 p⟩;have R1:=Lib.hid (sto2_row HD.out.st.res1 p (.slice (some ⟨gu,0,none⟩) n cu));have R2:=sto2_other (g:=w.heap.size+2) (p:=p) (v:=.slice (some ⟨gu,0,none⟩) n cu) HD.out.st.res2 (by omega);have B1:=Lib.hid (sto2_below (p:=p) (v:=.slice (some ⟨gu,0,none⟩) n cu) HD.out.st.bel (show w.heap.size≤w.heap.size+2 by omega));clear HD;go_simp;refine hK _ _ (Sc.Cl.of L1) ?_;clear hK K c0 c1 f0 f1
  show Sd.wpSd _ _ _ _ _ _ (sto2 Wy (w.heap.size+2) p (.slice (some ⟨gu,0,none⟩) n cu))
  generalize sto2 Wy (w.heap.size+2) p (.slice (some ⟨gu,0,none⟩) n cu)=Wx at *;refine Sd.call (by rfl) (fun K hK=>?_);have d0:Wx.cell? ⟨w.heap.size+3,0,none⟩=some (.int .u8 0):=row_cell R2 0;have d1:Wx.cell? ⟨w.heap.size+3,1,none⟩=some (.int .u8 0):=row_cell R2 1;have d2:Wx.cell? ⟨w.heap.size+3,2,none⟩=some (.int .u8 0):=row_cell R2 2;have d3:Wx.cell? ⟨w.heap.size+3,3,none⟩=some (.int .u8 0):=row_cell R2 3;have k0:=row_frozen R2 0;have k1:=row_frozen R2 1;have k2:=row_frozen R2 2;have k3:=row_frozen R2 3;have L2:Last w p gF (.slice (some ⟨gu,0,none⟩) n cu) (l.set k y) (sto4 Wx (w.heap.size+3) 0 y):=⟨sto4_other L1.1 (by omega),sto4_off L1.2 n2 y⟩;have R3:=Lib.hid (sto4_row R2 y);have R4:=Lib.hid (sto4_other (g:=w.heap.size+3) (o:=0) (r:=y) R1.out (by omega));have B2:=Lib.hid (sto4_below (o:=0) (r:=y) B1.out (show w.heap.size≤w.heap.size+3 by omega));clear R2 R1 B1 L1;go_simp;refine hK _ _ (Sc.Cl.of L2) ?_;clear hK K d0 d1 d2 d3 k0 k1 k2 k3
  show Sd.wpSd _ _ _ _ _ _ (sto4 Wx (w.heap.size+3) 0 y)
  have O2:=Lib.hid L2.2;clear L2;generalize sto4 Wx (w.heap.size+3) 0 y=Ww at *
  repeat (refine Sd.lit ?_;quiet_step (fail);refine wpQuiet_nil ?_)
  refine Sd.done ?_;go_wp2
  (try simp only [Exit.inBlock,Exit.then])
  exact bodyPost_ret (results_do (p:=8) (q:=9) (r:=10) rfl _ _ (w.heap.size+2) (w.heap.size+3) p _ y 0 rfl rfl rfl R4.out R3.out) rfl (EY.out _ _ (O2.out.low (by omega)) B2.out)
theorem do_any (w:World) (p:Int) (v:Value) (l:List R4) (R:Rd K4 w v l) (hl:okL l) (op rec:Int) (x:R4):Calls Tryz.prog 178 #[file p v,.int .i64 op,.int .i64 rec,rec4 x] w (DoPost w p l op rec x):=by
 obtain ⟨a,cap,rfl,_⟩:=R.slice
 by_cases he:doE p l op rec=0
 ·obtain ⟨hg,ho,hr⟩:=doE_of he
  obtain ⟨k,rfl⟩:∃ k:Nat,rec=k:=⟨rec.toNat,by omega⟩;exact do_yes w p a _ cap l R hl op k x he ho (by omega) hg.2.2.2.1
 ·exact do_no w p a _ cap l R op rec x he
end Go.Proofs.YtljnkaodhfnbbaaGreatDoor.Fl
namespace Go.Proofs.YtljnkaodhfnbbaaGreatDoor.Ad
open Go.RowKit
def good (o f r:Int):Prop:=0≤o∧o≤2∧0≤f∧f≤63∧0≤r∧r≤255
instance (o f r:Int):Decidable (good o f r):=by unfold good;infer_instance
def goodB (o f r:Int):Bool:=decide (good o f r)
def addr (o f r:Int):Value:=.agg #[.int .i64 o,.int .i64 f,.int .i64 r]
def pair (a b:Int):Value:=.agg #[.int .u8 a,.int .u8 b]
theorem ret_bool {a b:Bool} (h:a=b):Ending.returned (.bool a) = .returned (.bool b):=by rw [h]
end Go.Proofs.YtljnkaodhfnbbaaGreatDoor.Ad
namespace Go.Proofs.YtljnkaodhfnbbaaGreatDoor.Fs
open Go.RowKit
open Fl (R4 z4 K4 rec4 rat goodF goodFB okR okL doE newR okR_at okR_z set_rat inc num bytes file hdr)
open Ad (goodB)
section
variable {α:Type} (κ:α→Int)
def ins (c:α):List α→List α
 | []=>[c]
 | y :: r=>if κ c < κ y then c :: y :: r else y :: ins c r
def put (c:α) (l:List α):List α:=ins κ c (l.filter fun y=>decide (¬ κ y=κ c))
def look (n:Int) (l:List α):Option α:=l.find? fun y=>decide (κ y=n)
def Srt (l:List α):Prop:=l.Pairwise fun y z=>κ y < κ z
variable {κ}
theorem mem_ins {c x:α} : ∀ {l:List α},x∈ins κ c l↔x=c∨x∈l
 | []=>by simp [ins]
 | y :: r=>by
   unfold ins
   split
   ·simp
   ·simp only [List.mem_cons,mem_ins (l:=r)]
    constructor
    ·rintro (h | h | h)
     ·exact .inr (.inl h)
     ·exact .inl h
     ·exact .inr (.inr h)
    ·rintro (h | h | h)
     ·exact .inr (.inl h)
     ·exact .inl h
     ·exact .inr (.inr h)
theorem mem_put {c x:α} {l:List α} : x∈put κ c l↔x=c∨x∈l∧κ x≠κ c:=by
 unfold put;rw [mem_ins,List.mem_filter]
 simp
theorem srt_ins {c:α} : ∀ {l:List α},Srt κ l→(∀ x∈l,κ x≠κ c)→Srt κ (ins κ c l)
 | [],_,_=>by simp [ins,Srt]
 | y :: r,h,hn=>by
   obtain ⟨h1,h2⟩:=List.pairwise_cons.1 h;unfold ins
   split
   ·rename_i hlt
    refine List.pairwise_cons.2 ⟨fun z hz=>?_,h⟩
    rcases List.mem_cons.1 hz with rfl | hz
    ·exact hlt
    ·exact Int.lt_trans hlt (h1 z hz)
   ·rename_i hlt
    have hy:=hn y List.mem_cons_self;refine List.pairwise_cons.2 ⟨fun z hz=>?_,srt_ins h2 fun x hx=>hn x (List.mem_cons_of_mem _ hx)⟩
    rcases mem_ins.1 hz with rfl | hz
    ·omega
    ·exact h1 z hz
theorem srt_put {c:α} {l:List α} (h:Srt κ l):Srt κ (put κ c l):=by
 unfold put;exact srt_ins (h.filter _) fun x hx=>by simpa using (List.mem_filter.1 hx).2
theorem look_none {n:Int} {l:List α} : look κ n l=none↔∀ x∈l,κ x≠n:=by
 unfold look;rw [List.find?_eq_none]
 simp
theorem look_some {n:Int} {l:List α} {c:α} (h:look κ n l=some c):c∈l∧κ c=n:=by
 unfold look at h;exact ⟨List.mem_of_find?_eq_some h,by simpa using List.find?_some h⟩
theorem look_at {l:List α} {c:α} (h:Srt κ l) (hc:c∈l):look κ (κ c) l=some c:=by
 induction l with
 | nil=>cases hc
 | cons y r ih =>
   obtain ⟨h1,h2⟩:=List.pairwise_cons.1 h;unfold look;rw [List.find?_cons]
   rcases List.mem_cons.1 hc with rfl | hc'
   ·simp
   ·have:=h1 c hc'
    rw [decide_eq_false (by omega)];exact ih h2 hc'
theorem put_new {c:α} {l:List α} (h:look κ (κ c) l=none):put κ c l=ins κ c l:=by
 unfold put;rw [List.filter_eq_self.2]
 intro x hx
 simpa using look_none.1 h x hx
theorem ins_at {c:α} : ∀ {l:List α} {k:Nat},(∀ x∈l.take k,κ x < κ c)→(∀ x,l[k]? = some x→κ c < κ x)→ins κ c l=l.take k ++ c :: l.drop k
 | [],k,_,_=>by simp [ins]
 | y :: r,0,_,h2=>by
   have:=h2 y rfl
   simp [ins,this]
 | y :: r,k+1,h1,h2=>by
   have hy:κ y < κ c:=h1 y (by simp);unfold ins;rw [if_neg (by omega),ins_at (l:=r) (k:=k) (fun x hx=>h1 x (by simp [hx])) (fun x hx=>h2 x (by simpa using hx))]
   rfl
theorem filter_other {c:α} : ∀ {r:List α},(∀ x∈r,κ c < κ x)→r.filter (fun y=>decide (¬ κ y=κ c))=r:=fun {r} h=>List.filter_eq_self.2 fun x hx=>by have:=h x hx;simpa using (by omega:¬ κ x=κ c)
theorem put_set {c:α} : ∀ {l:List α} {k:Nat} {x:α},Srt κ l→l[k]? = some x→κ x=κ c→put κ c l=l.set k c
 | y :: r,0,x,h,hx,e=>by
   obtain rfl:y=x:=by simpa using hx
   obtain ⟨h1,h2⟩:=List.pairwise_cons.1 h;have hf:=filter_other (c:=c) (κ:=κ) (r:=r) fun z hz=>by have:=h1 z hz;omega
   unfold put;rw [List.filter_cons,if_neg (by simp [e]),hf]
   cases r with
   | nil=>rfl
   | cons z s =>
     have:=h1 z List.mem_cons_self;unfold ins;rw [if_pos (by omega)]
     rfl
 | y :: r,k+1,x,h,hx,e=>by
   obtain ⟨h1,h2⟩:=List.pairwise_cons.1 h;have hx':r[k]? = some x:=by simpa using hx
   have hlt:=h1 x (List.mem_of_getElem? hx');have ih:=put_set (c:=c) h2 hx' e;unfold put at ih ⊢;rw [List.filter_cons,if_pos (by simp;omega)];unfold ins;rw [if_neg (by omega),ih]
   rfl
variable {β:Type} {κ':β→Int} {f:α→β}
theorem map_ins (hf:∀ x,κ' (f x)=κ x) (c:α):∀ l:List α,(ins κ c l).map f=ins κ' (f c) (l.map f)
 | []=>rfl
 | y :: r=>by
   simp only [ins,List.map_cons,hf]
   split
   ·rfl
   ·rw [List.map_cons,map_ins hf c r]
theorem map_put (hf:∀ x,κ' (f x)=κ x) (c:α) (l:List α):(put κ c l).map f=put κ' (f c) (l.map f):=by
 unfold put;rw [map_ins hf,List.filter_map]
 congr 2
 exact congrArg (fun q=>List.filter q l) (funext fun x=>by simp [hf])
theorem map_look (hf:∀ x,κ' (f x)=κ x) (n:Int) (l:List α):look κ' n (l.map f)=(look κ n l).map f:=by
 unfold look;rw [List.find?_map]
 congr 1
 exact congrArg (fun q=>List.find? q l) (funext fun x=>by simp [hf])
theorem map_srt (hf:∀ x,κ' (f x)=κ x) {l:List α} : Srt κ' (l.map f)↔Srt κ l:=by
 unfold Srt;rw [List.pairwise_map]
 simp [hf]
theorem len_le:∀ {l:List α} {lo hi:Int},Srt κ l→(∀ x∈l,lo≤κ x∧κ x < hi)→lo≤hi→(l.length:Int)≤hi - lo
 | [],lo,hi,_,_,h=>by simp;omega
 | y :: r,lo,hi,h,hb,hle=>by
   obtain ⟨h1,h2⟩:=List.pairwise_cons.1 h;have hy:=hb y List.mem_cons_self;have:=len_le (l:=r) (lo:=κ y+1) (hi:=hi) h2 (fun x hx=>⟨h1 x hx,(hb x (List.mem_cons_of_mem _ hx)).2⟩) (by omega);simp only [List.length_cons]
   omega
end
abbrev Fil:=Int×Int×List R4
abbrev Abs:=List Fil
abbrev key (e:Fil):Int:=e.1
def addE (A:Abs) (n p:Int) (l:List R4):Int:=if 0≤n∧n≤63 then if goodF p l then if (look key n A).isSome then 10 else 0 else 2 else 1
def addA (A:Abs) (n p:Int) (l:List R4):Abs:=if addE A n p l=0 then put key (n,p,l) A else A
def dE (A:Abs) (o f r:Int):Int:=if goodB o f r=true then match look key f A with | none=>3 | some e=>doE e.2.1 e.2.2 o r else 1
def dV (A:Abs) (o f r:Int) (x:R4):R4:=match look key f A with | none=>z4 | some e=>if dE A o f r=0 then newR e.2.2 o r x else z4
def dA (A:Abs) (o f r:Int) (x:R4):Abs:=match look key f A with | none=>A | some e=>if dE A o f r=0 then put key (f,e.2.1,e.2.2.set r.toNat (newR e.2.2 o r x)) A else A
def dD (A:Abs) (o f r d:Int):Int:=if dE A o f r=5 then d+1 else d
def gB (A:Abs) (n r:Int):Bool:=match look key n A with | none=>false | some e=>decide (0≤r∧r < e.2.2.length)
def gV (A:Abs) (n r:Int):R4:=match look key n A with | none=>z4 | some e=>if 0≤r∧r < e.2.2.length then rat e.2.2 r.toNat else z4
def sB (A:Abs) (n r:Int):Bool:=gB A n r && decide (r≠0)
def sA (A:Abs) (n r:Int) (x:R4):Abs:=match look key n A with | none=>A | some e=>if sB A n r=true then put key (n,e.2.1,e.2.2.set r.toNat x) A else A
structure OkA (A:Abs):Prop where
 srt:Srt key A
 nm:∀ e∈A,0≤e.1∧e.1≤63
 good:∀ e∈A,goodF e.2.1 e.2.2
 ok:∀ e∈A,okL e.2.2
theorem OkA.nil:OkA []:=⟨List.Pairwise.nil,nofun,nofun,nofun⟩
theorem OkA.len {A:Abs} (h:OkA A):A.length≤64:=by
 have:=len_le (κ:=key) (lo:=0) (hi:=64) h.srt (fun x hx=>by have:=h.nm x hx;show 0≤x.1∧x.1 < 64;omega) (by omega)
 omega
theorem OkA.put {A:Abs} (h:OkA A) {n p:Int} {l:List R4} (hn:0≤n∧n≤63) (hg:goodF p l) (hl:okL l):OkA (put key (n,p,l) A):=by
 refine ⟨srt_put h.srt,fun e he=>?_,fun e he=>?_,fun e he=>?_⟩ <;> rcases mem_put.1 he with rfl | ⟨hm,_⟩
 ·exact hn
 ·exact h.nm e hm
 ·exact hg
 ·exact h.good e hm
 ·exact hl
 ·exact h.ok e hm
theorem good_set {p:Int} {l:List R4} {k:Nat} {x:R4} (h:goodF p l) (hk:k≠0):goodF p (l.set k x):=by
 obtain ⟨h1,h2,h3,h4,h5⟩:=h;refine ⟨h1,h2,by rw [List.length_set];exact h3,by rw [List.length_set];exact h4,?_⟩;rw [List.length_set,← h5];unfold rat;rw [List.getD_eq_getElem?_getD,List.getD_eq_getElem?_getD,List.getElem?_set_ne (by omega)]
theorem okL_set {l:List R4} {k:Nat} {x:R4} (h:okL l) (hx:okR x):okL (l.set k x):=fun r hr=>by
 rcases List.mem_or_eq_of_mem_set hr with h1 | rfl
 ·exact h r h1
 ·exact hx
theorem okR_inc (r:R4):okR (inc r):=by
 unfold inc Fl.bytes okR;generalize num r=q;refine ⟨⟨?_,?_⟩,⟨?_,?_⟩,⟨?_,?_⟩,?_,?_⟩ <;> simp only <;> omega
theorem okR_new {l:List R4} {o r:Int} {x:R4} (h:okL l) (hx:okR x):okR (newR l o r x):=by
 unfold newR
 split
 ·exact hx
 ·split
  ·exact okR_inc _
  ·exact okR_at h _
theorem good_do {p:Int} {l:List R4} {o r:Int} {x:R4} (h:doE p l o r=0):goodF p (l.set r.toNat (newR l o r x)):=by
 obtain ⟨hg,ho,h0,h1⟩:=Fl.doE_of h
 by_cases hr:r=0
 ·subst hr
  have e:o=0:=by
   unfold doE at h;rw [if_pos hg,if_pos ho,if_pos ⟨h0,h1⟩] at h
   split at h
   ·omega
   ·omega
  subst e
  show goodF p (l.set 0 (newR l 0 0 x))
  have e2:newR l 0 0 x=rat l 0:=by unfold newR;rw [if_neg (by decide),if_neg (by decide)];rfl
  rw [e2,set_rat l 0 (by omega)];exact hg
 ·exact good_set hg (by omega)
theorem OkA.find {A:Abs} (h:OkA A) {n:Int} {e:Fil} (he:look key n A=some e):(0≤n∧n≤63)∧goodF e.2.1 e.2.2∧okL e.2.2∧e.1=n:=by
 obtain ⟨hm,hk⟩:=look_some he;have hk':e.1=n:=hk;exact ⟨hk' ▸ h.nm e hm,h.good e hm,h.ok e hm,hk'⟩
theorem OkA.add {A:Abs} (h:OkA A) {n p:Int} {l:List R4} (hl:okL l):OkA (addA A n p l):=by
 unfold addA
 split
 ·rename_i h0
  unfold addE at h0
  split at h0
  ·rename_i hn
   split at h0
   ·rename_i hg
    exact h.put hn hg hl
   ·omega
  ·omega
 ·exact h
theorem OkA.do {A:Abs} (h:OkA A) {o f r:Int} {x:R4} (hx:okR x):OkA (dA A o f r x):=by
 unfold dA
 split
 ·exact h
 ·rename_i e he
  split
  ·rename_i h0
   obtain ⟨hn,hg,hl,hk⟩:=h.find he;refine h.put hn ?_ (okL_set hl (okR_new hl hx));unfold dE at h0
   split at h0
   ·rw [he] at h0
    exact good_do h0
   ·omega
  ·exact h
theorem OkA.set {A:Abs} (h:OkA A) {n r:Int} {x:R4} (hx:okR x):OkA (sA A n r x):=by
 unfold sA
 split
 ·exact h
 ·rename_i e he
  split
  ·rename_i h0
   obtain ⟨hn,hg,hl,hk⟩:=h.find he;have:r≠0∧0≤r:=by
    unfold sB gB at h0;rw [he] at h0
    simp at h0
    omega
   exact h.put hn (good_set hg (by omega)) (okL_set hl hx)
  ·exact h
end Go.Proofs.YtljnkaodhfnbbaaGreatDoor.Fs
namespace Go.Proofs.YtljnkaodhfnbbaaGreatDoor.Ro
open Go.RowKit
open Rw (Rd Ow At)
open Fl (R4 z4 rec4 K4 okR hdr rat goodF)
abbrev E5:=Int×Int×Int×Int×Int
def z5:E5:=(0,0,0,0,0)
def endE:E5:=(4,0,0,0,0)
def endR:R4:=(4,0,0,0)
def ent (x:E5):Value:=.agg #[.int .i64 x.1,.int .i64 x.2.1,.int .i64 x.2.2.1,.int .i64 x.2.2.2.1,.int .i64 x.2.2.2.2]
def K5:Rw.Kind E5:=⟨fun x=>[.int .i64 x.1,.int .i64 x.2.1,.int .i64 x.2.2.1,.int .i64 x.2.2.2.1,.int .i64 x.2.2.2.2],5,by decide,fun _=>rfl,fun _ u h=>by simp at h;rcases h with rfl | rfl | rfl | rfl | rfl <;> rfl,z5⟩
def place (s f r:Int):Prop:=1≤s∧s≤16∧0≤f∧f≤63∧1≤r∧r≤255
instance (s f r:Int):Decidable (place s f r):=by unfold place;infer_instance
def placeB (s f r:Int):Bool:=decide (place s f r)
def okE (x:E5):Prop:=(1≤x.1∧x.1≤3∧(x.1≠3∨x.2.2.2.2=0)∧place x.2.1 x.2.2.1 x.2.2.2.1∧0≤x.2.2.2.2∧x.2.2.2.2≤3)∨(x.1=4∧x.2.1=0∧x.2.2.1=0∧x.2.2.2.1=0∧x.2.2.2.2=0)
instance (x:E5):Decidable (okE x):=by unfold okE;infer_instance
def okB (x:E5):Bool:=decide (okE x)
theorem ok_yes {x:E5} (h:okE x):okB x=true:=decide_eq_true h
theorem ok_no {x:E5} (h:¬ okE x):okB x=false:=decide_eq_false h
def putR (x:E5):R4:=if okE x then (64 * x.2.2.2.2+x.1,x.2.1,x.2.2.1,x.2.2.2.1) else z4
def putN (x:E5):Int:=if okE x then 0 else 1
def takeX (v:R4):E5:=(v.1 % 64,v.2.1,v.2.2.1,v.2.2.2,v.1 / 64)
def takeE (v:R4):E5:=if okE (takeX v) then takeX v else z5
def takeN (v:R4):Int:=if okE (takeX v) then 0 else 2
theorem okE_bounds {x:E5} (h:okE x):(1≤x.1∧x.1≤4)∧(0≤x.2.1∧x.2.1≤16)∧(0≤x.2.2.1∧x.2.2.1≤63)∧(0≤x.2.2.2.1∧x.2.2.2.1≤255)∧0≤x.2.2.2.2∧x.2.2.2.2≤3:=by
 unfold okE place at h
 omega
theorem ok_slot {x:E5} (h:okE x):x.1≠4↔0 < x.2.1:=by
 unfold okE place at h
 omega
theorem at5 {w:World} {b off:Nat} {l:List E5} (h:At K5 w b off l) (i:Nat) (hi:i < l.length) :
 w.cell? ⟨b,off+i * 5,none⟩=some (.int .i64 (l.getD i z5).1)∧w.cell? ⟨b,off+i * 5+1,none⟩=some (.int .i64 (l.getD i z5).2.1)∧w.cell? ⟨b,off+i * 5+2,none⟩=some (.int .i64 (l.getD i z5).2.2.1)∧w.cell? ⟨b,off+i * 5+3,none⟩=some (.int .i64 (l.getD i z5).2.2.2.1)∧w.cell? ⟨b,off+i * 5+4,none⟩=some (.int .i64 (l.getD i z5).2.2.2.2) :=
 ⟨h i hi 0 _ rfl,h i hi 1 _ rfl,h i hi 2 _ rfl,h i hi 3 _ rfl,h i hi 4 _ rfl⟩
theorem infoE:(Tryz.prog.info? 87).map (fun i=>(i.zero,i.size,i.bytes))=some (some (.agg #[.int .i64 0,.int .i64 0,.int .i64 0,.int .i64 0,.int .i64 0]),5,40):=by kernel_rfl
theorem eq_ent (x y:E5) (w:World):(Op.equalIn 10000 87 (.agg #[.int .i64 x.1,.int .i64 x.2.1,.int .i64 x.2.2.1,.int .i64 x.2.2.2.1,.int .i64 x.2.2.2.2]) (.agg #[.int .i64 y.1,.int .i64 y.2.1,.int .i64 y.2.2.1,.int .i64 y.2.2.2.1,.int .i64 y.2.2.2.2])).run Tryz.prog w = .ok (decide (x=y)) w:=by
 have u3:=Tryz.underlying3;have a3:=Tryz.isAgg3;have z3:=Tryz.sizeOf3;have hS:Tryz.prog.underlying 87=some (.struct (Tryz.prog.fieldsOf 87)):=by kernel_rfl
 have hp:Tryz.prog.stoodInHeld 87=false:=by kernel_rfl
 obtain ⟨x1,x2,x3,x4,x5⟩:=x;obtain ⟨y1,y2,y3,y4,y5⟩:=y;rw [show (10000:Nat)=9999+1 from rfl,run_equalIn_agg w 9999 87 _ _ hS hp];simp only [Program.fieldsOf,Tryz.underlying87];go_simp
 by_cases h1:x1=y1 <;> by_cases h2:x2=y2 <;> by_cases h3:x3=y3 <;> by_cases h4:x4=y4 <;> by_cases h5:x5=y5 <;> simp [h1,h2,h3,h4,h5]
end Go.Proofs.YtljnkaodhfnbbaaGreatDoor.Ro
namespace Go.Proofs.YtljnkaodhfnbbaaGreatDoor.Ro
open Go.RowKit
open Rw (Rd Ow At)
open Fl (R4 z4 rec4 K4 okR okL hdr rat goodF)
def eat (l:List E5) (i:Nat):E5:=l.getD i z5
def prevS (l:List E5) (i:Nat):Int:=if i=0 then 0 else (eat l (i - 1)).2.1
def okAt (l:List E5) (i:Nat):Prop:=okE (eat l i)∧prevS l i < (eat l i).2.1
instance (l:List E5) (i:Nat):Decidable (okAt l i):=by unfold okAt;infer_instance
def mayP (l:List E5):Prop:=∀ i,i < l.length→okAt l i
instance (l:List E5):Decidable (mayP l):=by unfold mayP;infer_instance
def mayB (l:List E5):Bool:=decide (mayP l)
theorem prev_zero (l:List E5):prevS l 0=0:=rfl
theorem prev_next (l:List E5) (k:Nat):prevS l (k+1)=(eat l k).2.1:=rfl
theorem prev_ge {l:List E5} {n:Nat} (h:∀ i,i < n→okAt l i) (k:Nat) (hk:k≤n):(k:Int)≤prevS l k:=by
 induction k with
 | zero=>exact Int.le_refl _
 | succ k ih =>
   have h1:=ih (by omega);have h2:=(h k (by omega)).2;rw [prev_next]
   omega
theorem may_len {l:List E5} (h:mayP l):l.length≤16:=by
 have h1:=prev_ge h l.length (Nat.le_refl _)
 rcases e:l.length with _ | n
 ·omega
 ·rw [e,prev_next] at h1
  have:=(okE_bounds (h n (by omega)).1).2.1.2
  omega
theorem okAt_iff {l:List E5} {k:Nat} (h:∀ i,i < k→okAt l i):okAt l k↔okE (eat l k)∧(eat l k).1≠4∧¬ (0 < k∧(eat l k).2.1≤prevS l k):=by
 have h1:=prev_ge h k (Nat.le_refl _)
 constructor
 ·intro g
  exact ⟨g.1,(ok_slot g.1).2 (by have:=g.2;omega),by have:=g.2;omega⟩
 ·intro ⟨g1,g2,g3⟩
  refine ⟨g1,?_⟩;have:=(ok_slot g1).1 g2
  by_cases e:k=0
  ·subst e;rw [prev_zero];exact this
  ·omega
theorem eat_get {l:List E5} {i:Nat} (h:i < l.length):l[i]? = some (eat l i):=by
 unfold eat;rw [List.getD_eq_getElem?_getD,List.getElem?_eq_getElem h]
 rfl
theorem eat_mem {l:List E5} {i:Nat} (h:i < l.length):eat l i∈l:=List.mem_of_getElem? (eat_get h)
def scan:List R4→Option (List E5)
 | []=>some []
 | v :: r=>if okE (takeX v) then (if (takeX v).1=4 then some [] else (scan r).map (takeX v :: ·)) else none
def tabO (p:Int) (l:List R4):Option (List E5):=if goodF p l then (scan (l.drop 1)).filter mayB else none
def tabL (p:Int) (l:List R4):List E5:=(tabO p l).getD []
def tabN (p:Int) (l:List R4):Int:=if (tabO p l).isSome then 0 else 2
theorem tab_may (p:Int) (l:List R4):mayP (tabL p l):=by
 unfold tabL
 rcases e:tabO p l with _ | m
 ·intro i hi;exact absurd hi (by simp)
 ·unfold tabO at e
  by_cases h:goodF p l
  ·rw [if_pos h] at e
   rw [Option.filter_eq_some_iff] at e;exact of_decide_eq_true e.2
  ·rw [if_neg h] at e;cases e
theorem tab_bad {p:Int} {l:List R4} (h:¬ goodF p l):tabL p l = []∧tabN p l=2:=by
 have e:tabO p l=none:=by unfold tabO;rw [if_neg h]
 unfold tabL tabN;rw [e];exact ⟨rfl,rfl⟩
theorem tab_stop {p:Int} {l:List R4} (h:scan (l.drop 1)=none):tabL p l = []∧tabN p l=2:=by
 have e:tabO p l=none:=by unfold tabO;rw [h];split <;> rfl
 unfold tabL tabN;rw [e];exact ⟨rfl,rfl⟩
theorem tab_yes {p:Int} {l:List R4} {m:List E5} (hg:goodF p l) (h:scan (l.drop 1)=some m) (hm:mayP m):tabL p l=m∧tabN p l=0:=by
 have e:tabO p l=some m:=by unfold tabO;rw [if_pos hg,h,Option.filter_eq_some_iff];exact ⟨rfl,decide_eq_true hm⟩
 unfold tabL tabN;rw [e];exact ⟨rfl,rfl⟩
theorem tab_no {p:Int} {l:List R4} {m:List E5} (h:scan (l.drop 1)=some m) (hm:¬ mayP m):tabL p l = []∧tabN p l=2:=by
 have e:tabO p l=none:=by
  unfold tabO
  split
  ·rw [h]
   show (some m).filter mayB=none
   simp only [Option.filter,mayB,decide_eq_false hm,Bool.false_eq_true,if_false]
  ·rfl
 unfold tabL tabN;rw [e];exact ⟨rfl,rfl⟩
def Read (r:List R4) (k:Nat) (L:List E5):Prop:=L.length=k∧scan r=(scan (r.drop k)).map (L ++ ·)
theorem read_start (r:List R4):Read r 0 []:=⟨rfl,by simp⟩
theorem drop_cons {r:List R4} {k:Nat} (h:k < r.length):r.drop k=rat r k :: r.drop (k+1):=by
 rw [List.drop_eq_getElem_cons h]
 congr 1
 unfold rat;rw [List.getD_eq_getElem?_getD,List.getElem?_eq_getElem h]
 rfl
theorem read_bad {r:List R4} {k:Nat} {L:List E5} (h:Read r k L) (hk:k < r.length) (hb:¬ okE (takeX (rat r k))):scan r=none:=by
 rw [h.2,drop_cons hk];simp only [scan,if_neg hb,Option.map_none]
theorem read_end {r:List R4} {k:Nat} {L:List E5} (h:Read r k L) (hk:k < r.length) (hb:okE (takeX (rat r k))) (h4:(takeX (rat r k)).1=4):scan r=some L:=by
 rw [h.2,drop_cons hk];simp only [scan,if_pos hb,if_pos h4,Option.map_some,List.append_nil]
theorem read_next {r:List R4} {k:Nat} {L:List E5} (h:Read r k L) (hk:k < r.length) (hb:okE (takeX (rat r k))) (h4:(takeX (rat r k)).1≠4):Read r (k+1) (L ++ [takeX (rat r k)]):=by
 refine ⟨by rw [List.length_append,h.1];rfl,?_⟩;rw [h.2,drop_cons hk];simp only [scan,if_pos hb,if_neg h4,Option.map_map]
 congr 1
 funext m
 simp
theorem read_all {r:List R4} {L:List E5} (h:Read r r.length L):scan r=some L:=by
 rw [h.2,List.drop_length]
 simp [scan]
def fileL (l:List E5):List R4:=hdr 3 ((l.length:Int)+1) :: (l.map putR ++ [endR])
def fL (l:List E5):List R4:=if mayP l then fileL l else []
def fP (l:List E5):Int:=if mayP l then 3 else 0
def fN (l:List E5):Int:=if mayP l then 0 else 1
theorem may_each {l:List E5} (h:mayP l):∀ x∈l,okE x∧x.1≠4:=fun x hx=>by
 obtain ⟨i,hi,e⟩:=List.getElem_of_mem hx;have g:=(okAt_iff (fun j hj=>h j (by omega))).1 (h i hi);have e':eat l i=x:=by
  have:=eat_get hi;rw [List.getElem?_eq_getElem hi,e] at this;exact (Option.some.inj this).symm
 rw [e'] at g;exact ⟨g.1,g.2.1⟩
def part (h:R4) (l:List E5) (k:Nat):List R4:=h :: ((l.take k).map putR ++ List.replicate (l.length+1 - k) z4)
theorem part_len (h:R4) (l:List E5) (k:Nat) (hk:k≤l.length):(part h l k).length=l.length+2:=by
 simp [part,List.length_take]
 omega
theorem part_start (h:R4) (l:List E5):part h l 0=h :: List.replicate (l.length+1) z4:=by simp [part]
theorem take_next {l:List E5} {k:Nat} (hk:k < l.length):l.take (k+1)=l.take k ++ [eat l k]:=by
 rw [List.take_add_one,eat_get hk]
 rfl
theorem part_set (h:R4) {l:List E5} {k:Nat} (hk:k < l.length):(part h l k).set (1+k) (putR (eat l k))=part h l (k+1):=by
 have e1:(l.take k).length=k:=by rw [List.length_take];omega
 unfold part;rw [Nat.add_comm 1 k,List.set_cons_succ,List.set_append_right _ _ (by rw [List.length_map,e1];omega),List.length_map,e1,Nat.sub_self,take_next hk];rw [show l.length+1 - k=(l.length+1 - (k+1))+1 by omega,List.replicate_succ]
 simp
theorem part_end (h:R4) (l:List E5):(part h l l.length).set (1+l.length) endR=h :: (l.map putR ++ [endR]):=by
 unfold part;rw [Nat.add_comm 1,List.set_cons_succ,List.set_append_right _ _ (by simp),List.take_length];have e:l.length+1 - l.length=1:=by omega
 rw [e]
 simp
end Go.Proofs.YtljnkaodhfnbbaaGreatDoor.Ro
namespace Go.Proofs.YtljnkaodhfnbbaaGreatDoor.Ck
open Ro (E5 z5 eat mayP mayB okE okAt eat_get eat_mem prevS prev_next okE_bounds)
abbrev LL:=List (List E5)
def lat (L:LL) (n:Nat):List E5:=L.getD n []
theorem drop_lat {L:LL} {k:Nat} (h:k < L.length):L.drop k=lat L k :: L.drop (k+1):=by
 rw [List.drop_eq_getElem_cons h]
 congr 1
 unfold lat;rw [List.getD_eq_getElem?_getD,List.getElem?_eq_getElem h]
 rfl
theorem drop_eat {t:List E5} {i:Nat} (h:i < t.length):t.drop i=eat t i :: t.drop (i+1):=by
 rw [List.drop_eq_getElem_cons h]
 congr 1
 have:=eat_get h;rw [List.getElem?_eq_getElem h] at this;exact Option.some.inj this
theorem lat_take {L:LL} {n j:Nat} (h:j < n):lat (L.take n) j=lat L j:=by
 unfold lat;rw [List.getD_eq_getElem?_getD,List.getD_eq_getElem?_getD,List.getElem?_take,if_pos h]
def scn (p:Nat→E5→Bool):Nat→LL→Option (Nat×E5)
 | _,[]=>none
 | n,t :: r=>match t.find? (p n) with
   | some x=>some (n,x)
   | none=>scn p (n+1) r
def whoN (p:Nat→E5→Bool) (L:LL):Int:=match scn p 0 L with
 | some y=>y.1
 | none=>-1
def whoE (p:Nat→E5→Bool) (L:LL):E5:=match scn p 0 L with
 | some y=>y.2
 | none=>z5
def Ahead (p:Nat→E5→Bool) (L:LL) (k:Nat):Prop:=scn p 0 L=scn p k (L.drop k)
def Within (p:Nat→E5→Bool) (L:LL) (k i:Nat):Prop:=Ahead p L k∧(lat L k).find? (p k)=((lat L k).drop i).find? (p k)
section
variable {p:Nat→E5→Bool} {L:LL} {k i:Nat}
theorem ahead_zero:Ahead p L 0:=rfl
theorem within_zero (h:Ahead p L k):Within p L k 0:=⟨h,rfl⟩
theorem within_hit (h:Within p L k i) (hk:k < L.length) (hi:i < (lat L k).length) (hp:p k (eat (lat L k) i)=true):whoN p L=k∧whoE p L=eat (lat L k) i:=by
 have e:scn p 0 L=some (k,eat (lat L k) i):=by
  rw [h.1,drop_lat hk];simp only [scn,h.2,drop_eat hi,List.find?_cons,hp]
 unfold whoN whoE;rw [e];exact ⟨rfl,rfl⟩
theorem within_next (h:Within p L k i) (hi:i < (lat L k).length) (hp:p k (eat (lat L k) i)=false):Within p L k (i+1):=by
 refine ⟨h.1,?_⟩;rw [h.2,drop_eat hi,List.find?_cons,hp]
theorem within_end (h:Within p L k (lat L k).length) (hk:k < L.length):Ahead p L (k+1):=by
 unfold Ahead;have e:=h.2;rw [List.drop_length] at e;rw [h.1,drop_lat hk];simp only [scn,e,List.find?_nil]
theorem ahead_end (h:Ahead p L L.length):whoN p L = -1∧whoE p L=z5:=by
 have e:scn p 0 L=none:=by rw [h,List.drop_length];rfl
 unfold whoN whoE;rw [e];exact ⟨rfl,rfl⟩
end
theorem scn_some {p:Nat→E5→Bool} : ∀ {L:LL} {n0 n:Nat} {x:E5},scn p n0 L=some (n,x)→∃ k,n=n0+k∧k < L.length∧x∈lat L k∧p n x=true∧∀ j,j < k→∀ y∈lat L j,p (n0+j) y=false
 | [],_,_,_,h=>by cases h
 | t :: r,n0,n,x,h=>by
   rcases e:t.find? (p n0) with _ | y
   ·simp only [scn,e] at h
    obtain ⟨k,e1,h1,h2,h3,h4⟩:=scn_some h;refine ⟨k+1,by omega,by simp;omega,h2,h3,fun j hj y hy=>?_⟩
    rcases j with _ | j
    ·rw [List.find?_eq_none] at e
     simpa using e y hy
    ·have:=h4 j (by omega) y hy
     rw [show n0+(j+1)=n0+1+j by omega];exact this
   ·simp only [scn,e,Option.some.injEq,Prod.mk.injEq] at h
    obtain ⟨rfl,rfl⟩:=h;exact ⟨0,rfl,by simp,List.mem_of_find?_eq_some e,List.find?_some e,fun j hj=>absurd hj (Nat.not_lt_zero _)⟩
theorem scn_none {p:Nat→E5→Bool} : ∀ {L:LL} {n0:Nat},scn p n0 L=none→∀ k,k < L.length→∀ x∈lat L k,p (n0+k) x=false
 | [],_,_,k,hk=>by cases hk
 | t :: r,n0,h,k,hk=>by
   rcases e:t.find? (p n0) with _ | y
   ·simp only [scn,e] at h
    intro x hx
    rcases k with _ | k
    ·rw [List.find?_eq_none] at e
     simpa using e x hx
    ·have:=scn_none h k (by simpa using hk) x hx
     rw [show n0+(k+1)=n0+1+k by omega];exact this
   ·simp only [scn,e] at h
    cases h
theorem find_congr {p q:E5→Bool} : ∀ {t:List E5},(∀ x∈t,p x=q x)→t.find? p=t.find? q
 | [],_=>rfl
 | x :: r,h=>by rw [List.find?_cons,List.find?_cons,h x (List.mem_cons_self ..),find_congr fun y hy=>h y (List.mem_cons_of_mem _ hy)]
theorem scn_congr {p q:Nat→E5→Bool} : ∀ {L:LL} {n0:Nat},(∀ k,k < L.length→∀ x∈lat L k,p (n0+k) x=q (n0+k) x)→scn p n0 L=scn q n0 L
 | [],_,_=>rfl
 | t :: r,n0,h=>by
   have e:t.find? (p n0)=t.find? (q n0):=find_congr fun x hx=>h 0 (by simp) x hx;have ih:=scn_congr (p:=p) (q:=q) (L:=r) (n0:=n0+1) fun k hk x hx=>by
    have:=h (k+1) (by simp;omega) x hx;rw [show n0+1+k=n0+(k+1) by omega];exact this
   simp only [scn,e,ih]
theorem who_cases (p:Nat→E5→Bool) (L:LL):(∃ n x,n < L.length∧x∈lat L n∧p n x=true∧(∀ m,m < n→∀ y∈lat L m,p m y=false)∧whoN p L=n∧whoE p L=x)∨((∀ n,n < L.length→∀ x∈lat L n,p n x=false)∧whoN p L = -1∧whoE p L=z5):=by
 rcases e:scn p 0 L with _ | ⟨n,x⟩
 ·right
  refine ⟨fun n hn x hx=>by simpa using scn_none e n hn x hx,?_,?_⟩
  ·unfold whoN;rw [e]
  ·unfold whoE;rw [e]
 ·left
  obtain ⟨k,e1,h1,h2,h3,h4⟩:=scn_some e;obtain rfl:n=k:=by omega
  refine ⟨n,x,h1,h2,h3,fun m hm y hy=>by simpa using h4 m hm y hy,?_,?_⟩
  ·unfold whoN;rw [e]
  ·unfold whoE;rw [e]
theorem who_congr {p q:Nat→E5→Bool} {L:LL} (h:∀ k,k < L.length→∀ x∈lat L k,p k x=q k x):whoN p L=whoN q L∧whoE p L=whoE q L:=by
 have e:scn p 0 L=scn q 0 L:=scn_congr fun k hk x hx=>by simpa using h k hk x hx
 unfold whoN whoE;rw [e];exact ⟨rfl,rfl⟩
theorem who_hit {p:Nat→E5→Bool} {L:LL} {n:Nat} {x:E5} (hn:n < L.length) (hx:x∈lat L n) (hp:p n x=true):0≤whoN p L∧whoN p L≤n:=by
 rcases who_cases p L with ⟨m,y,h1,h2,h3,h4,e,_⟩ | ⟨h,e,_⟩
 ·rw [e]
  refine ⟨by omega,?_⟩
  by_cases g:n < m
  ·have:=h4 n g x hx
   rw [hp] at this
   cases this
  ·omega
 ·have:=h n hn x hx
  rw [hp] at this
  cases this
def idx (q:List E5→Bool):Nat→LL→Int
 | _,[]=>-1
 | n,t :: r=>if q t then n else idx q (n+1) r
def IAhead (q:List E5→Bool) (L:LL) (k:Nat):Prop:=idx q 0 L=idx q k (L.drop k)
section
variable {q:List E5→Bool} {L:LL} {k:Nat}
theorem iahead_zero:IAhead q L 0:=rfl
theorem iahead_hit (h:IAhead q L k) (hk:k < L.length) (hq:q (lat L k)=true):idx q 0 L=k:=by
 rw [h,drop_lat hk];simp only [idx,hq,if_true]
theorem iahead_next (h:IAhead q L k) (hk:k < L.length) (hq:q (lat L k)=false):IAhead q L (k+1):=by
 unfold IAhead;rw [h,drop_lat hk];simp only [idx,hq,Bool.false_eq_true,if_false]
theorem iahead_end (h:IAhead q L L.length):idx q 0 L = -1:=by rw [h,List.drop_length];rfl
end
theorem idx_all {q:List E5→Bool} : ∀ {L:LL} {n:Nat},idx q n L < 0→∀ k,k < L.length→q (lat L k)=false
 | [],_,_,k,hk=>by cases hk
 | t :: r,n,h,k,hk=>by
   by_cases e:q t=true
   ·simp only [idx,e,if_true] at h
    omega
   ·simp only [idx,e,Bool.false_eq_true,if_false] at h
    rcases k with _ | k
    ·show q t=false
     simpa using e
    ·exact idx_all h k (by simpa using hk)
def snd (s:Int) (_:Nat) (x:E5):Bool:=decide (x.1=1∧x.2.1=s)
def sN (s:Int) (L:LL):Int:=whoN (snd s) L
def sE (s:Int) (L:LL):E5:=whoE (snd s) L
theorem snd_yes {s:Int} {n:Nat} {x:E5} (h1:x.1=1) (h2:x.2.1=s):snd s n x=true:=decide_eq_true ⟨h1,h2⟩
theorem snd_no {s:Int} {n:Nat} {x:E5} (h:¬ (x.1=1∧x.2.1=s)):snd s n x=false:=decide_eq_false h
theorem snd_is {s:Int} {n:Nat} {x:E5} (h:snd s n x=true):x.1=1∧x.2.1=s:=of_decide_eq_true h
theorem sN_take {L:LL} {n:Nat} (hn:n≤L.length) (s:Int):0≤sN s (L.take n)↔0≤sN s L∧sN s L < n:=by
 unfold sN;have hl:(L.take n).length=n:=by rw [List.length_take];omega
 rcases who_cases (snd s) (L.take n) with ⟨m,y,h1,h2,h3,h4,e,_⟩ | ⟨h,e,_⟩
 ·rw [hl] at h1
  rw [lat_take h1] at h2;have g:=who_hit (p:=snd s) (L:=L) (by omega) h2 h3
  constructor
  ·intro _;omega
  ·intro _;omega
 ·constructor
  ·intro g;omega
  ·intro ⟨g1,g2⟩
   rcases who_cases (snd s) L with ⟨m,y,h1,h2,h3,h4,e',_⟩ | ⟨_,e',_⟩
   ·have hm:m < n:=by omega
    have:=h m (by omega) y (by rw [lat_take hm];exact h2);rw [h3] at this
    cases this
   ·omega
def bad (t:List E5):Bool:=!mayB t
def bI (L:LL):Int:=idx bad 0 L
def pc (L:LL) (n:Nat) (x:E5):Bool:=decide (x.1=1∧0≤sN x.2.1 (L.take n))
def pg (L:LL) (_:Nat) (x:E5):Bool:=decide (x.1=2∧sN x.2.1 L < 0)
def qc (F:Nat→Int) (n:Nat) (x:E5):Bool:=decide (x.1=1∧¬ F x.2.1.toNat=n)
def qg (F:Nat→Int) (_:Nat) (x:E5):Bool:=decide (x.1=2∧F x.2.1.toNat < 0)
def clN (L:LL):Int:=whoN (pc L) L
def gaN (L:LL):Int:=whoN (pg L) L
def sF (L:LL) (s:Nat):Int:=sN s L
def tN (L:LL):Int:=if 0≤bI L then bI L else if 0≤clN L then clN L else if 0≤gaN L then gaN L else -1
def tE (L:LL):Int:=if 0≤bI L then 2 else if 0≤clN L then 8 else if 0≤gaN L then 9 else 0
theorem t_form {L:LL} (h:0≤bI L):tN L=bI L∧tE L=2:=by unfold tN tE;rw [if_pos h,if_pos h];exact ⟨rfl,rfl⟩
theorem t_clash {L:LL} (h:¬ 0≤bI L) (h2:0≤clN L):tN L=clN L∧tE L=8:=by unfold tN tE;rw [if_neg h,if_neg h,if_pos h2,if_pos h2];exact ⟨rfl,rfl⟩
theorem t_gap {L:LL} (h:¬ 0≤bI L) (h2:¬ 0≤clN L) (h3:0≤gaN L):tN L=gaN L∧tE L=9:=by unfold tN tE;rw [if_neg h,if_neg h,if_neg h2,if_neg h2,if_pos h3,if_pos h3];exact ⟨rfl,rfl⟩
theorem t_ok {L:LL} (h:¬ 0≤bI L) (h2:¬ 0≤clN L) (h3:¬ 0≤gaN L):tN L = -1∧tE L=0:=by unfold tN tE;rw [if_neg h,if_neg h,if_neg h2,if_neg h2,if_neg h3,if_neg h3];exact ⟨rfl,rfl⟩
theorem may_all {L:LL} (h:¬ 0≤bI L):∀ k,k < L.length→mayP (lat L k):=fun k hk=>by
 have:=idx_all (q:=bad) (L:=L) (n:=0) (by unfold bI at h;omega) k hk;unfold bad mayB at this
 simpa using this
theorem may_slot {t:List E5} (h:mayP t) {x:E5} (hx:x∈t):0≤x.2.1∧x.2.1≤16:=(okE_bounds (Ro.may_each h x hx).1).2.1
theorem clash_same {L:LL} (h:¬ 0≤bI L):whoN (qc (sF L)) L=clN L:=by
 refine (who_congr fun k hk x hx=>?_).1;have b:=may_slot (may_all h k hk) hx;unfold qc pc sF;rw [show ((x.2.1.toNat:Nat):Int)=x.2.1 by omega]
 by_cases h1:x.1=1
 ·have g:=who_hit (p:=snd x.2.1) hk hx (snd_yes h1 rfl)
  have t:=sN_take (L:=L) (n:=k) (by omega) x.2.1;unfold sN at t ⊢
  apply decide_eq_decide.2
  constructor
  ·intro ⟨_,a⟩;exact ⟨h1,t.2 ⟨g.1,by omega⟩⟩
  ·intro ⟨_,a⟩;have:=t.1 a;exact ⟨h1,by omega⟩
 ·simp [h1]
theorem gap_same {L:LL} (h:¬ 0≤bI L):whoN (qg (sF L)) L=gaN L:=by
 refine (who_congr fun k hk x hx=>?_).1;have b:=may_slot (may_all h k hk) hx;unfold qg pg sF;rw [show ((x.2.1.toNat:Nat):Int)=x.2.1 by omega]
def all (p:E5→Bool) (L:LL):Nat:=L.flatten.countP p
section
end
end Go.Proofs.YtljnkaodhfnbbaaGreatDoor.Ck
namespace Go.Proofs.YtljnkaodhfnbbaaGreatDoor.Ua
open Go.RowKit
def bit (b:Int) (j:Nat):Bool:=decide (b / 2 ^ j % 2=1)
def par (F:Nat→Bool):Nat→Bool
 | 0=>false
 | k+1=>par F k != F (k+1)
def val (F:Nat→Bool):Nat→Nat
 | 0=>0
 | k+1=>val F k+if F (k+1) then 2 ^ k else 0
def upd (F:Nat→Bool) (k:Nat) (x:Bool) (i:Nat):Bool:=if i=k then x else F i
def put (b:Int) (k:Nat) (i:Nat):Bool:=if 1≤i∧i < k then bit b (i - 1) else false
def frm (b:Int) (odd:Bool):Nat→Bool:=upd (upd (put b 9) 9 (par (put b 9) 9 != odd)) 10 true
def turn (F:Nat→Bool) (m:Int) (k:Nat) (i:Nat):Bool:=if i < k then F i != bit m i else F i
def bad (F:Nat→Bool):Bool:=F 0 || !F 10
def tb (F:Nat→Bool):Int:=if bad F then 0 else val F 8
def tp (F:Nat→Bool):Bool:=if bad F then false else par F 9
def te (F:Nat→Bool):Int:=if bad F then 2 else 0
theorem par_congr {F G:Nat→Bool} : ∀ k,(∀ i,1≤i→i≤k→F i=G i)→par F k=par G k
 | 0,_=>rfl
 | k+1,h=>by rw [par,par,par_congr k (fun i h1 h2=>h i h1 (by omega)),h (k+1) (by omega) (by omega)]
theorem val_congr {F G:Nat→Bool} : ∀ k,(∀ i,1≤i→i≤k→F i=G i)→val F k=val G k
 | 0,_=>rfl
 | k+1,h=>by rw [val,val,val_congr k (fun i h1 h2=>h i h1 (by omega)),h (k+1) (by omega) (by omega)]
theorem val_lt (F:Nat→Bool):∀ k,val F k < 2 ^ k
 | 0=>Nat.lt_succ_self 0
 | k+1=>by have:=val_lt F k;rw [val,Nat.pow_succ];split <;> omega
theorem and_bit_all:∀ b:Fin 256,∀ j:Fin 8,(bits BinOp.and .u8 (b.val:Int) (2 ^ j.val) != 0)=decide ((b.val:Int) / 2 ^ j.val % 2=1):=by decide +kernel
theorem and_bit (b:Int) (j:Nat) (h0:0≤b) (h1:b≤255) (hj:j < 8):(bits BinOp.and .u8 b (2 ^ j) != 0)=bit b j:=by
 have:=and_bit_all ⟨b.toNat,by omega⟩ ⟨j,hj⟩;simp only at this;rw [show ((b.toNat:Nat):Int)=b by omega] at this;exact this
theorem or_bit_all:∀ b:Fin 256,∀ j:Fin 8,b.val < 2 ^ j.val→bits BinOp.or .u8 (b.val:Int) (2 ^ j.val)=((b.val+2 ^ j.val:Nat):Int):=by decide +kernel
theorem or_bit (b j:Nat) (hj:j < 8) (h:b < 2 ^ j):bits BinOp.or .u8 (b:Int) (2 ^ j)=((b+2 ^ j:Nat):Int) :=
 or_bit_all ⟨b,by have:2 ^ j≤2 ^ 7:=Nat.pow_le_pow_right (by omega) (by omega)
                  omega⟩ ⟨j,hj⟩ h
theorem and_i64 (x:Int) (c:Nat) (hc:c < 9223372036854775808):bits BinOp.and .i64 x (c:Int)=(((x % 18446744073709551616).toNat &&& c:Nat):Int):=by
 have e:(BitVec.ofInt 64 x &&& BitVec.ofInt 64 (c:Int)).toNat=(x % 18446744073709551616).toNat &&& c:=by
  rw [BitVec.toNat_and,BitVec.toNat_ofInt,BitVec.toNat_ofInt]
  congr 1
  simp
  omega
 show IntKind.i64.wrap (((BitVec.ofInt 64 x &&& BitVec.ofInt 64 (c:Int)).toNat:Nat):Int)=_
 rw [e];have l:(x % 18446744073709551616).toNat &&& c≤c:=Nat.and_le_right;exact IntWalk.i64_in _ (by omega)
theorem and_one (x:Int):bits BinOp.and .i64 x 1=x % 2:=by
 have:=and_i64 x 1 (by omega);rw [Nat.and_one_is_mod] at this;rw [show (1:Int)=((1:Nat):Int) from rfl,this]
 omega
theorem test_one (m:Int) (k:Nat):(bits BinOp.and .i64 (m / 2 ^ k) 1 == 1)=bit m k:=by rw [and_one];rfl
end Go.Proofs.YtljnkaodhfnbbaaGreatDoor.Ua
namespace Go.Proofs.YtljnkaodhfnbbaaGreatDoor.Pa
open Go.RowKit
open Fl (R4 z4 rat goodF okR okL)
open Fs (Fil Abs key Srt OkA gB gV sB sA dA dE dD dV addE addA look_some look_none look_at map_look put_set)
open Ro (E5 z5 okE eat mayP)
open Ck (LL lat sN sE tE)
open Ua (bit frm te tp tb upd)
def rb (v:R4) (b:Int):Int:=if b=0 then v.1 else if b=1 then v.2.1 else if b=2 then v.2.2.1 else v.2.2.2
def rs (v:R4) (b x:Int):R4:=if b=0 then (x,v.2.1,v.2.2.1,v.2.2.2) else if b=1 then (v.1,x,v.2.2.1,v.2.2.2) else if b=2 then (v.1,v.2.1,x,v.2.2.2) else (v.1,v.2.1,v.2.2.1,x)
def byt (x:Int):Prop:=0≤x∧x≤255
theorem rb_ok {v:R4} (h:okR v) (b:Int):byt (rb v b):=by
 obtain ⟨h1,h2,h3,h4⟩:=h;unfold rb byt
 split
 ·exact h1
 ·split
  ·exact h2
  ·split
   ·exact h3
   ·exact h4
theorem rs_ok {v:R4} (h:okR v) (b:Int) {x:Int} (hx:byt x):okR (rs v b x):=by
 obtain ⟨h1,h2,h3,h4⟩:=h;unfold rs
 split
 ·exact ⟨hx,h2,h3,h4⟩
 ·split
  ·exact ⟨h1,hx,h3,h4⟩
  ·split
   ·exact ⟨h1,h2,hx,h4⟩
   ·exact ⟨h1,h2,h3,hx⟩
theorem rs_swap (v:R4) {a b:Int} (h:a≠b) (ha:0≤a∧a≤3) (hb:0≤b∧b≤3) (x y:Int):rs (rs v a x) b y=rs (rs v b y) a x:=by
 obtain rfl | rfl | rfl | rfl:a=0∨a=1∨a=2∨a=3:=by omega
 all_goals
  obtain rfl | rfl | rfl | rfl:b=0∨b=1∨b=2∨b=3:=by omega
  all_goals first | (exact absurd rfl h) | rfl
theorem rs_twice (v:R4) (a x y:Int):rs (rs v a x) a y=rs v a y:=by
 unfold rs
 by_cases h0:a=0
 ·simp [h0]
 ·by_cases h1:a=1
  ·simp [h1]
  ·by_cases h2:a=2
   ·simp [h2]
   ·simp [h0,h1,h2]
abbrev Hr:=Int→Option Int
def mt (f r:Int) (x:E5):Bool:=decide (x.1=2∧x.2.2.1=f∧x.2.2.2.1=r)
def grp (t:List E5) (f r:Int):List E5:=t.filter (mt f r)
def allH (h:Hr) (l:List E5):Bool:=l.all fun x=>(h x.2.1).isSome
def mix (h:Hr) (l:List E5) (v:R4):R4:=l.foldl (fun v x=>rs v x.2.2.2.2 ((h x.2.1).getD 0)) v
def newV (h:Hr) (l:List E5) (v:R4):R4:=if allH h l=true then mix h l v else v
def okH (h:Hr):Prop:=∀ n y,h n=some y→byt y
def okY (l:List E5):Prop:=∀ x∈l,0≤x.2.2.2.2∧x.2.2.2.2≤3
theorem getD_ok {h:Hr} (hh:okH h) (n:Int):byt ((h n).getD 0):=by
 rcases e:h n with _ | y
 ·exact ⟨Int.le_refl _,by show (0:Int)≤255;omega⟩
 ·exact hh n y e
theorem mix_ok {h:Hr} (hh:okH h):∀ (l:List E5) {v:R4},okR v→okR (mix h l v)
 | [],_,hv=>hv
 | _ :: r,_,hv=>mix_ok hh r (rs_ok hv _ (getD_ok hh _))
theorem newV_ok {h:Hr} (hh:okH h) (l:List E5) {v:R4} (hv:okR v):okR (newV h l v):=by
 unfold newV
 split
 ·exact mix_ok hh l hv
 ·exact hv
theorem newV_nil (h:Hr) (v:R4):newV h [] v=v:=rfl
theorem mix_cons (h:Hr) (x:E5) (r:List E5) (v:R4):mix h (x :: r) v=mix h r (rs v x.2.2.2.2 ((h x.2.1).getD 0)):=rfl
theorem mix_rs {h:Hr} (a x:Int) (ha:0≤a∧a≤3):∀ (l:List E5) (v:R4),okY l→mix h l (rs v a x)=if l.any (fun y=>decide (y.2.2.2.2=a))=true then mix h l v else rs (mix h l v) a x
 | [],_,_=>rfl
 | y :: r,v,hy=>by
   have hr:okY r:=fun z hz=>hy z (List.mem_cons_of_mem _ hz);have hy0:=hy y (List.mem_cons_self ..);rw [mix_cons,mix_cons,List.any_cons]
   by_cases e:y.2.2.2.2=a
   ·rw [e,rs_twice,decide_eq_true (rfl:a=a),Bool.true_or,if_pos rfl]
   ·rw [decide_eq_false e,Bool.false_or,rs_swap _ (fun h=>e h.symm) ha hy0,mix_rs a x ha r _ hr]
theorem mix_mix {h:Hr} : ∀ (l:List E5) (v:R4),okY l→mix h l (mix h l v)=mix h l v
 | [],_,_=>rfl
 | x :: r,v,hy=>by
   have hr:okY r:=fun z hz=>hy z (List.mem_cons_of_mem _ hz);have hx:=hy x (List.mem_cons_self ..);have ih:=mix_mix (h:=h) r v hr;rw [mix_cons,mix_cons,mix_rs _ _ hx r v hr]
   split
   ·rename_i hany
    rw [mix_rs _ _ hx r _ hr,if_pos hany,ih]
   ·rename_i hany
    rw [rs_twice,mix_rs _ _ hx r _ hr,if_neg hany,ih]
theorem newV_newV {h:Hr} {l:List E5} (hy:okY l) (v:R4):newV h l (newV h l v)=newV h l v:=by
 unfold newV
 by_cases e:allH h l=true
 ·simp only [e,if_true]
  exact mix_mix l v hy
 ·simp only [e,if_false,Bool.false_eq_true]
def recF (h:Hr) (t:List E5) (V:Int→Int→Bool) (e:Fil):Fil:=(e.1,e.2.1,e.2.2.mapIdx fun k v=>if V e.1 k=true then newV h (grp t e.1 k) v else v)
def recV (h:Hr) (t:List E5) (V:Int→Int→Bool) (A:Abs):Abs:=A.map (recF h t V)
def recA (h:Hr) (t:List E5) (A:Abs):Abs:=recV h t (fun _ _=>true) A
section
variable {h:Hr} {t:List E5} {V:Int→Int→Bool} {A:Abs}
theorem recF_len (e:Fil):(recF h t V e).2.2.length=e.2.2.length:=by simp [recF]
theorem recF_get (e:Fil) (k:Nat):(recF h t V e).2.2[k]? = (e.2.2[k]?).map fun v=>if V e.1 k=true then newV h (grp t e.1 k) v else v:=by simp [recF]
theorem recF_rat (e:Fil) {k:Nat} (hk:k < e.2.2.length):rat (recF h t V e).2.2 k=if V e.1 k=true then newV h (grp t e.1 k) (rat e.2.2 k) else rat e.2.2 k:=by
 unfold rat;rw [List.getD_eq_getElem?_getD,List.getD_eq_getElem?_getD,recF_get,List.getElem?_eq_getElem hk]
 rfl
theorem rec_look (n:Int):Fs.look key n (recV h t V A)=(Fs.look key n A).map (recF h t V):=map_look (κ:=key) (κ':=key) (f:=recF h t V) (fun _=>rfl) n A
theorem rec_gB (n k:Int):gB (recV h t V A) n k=gB A n k:=by
 unfold gB;rw [rec_look]
 cases Fs.look key n A with
 | none=>rfl
 | some e=>simp [recF_len]
theorem rec_gV (n k:Int) (hg:gB A n k=true):gV (recV h t V A) n k=if V n k=true then newV h (grp t n k) (gV A n k) else gV A n k:=by
 unfold gB at hg;unfold gV;rw [rec_look]
 rcases e:Fs.look key n A with _ | c
 ·rw [e] at hg
  cases hg
 ·rw [e] at hg
  simp only [decide_eq_true_eq] at hg;obtain ⟨_,hk⟩:=look_some e;have hn:c.1=n:=hk;simp only [Option.map_some];rw [if_pos (by rw [recF_len];exact hg),if_pos hg,recF_rat c (by omega)];have ek:((k.toNat:Nat):Int)=k:=by omega
  rw [ek,hn]
theorem rec_none (hV:∀ n k,V n k=false):recV h t V A=A:=by
 unfold recV;rw [List.map_congr_left (g:=id) (fun e _=>?_),List.map_id];obtain ⟨n,p,l⟩:=e;simp only [recF,hV,id]
 congr 2
 exact List.ext_getElem? fun k=>by simp
theorem rec_congr {V':Int→Int→Bool} (hV:∀ n k,grp t n k≠[]→V n k=V' n k):recV h t V A=recV h t V' A:=by
 unfold recV;refine List.map_congr_left fun e _=>?_;unfold recF
 congr 2
 refine List.ext_getElem? fun k=>?_;simp only [List.getElem?_mapIdx]
 cases e.2.2[k]? with
 | none=>rfl
 | some v =>
   by_cases hg:grp t e.1 k = []
   ·simp [hg,newV_nil]
   ·simp [hV _ _ hg]
theorem rec_all (hV:∀ n k,grp t n k≠[]→V n k=true):recV h t V A=recA h t A:=rec_congr hV
def also (V:Int→Int→Bool) (n k:Int) (a b:Int):Bool:=V a b || decide (a=n∧b=k)
theorem rec_set (hA:OkA A) {n k:Int} (hg:gB A n k=true) (h0:k≠0) (hy:okY (grp t n k)):sA (recV h t V A) n k (newV h (grp t n k) (gV (recV h t V A) n k))=recV h t (also V n k) A:=by
 have hgr:gB (recV h t V A) n k=true:=(rec_gB n k).trans hg;have hsb:sB (recV h t V A) n k=true:=by unfold sB;rw [hgr,decide_eq_true h0];rfl
 have hv:=rec_gV (h:=h) (t:=t) (V:=V) n k hg;have hval:newV h (grp t n k) (gV (recV h t V A) n k)=newV h (grp t n k) (gV A n k):=by
  rw [hv]
  split
  ·exact newV_newV hy _
  ·rfl
 rw [hval];unfold gB at hg
 rcases e:Fs.look key n A with _ | c
 ·rw [e] at hg
  cases hg
 rw [e] at hg;simp only [decide_eq_true_eq] at hg;obtain ⟨hm,hk⟩:=look_some e;have hn:c.1=n:=hk;have hvA:gV A n k=rat c.2.2 k.toNat:=by unfold gV;rw [e];exact if_pos hg
 rw [hvA];unfold sA;rw [rec_look,e];simp only [Option.map_some];rw [if_pos hsb];obtain ⟨i,hi⟩:=List.getElem?_of_mem hm;have hsr:Srt key (recV h t V A):=(Fs.map_srt (κ:=key) (κ':=key) (f:=recF h t V) (fun _=>rfl)).2 hA.srt;have hir:(recV h t V A)[i]? = some (recF h t V c):=by unfold recV;rw [List.getElem?_map,hi];rfl
 rw [put_set (κ:=key) (c:=(n,(recF h t V c).2.1,(recF h t V c).2.2.set k.toNat (newV h (grp t n k) (rat c.2.2 k.toNat)))) hsr hir (show c.1=n from hn)];refine List.ext_getElem? fun j=>?_;rw [List.getElem?_set];have hlen:i < (recV h t V A).length:=(List.getElem?_eq_some_iff.1 hir).1
 by_cases hj:i=j
 ·subst hj
  rw [if_pos rfl,if_pos hlen];unfold recV;rw [List.getElem?_map,hi];simp only [Option.map_some,Option.some.injEq];unfold recF;refine Prod.ext hn.symm (Prod.ext rfl ?_);refine List.ext_getElem? fun q=>?_;simp only [List.getElem?_set,List.length_mapIdx,List.getElem?_mapIdx]
  by_cases hq:k.toNat=q
  ·subst hq
   have hql:k.toNat < c.2.2.length:=by omega
   rw [if_pos rfl,if_pos hql,List.getElem?_eq_getElem hql];have ek:((k.toNat:Nat):Int)=k:=by omega
   simp only [Option.map_some,ek,also,hn,and_self,decide_true,Bool.or_true,if_true]
   congr 2
   unfold rat;rw [List.getD_eq_getElem?_getD,List.getElem?_eq_getElem hql]
   rfl
  ·rw [if_neg hq]
   have hne:¬ (q:Int)=k:=by omega
   cases c.2.2[q]? with
   | none=>rfl
   | some v=>simp [also,hne]
 ·rw [if_neg hj]
  unfold recV;rw [List.getElem?_map,List.getElem?_map]
  rcases ej:A[j]? with _ | x
  ·rfl
  ·have hne:x.1≠n:=fun hx=>by
    have hxm:x∈A:=List.mem_of_getElem? ej;have q1:=look_at hA.srt hxm;rw [show key x=n from hx,e] at q1;injection q1 with q1;subst q1;have hi':=(List.getElem?_eq_some_iff.1 hi).1;have hj':=(List.getElem?_eq_some_iff.1 ej).1;have pw:=List.pairwise_iff_getElem.1 hA.srt;have g1:A[i]=c:=by have:=hi;rw [List.getElem?_eq_getElem hi'] at this;simpa using this
    have g2:A[j]=c:=by have:=ej;rw [List.getElem?_eq_getElem hj'] at this;simpa using this
    rcases Nat.lt_or_gt_of_ne hj with hlt | hlt
    ·have:=pw i j hi' hj' hlt
     rw [g1,g2] at this
     omega
    ·have:=pw j i hj' hi' hlt
     rw [g1,g2] at this
     omega
   simp only [Option.map_some,Option.some.injEq];unfold recF
   congr 2
   refine List.ext_getElem? fun q=>?_
   simp [also,hne]
theorem rec_out (hA:OkA A) {n k:Int} (hg:gB A n k=false):recV h t (also V n k) A=recV h t V A:=by
 unfold recV;refine List.map_congr_left fun e he=>?_;unfold recF
 congr 2
 refine List.ext_getElem? fun q=>?_;simp only [List.getElem?_mapIdx]
 by_cases hx:e.1=n∧(q:Int)=k
 ·obtain ⟨h1,h2⟩:=hx
  have q1:=look_at hA.srt he;rw [show key e=n from h1] at q1;unfold gB at hg;rw [q1] at hg;simp only [decide_eq_false_iff_not] at hg;rw [List.getElem?_eq_none (by omega)]
  rfl
 ·simp [also,hx]
end
end Go.Proofs.YtljnkaodhfnbbaaGreatDoor.Pa
namespace Go.Proofs.YtljnkaodhfnbbaaGreatDoor.Pa
open Go.RowKit
open Fl (R4 z4 rat goodF okR okL)
open Fs (Fil Abs key Srt OkA gB gV sB sA dA dE dD dV addE addA look_some look_none look_at map_look put_set)
open Ro (E5 z5 okE eat mayP eat_get)
open Ck (LL lat sN sE tE)
open Ua (bit frm te tp tb upd)
section
variable {h:Hr} {t:List E5} {V:Int→Int→Bool} {A:Abs}
def rcv1 (h:Hr) (l:List E5) (f r:Int) (A:Abs):Abs:=if (gB A f r && allH h l)=true then sA A f r (mix h l (gV A f r)) else A
theorem rcv1_next (hA:OkA A) {f r:Int} (h0:r≠0) (hy:okY (grp t f r)):rcv1 h (grp t f r) f r (recV h t V A)=recV h t (also V f r) A:=by
 unfold rcv1;rw [rec_gB]
 by_cases hg:gB A f r=true
 ·by_cases ha:allH h (grp t f r)=true
  ·rw [hg,ha,show (true && true)=true from rfl,if_pos rfl,← rec_set hA hg h0 hy]
   congr 1
   unfold newV;rw [if_pos ha]
  ·rw [if_neg (by simp [ha])]
   unfold recV;refine List.map_congr_left fun e _=>?_;unfold recF
   congr 2
   refine List.ext_getElem? fun q=>?_;simp only [List.getElem?_mapIdx]
   by_cases hx:e.1=f∧(q:Int)=r
   ·obtain ⟨h1,h2⟩:=hx
    rw [h1,h2];have:∀ v,newV h (grp t f r) v=v:=fun v=>by unfold newV;rw [if_neg ha]
    simp only [this,ite_self]
   ·simp [also,hx]
 ·rw [if_neg (by simp [hg]),rec_out hA (by simpa using hg)]
def seen (t:List E5) (j:Nat) (n k:Int):Bool:=(t.take j).any (mt n k)
theorem take_eat {j:Nat} (hj:j < t.length):t.take (j+1)=t.take j ++ [eat t j]:=by rw [List.take_add_one,eat_get hj];rfl
def ex1 (s:Abs×Int) (x:E5):Abs×Int:=if x.1=3 then (dA s.1 2 x.2.2.1 x.2.2.2.1 z4,dD s.1 2 x.2.2.1 x.2.2.2.1 s.2) else s
def exU (t:List E5) (s:Abs×Int) (j:Nat):Abs×Int:=(t.take j).foldl ex1 s
def apS (h:Hr) (t:List E5) (s:Abs×Int):Abs×Int:=t.foldl ex1 (recA h t s.1,s.2)
theorem exU_zero (s:Abs×Int):exU t s 0=s:=rfl
theorem exU_next (s:Abs×Int) {j:Nat} (hj:j < t.length):exU t s (j+1)=ex1 (exU t s j) (eat t j):=by unfold exU;rw [take_eat hj,List.foldl_append];rfl
theorem exU_yes (s:Abs×Int) {j:Nat} (hj:j < t.length) (h3:(eat t j).1=3):exU t s (j+1)=(dA (exU t s j).1 2 (eat t j).2.2.1 (eat t j).2.2.2.1 z4,dD (exU t s j).1 2 (eat t j).2.2.1 (eat t j).2.2.2.1 (exU t s j).2):=by
 rw [exU_next s hj];unfold ex1;rw [if_pos h3]
theorem exU_no (s:Abs×Int) {j:Nat} (hj:j < t.length) (h3:(eat t j).1≠3):exU t s (j+1)=exU t s j:=by
 rw [exU_next s hj];unfold ex1;rw [if_neg h3]
theorem exU_end (h:Hr) (s:Abs×Int):exU t (recA h t s.1,s.2) t.length=apS h t s:=by unfold exU apS;rw [List.take_length]
theorem dD_le {A:Abs} {o f r d:Int} : d≤dD A o f r d∧dD A o f r d≤d+1:=by unfold dD;split <;> omega
theorem exU_d (s:Abs×Int):∀ j,s.2≤(exU t s j).2∧(exU t s j).2≤s.2+j
 | 0=>by rw [exU_zero];omega
 | j+1=>by
   have ih:=exU_d s j
   by_cases hj:j < t.length
   ·rw [exU_next s hj]
    unfold ex1
    split
    ·have:=dD_le (A:=(exU t s j).1) (o:=2) (f:=(eat t j).2.2.1) (r:=(eat t j).2.2.2.1) (d:=(exU t s j).2)
     simp only
     omega
    ·omega
   ·have:exU t s (j+1)=exU t s j:=by unfold exU;rw [List.take_of_length_le (by omega),List.take_of_length_le (by omega)]
    rw [this]
    omega
end
def tn (F:Nat→Bool) (m:Int) (i:Nat):Bool:=if 1≤i∧i < 11 then F i != bit m i else F i
abbrev S2:=Int×Int
def z2:S2:=(0,0)
def pat (P:List S2) (i:Nat):S2:=P.getD i z2
def sq1 (s:Int) (F:Nat→Bool) (x:S2):Nat→Bool:=if x.1=s then tn F x.2 else F
def sq (P:List S2) (s:Int) (F:Nat→Bool) (j:Nat):Nat→Bool:=(P.take j).foldl (sq1 s) F
theorem sq_next (P:List S2) (s:Int) (F:Nat→Bool) {j:Nat} (hj:j < P.length):sq P s F (j+1)=sq1 s (sq P s F j) (pat P j):=by
 unfold sq;have:P.take (j+1)=P.take j ++ [pat P j]:=by
  rw [List.take_add_one,List.getElem?_eq_getElem hj];unfold pat;rw [List.getD_eq_getElem?_getD,List.getElem?_eq_getElem hj]
  rfl
 rw [this,List.foldl_append]
 rfl
theorem sq_yes (P:List S2) (s:Int) (F:Nat→Bool) {j:Nat} (hj:j < P.length) (h:(pat P j).1=s):sq P s F (j+1)=tn (sq P s F j) (pat P j).2:=by rw [sq_next P s F hj];unfold sq1;rw [if_pos h]
theorem sq_no (P:List S2) (s:Int) (F:Nat→Bool) {j:Nat} (hj:j < P.length) (h:(pat P j).1≠s):sq P s F (j+1)=sq P s F j:=by rw [sq_next P s F hj];unfold sq1;rw [if_neg h]
theorem and_2046_all:∀ r:Fin 2048,r.val &&& 2046=r.val / 2 * 2:=by decide +kernel
theorem and_2046 (x:Int):bits BinOp.and .i64 x 2046=x / 2 % 1024 * 2:=by
 have h:=Ua.and_i64 x 2046 (by decide);have h2:((x % 18446744073709551616).toNat &&& 2046:Nat)=(x % 18446744073709551616).toNat % 2048 / 2 * 2:=by
  have a:=and_2046_all ⟨(x % 18446744073709551616).toNat % 2048,Nat.mod_lt _ (by omega)⟩;simp only at a;rw [← a];have e:(x % 18446744073709551616).toNat % 2048=(x % 18446744073709551616).toNat &&& (2 ^ 11 - 1):=by rw [Nat.and_two_pow_sub_one_eq_mod]
  rw [e,Nat.and_assoc]
  rfl
 rw [show ((2046:Int))=((2046:Nat):Int) from rfl,h,h2]
 omega
theorem bit_2046 (x:Int) {i:Nat} (hi:i < 11):bit (x / 2 % 1024 * 2) i=(decide (1≤i) && bit x i):=by
 unfold bit
 rcases Nat.lt_or_ge i 1 with h | h
 ·obtain rfl:i=0:=by omega
  simp
 ·rw [decide_eq_true h,Bool.true_and,decide_eq_decide]
  obtain rfl | rfl | rfl | rfl | rfl | rfl | rfl | rfl | rfl | rfl:i=1∨i=2∨i=3∨i=4∨i=5∨i=6∨i=7∨i=8∨i=9∨i=10:=by omega
  all_goals simp only [Int.reducePow];omega
theorem tn_code (F:Nat→Bool) (m:Int) (i:Nat) (hi:i < 11):Ua.turn F (bits BinOp.and .i64 m 2046) 11 i=tn F m i:=by
 rw [and_2046];unfold Ua.turn tn;rw [if_pos hi,bit_2046 m hi]
 by_cases h:1≤i
 ·simp [h,hi]
 ·simp [h]
abbrev Sts:=List (Abs×Int)
def sat (S:Sts) (n:Int):Abs×Int:=S.getD n.toNat ([],0)
def vat (V:List Bool) (n:Int):Bool:=V.getD n.toNat false
def snB (S:Sts) (T:LL) (V:List Bool) (s:Int):Bool:=decide (0≤sN s T) && vat V (sN s T) && gB (sat S (sN s T)).1 (sE s T).2.2.1 (sE s T).2.2.2.1
def snX (S:Sts) (T:LL) (s:Int):Int:=rb (gV (sat S (sN s T)).1 (sE s T).2.2.1 (sE s T).2.2.2.1) (sE s T).2.2.2.2
def sbN (S:Sts) (T:LL) (V:List Bool) (s:Int):Int:=if snB S T V s=true then sN s T else -1
def sbX (S:Sts) (T:LL) (V:List Bool) (s:Int):Int:=if snB S T V s=true then snX S T s else 0
def lowF (_:Nat):Bool:=false
def frF (S:Sts) (T:LL) (V:List Bool) (P:List S2) (s:Int):Nat→Bool:=if snB S T V s=true then sq P s (frm (snX S T s) false) P.length else lowF
def hrB (S:Sts) (T:LL) (V:List Bool) (P:List S2) (s:Int):Bool:=snB S T V s && decide (te (frF S T V P s)=0) && !tp (frF S T V P s)
def hrV (S:Sts) (T:LL) (V:List Bool) (P:List S2) (s:Int):Int:=if hrB S T V P s=true then tb (frF S T V P s) else 0
def hr (S:Sts) (T:LL) (V:List Bool) (P:List S2):Hr:=fun s=>if 1≤s∧s≤16∧hrB S T V P s=true then some (hrV S T V P s) else none
theorem tb_byt (F:Nat→Bool):byt (tb F):=by
 unfold tb byt
 split
 ·omega
 ·have:=Ua.val_lt F 8
  omega
theorem hrV_byt (S:Sts) (T:LL) (V:List Bool) (P:List S2) (s:Int):byt (hrV S T V P s):=by
 unfold hrV
 split
 ·exact tb_byt _
 ·unfold byt;omega
theorem hr_ok (S:Sts) (T:LL) (V:List Bool) (P:List S2):okH (hr S T V P):=fun n y h=>by
 unfold hr at h
 split at h
 ·injection h with h;subst h;exact hrV_byt S T V P n
 ·cases h
def rdE (S:Sts) (T:LL) (V:List Bool):Int:=if 1≤S.length∧S.length≤32∧T.length=S.length∧V.length=S.length then tE T else 1
def rdS (S:Sts) (T:LL) (V:List Bool) (h:Hr):Sts:=(List.range S.length).map fun (i:Nat)=>if vat V i=true then apS h (lat T i) (sat S i) else sat S i
theorem rdS_len (S:Sts) (T:LL) (V:List Bool) (h:Hr):(rdS S T V h).length=S.length:=by simp [rdS]
theorem rdS_at (S:Sts) (T:LL) (V:List Bool) (h:Hr) {i:Nat} (hi:i < S.length):sat (rdS S T V h) i=if vat V i=true then apS h (lat T i) (sat S i) else sat S i:=by
 show (rdS S T V h).getD ((i:Int)).toNat _=_
 rw [Int.toNat_natCast,List.getD_eq_getElem?_getD];unfold rdS;rw [List.getElem?_map,List.getElem?_range hi]
 rfl
end Go.Proofs.YtljnkaodhfnbbaaGreatDoor.Pa
namespace Go.Proofs.YtljnkaodhfnbbaaGreatDoor.Fs
open Go.RowKit Go.Maps
open Fl (R4 z4 K4 rec4 rat goodF goodFB okR okL doE newR file)
open Rw (Rd Ow At)
structure Ent where
 n:Int
 p:Int
 a:Option Addr
 cap:Nat
 l:List R4
def Ent.sl (c:Ent):Value:=.slice c.a c.l.length c.cap
def Ent.file (c:Ent):Value:=Fl.file c.p c.sl
def Ent.abs (c:Ent):Fil:=(c.n,c.p,c.l)
def E3:Rw.Kind Ent:=⟨fun c=>[.int .i64 c.n,.int .i64 c.p,c.sl],3,by decide,fun _=>rfl,fun _ u h=>by simp [Ent.sl] at h;rcases h with rfl | rfl | rfl <;> rfl,⟨0,0,none,0,[]⟩⟩
theorem abs_key (c:Ent):key c.abs=c.n:=rfl
structure Only (G:Nat→Prop) (w w':World):Prop where
 os:w'.os=w.os
 tape:w'.tape=w.tape
 output:w'.output=w.output
 size:w.heap.size≤w'.heap.size
 block:∀ k,k < w.heap.size→¬ G k→w'.heap[k]? = w.heap[k]?
def Fx (G:Nat→Prop) (w w':World) (k:Nat):Prop:=G k∨(w.heap.size≤k∧k < w'.heap.size)
section
variable {G:Nat→Prop} {w w' w'':World}
theorem Only.refl (G:Nat→Prop) (w:World):Only G w w:=⟨rfl,rfl,rfl,Nat.le_refl _,fun _ _ _=>rfl⟩
theorem Only.of_below (h:Below w.heap.size w w'):Only G w w':=⟨h.os,h.tape,h.output,h.size,fun k hk _=>h.block k hk⟩
theorem Only.mono {G':Nat→Prop} (h:Only G w w') (hg:∀ k,k < w.heap.size→G k→G' k):Only G' w w':=⟨h.os,h.tape,h.output,h.size,fun k hk hn=>h.block k hk fun g=>hn (hg k hk g)⟩
theorem Only.trans {G':Nat→Prop} (h:Only G w w') (k:Only G' w' w'') (hg:∀ k,k < w.heap.size→G' k→G k):Only G w w'' :=
 ⟨k.os.trans h.os,k.tape.trans h.tape,k.output.trans h.output,Nat.le_trans h.size k.size,fun i hi hn=>(k.block i (Nat.lt_of_lt_of_le hi h.size) fun g=>hn (hg i hi g)).trans (h.block i hi hn)⟩
theorem Only.then (h:Only G w w') (b:Below w'.heap.size w' w''):Only G w w'':=h.trans (Only.of_below (G:=fun _=>False) b) fun _ _ g=>g.elim
theorem Only.set (G:Nat→Prop) (w:World) {a:Addr} (ha:G a.block) (u:Value):Only G w (w.setCell a u) :=
 ⟨rfl,rfl,rfl,by simp [World.setCell],fun k _ hn=>Below.heap_setCell w a u k fun e=>hn (e ▸ ha)⟩
theorem Only.grown {b:Nat} (hb:G b) (h:w.grownBy w' (some b)):Only G w w':=⟨h.os,h.tape,h.output,h.size,fun k hk hn=>h.block k hk fun e=>hn (by injection e with e;exact e ▸ hb)⟩
theorem Only.below {B:Nat} (h:Only G w w') (hB:B≤w.heap.size) (hG:∀ k,G k→B≤k):Below B w w' :=
 ⟨h.os,h.tape,h.output,h.size,fun k hk=>h.block k (by omega) fun g=>by have:=hG k g;omega⟩
theorem Only.cell (h:Only G w w') {a:Addr} {v:Value} (hc:w.cell? a=some v) (hn:¬ G a.block):w'.cell? a=some v :=
 (World.cell?_of_block (h.block a.block (World.block_lt_of_cell? _ _ hc) hn)).trans hc
theorem Fx.of {k:Nat} (h:G k):Fx G w w' k:=.inl h
theorem Fx.not {k:Nat} (h:¬ G k) (hk:k < w.heap.size):¬ Fx G w w' k:=by rintro (g | ⟨g,_⟩);exact h g;omega
theorem Fx.low (h:∀ k,G k→k < w.heap.size) (hs:w.heap.size≤w'.heap.size):∀ k,Fx G w w' k→k < w'.heap.size:=by
 rintro k (g | ⟨_,g⟩)
 ·have:=h k g;omega
 ·exact g
end
section
variable {α:Type} {K:Rw.Kind α} {G:Nat→Prop} {w w':World} {v:Value} {l:List α}
theorem rd_only (h:Rd K w v l) (hn:0 < l.length→∀ k,v.ownBlock=some k→¬ G k) (ho:Only G w w'):Rd K w' v l:=by
 obtain ⟨a,cap,rfl,h1,h2,h3⟩:=h;refine ⟨a,cap,rfl,h1,h2,fun h0=>?_⟩;obtain ⟨b,off,rfl,hA⟩:=h3 h0;exact ⟨b,off,rfl,fun i hi j u hu=>ho.cell (hA i hi j u hu) (hn h0 b rfl)⟩
theorem rd_low (h:Rd K w v l) (h0:0 < l.length):∀ k,v.ownBlock=some k→k < w.heap.size:=by
 obtain ⟨a,cap,rfl,h1,h2,h3⟩:=h;obtain ⟨b,off,rfl,hA⟩:=h3 h0
 intro k hk
 obtain rfl:b=k:=by simpa [Value.ownBlock] using hk
 obtain ⟨j,hj⟩:∃ u,(K.enc (l.getD 0 K.dft))[0]? = some u:=⟨_,List.getElem?_eq_getElem (by rw [K.len];exact K.pos)⟩;exact World.block_lt_of_cell? _ _ (hA 0 h0 0 _ hj)
theorem rd_fx (h:Rd K w v l) (hn:0 < l.length→∀ k,v.ownBlock=some k→¬ G k):0 < l.length→∀ k,v.ownBlock=some k→¬ Fx G w w' k :=
 fun h0 k hk=>Fx.not (hn h0 k hk) (rd_low h h0 k hk)
theorem ow_only {B E:Nat} (h:Ow K w B E v l) (hn:∀ k,v.ownBlock=some k→¬ G k) (ho:Only G w w'):Ow K w' B E v l:=by
 obtain ⟨h1,h2⟩:=h;refine ⟨h1,?_⟩
 rcases h2 with h2 | ⟨g,cap,cur,rfl,hB,hh,r⟩
 ·exact .inl h2
 ·exact .inr ⟨g,cap,cur,rfl,hB,(ho.block g (lt_of_block hh) (hn g rfl)).trans hh,r⟩
theorem ow_new {B E:Nat} (h:Ow K w B E v l):∀ k,v.ownBlock=some k→B≤k∧k < w.heap.size:=fun k hk=>World.ownsRow.lt h k hk
end
def Rh (v:Value):Option (DataW Value×List MemPlace):=some (.held v,[])
def ent (c:Ent):Lit×DataW Value:=(.int .i64 c.n,.held c.file)
def dat (C:List Ent):DataW Value:=.map (C.map ent)
theorem law:Keyed Tryz.prog 3:=int_keyed Tryz.underlying3
theorem zeroF (w:World):(zeroValue 70).run Tryz.prog w = .ok (file 0 (.slice none 0 0)) w:=by kernel_rfl
def Wf (n:Int):Prop:=(Lit.int .i64 n).wf=true
theorem keyI {n:Int} (h:Wf n):keyOf Tryz.prog 3 (.int .i64 n)=some (.int .i64 n):=keyOf_int_mk Tryz.underlying3 h
theorem insert_ent (c:Ent):∀ l:List Ent,DataW.insert (ent c) (l.map ent)=(ins Ent.n c l).map ent
 | []=>rfl
 | y :: r=>by
   simp only [List.map_cons,DataW.insert,ins,ent,Lit.before,decide_eq_true_eq]
   split
   ·rfl
   ·have:=insert_ent c r
    simp only [ent] at this;rw [this]
    rfl
theorem filter_ent (c:Ent) (l:List Ent):(l.map ent).filter (fun p=>!p.1.sameKey (ent c).1)=(l.filter fun y=>decide (¬ y.n=c.n)).map ent:=by
 rw [List.filter_map]
 congr 1
 exact congrArg (fun q=>List.filter q l) (funext fun x=>by simp [ent,Lit.sameKey])
theorem dat_put (c:Ent) (l:List Ent):(dat l).put (.int .i64 c.n) (.held c.file)=dat (put Ent.n c l):=by
 unfold dat DataW.put put;simp only;rw [← insert_ent,← filter_ent]
 rfl
theorem find_ent (n:Int):∀ l:List Ent,(l.map ent).find? (fun p=>p.1.sameKey (.int .i64 n))=(look Ent.n n l).map ent:=fun l=>by
 unfold look;rw [List.find?_map]
 congr 1
 exact congrArg (fun q=>List.find? q l) (funext fun x=>by simp [ent,Lit.sameKey])
def lv (C:List Ent) (n:Int):Value:=match look Ent.n n C with | none=>file 0 (.slice none 0 0) | some c=>c.file
def lb (C:List Ent) (n:Int):Bool:=(look Ent.n n C).isSome
theorem dat_at (n:Int) (l:List Ent):(dat l).atKey (.int .i64 n) (.held (file 0 (.slice none 0 0))) = .held (lv l n):=by
 unfold dat DataW.atKey lv;simp only [find_ent]
 cases look Ent.n n l <;> rfl
theorem dat_has (n:Int) (l:List Ent):Maps.has (dat l) (.int .i64 n)=lb l n:=by
 have e:∀ q:Lit×DataW Value→Bool,(l.map ent).any q=((l.map ent).find? q).isSome:=fun q=>by
  rw [Bool.eq_iff_iff,List.any_eq_true,List.find?_isSome]
 show (l.map ent).any (fun p=>p.1.sameKey (.int .i64 n))=_
 rw [e,find_ent,Option.isSome_map]
 rfl
theorem tight {w:World} {b n:Nat} {C:List Ent} (h:w.ownsMap Tryz.prog 3 Rh b n (dat C)):w.ownsMap Tryz.prog 3 Rh b C.length (dat C):=by
 obtain ⟨es,clock,hb,F,hs,hD⟩:=h;refine ⟨es,clock,hb,F,?_,hD⟩;have e:C.map ent=(es.toList.map (Go.WideElems.rg Tryz.prog 3 Rh)).foldr DataW.insert []:=by unfold dat at hD;injection hD
 have:=congrArg List.length e;rw [length_read,List.length_map] at this
 omega
def Mp (w:World) (F:Nat→Prop) (m:Value) (C:List Ent):Prop:=(m = .map none∧C = [])∨∃ b,m = .map (some b)∧F b∧w.ownsMap Tryz.prog 3 Rh b C.length (dat C)
theorem run_look {w:World} {F:Nat→Prop} {m:Value} {C:List Ent} (M:Mp w F m C) {n:Int} (hn:Wf n) (c:Bool) :
 (Instr.lookup 176 m (.int .i64 n) c).run Tryz.prog w = .ok (if c then .tuple #[lv C n,.bool (lb C n)] else lv C n) w:=by
 rcases M with ⟨rfl,rfl⟩ | ⟨b,rfl,_,h⟩
 ·exact Maps.look_nil c law Tryz.underlying176 (zeroF w) (keyI hn)
 ·cases c with
  | false =>
    obtain ⟨v,ps,hr,hv⟩:=h.lookup law Tryz.underlying176 (zeroF w) (zd:=.held (file 0 (.slice none 0 0))) (zp:=[]) rfl (keyI hn);rw [dat_at] at hv;have:v=lv C n:=by simp [Rh] at hv;exact hv.1
    rw [hr,this]
    rfl
  | true =>
    obtain ⟨v,ps,hr,hv⟩:=h.look_ok law Tryz.underlying176 (zeroF w) (zd:=.held (file 0 (.slice none 0 0))) (zp:=[]) rfl (keyI hn);rw [dat_at] at hv;have:v=lv C n:=by simp [Rh] at hv;exact hv.1
    rw [hr,this,dat_has]
    rfl
theorem run_put {w:World} {F:Nat→Prop} {b:Nat} {C:List Ent} (M:Mp w F (.map (some b)) C) (c:Ent) (hn:Wf c.n) (hl:C.length < maxLen) :
 ∃ w',(Instr.mapUpdate 176 (.map (some b)) (.int .i64 c.n) c.file).run Tryz.prog w = .ok () w'∧Mp w' F (.map (some b)) (put Ent.n c C)∧w.grownBy w' (some b):=by
 rcases M with ⟨h,_⟩ | ⟨b',e,hF,h⟩
 ·cases h
 ·obtain rfl:b=b':=by injection e with e;injection e
  obtain ⟨w',hr,h',hg⟩:=h.update law Tryz.underlying176 hl (keyI hn) (d:=.held c.file) (ps:=[]) rfl;rw [dat_put] at h';exact ⟨w',hr,.inr ⟨b,rfl,hF,tight h'⟩,hg⟩
section
variable {ops:Array Oper} {rest:List Oper} {o:Oper} {a:Act} {Q:Exit→Act→World→Prop} {K:Act→World→Prop} {w:World} {F:Nat→Prop}
theorem at_look {m:Value} {C:List Ent} (hgd:Region.wanted o (yielded ops a.tmps)=true) (p x:Operand) (c:Bool) (hop:o.op = .lookup 176 p x c) (hm:a.eval p=m) (M:Mp w F m C) (n:Int) (hx:a.eval x = .int .i64 n) (hn:Wf n)
 (h:wpList Tryz.prog ops Q rest (a.put o.dst (if c then .tuple #[lv C n,.bool (lb C n)] else lv C n)) w):wpList Tryz.prog ops Q (o :: rest) a w:=by
 refine BigFrame.wpList_want hgd fun K' hK=>?_;have hr:=run_look M hn c;unfold Oper.wp
 simp [execOp,hop,hm,hx,hr,Result.andThen]
 exact hK _ _ (by simpa using h)
theorem wp_put {b:Nat} {C:List Ent} (p x v:Operand) (hop:o.op = .mapUpdate 176 p x v) (hm:a.eval p = .map (some b)) (M:Mp w F (.map (some b)) C) (c:Ent) (hx:a.eval x = .int .i64 c.n) (hv:a.eval v=c.file) (hn:Wf c.n) (hl:C.length < maxLen)
 (h:∀ w',Mp w' F (.map (some b)) (put Ent.n c C)→w.grownBy w' (some b)→K (a.put o.dst undef) w'):o.wp Tryz.prog a w K Q:=by
 obtain ⟨w',hr,h1,h2⟩:=run_put M c hn hl;unfold Oper.wp
 simp [execOp,hop,hm,hx,hv,hr,Result.andThen]
 exact h w' h1 h2
end
section
variable {w w':World} {F G:Nat→Prop} {m:Value} {C:List Ent}
theorem Mp.only (h:Mp w F m C) (hn:∀ k,F k→¬ G k) (ho:Only G w w'):Mp w' F m C:=by
 rcases h with h | ⟨b,rfl,hF,h⟩
 ·exact .inl h
 ·have hlt:=h.lt
  obtain ⟨es,clock,hb,Ft,hs,hD⟩:=h;exact .inr ⟨b,rfl,hF,es,clock,(ho.block b hlt (hn b hF)).trans hb,Ft,hs,hD⟩
theorem Mp.wide (h:Mp w F m C) (hF:∀ k,F k→G k):Mp w G m C:=by
 rcases h with h | ⟨b,rfl,hb,h⟩
 ·exact .inl h
 ·exact .inr ⟨b,rfl,hF b hb,h⟩
theorem Mp.kept (h:Mp w F m C) (hb:∀ b,m = .map (some b)→w'.heap[b]? = w.heap[b]?):Mp w' F m C:=by
 rcases h with h | ⟨b,rfl,hF,h⟩
 ·exact .inl h
 ·obtain ⟨es,clock,h1,Ft,hs,hD⟩:=h
  exact .inr ⟨b,rfl,hF,es,clock,(hb b rfl).trans h1,Ft,hs,hD⟩
theorem Mp.isMap {b:Nat} (h:Mp w F (.map (some b)) C):F b∧∃ es clock,w.heap[b]? = some (.map es clock):=by
 rcases h with ⟨h,_⟩ | ⟨b',e,hF,h⟩
 ·cases h
 ·obtain rfl:b=b':=by injection e with e;injection e
  obtain ⟨es,clock,hb,_⟩:=h;exact ⟨hF,es,clock,hb⟩
end
def apart (c c':Ent):Prop:=∀ k,c.sl.ownBlock=some k→c'.sl.ownBlock≠some k
structure Sto (w:World) (s:Nat) (F:Nat→Prop) (m:Value) (C:List Ent) (d:Int):Prop where
 row:w.heap[s]? = some (.cells #[m,.int .i64 d] 178 (0,0))
 foot:F s
 mp:Mp w F m C
 own:∀ c∈C,Ow K4 w 0 42 c.sl c.l
 mine:∀ c∈C,∀ k,c.sl.ownBlock=some k→F k
 apart:C.Pairwise apart
 ok:OkA (C.map Ent.abs)
 low:∀ k,F k→k < w.heap.size
def St (w:World) (s:Nat) (F:Nat→Prop) (A:Abs) (d:Int):Prop:=∃ m C,Sto w s F m C d∧C.map Ent.abs=A
section
variable {w w':World} {s:Nat} {F G:Nat→Prop} {m:Value} {C:List Ent} {A:Abs} {d:Int}
theorem Sto.only (h:Sto w s F m C d) (hn:∀ k,F k→¬ G k) (ho:Only G w w'):Sto w' s F m C d :=
 ⟨(ho.block s (lt_of_block h.row) (hn s h.foot)).trans h.row,h.foot,h.mp.only hn ho,fun c hc=>ow_only (h.own c hc) (fun k hk=>hn k (h.mine c hc k hk)) ho,h.mine,h.apart,h.ok,fun k hk=>Nat.lt_of_lt_of_le (h.low k hk) ho.size⟩
theorem Sto.wide (h:Sto w s F m C d) (hF:∀ k,F k→G k) (hl:∀ k,G k→k < w.heap.size):Sto w s G m C d :=
 ⟨h.row,hF s h.foot,h.mp.wide hF,h.own,fun c hc k hk=>hF k (h.mine c hc k hk),h.apart,h.ok,hl⟩
theorem Sto.below (h:Sto w s F m C d) (hb:Below w.heap.size w w'):Sto w' s F m C d:=h.only (G:=fun _=>False) (fun _ _ g=>g) (Only.of_below hb)
theorem St.only (h:St w s F A d) (hn:∀ k,F k→¬ G k) (ho:Only G w w'):St w' s F A d:=by
 obtain ⟨m,C,h,e⟩:=h;exact ⟨m,C,h.only hn ho,e⟩
theorem St.wide (h:St w s F A d) (hF:∀ k,F k→G k) (hl:∀ k,G k→k < w.heap.size):St w s G A d:=by
 obtain ⟨m,C,h,e⟩:=h;exact ⟨m,C,h.wide hF hl,e⟩
theorem St.below (h:St w s F A d) (hb:Below w.heap.size w w'):St w' s F A d:=by
 obtain ⟨m,C,h,e⟩:=h;exact ⟨m,C,h.below hb,e⟩
theorem St.fx (h:St w s F A d) (hb:Below w.heap.size w w'):St w' s (Fx F w w') A d:=by
 have hl:∀ k,F k→k < w.heap.size:=by obtain ⟨m,C,h,_⟩:=h;exact h.low
 exact (h.below hb).wide (fun k hk=>.inl hk) (Fx.low hl hb.size)
theorem St.low (h:St w s F A d):∀ k,F k→k < w.heap.size:=by obtain ⟨m,C,h,_⟩:=h;exact h.low
theorem St.foot (h:St w s F A d):F s:=by obtain ⟨m,C,h,_⟩:=h;exact h.foot
theorem St.okA (h:St w s F A d):OkA A:=by obtain ⟨m,C,h,e⟩:=h;rw [← e];exact h.ok
theorem Sto.len (h:Sto w s F m C d):C.length≤64:=by have:=h.ok.len;rwa [List.length_map] at this
theorem abs_look (n:Int) (C:List Ent):look key n (C.map Ent.abs)=(look Ent.n n C).map Ent.abs:=map_look (κ:=Ent.n) (κ':=key) abs_key n C
theorem abs_put (c:Ent) (C:List Ent):(put Ent.n c C).map Ent.abs=put key c.abs (C.map Ent.abs):=map_put (κ:=Ent.n) (κ':=key) abs_key c C
theorem Sto.find (h:Sto w s F m C d) {n:Int} {c:Ent} (hc:look Ent.n n C=some c):Ow K4 w 0 42 c.sl c.l∧goodF c.p c.l∧okL c.l∧c.n=n∧(0≤n∧n≤63)∧c∈C:=by
 obtain ⟨hm,hk⟩:=look_some hc;have hma:c.abs∈C.map Ent.abs:=List.mem_map_of_mem hm;have:=h.ok.nm _ hma;exact ⟨h.own c hm,h.ok.good _ hma,h.ok.ok _ hma,hk,hk ▸ this,hm⟩
theorem Sto.off (h:Sto w s F m C d) {c:Ent} (hc:c∈C):c.sl.ownBlock≠some s∧∀ b,m = .map (some b)→c.sl.ownBlock≠some b:=by
 refine ⟨(h.own c hc).apart h.row (by decide),fun b hb e=>?_⟩;subst hb;obtain ⟨_,es,clock,hm⟩:=h.mp.isMap;obtain ⟨_,h2⟩:=h.own c hc
 rcases h2 with ⟨e2,_⟩ | ⟨g,cap,cur,e2,_,hh,_⟩
 ·rw [e2] at e;cases e
 ·rw [e2] at e
  obtain rfl:g=b:=by simpa [Value.ownBlock] using e
  rw [hh] at hm
  cases hm
theorem Sto.map_ne {b:Nat} (h:Sto w s F (.map (some b)) C d):b≠s:=fun e=>by
 subst e;obtain ⟨_,es,clock,hm⟩:=h.mp.isMap;rw [h.row] at hm
 cases hm
end
structure Lst (F:Nat→Prop) (w:World) (v:Value) (L:List Ent):Prop where
 rd:Rd E3 w v L
 off:0 < L.length→∀ k,v.ownBlock=some k→¬ F k
 file:∀ c∈L,Rd K4 w c.sl c.l
 foff:∀ c∈L,0 < c.l.length→∀ k,c.sl.ownBlock=some k→¬ F k
def Ls (F:Nat→Prop) (w:World) (v:Value) (A:Abs):Prop:=∃ L,Lst F w v L∧L.map Ent.abs=A
section
variable {w w':World} {F G:Nat→Prop} {v:Value} {L:List Ent} {A:Abs}
theorem Lst.only (h:Lst F w v L) (ho:Only F w w'):Lst (Fx F w w') w' v L :=
 ⟨rd_only h.rd h.off ho,rd_fx h.rd h.off,fun c hc=>rd_only (h.file c hc) (h.foff c hc) ho,fun c hc=>rd_fx (h.file c hc) (h.foff c hc)⟩
theorem Lst.mono (h:Lst F w v L) (hg:∀ k,k < w.heap.size→G k→F k):Lst G w v L :=
 ⟨h.rd,fun h0 k hk g=>h.off h0 k hk (hg k (rd_low h.rd h0 k hk) g),h.file,fun c hc h0 k hk g=>h.foff c hc h0 k hk (hg k (rd_low (h.file c hc) h0 k hk) g)⟩
theorem Lst.below (h:Lst F w v L) (hb:Below w.heap.size w w'):Lst F w' v L :=
 ⟨h.rd.below hb,h.off,fun c hc=>(h.file c hc).below hb,h.foff⟩
theorem Ls.only (h:Ls F w v A) (ho:Only F w w'):Ls (Fx F w w') w' v A:=by obtain ⟨L,h,e⟩:=h;exact ⟨L,h.only ho,e⟩
theorem Ls.mono (h:Ls F w v A) (hg:∀ k,k < w.heap.size→G k→F k):Ls G w v A:=by obtain ⟨L,h,e⟩:=h;exact ⟨L,h.mono hg,e⟩
theorem Ls.below (h:Ls F w v A) (hb:Below w.heap.size w w'):Ls F w' v A:=by obtain ⟨L,h,e⟩:=h;exact ⟨L,h.below hb,e⟩
end
structure Rst (w:World) (r:Nat) (F:Nat→Prop) (v:Value) (L:List Ent) (d:Int):Prop where
 row:w.heap[r]? = some (.cells #[v,.int .i64 d] 50 (0,0))
 off:¬ F r
 list:Lst (fun k=>F k∨k=r) w v L
 ok:OkA (L.map Ent.abs)
def Rs (w:World) (r:Nat) (F:Nat→Prop) (A:Abs) (d:Int):Prop:=∃ v L,Rst w r F v L d∧L.map Ent.abs=A
section
variable {w w':World} {r:Nat} {F G:Nat→Prop} {v:Value} {L:List Ent} {A:Abs} {d:Int}
theorem Rst.only (h:Rst w r F v L d) (ho:Only F w w'):Rst w' r (Fx F w w') v L d :=
 ⟨(ho.block r (lt_of_block h.row) h.off).trans h.row,Fx.not h.off (lt_of_block h.row),
   (h.list.only (ho.mono fun _ _ g=>.inl g)).mono fun k _ g=>by
     rcases g with (g | g) | g
     ·exact .inl (.inl g)
     ·exact .inr g
     ·exact .inl (.inr g),h.ok⟩
theorem Rst.below (h:Rst w r F v L d) (hb:Below w.heap.size w w'):Rst w' r F v L d:=⟨(hb.block r (lt_of_block h.row)).trans h.row,h.off,h.list.below hb,h.ok⟩
theorem Rs.only (h:Rs w r F A d) (ho:Only F w w'):Rs w' r (Fx F w w') A d:=by obtain ⟨v,L,h,e⟩:=h;exact ⟨v,L,h.only ho,e⟩
theorem Rs.below (h:Rs w r F A d) (hb:Below w.heap.size w w'):Rs w' r F A d:=by obtain ⟨v,L,h,e⟩:=h;exact ⟨v,L,h.below hb,e⟩
theorem Rst.len (h:Rst w r F v L d):L.length≤64:=by have:=h.ok.len;rwa [List.length_map] at this
end
end Go.Proofs.YtljnkaodhfnbbaaGreatDoor.Fs
namespace Go.Proofs.YtljnkaodhfnbbaaGreatDoor.Fs
open Go.RowKit Go.Maps
open Fl (R4 z4 K4 rec4 rat goodF goodFB okR okL doE newR file arr4 sto2 sto4 sto2_row sto2_other sto2_below sto2_size sto2_off sto4_row sto4_other sto4_below sto4_size row_cell row_frozen clone_any own_form ret_bool at4)
open Rw (Rd Ow At)
theorem results_rec {fn:Func} {p r:Tmp} (h:fn.results=#[.cell p 42,.tmp r]) (tmps:Array Value) (w:World) (g:Nat) (y:R4) (v:Value)
 (hp:tmps.getD p undef = .pointer (some ⟨g,0,none⟩)) (hr:tmps.getD r undef=v) (h1:w.heap[g]? = some (.cells (arr4 y) 42 (0,0))) :
 (results fn tmps).run Tryz.prog w = .ok (.tuple #[rec4 y,v]) w:=by
 have e2:=run_loadVar_row (P:=Tryz.prog) w g 42 42 (arr4 y) (0,0) _ h1 Tryz.underlying42 rfl (by show _=some 4;kernel_rfl);have hp':tmps[p]?.getD undef = .pointer (some ⟨g,0,none⟩):=by simpa using hp
 have hr':tmps[r]?.getD undef=v:=by simpa using hr
 simp only [results,h]
 simp [Result.andThen,hp',hr',asAddr,e2,rec4,arr4]
section
variable {ops:Array Oper} {rest:List Oper} {o:Oper} {a:Act} {Q:Exit→Act→World→Prop} {w:World} {F:Nat→Prop} {m:Value} {C:List Ent}
theorem at_look0 (hgd:Region.wanted o (yielded ops a.tmps)=true) (p x:Operand) (hop:o.op = .lookup 176 p x false) (M:Mp w F m C) (hm:a.eval p=m) (n:Int) (hx:a.eval x = .int .i64 n) (hn:Wf n) (v:Value) (hv:lv C n=v)
 (h:wpList Tryz.prog ops Q rest (a.put o.dst v) w):wpList Tryz.prog ops Q (o :: rest) a w:=at_look hgd p x false hop hm M n hx hn (by rw [hv];exact h)
theorem at_look1 (hgd:Region.wanted o (yielded ops a.tmps)=true) (p x:Operand) (hop:o.op = .lookup 176 p x true) (M:Mp w F m C) (hm:a.eval p=m) (n:Int) (hx:a.eval x = .int .i64 n) (hn:Wf n) (v:Value) (hv:lv C n=v) (b:Bool) (hb:lb C n=b)
 (h:wpList Tryz.prog ops Q rest (a.put o.dst (.tuple #[v,.bool b])) w):wpList Tryz.prog ops Q (o :: rest) a w:=at_look hgd p x true hop hm M n hx hn (by rw [hv,hb];exact h)
end
theorem lv_none {C:List Ent} {n:Int} (h:look Ent.n n C=none):lv C n = .agg #[.int .i64 0,.slice none 0 0]:=by unfold lv;rw [h];rfl
theorem lv_some {C:List Ent} {n:Int} {c:Ent} (h:look Ent.n n C=some c):lv C n = .agg #[.int .i64 c.p,.slice c.a c.l.length c.cap]:=by unfold lv;rw [h];rfl
theorem lb_none {C:List Ent} {n:Int} (h:look Ent.n n C=none):lb C n=false:=by unfold lb;rw [h];rfl
theorem lb_some {C:List Ent} {n:Int} {c:Ent} (h:look Ent.n n C=some c):lb C n=true:=by unfold lb;rw [h];rfl
theorem run_fieldF (p:Int) (a:Option Addr) (n cap:Nat) (w:World):(Instr.field 70 (.agg #[.int .i64 p,.slice a n cap]) 1).run Tryz.prog w = .ok (.slice a n cap) w:=by kernel_rfl
def CopyPost (w:World) (p:Int) (l:List R4) (e:Ending) (w':World):Prop:=∃ u,e = .returned (file p u)∧Ow K4 w' w.heap.size 42 u l∧Below w.heap.size w w'
theorem two_files (w:World) (p:Int) (v:Value) (q:Int) (u:Value):((w.alloc (.cells #[.int .i64 p,v] 70)).alloc (.cells #[.int .i64 q,u] 70)).heap[w.heap.size]? = some (.cells #[.int .i64 p,v] 70 (0,0))∧((w.alloc (.cells #[.int .i64 p,v] 70)).alloc (.cells #[.int .i64 q,u] 70)).heap[w.heap.size+1]? = some (.cells #[.int .i64 q,u] 70 (0,0))∧Below w.heap.size w ((w.alloc (.cells #[.int .i64 p,v] 70)).alloc (.cells #[.int .i64 q,u] 70))∧((w.alloc (.cells #[.int .i64 p,v] 70)).alloc (.cells #[.int .i64 q,u] 70)).heap.size=w.heap.size+2:=by
 refine ⟨(Below.heap_alloc _ _ _ (by simp)).trans (heap_alloc_new w _),?_,((Below.refl w.heap.size w).alloc (Nat.le_refl _) _).alloc (by simp) _,by simp⟩;have:=heap_alloc_new (w.alloc (.cells #[.int .i64 p,v] 70)) (.cells #[.int .i64 q,u] 70)
 simpa using this
def Bx (g:Nat) (p:Int) (v:Value) (W:World):Prop:=W.heap[g]? = some (.cells #[.int .i64 p,v] 70 (0,0))
set_option maxHeartbeats 1000000 in
theorem copied_any (w:World) (p:Int) (v:Value) (l:List R4) (R:Rd K4 w v l) (hl:l.length≤260):Calls Tryz.prog 130 #[file p v] w (CopyPost w p l):=by
 obtain ⟨h1,h2,hB,hz⟩:=two_files w p v 0 (.slice none 0 0);have H1:=Lib.hid h1;have H2:=Lib.hid h2;have HB:=Lib.hid hB;have HZ:=Lib.hid hz;have RR:=Lib.hid R;have HL:=Lib.hid hl;obtain ⟨a,cap,rfl,_⟩:=R.slice;clear h1 h2 hB hz R hl;generalize hn:l.length=n at *;have HN:=Lib.hid hn;clear hn;unfold file at *
 go_enter Tryz.func130,Tryz.ntmps130
 go_wp2_with fail;generalize ((w.alloc (.cells #[.int .i64 p,.slice a n cap] 70)).alloc (.cells #[.int .i64 0,.slice none 0 0] 70))=W at *;have r0:=Sc.cell_in (C:=Bx w.heap.size p (.slice a n cap)) (a:=⟨w.heap.size,0,none⟩) (fun W' h=>row_cell h 0);have r1:=Sc.cell_in (C:=Bx w.heap.size p (.slice a n cap)) (a:=⟨w.heap.size,1,none⟩) (fun W' h=>row_cell h 1);have C0:Bx w.heap.size p (.slice a n cap) W.drew:=H1.out;have ne:Nonempty (Sc.In (Bx w.heap.size p (.slice a n cap))):=⟨⟨_,C0⟩⟩;refine Sc.start (Bx w.heap.size p (.slice a n cap)) [(false,0),(false,1),(false,2),(false,3),(true,4),(false,5),(true,6)] (by kernel_rfl) (by kernel_rfl) (by kernel_rfl) C0 ?_;dsimp only [Sd.picks,List.getElem?_cons_succ,List.getElem?_cons_zero]
 repeat (refine Sd.lit ?_;quiet_step (fail);refine wpQuiet_nil ?_)
 refine Sd.call (by rfl) (fun K hK=>?_);go_simp;have B0:=Lib.hid (HB.out.trans (((Below.refl W.heap.size W).drew).mono HB.out.size));refine (clone_any _ _ l (RR.out.below B0.out) (by rw [HN.out];exact HL.out)).mono ?_;rintro e w2 ⟨u,rfl,o2,b2⟩;have hzz:=HZ.out;have O2:=Lib.hid o2;have B2:=Lib.hid (B0.out.trans (b2.mono (by show w.heap.size≤W.heap.size;omega)));have G1:w2.heap[w.heap.size]? = _:=(b2.block _ (by show w.heap.size < W.heap.size;omega)).trans C0;have G2:=(b2.block (w.heap.size+1) (by show w.heap.size+1 < W.heap.size;omega)).trans H2.out;have N2:u.ownBlock≠some (w.heap.size+1):=o2.range (.inl (by show _ < W.heap.size;omega));have hWz:w.heap.size+2≤W.drew.heap.size:=by show _≤W.heap.size;omega
 obtain ⟨au,cu,rfl,_⟩:=o2.slice;refine hK _ _ (Sc.Cl.of G1) ?_;clear hK K b2 o2 B0 C0 HB H1 H2 r0 r1 RR
 repeat (refine Sd.lit ?_;quiet_step (fail);refine wpQuiet_nil ?_)
 refine Sd.call (by rfl) (fun K hK=>?_);have c0:w2.cell? ⟨w.heap.size+1,0,none⟩=some (.int .i64 0):=row_cell G2 0;have c1:w2.cell? ⟨w.heap.size+1,1,none⟩=some (.slice none 0 0):=row_cell G2 1;have f0:=row_frozen G2 0;have f1:=row_frozen G2 1;have RA:=Lib.hid (sto2_row G2 p (.slice au l.length cu));have OA:=Lib.hid (sto2_off (u:=.slice au l.length cu) O2.out N2 p);have BA:=Lib.hid (sto2_below (p:=p) (v:=.slice au l.length cu) B2.out (show w.heap.size≤w.heap.size+1 by omega));have L1:Bx w.heap.size p (.slice a n cap) (sto2 w2 (w.heap.size+1) p (.slice au l.length cu)):=sto2_other G1 (by omega);have hWy:=Lib.hid hWz;clear G1 G2 O2 B2 N2 hWz hzz HZ;go_simp;refine hK _ _ (Sc.Cl.of L1) ?_;clear hK K c0 c1 f0 f1
 show Sd.wpSd _ _ _ _ _ _ (sto2 w2 (w.heap.size+1) p (.slice au l.length cu))
 generalize sto2 w2 (w.heap.size+1) p (.slice au l.length cu)=w3 at *;refine Sd.done ?_;go_wp2
 (try simp only [Exit.inBlock,Exit.then])
 refine bodyPost_ret (v:=file p (.slice au l.length cu)) ?_ rfl ⟨_,rfl,OA.out.low (by have:=hWy.out;omega),BA.out⟩;exact results_cell_row (p:=2) rfl _ _ (w.heap.size+1) 70 _ (0,0) _ rfl RA.out Tryz.underlying70 rfl (by show _=some 2;kernel_rfl)
theorem new_any (w:World):Calls Tryz.prog 76 #[] w fun e w'=>e = .returned (.pointer (some ⟨w.heap.size,0,none⟩))∧w'=w.alloc (.cells #[.map none,.int .i64 0] 178):=by
 go_enter Tryz.func76,Tryz.ntmps76
 go_wp2
 go_ret
 exact ⟨rfl,rfl⟩
end Go.Proofs.YtljnkaodhfnbbaaGreatDoor.Fs
namespace Go.Proofs.YtljnkaodhfnbbaaGreatDoor.Fs
open Go.RowKit Go.Maps
open Fl (R4 z4 K4 rec4 rat goodF goodFB okR okL doE newR file arr4 sto2 sto4 sto2_row sto2_other sto2_below sto2_size sto2_off sto4_row sto4_other sto4_below sto4_size row_cell row_frozen own_form ret_bool at4)
open Rw (Rd Ow At)
theorem gB_none {C:List Ent} {n r:Int} (h:look Ent.n n C=none):gB (C.map Ent.abs) n r=false:=by unfold gB;rw [abs_look,h];rfl
theorem gB_some {C:List Ent} {n r:Int} {c:Ent} (h:look Ent.n n C=some c):gB (C.map Ent.abs) n r=decide (0≤r∧r < c.l.length):=by unfold gB;rw [abs_look,h];rfl
theorem gV_none {C:List Ent} {n r:Int} (h:look Ent.n n C=none):gV (C.map Ent.abs) n r=z4:=by unfold gV;rw [abs_look,h];rfl
theorem gV_some {C:List Ent} {n r:Int} {c:Ent} (h:look Ent.n n C=some c):gV (C.map Ent.abs) n r=if 0≤r∧r < c.l.length then rat c.l r.toNat else z4:=by unfold gV;rw [abs_look,h];rfl
set_option maxHeartbeats 400000 in
theorem has_any {w:World} {s:Nat} {F:Nat→Prop} {m:Value} {C:List Ent} {d:Int} (S:Sto w s F m C d) {n:Int} (hn:Wf n) (r:Int) :
 Calls Tryz.prog 85 #[.pointer (some ⟨s,0,none⟩),.int .i64 n,.int .i64 r] w fun e w'=>e = .returned (.bool (gB (C.map Ent.abs) n r))∧Below w.heap.size w w':=by
 have hF:=run_fieldF;have c0:w.cell? ⟨s,0,none⟩=some m:=row_cell S.row 0;have M:=Lib.hid S.mp;have HN:=Lib.hid hn;clear S hn
 cases hk:look Ent.n n C with
 | none =>
   have E:=Lib.hid (gB_none (r:=r) hk);have L:=Lib.hid (lv_none hk);clear hk
   by_cases hr:0≤r
   ·go_enter Tryz.func85,Tryz.ntmps85
    go_wp2_with (at_lookup;refine at_look0 rfl _ _ rfl M.out rfl _ rfl HN.out _ L.out ?_)
    go_ret
    exact ⟨ret_bool (by rw [E.out];exact decide_eq_false (by omega)),Below.refl _ _⟩
   ·go_enter Tryz.func85,Tryz.ntmps85
    go_wp2_with (at_lookup;refine at_look0 rfl _ _ rfl M.out rfl _ rfl HN.out _ L.out ?_)
    go_ret
    exact ⟨ret_bool E.out.symm,Below.refl _ _⟩
 | some c =>
   have E:=Lib.hid (gB_some (r:=r) hk);have L:=Lib.hid (lv_some hk);clear hk;generalize c.l.length=k at *
   by_cases hr:0≤r
   ·by_cases h2:r < (k:Int)
    ·go_enter Tryz.func85,Tryz.ntmps85
     go_wp2_with (at_lookup;refine at_look0 rfl _ _ rfl M.out rfl _ rfl HN.out _ L.out ?_)
     go_ret
     exact ⟨ret_bool (by rw [E.out,decide_eq_true ⟨hr,h2⟩]),Below.refl _ _⟩
    ·go_enter Tryz.func85,Tryz.ntmps85
     go_wp2_with (at_lookup;refine at_look0 rfl _ _ rfl M.out rfl _ rfl HN.out _ L.out ?_)
     go_ret
     exact ⟨ret_bool (by rw [E.out,decide_eq_false (fun h=>by omega)]),Below.refl _ _⟩
   ·go_enter Tryz.func85,Tryz.ntmps85
    go_wp2_with (at_lookup;refine at_look0 rfl _ _ rfl M.out rfl _ rfl HN.out _ L.out ?_)
    go_ret
    exact ⟨ret_bool (by rw [E.out,decide_eq_false (fun h=>by omega)]),Below.refl _ _⟩
def GetPost (w:World) (y:R4) (b:Bool) (e:Ending) (w':World):Prop:=e = .returned (.tuple #[rec4 y,.bool b])∧Below w.heap.size w w'
theorem one_rec (w:World):(w.alloc (.cells (arr4 z4) 42)).heap[w.heap.size]? = some (.cells (arr4 z4) 42 (0,0))∧Below w.heap.size w (w.alloc (.cells (arr4 z4) 42))∧(w.alloc (.cells (arr4 z4) 42)).heap.size=w.heap.size+1:=⟨heap_alloc_new w _,(Below.refl w.heap.size w).alloc (Nat.le_refl _) _,by simp⟩
set_option maxHeartbeats 400000 in
theorem get_no (w:World) (s:Value) (n r:Int) (hh:∀ W,Below w.heap.size w W→Calls Tryz.prog 85 #[s,.int .i64 n,.int .i64 r] W fun e w'=>e = .returned (.bool false)∧Below W.heap.size W w') :
 Calls Tryz.prog 31 #[s,.int .i64 n,.int .i64 r] w (GetPost w z4 false):=by
 obtain ⟨h1,hB,hz⟩:=one_rec w;have H1:=Lib.hid h1;have HB:=Lib.hid hB;have HH:=Lib.hid (hh _ hB);have HZ:=Lib.hid hz;clear h1 hB hz hh;unfold arr4 z4 at *
 go_enter Tryz.func31,Tryz.ntmps31
 go_wp2_with fail;generalize (w.alloc (.cells #[.int .u8 0,.int .u8 0,.int .u8 0,.int .u8 0] 42))=W at *;refine HH.out.mono ?_;rintro e w1 ⟨rfl,b1⟩;have hz:=HZ.out;have G:w1.heap[w.heap.size]? = some (.cells (arr4 z4) 42 (0,0)):=(b1.block _ (by omega)).trans H1.out;have B1:=Lib.hid (HB.out.trans (b1.mono HB.out.size));have d0:w1.cell? ⟨w.heap.size,0,none⟩=some (.int .u8 0):=row_cell G 0;have d1:w1.cell? ⟨w.heap.size,1,none⟩=some (.int .u8 0):=row_cell G 1;have d2:w1.cell? ⟨w.heap.size,2,none⟩=some (.int .u8 0):=row_cell G 2;have d3:w1.cell? ⟨w.heap.size,3,none⟩=some (.int .u8 0):=row_cell G 3;have k0:=row_frozen G 0;have k1:=row_frozen G 1;have k2:=row_frozen G 2;have k3:=row_frozen G 3;have R2:=Lib.hid (sto4_row G z4);have B2:=Lib.hid (sto4_below (o:=0) (r:=z4) B1.out (show w.heap.size≤w.heap.size by omega));clear b1 HH HB H1 HZ hz G B1;go_wp2
 (try simp only [Exit.inBlock,Exit.then])
 exact bodyPost_ret (results_rec (p:=6) (r:=7) rfl _ _ w.heap.size z4 (.bool false) rfl rfl R2.out) rfl ⟨rfl,B2.out⟩
set_option maxHeartbeats 400000 in
theorem get_yes {w:World} {s:Nat} {F:Nat→Prop} {m:Value} {C:List Ent} {d:Int} (S:Sto w s F m C d) {n:Int} (hn:Wf n) (k:Nat) {c:Ent} (hc:look Ent.n n C=some c) (hk:k < c.l.length) :
 Calls Tryz.prog 31 #[.pointer (some ⟨s,0,none⟩),.int .i64 n,.int .i64 (k:Int)] w (GetPost w (rat c.l k) true):=by
 obtain ⟨h1,hB,hz⟩:=one_rec w;have H1:=Lib.hid h1;have HB:=Lib.hid hB;have HZ:=Lib.hid hz;have hh:=has_any (S.below hB) hn (k:Int);rw [gB_some hc,decide_eq_true (⟨by omega,by omega⟩:0≤(k:Int)∧(k:Int) < c.l.length)] at hh;have HH:=Lib.hid hh;have SS:=Lib.hid S;have HN:=Lib.hid hn;have L:=Lib.hid (lv_some hc);obtain ⟨ho,_⟩:=S.find hc;obtain ⟨g,cap,e1,_,_,_,_,_,hA⟩:=ho.form (by omega);obtain ⟨cn,cp,ca,ccap,cl⟩:=c;obtain ⟨rfl,rfl⟩:ca=some ⟨g,0,none⟩∧ccap=cap:=by
  unfold Ent.sl at e1;injection e1 with e1 e2 e3;exact ⟨e1,e3⟩
 have A4':=at4 hA k hk;rw [Nat.zero_add] at A4';have A4:=Lib.hid A4';clear A4';have hk':k < cl.length:=hk;clear h1 hB hz hh ho e1 hA hc S hn hk;simp only at *;generalize rat cl k=y at *;generalize cl.length=q at *;have y4:Hid (arr4 y=#[.int .u8 y.1,.int .u8 y.2.1,.int .u8 y.2.2.1,.int .u8 y.2.2.2]):=rfl;unfold arr4 z4 at H1 HB HZ HH
 go_enter Tryz.func31,Tryz.ntmps31
 go_wp2_with fail;generalize (w.alloc (.cells #[.int .u8 0,.int .u8 0,.int .u8 0,.int .u8 0] 42))=W at *;refine HH.out.mono ?_;rintro e w1 ⟨rfl,b1⟩;have hz:=HZ.out;have G:w1.heap[w.heap.size]? = some (.cells (arr4 z4) 42 (0,0)):=(b1.block _ (by omega)).trans H1.out;have B1:=Lib.hid (HB.out.trans (b1.mono HB.out.size));have S1:=SS.out.below B1.out;have M1:=Lib.hid S1.mp;have c0:w1.cell? ⟨s,0,none⟩=some m:=row_cell S1.row 0;have hF:=run_fieldF;have q0:=(B1.out.cell (World.block_lt_of_cell? _ _ A4.out.1)).trans A4.out.1;have q1:=(B1.out.cell (World.block_lt_of_cell? _ _ A4.out.2.1)).trans A4.out.2.1;have q2:=(B1.out.cell (World.block_lt_of_cell? _ _ A4.out.2.2.1)).trans A4.out.2.2.1;have q3:=(B1.out.cell (World.block_lt_of_cell? _ _ A4.out.2.2.2)).trans A4.out.2.2.2;have d0:w1.cell? ⟨w.heap.size,0,none⟩=some (.int .u8 0):=row_cell G 0;have d1:w1.cell? ⟨w.heap.size,1,none⟩=some (.int .u8 0):=row_cell G 1;have d2:w1.cell? ⟨w.heap.size,2,none⟩=some (.int .u8 0):=row_cell G 2;have d3:w1.cell? ⟨w.heap.size,3,none⟩=some (.int .u8 0):=row_cell G 3;have k0:=row_frozen G 0;have k1:=row_frozen G 1;have k2:=row_frozen G 2;have k3:=row_frozen G 3;have R2:=Lib.hid (sto4_row G y);have B2:=Lib.hid (sto4_below (o:=0) (r:=y) B1.out (show w.heap.size≤w.heap.size by omega));clear b1 HH HB H1 HZ hz G B1 S1 SS A4
 go_wp2_with (at_lookup;refine at_look0 rfl _ _ rfl M1.out rfl _ rfl HN.out _ L.out ?_)
 (try simp only [Exit.inBlock,Exit.then])
 exact bodyPost_ret (results_rec (p:=6) (r:=7) rfl _ _ w.heap.size y (.bool true) rfl rfl R2.out) rfl ⟨rfl,B2.out⟩
theorem get_any {w:World} {s:Nat} {F:Nat→Prop} {m:Value} {C:List Ent} {d:Int} (S:Sto w s F m C d) {n:Int} (hn:Wf n) (r:Int) :
 Calls Tryz.prog 31 #[.pointer (some ⟨s,0,none⟩),.int .i64 n,.int .i64 r] w (GetPost w (gV (C.map Ent.abs) n r) (gB (C.map Ent.abs) n r)):=by
 cases hk:look Ent.n n C with
 | none =>
   rw [gV_none hk,gB_none hk];refine get_no w _ n r fun W hb=>?_;have:=has_any (S.below hb) hn r
   rwa [gB_none hk] at this
 | some c =>
   by_cases hr:0≤r∧r < c.l.length
   ·obtain ⟨k,rfl⟩:∃ k:Nat,r=k:=⟨r.toNat,by omega⟩
    rw [gV_some hk,gB_some hk,if_pos hr,decide_eq_true hr,Int.toNat_natCast];exact get_yes S hn k hk (by omega)
   ·rw [gV_some hk,gB_some hk,if_neg hr,decide_eq_false hr]
    refine get_no w _ n r fun W hb=>?_;have:=has_any (S.below hb) hn r
    rwa [gB_some hk,decide_eq_false hr] at this
end Go.Proofs.YtljnkaodhfnbbaaGreatDoor.Fs
namespace Go.Proofs.YtljnkaodhfnbbaaGreatDoor.Fs
open Go.RowKit Go.Maps
open Fl (R4 z4 K4 rec4 rat goodF goodFB okR okL doE newR file arr4 sto4 sto4_own sto4_other sto4_size sto4_below own4 row_cell)
open Rw (Rd Ow At)
theorem apart_symm {c e:Ent} (h:apart c e):apart e c:=fun k hk hc=>h k hc hk
theorem pw_mem {α:Type} {R:α→α→Prop} (sy:∀ {x y},R x y→R y x):∀ {l:List α},l.Pairwise R→∀ {x y},x∈l→y∈l→x≠y→R x y
 | [],_,_,_,hx,_,_=>by cases hx
 | a :: r,h,x,y,hx,hy,hne=>by
   obtain ⟨h1,h2⟩:=List.pairwise_cons.1 h
   rcases List.mem_cons.1 hx with ex | hx <;> rcases List.mem_cons.1 hy with ey | hy
   ·exact (hne (ex.trans ey.symm)).elim
   ·rw [ex];exact h1 _ hy
   ·rw [ey];exact sy (h1 _ hx)
   ·exact pw_mem sy h2 hx hy hne
theorem pw_ins {α:Type} {κ:α→Int} {R:α→α→Prop} (sy:∀ {x y},R x y→R y x) {c:α} : ∀ {l:List α},l.Pairwise R→(∀ x∈l,R c x)→(ins κ c l).Pairwise R
 | [],_,_=>by simp [ins]
 | y :: r,h,hc=>by
   obtain ⟨h1,h2⟩:=List.pairwise_cons.1 h;unfold ins
   split
   ·exact List.pairwise_cons.2 ⟨hc,h⟩
   ·refine List.pairwise_cons.2 ⟨fun z hz=>?_,pw_ins sy h2 fun x hx=>hc x (List.mem_cons_of_mem _ hx)⟩
    rcases mem_ins.1 hz with rfl | hz
    ·exact sy (hc y List.mem_cons_self)
    ·exact h1 z hz
theorem pw_put {c:Ent} {C:List Ent} (h:C.Pairwise apart) (hc:∀ e∈C,e.n≠c.n→apart c e):(put Ent.n c C).Pairwise apart:=by
 unfold put;refine pw_ins apart_symm (h.filter _) fun e he=>?_;obtain ⟨h1,h2⟩:=List.mem_filter.1 he;exact hc e h1 (by simpa using h2)
section
variable {w w':World} {s:Nat} {F F':Nat→Prop} {m m':Value} {C:List Ent} {d d':Int} {c:Ent}
theorem Sto.put (h:Sto w s F m C d) (row:w'.heap[s]? = some (.cells #[m',.int .i64 d'] 178 (0,0))) (hF:∀ k,F k→F' k) (mp:Mp w' F' m' (put Ent.n c C)) (old:∀ e∈C,e.n≠c.n→Ow K4 w' 0 42 e.sl e.l)
 (new:Ow K4 w' 0 42 c.sl c.l) (mine:∀ k,c.sl.ownBlock=some k→F' k) (far:∀ e∈C,e.n≠c.n→Fs.apart c e) (hn:0≤c.n∧c.n≤63) (hg:goodF c.p c.l) (hl:okL c.l) (low:∀ k,F' k→k < w'.heap.size):Sto w' s F' m' (Fs.put Ent.n c C) d':=by
 refine ⟨row,hF s h.foot,mp,fun e he=>?_,fun e he k hk=>?_,pw_put h.apart far,?_,low⟩
 ·rcases mem_put.1 he with rfl | ⟨he,hne⟩
  ·exact new
  ·exact old e he hne
 ·rcases mem_put.1 he with rfl | ⟨he,hne⟩
  ·exact mine k hk
  ·exact hF k (h.mine e he k hk)
 ·rw [abs_put]
  exact h.ok.put hn hg hl
def Ent.recs (c:Ent) (l:List R4):Ent:=⟨c.n,c.p,c.a,c.cap,l⟩
theorem recs_sl (c:Ent) {l:List R4} (h:l.length=c.l.length):(c.recs l).sl=c.sl:=by unfold Ent.recs Ent.sl;rw [h]
theorem dat_recs {i:Nat} (hi:C[i]? = some c) {l:List R4} (h:l.length=c.l.length):dat (C.set i (c.recs l))=dat C:=by
 unfold dat;rw [List.map_set];have:ent (c.recs l)=ent c:=by unfold ent Ent.file;rw [recs_sl c h];rfl
 rw [this]
 congr 1
 refine List.ext_getElem? fun j=>?_;rw [List.getElem?_set]
 split
 ·rename_i hij
  subst hij;rw [List.getElem?_map,hi];have:=(List.getElem?_eq_some_iff.1 hi).1
  simp [this]
 ·rfl
theorem Sto.write {g n cap:Nat} {k:Nat} {x:R4} (h:Sto w s F m C d) (hc:c∈C) (hs:c.sl = .slice (some ⟨g,0,none⟩) n cap) (hk:k < c.l.length) (h0:k≠0) (hx:okR x) :
 Sto (sto4 w g (k * 4) x) s F m (Fs.put Ent.n (c.recs (c.l.set k x)) C) d∧Only F w (sto4 w g (k * 4) x):=by
 have hg:F g:=h.mine c hc g (by rw [hs];rfl);obtain ⟨n1,n2⟩:=h.off hc;rw [hs] at n1 n2;have ng:s≠g:=fun e=>n1 (by rw [e];rfl);have hsl:(c.recs (c.l.set k x)).sl=c.sl:=recs_sl c (by rw [List.length_set]);have own:=h.own c hc;rw [hs] at own;have hn:n=c.l.length:=by unfold Ent.sl at hs;injection hs with _ hs _;exact hs.symm
 have hcm:c.abs∈C.map Ent.abs:=List.mem_map_of_mem hc;obtain ⟨i,hi⟩:=List.getElem?_of_mem hc;have srt:Srt Ent.n C:=(map_srt (κ:=Ent.n) (κ':=key) abs_key).1 h.ok.srt;have hput:Fs.put Ent.n (c.recs (c.l.set k x)) C=C.set i (c.recs (c.l.set k x)):=put_set srt hi rfl;have hdat:dat (Fs.put Ent.n (c.recs (c.l.set k x)) C)=dat C:=by rw [hput];exact dat_recs hi (by rw [List.length_set])
 have off:∀ e∈C,e.n≠c.n→Fs.apart c e:=fun e he hne=>pw_mem apart_symm h.apart hc he fun e'=>hne (by rw [e']);have hGood:goodF c.p (c.l.set k x):=good_set (h.ok.good _ hcm) h0;have hOk:okL (c.l.set k x):=okL_set (h.ok.ok _ hcm) hx;have hMp:Mp (sto4 w g (k * 4) x) F m (Fs.put Ent.n (c.recs (c.l.set k x)) C):=by
  have M:Mp (sto4 w g (k * 4) x) F m C:=h.mp.kept fun b hb=>sto4_other rfl fun e=>n2 b hb (by rw [e];rfl)
  rcases M with ⟨rfl,rfl⟩ | ⟨b,rfl,hF,hm⟩
  ·cases hc
  ·refine .inr ⟨b,rfl,hF,?_⟩
   rw [hdat,hput,List.length_set];exact hm
 have hRow:=sto4_other (g:=g) (o:=k * 4) (r:=x) h.row ng;have hOld:∀ e∈C,e.n≠(c.recs (c.l.set k x)).n→Ow K4 (sto4 w g (k * 4) x) 0 42 e.sl e.l:=fun e he hne=>by
  have o:=h.own e he;have a:=off e he hne g (by rw [hs];rfl);exact Fl.sto4_off o a x
 have hNew:Ow K4 (sto4 w g (k * 4) x) 0 42 (c.recs (c.l.set k x)).sl (c.l.set k x):=by
  rw [hsl,hs];exact sto4_own own hn k hk x
 refine ⟨h.put hRow (fun k hk=>hk) hMp hOld hNew (fun j hj=>h.mine c hc j (by rw [← hsl];exact hj)) (fun e he hne j hj=>off e he hne j (by rw [← hsl];exact hj)) (h.ok.nm _ hcm) hGood hOk (by rw [sto4_size];exact h.low),?_⟩;have O1:∀ W:World,∀ o v,Only F W (W.setCell ⟨g,o,none⟩ v):=fun W o v=>Only.set F W hg v;unfold sto4;exact (((O1 _ _ _).trans (O1 _ _ _) fun _ _ g=>g).trans (O1 _ _ _) fun _ _ g=>g).trans (O1 _ _ _) fun _ _ g=>g
end
end Go.Proofs.YtljnkaodhfnbbaaGreatDoor.Fs
