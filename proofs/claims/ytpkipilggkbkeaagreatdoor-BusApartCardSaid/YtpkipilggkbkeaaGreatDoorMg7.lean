import Derived.Test.YtpkipilggkbkeaaGreatDoorMg6
import Derived.ArgAppend
import Derived.Test.YtpkipilggkbkeaaGreatDoorMg5
import Derived.Test.YtpkipilggkbkeaaGreatDoorMg3
import Derived.Test.YtpkipilggkbkeaaGreatDoorMg1
import Derived.Test.YtpkipilggkbkeaaGreatDoorMg4
import Derived.Test.YtpkipilggkbkeaaGreatDoorChecked
import Derived.Laws.Rows
import Derived.Deep.WholeRow
import Derived.DeepKeys
import Derived.LoopTactic
import Derived.Outline
import Derived.Deep.LoopGhost
import Derived.Deep.Draws
import Derived.Lib.Hide
namespace Go.Proofs.YtpkipilggkbkeaaGreatDoor.Fl
open Go.RowKit
open Rw (Rd Ow At)
attribute [local irreducible] Sd.wpSd wpQuiet Sf.wpSf
theorem grow_op {P:Program} {α:Type} {K4:Rw.Kind α} {w:World} {E:Nat} {o:Oper} {a:Act} {K:Act→World→Prop} {Q:Exit→Act→World→Prop} {T:TypeId} {z:Value} {bytes:Nat} (ht:P.underlying T=some (.slice E))
 (hi:(P.info? E).map (fun i=>(i.zero,i.size,i.bytes))=some (some z,K4.n,bytes)) (hz:z.cells.size=K4.n) (hby:bytes≤64) (s x:Operand)
 (ho:o.op = .call { callee:=.builtin .append,args:=#[s,x],argTypes:=#[T,T] }) (g:Addr) (hs:a.eval s = .slice (some g) 0 0)
 (b off cap:Nat) (y:List α) (hx:a.eval x = .slice (some ⟨b,off,none⟩) y.length cap) (hA:At K4 w b off y) (h0:0 < y.length) (hlen:y.length < 2199023255552)
 (h:∀ v' w',Ow K4 w' w.heap.size E v' y→Below w.heap.size w w'→K (a.put o.dst v') w'):o.wp P a w K Q:=by
 obtain ⟨i0,hi0,hz0,hz1,hz2⟩:=info_parts hi;have hb:(0+y.length) * bytes≤140737488355328:=Nat.le_trans (Nat.mul_le_mul (show 0+y.length≤2199023255552 by omega) hby) (by omega);obtain ⟨v',w',hrun,r1,r2⟩:=run_append_arg_grows (P:=P) w T o.type E i0 z K4.n bytes ht hi0 hz0 hz1 hz2 hz K4.pos g 0 0 [] (by simp) (by simp) ⟨b,off,none⟩ y.length cap (K4.flat y) (Rw.flat_length K4 y)
  (fun j u hj=>by
    have e:(⟨b,off,none⟩:Addr).add j=⟨b,off+j,none⟩:=by simp [Addr.add]
    rw [e]
    exact hA.flat j u hj) (by omega) (by unfold maxLen;omega) hb
 rw [Nat.zero_add,List.nil_append] at r1;have k:=h v' w' r1 ((Below.refl w.heap.size w).grown r2 (Nat.le_refl _) (fun k e=>by cases e));unfold Oper.wp
 simp [execOp,ho,resolve,invoke,builtin,hs,hx,hrun,Result.andThen]
 exact k
theorem yes4 {p op:Int} {k:Nat} {l:List R4} (h:doE p l op k=0):op=0∧k=0∨op=0∧0 < k∧p / 1 % 2=1∨op=1∧0 < k∧p / 2 % 2=1∨op=2∧0 < k∧p / 4 % 2=1:=by
 obtain ⟨h1,h2,h3⟩:=doE_of h;have h4:(k:Int)=0∧op=0∨0 < (k:Int)∧p / need op % 2=1:=Decidable.byContradiction fun c=>by rw [doE_5 h1 h2 h3 c] at h;omega
 rcases (by omega:op=0∨op=1∨op=2) with rfl | rfl | rfl
 ·rw [show need 0=1 from rfl] at h4;omega
 ·rw [show need 1=2 from rfl] at h4;omega
 ·rw [show need 2=4 from rfl] at h4;omega
set_option maxHeartbeats 1000000 in
theorem rdo_r (w:World) (p:Int) (b off n cap:Nat) (l:List R4) (R:Rd K4 w (.slice (some ⟨b,off,none⟩) n cap) l) (hA:At K4 w b off l) (hl:okL l) (k:Nat) (x:R4) (he:doE p l 0 k=0) (hz0:0 < k) (hq:p / 1 % 2=1) (hn:n=l.length) (hk:k < l.length) (hg:goodF p l):Calls Tryz.prog 113 #[file p (.slice (some ⟨b,off,none⟩) n cap),.int .i64 0,.int .i64 (k:Int),rec4 x] w (DoPost w p l 0 k x):=by
 have S0:Hid (StartR w p (.slice (some ⟨b,off,none⟩) n cap) x (((((w.alloc (.cells #[.int .i64 p,.slice (some ⟨b,off,none⟩) n cap] 65)).alloc (.cells #[.int .u8 x.1,.int .u8 x.2.1,.int .u8 x.2.2.1,.int .u8 x.2.2.2] 96)).alloc (.cells #[.int .i64 0,.slice none 0 0] 65)).alloc (.cells #[.int .u8 0,.int .u8 0,.int .u8 0,.int .u8 0] 96)).alloc (.cells #[.int .i64 0,.slice none 0 0] 65))):=Lib.hid (StartR.of w p _ x);have GR:=Lib.hid (at_bool (show goodFB p l=true from decide_eq_true hg) (rgood_any _ p _ l (R.below S0.out.st.bel)));have E:Hid (∀ y u w',y=newR l 0 k x→Ow K4 w' w.heap.size 96 u (l.set k y)→Below w.heap.size w w'→DoPost w p l 0 k x (.returned (.tuple #[file p u,rec4 y,.int .i64 0])) w'):=fun y u w' hy h hb=>⟨u,by rw [if_pos he,if_pos he,he,hy],by rw [if_pos he,← hy,Int.toNat_natCast];exact h,hb⟩;have HLL:=Lib.hid (And.intro hk (And.intro hn hg.2.2.2.1));have HA:=Lib.hid hA;have OK:=Lib.hid hl;have hkn:k < n:=by omega
 have hkn2:(k:Int) < n:=by omega
 have p0:0≤p:=hg.1;have p1:p≤7:=hg.2.1;clear he R hA hl hn hk hg;unfold file rec4 at *;have hq1:IntKind.i64.wrap p=p:=IntWalk.i64_in _ (by omega);have hq2:Int.tmod p 2=1:=by rw [Int.tmod_eq_emod_of_nonneg p0];omega
 clear hq;have hz:¬ (k:Int)=0:=by omega
 have hz2:((k:Int) == 0)=false:=by simpa using hz
 have hz3:0 < (k:Int):=by omega
 go_enter Tryz.func113,Tryz.ntmps113
 go_wp2_with fail;generalize ((((w.alloc (.cells #[.int .i64 p,.slice (some ⟨b,off,none⟩) n cap] 65)).alloc (.cells #[.int .u8 x.1,.int .u8 x.2.1,.int .u8 x.2.2.1,.int .u8 x.2.2.2] 96)).alloc (.cells #[.int .i64 0,.slice none 0 0] 65)).alloc (.cells #[.int .u8 0,.int .u8 0,.int .u8 0,.int .u8 0] 96)).alloc (.cells #[.int .i64 0,.slice none 0 0] 65)=W at *;refine GR.out.mono ?_;rintro e w1 ⟨rfl,b1⟩;have S1:=Lib.hid (S0.out.mono b1);clear b1 S0 GR;have b0:w1.cell? ⟨w.heap.size,0,none⟩=some (.int .i64 p):=row_cell S1.out.st.box 0;have b1':w1.cell? ⟨w.heap.size,1,none⟩=some (.slice (some ⟨b,off,none⟩) n cap):=row_cell S1.out.st.box 1;go_upto_region 9 with fail;have S2:Hid (Start w p (.slice (some ⟨b,off,none⟩) n cap) x (w1.alloc (.cells #[.int .i64 1,.int .i64 2,.int .i64 4] 3))):=Lib.hid (S1.out.st.mono ((Below.refl _ _).alloc (Nat.le_refl _) _));clear b0 b1' S1;generalize w1.alloc (.cells #[.int .i64 1,.int .i64 2,.int .i64 4] 3)=w2 at *;have b0:w2.cell? ⟨w.heap.size,0,none⟩=some (.int .i64 p):=row_cell S2.out.box 0;have b1':w2.cell? ⟨w.heap.size,1,none⟩=some (.slice (some ⟨b,off,none⟩) n cap):=row_cell S2.out.box 1;go_upto_region 11 with fail;clear b0 b1';clear hq1 hq2 hz hz2 hz3;have s0:=Sd.cell_by (show w2.cell? ⟨w.heap.size,0,none⟩=some (.int .i64 p) from row_cell S2.out.box 0);have s1:=Sd.cell_by (show w2.cell? ⟨w.heap.size,1,none⟩=some (.slice (some ⟨b,off,none⟩) n cap) from row_cell S2.out.box 1);refine Sf.start [(0,0),(0,1),(0,3),(0,4),(1,2),(1,5),(0,6),(2,7),(1,8)] [⟨7,13,#[.int .i64 0,.slice none 0 0],65⟩] (by kernel_rfl) (by kernel_rfl) (by kernel_rfl) (by decide) (by decide) ?_ ?_ ?_
 ·simp
 ·intro f hf
  simp only [List.mem_cons,List.not_mem_nil,or_false] at hf;subst hf;exact ⟨_,rfl,rfl,rfl,fun ρ w=>by go_simp⟩
 dsimp only [Sf.picks,List.getElem?_cons_succ,List.getElem?_cons_zero];have BW:=Lib.hid ((Below.refl w2.heap.size w2).drew)
 repeat (refine Sf.lit (fun xs=>?_);simp only [Sf.fill,List.foldl_cons,List.foldl_nil];quiet_step (fail);refine wpQuiet_nil ?_)
 refine Sf.call (fun xs w3 hb hc=>⟨by rfl,fun K hK=>?_⟩);have B3:=Lib.hid (BW.out.trans (hb.mono BW.out.size));clear hb hc BW;simp only [Sf.fill,List.foldl_cons,List.foldl_nil];go_simp;have bz:Below w3.heap.size w3 (w3.alloc (.cells #[] 96)):=(Below.refl _ _).alloc (Nat.le_refl _) _;have B4:=Lib.hid (B3.out.trans (bz.mono B3.out.size));refine hK _ _ (Sd.Cl.of B4.out) bz.size (fun _=>bz) ?_;clear hK K bz;have hs3:=B3.out.size;have h34:w3.heap.size≤(w3.alloc (.cells #[] 96)).heap.size:=by simp
 generalize w3.alloc (.cells #[] 96)=w4 at *;refine Sf.call (fun xs w5 hb hc=>⟨by rfl,fun K hK=>?_⟩);have B5:=Lib.hid (B4.out.trans (hb.mono B4.out.size));have A5:=HA.out.below (S2.out.bel.trans (B5.out.mono (by have:=S2.out.siz;omega)));have h45:=hb.size;clear hb hc B4;simp only [Sf.fill,List.foldl_cons,List.foldl_nil];refine grow_op Tryz.underlying63 infoR rfl (by omega) _ _ rfl _ rfl b off cap l (by rw [← HLL.out.2.1];rfl) A5 (by have:=HLL.out.1;omega) (by have:=HLL.out.2.2;omega) ?_
 intro u w6 o6 b6
 obtain ⟨gu,cu,rfl⟩:=own_form o6 (by have:=HLL.out.1;omega);rw [← HLL.out.2.1] at o6 ⊢;have B6:=Lib.hid (B5.out.trans (b6.mono B5.out.size));have O6:=Lib.hid o6;go_simp;refine hK _ _ (Sd.Cl.of B6.out) b6.size (fun _=>b6) ?_;clear hK K b6 o6 A5
 repeat (refine Sf.lit (fun xs=>?_);simp only [Sf.fill,List.foldl_cons,List.foldl_nil];quiet_step (fail);refine wpQuiet_nil ?_)
 refine Sf.meet (fun gF w7 hb hc row n7 hH hL=>?_);have B7:=Lib.hid (B6.out.trans (hb.mono B6.out.size));have N7:=Lib.hid (O6.out.range (hH _ (List.mem_cons_self ..)));have O7:=Lib.hid (O6.out.keep hb);have R7:Hid (w7.heap[gF]? = some (.cells #[.int .i64 0,.slice none 0 0] 65 (0,0))):=row;have hs5:=B5.out.size;clear hb hc row hH hL B6 O6;refine Sf.call (fun xs w9 hb hc=>⟨by rfl,fun K hK=>?_⟩);have B9:=Lib.hid (B7.out.trans (hb.mono B7.out.size));have O9:=Lib.hid (O7.out.keep hb);have R9:=(hb.block _ (lt_of_block R7.out)).trans R7.out;have c0:w9.cell? ⟨gF,0,none⟩=some (.int .i64 0):=row_cell R9 0;have c1:w9.cell? ⟨gF,1,none⟩=some (.slice none 0 0):=row_cell R9 1;have f0:=row_frozen R9 0;have f1:=row_frozen R9 1;have RA:=sto2_row R9 p (.slice (some ⟨gu,0,none⟩) n cu);have BA:=sto2_below (p:=p) (v:=.slice (some ⟨gu,0,none⟩) n cu) B9.out n7;have OA:=sto2_off (u:=.slice (some ⟨gu,0,none⟩) n cu) O9.out N7.out p;have hs1:=S2.out.siz;have HB:Hid (Have w p (.slice (some ⟨b,off,none⟩) n cap) x gF (.slice (some ⟨gu,0,none⟩) n cu) l (sto2 w9 gF p (.slice (some ⟨gu,0,none⟩) n cu))):=⟨S2.out.mono BA,RA,OA.low (by omega),by omega,N7.out⟩;have hsz:=sto2_size w9 gF p (.slice (some ⟨gu,0,none⟩) n cu);clear hb hc B7 O7 R7 R9 RA OA B9 O9 N7 hs3 h34 h45 hs5 B5 B3;simp only [Sf.fill,List.foldl_nil];go_simp;refine hK _ _ (Sd.Cl.of BA) (by rw [← hsz];exact Nat.le_refl _) (fun h=>absurd rfl h) ?_;clear hK K c0 c1 f0 f1
 show Sf.wpSf _ _ _ _ _ _ _ _ _ _ (sto2 w9 gF p (.slice (some ⟨gu,0,none⟩) n cu))
 clear BA hsz;generalize sto2 w9 gF p (.slice (some ⟨gu,0,none⟩) n cu)=wA at *;refine Sf.done (fun wB hb hc=>?_);have HV:=Lib.hid (HB.out.mono hb);clear hb hc HB s0 s1 n7 hs1;obtain ⟨y,hy⟩:∃ y,rat l k=y:=⟨_,rfl⟩;have EY:Hid (∀ u w',Ow K4 w' w.heap.size 96 u (l.set k y)→Below w.heap.size w w'→DoPost w p l 0 k x (.returned (.tuple #[file p u,rec4 y,.int .i64 0])) w'):=fun u w'=>E.out y u w' (by rw [← hy];unfold newR;rw [if_neg (by decide),if_neg (by decide),Int.toNat_natCast]);rw [← set_rat l k HLL.out.1,hy] at HV;clear E hy;go_wp2_with fail;generalize wB=Wz at *;obtain ⟨⟨c0,c1,c2,c3⟩,_,_,_⟩:=own4 HV.out.own k (by rw [List.length_set];exact HLL.out.1);rw [rat_set l k HLL.out.1] at c0 c1 c2 c3;have C0:Last w p gF (.slice (some ⟨gu,0,none⟩) n cu) (l.set k y) Wz.drew:=⟨HV.out.row,HV.out.own⟩;have r0:=Sc.cell_in (C:=Last w p gF (.slice (some ⟨gu,0,none⟩) n cu) (l.set k y)) (a:=⟨gF,0,none⟩) (fun W' h=>row_cell h.1 0);have r1:=Sc.cell_in (C:=Last w p gF (.slice (some ⟨gu,0,none⟩) n cu) (l.set k y)) (a:=⟨gF,1,none⟩) (fun W' h=>row_cell h.1 1);have HQ:Hid (∀ W',Last w p gF (.slice (some ⟨gu,0,none⟩) n cu) (l.set k y) W'→(W'.cell? ⟨gu,k * 4,none⟩=some (.int .u8 y.1)∧W'.cell? ⟨gu,k * 4+1,none⟩=some (.int .u8 y.2.1)∧W'.cell? ⟨gu,k * 4+2,none⟩=some (.int .u8 y.2.2.1)∧W'.cell? ⟨gu,k * 4+3,none⟩=some (.int .u8 y.2.2.2))):=fun W' h=>by
  have:=(own4 h.2 k (by rw [List.length_set];exact HLL.out.1)).1;rw [rat_set l k HLL.out.1] at this;exact this
 have q0:=Sc.cell_in (C:=Last w p gF (.slice (some ⟨gu,0,none⟩) n cu) (l.set k y)) (fun W' h=>(HQ.out W' h).1);have q1:=Sc.cell_in (C:=Last w p gF (.slice (some ⟨gu,0,none⟩) n cu) (l.set k y)) (fun W' h=>(HQ.out W' h).2.1);have q2:=Sc.cell_in (C:=Last w p gF (.slice (some ⟨gu,0,none⟩) n cu) (l.set k y)) (fun W' h=>(HQ.out W' h).2.2.1);have q3:=Sc.cell_in (C:=Last w p gF (.slice (some ⟨gu,0,none⟩) n cu) (l.set k y)) (fun W' h=>(HQ.out W' h).2.2.2);have ne:Nonempty (Sc.In (Last w p gF (.slice (some ⟨gu,0,none⟩) n cu) (l.set k y))):=⟨⟨_,C0⟩⟩;clear c0 c1 c2 c3 HQ;refine Sc.start (Last w p gF (.slice (some ⟨gu,0,none⟩) n cu) (l.set k y)) [(false,0),(false,1),(false,2),(false,3),(false,4),(false,5),(true,6),(true,7),(false,8)] (by kernel_rfl) (by kernel_rfl) (by kernel_rfl) C0 ?_;dsimp only [Sd.picks,List.getElem?_cons_succ,List.getElem?_cons_zero]
 repeat (refine Sd.lit ?_;quiet_step (fail);refine wpQuiet_nil ?_)
 have HD:Hid (Have w p (.slice (some ⟨b,off,none⟩) n cap) x gF (.slice (some ⟨gu,0,none⟩) n cu) (l.set k y) Wz.drew):=HV.out.mono ((Below.refl _ _).drew);clear HV r0 r1 q0 q1 q2 q3 C0;generalize Wz.drew=Wy at *;refine Sd.call (by rfl) (fun K hK=>?_);have c0:Wy.cell? ⟨w.heap.size+2,0,none⟩=some (.int .i64 0):=row_cell HD.out.st.res1 0;have c1:Wy.cell? ⟨w.heap.size+2,1,none⟩=some (.slice none 0 0):=row_cell HD.out.st.res1 1;have f0:=row_frozen HD.out.st.res1 0;have f1:=row_frozen HD.out.st.res1 1;have hge:=(own4 HD.out.own k (by rw [List.length_set];exact HLL.out.1)).2.2.1;have hF:=HD.out.ge;have n1:(Value.slice (some ⟨gu,0,none⟩) n cu).ownBlock≠some (w.heap.size+2):=fun e=>by simp [Value.ownBlock] at e;omega
 have n2:(Value.slice (some ⟨gu,0,none⟩) n cu).ownBlock≠some (w.heap.size+3):=fun e=>by simp [Value.ownBlock] at e;omega
 have L1:Last w p gF (.slice (some ⟨gu,0,none⟩) n cu) (l.set k y) (sto2 Wy (w.heap.size+2) p (.slice (some ⟨gu,0,none⟩) n cu)):=⟨sto2_other HD.out.row (by omega),sto2_off HD.out.own n1 p⟩;have R1:=Lib.hid (sto2_row HD.out.st.res1 p (.slice (some ⟨gu,0,none⟩) n cu));have R2:=sto2_other (g:=w.heap.size+2) (p:=p) (v:=.slice (some ⟨gu,0,none⟩) n cu) HD.out.st.res2 (by omega);have B1:=Lib.hid (sto2_below (p:=p) (v:=.slice (some ⟨gu,0,none⟩) n cu) HD.out.st.bel (show w.heap.size≤w.heap.size+2 by omega));clear HD;go_simp;refine hK _ _ (Sc.Cl.of L1) ?_;clear hK K c0 c1 f0 f1
 show Sd.wpSd _ _ _ _ _ _ (sto2 Wy (w.heap.size+2) p (.slice (some ⟨gu,0,none⟩) n cu))
 generalize sto2 Wy (w.heap.size+2) p (.slice (some ⟨gu,0,none⟩) n cu)=Wx at *;refine Sd.call (by rfl) (fun K hK=>?_);have d0:Wx.cell? ⟨w.heap.size+3,0,none⟩=some (.int .u8 0):=row_cell R2 0;have d1:Wx.cell? ⟨w.heap.size+3,1,none⟩=some (.int .u8 0):=row_cell R2 1;have d2:Wx.cell? ⟨w.heap.size+3,2,none⟩=some (.int .u8 0):=row_cell R2 2;have d3:Wx.cell? ⟨w.heap.size+3,3,none⟩=some (.int .u8 0):=row_cell R2 3;have k0:=row_frozen R2 0;have k1:=row_frozen R2 1;have k2:=row_frozen R2 2;have k3:=row_frozen R2 3;have L2:Last w p gF (.slice (some ⟨gu,0,none⟩) n cu) (l.set k y) (sto4 Wx (w.heap.size+3) 0 y):=⟨sto4_other L1.1 (by omega),sto4_off L1.2 n2 y⟩;have R3:=Lib.hid (sto4_row R2 y);have R4:=Lib.hid (sto4_other (g:=w.heap.size+3) (o:=0) (r:=y) R1.out (by omega));have B2:=Lib.hid (sto4_below (o:=0) (r:=y) B1.out (show w.heap.size≤w.heap.size+3 by omega));clear R2 R1 B1 L1;go_simp;refine hK _ _ (Sc.Cl.of L2) ?_;clear hK K d0 d1 d2 d3 k0 k1 k2 k3
 show Sd.wpSd _ _ _ _ _ _ (sto4 Wx (w.heap.size+3) 0 y)
 have O2:=Lib.hid L2.2;clear L2;generalize sto4 Wx (w.heap.size+3) 0 y=Ww at *
 repeat (refine Sd.lit ?_;quiet_step (fail);refine wpQuiet_nil ?_)
 refine Sd.done ?_;go_wp2
 (try simp only [Exit.inBlock,Exit.then])
 exact bodyPost_ret (results_do (p:=8) (q:=9) (r:=10) rfl _ _ (w.heap.size+2) (w.heap.size+3) p _ y 0 rfl rfl rfl R4.out R3.out) rfl (EY.out _ _ (O2.out.low (by omega)) B2.out)
set_option maxHeartbeats 1000000 in
theorem rdo_h (w:World) (p:Int) (b off n cap:Nat) (l:List R4) (R:Rd K4 w (.slice (some ⟨b,off,none⟩) n cap) l) (hA:At K4 w b off l) (hl:okL l) (k:Nat) (x:R4) (he:doE p l 0 k=0) (hz0:k=0) (hn:n=l.length) (hk:k < l.length) (hg:goodF p l):Calls Tryz.prog 113 #[file p (.slice (some ⟨b,off,none⟩) n cap),.int .i64 0,.int .i64 (k:Int),rec4 x] w (DoPost w p l 0 k x):=by
 have S0:Hid (StartR w p (.slice (some ⟨b,off,none⟩) n cap) x (((((w.alloc (.cells #[.int .i64 p,.slice (some ⟨b,off,none⟩) n cap] 65)).alloc (.cells #[.int .u8 x.1,.int .u8 x.2.1,.int .u8 x.2.2.1,.int .u8 x.2.2.2] 96)).alloc (.cells #[.int .i64 0,.slice none 0 0] 65)).alloc (.cells #[.int .u8 0,.int .u8 0,.int .u8 0,.int .u8 0] 96)).alloc (.cells #[.int .i64 0,.slice none 0 0] 65))):=Lib.hid (StartR.of w p _ x);have GR:=Lib.hid (at_bool (show goodFB p l=true from decide_eq_true hg) (rgood_any _ p _ l (R.below S0.out.st.bel)));have E:Hid (∀ y u w',y=newR l 0 k x→Ow K4 w' w.heap.size 96 u (l.set k y)→Below w.heap.size w w'→DoPost w p l 0 k x (.returned (.tuple #[file p u,rec4 y,.int .i64 0])) w'):=fun y u w' hy h hb=>⟨u,by rw [if_pos he,if_pos he,he,hy],by rw [if_pos he,← hy,Int.toNat_natCast];exact h,hb⟩;have HLL:=Lib.hid (And.intro hk (And.intro hn hg.2.2.2.1));have HA:=Lib.hid hA;have OK:=Lib.hid hl;have hkn:k < n:=by omega
 have hkn2:(k:Int) < n:=by omega
 have p0:0≤p:=hg.1;have p1:p≤7:=hg.2.1;subst hz0;clear he R hA hl hn hk hg;unfold file rec4 at *
 go_enter Tryz.func113,Tryz.ntmps113
 go_wp2_with fail;generalize ((((w.alloc (.cells #[.int .i64 p,.slice (some ⟨b,off,none⟩) n cap] 65)).alloc (.cells #[.int .u8 x.1,.int .u8 x.2.1,.int .u8 x.2.2.1,.int .u8 x.2.2.2] 96)).alloc (.cells #[.int .i64 0,.slice none 0 0] 65)).alloc (.cells #[.int .u8 0,.int .u8 0,.int .u8 0,.int .u8 0] 96)).alloc (.cells #[.int .i64 0,.slice none 0 0] 65)=W at *;refine GR.out.mono ?_;rintro e w1 ⟨rfl,b1⟩;have S1:=Lib.hid (S0.out.mono b1);clear b1 S0 GR;have b0:w1.cell? ⟨w.heap.size,0,none⟩=some (.int .i64 p):=row_cell S1.out.st.box 0;have b1':w1.cell? ⟨w.heap.size,1,none⟩=some (.slice (some ⟨b,off,none⟩) n cap):=row_cell S1.out.st.box 1;go_upto_region 9 with fail;have S2:Hid (Start w p (.slice (some ⟨b,off,none⟩) n cap) x (w1.alloc (.cells #[.int .i64 1,.int .i64 2,.int .i64 4] 3))):=Lib.hid (S1.out.st.mono ((Below.refl _ _).alloc (Nat.le_refl _) _));clear b0 b1' S1;generalize w1.alloc (.cells #[.int .i64 1,.int .i64 2,.int .i64 4] 3)=w2 at *;have b0:w2.cell? ⟨w.heap.size,0,none⟩=some (.int .i64 p):=row_cell S2.out.box 0;have b1':w2.cell? ⟨w.heap.size,1,none⟩=some (.slice (some ⟨b,off,none⟩) n cap):=row_cell S2.out.box 1;go_upto_region 11 with fail;clear b0 b1';have s0:=Sd.cell_by (show w2.cell? ⟨w.heap.size,0,none⟩=some (.int .i64 p) from row_cell S2.out.box 0);have s1:=Sd.cell_by (show w2.cell? ⟨w.heap.size,1,none⟩=some (.slice (some ⟨b,off,none⟩) n cap) from row_cell S2.out.box 1);refine Sf.start [(0,0),(0,1),(0,3),(0,4),(1,2),(1,5),(0,6),(2,7),(1,8)] [⟨7,13,#[.int .i64 0,.slice none 0 0],65⟩] (by kernel_rfl) (by kernel_rfl) (by kernel_rfl) (by decide) (by decide) ?_ ?_ ?_
 ·simp
 ·intro f hf
  simp only [List.mem_cons,List.not_mem_nil,or_false] at hf;subst hf;exact ⟨_,rfl,rfl,rfl,fun ρ w=>by go_simp⟩
 dsimp only [Sf.picks,List.getElem?_cons_succ,List.getElem?_cons_zero];have BW:=Lib.hid ((Below.refl w2.heap.size w2).drew)
 repeat (refine Sf.lit (fun xs=>?_);simp only [Sf.fill,List.foldl_cons,List.foldl_nil];quiet_step (fail);refine wpQuiet_nil ?_)
 refine Sf.call (fun xs w3 hb hc=>⟨by rfl,fun K hK=>?_⟩);have B3:=Lib.hid (BW.out.trans (hb.mono BW.out.size));clear hb hc BW;simp only [Sf.fill,List.foldl_cons,List.foldl_nil];go_simp;have bz:Below w3.heap.size w3 (w3.alloc (.cells #[] 96)):=(Below.refl _ _).alloc (Nat.le_refl _) _;have B4:=Lib.hid (B3.out.trans (bz.mono B3.out.size));refine hK _ _ (Sd.Cl.of B4.out) bz.size (fun _=>bz) ?_;clear hK K bz;have hs3:=B3.out.size;have h34:w3.heap.size≤(w3.alloc (.cells #[] 96)).heap.size:=by simp
 generalize w3.alloc (.cells #[] 96)=w4 at *;refine Sf.call (fun xs w5 hb hc=>⟨by rfl,fun K hK=>?_⟩);have B5:=Lib.hid (B4.out.trans (hb.mono B4.out.size));have A5:=HA.out.below (S2.out.bel.trans (B5.out.mono (by have:=S2.out.siz;omega)));have h45:=hb.size;clear hb hc B4;simp only [Sf.fill,List.foldl_cons,List.foldl_nil];refine grow_op Tryz.underlying63 infoR rfl (by omega) _ _ rfl _ rfl b off cap l (by rw [← HLL.out.2.1];rfl) A5 (by have:=HLL.out.1;omega) (by have:=HLL.out.2.2;omega) ?_
 intro u w6 o6 b6
 obtain ⟨gu,cu,rfl⟩:=own_form o6 (by have:=HLL.out.1;omega);rw [← HLL.out.2.1] at o6 ⊢;have B6:=Lib.hid (B5.out.trans (b6.mono B5.out.size));have O6:=Lib.hid o6;go_simp;refine hK _ _ (Sd.Cl.of B6.out) b6.size (fun _=>b6) ?_;clear hK K b6 o6 A5
 repeat (refine Sf.lit (fun xs=>?_);simp only [Sf.fill,List.foldl_cons,List.foldl_nil];quiet_step (fail);refine wpQuiet_nil ?_)
 refine Sf.meet (fun gF w7 hb hc row n7 hH hL=>?_);have B7:=Lib.hid (B6.out.trans (hb.mono B6.out.size));have N7:=Lib.hid (O6.out.range (hH _ (List.mem_cons_self ..)));have O7:=Lib.hid (O6.out.keep hb);have R7:Hid (w7.heap[gF]? = some (.cells #[.int .i64 0,.slice none 0 0] 65 (0,0))):=row;have hs5:=B5.out.size;clear hb hc row hH hL B6 O6;refine Sf.call (fun xs w9 hb hc=>⟨by rfl,fun K hK=>?_⟩);have B9:=Lib.hid (B7.out.trans (hb.mono B7.out.size));have O9:=Lib.hid (O7.out.keep hb);have R9:=(hb.block _ (lt_of_block R7.out)).trans R7.out;have c0:w9.cell? ⟨gF,0,none⟩=some (.int .i64 0):=row_cell R9 0;have c1:w9.cell? ⟨gF,1,none⟩=some (.slice none 0 0):=row_cell R9 1;have f0:=row_frozen R9 0;have f1:=row_frozen R9 1;have RA:=sto2_row R9 p (.slice (some ⟨gu,0,none⟩) n cu);have BA:=sto2_below (p:=p) (v:=.slice (some ⟨gu,0,none⟩) n cu) B9.out n7;have OA:=sto2_off (u:=.slice (some ⟨gu,0,none⟩) n cu) O9.out N7.out p;have hs1:=S2.out.siz;have HB:Hid (Have w p (.slice (some ⟨b,off,none⟩) n cap) x gF (.slice (some ⟨gu,0,none⟩) n cu) l (sto2 w9 gF p (.slice (some ⟨gu,0,none⟩) n cu))):=⟨S2.out.mono BA,RA,OA.low (by omega),by omega,N7.out⟩;have hsz:=sto2_size w9 gF p (.slice (some ⟨gu,0,none⟩) n cu);clear hb hc B7 O7 R7 R9 RA OA B9 O9 N7 hs3 h34 h45 hs5 B5 B3;simp only [Sf.fill,List.foldl_nil];go_simp;refine hK _ _ (Sd.Cl.of BA) (by rw [← hsz];exact Nat.le_refl _) (fun h=>absurd rfl h) ?_;clear hK K c0 c1 f0 f1
 show Sf.wpSf _ _ _ _ _ _ _ _ _ _ (sto2 w9 gF p (.slice (some ⟨gu,0,none⟩) n cu))
 clear BA hsz;generalize sto2 w9 gF p (.slice (some ⟨gu,0,none⟩) n cu)=wA at *;refine Sf.done (fun wB hb hc=>?_);have HV:=Lib.hid (HB.out.mono hb);clear hb hc HB s0 s1 n7 hs1;obtain ⟨y,hy⟩:∃ y,rat l 0=y:=⟨_,rfl⟩;have EY:Hid (∀ u w',Ow K4 w' w.heap.size 96 u (l.set 0 y)→Below w.heap.size w w'→DoPost w p l 0 0 x (.returned (.tuple #[file p u,rec4 y,.int .i64 0])) w'):=fun u w'=>E.out y u w' (by rw [← hy];unfold newR;rw [if_neg (by decide),if_neg (by decide),Int.toNat_natCast]);rw [← set_rat l 0 HLL.out.1,hy] at HV;clear E hy;go_wp2_with fail;generalize wB=Wz at *;obtain ⟨⟨c0,c1,c2,c3⟩,_,_,_⟩:=own4 HV.out.own 0 (by rw [List.length_set];exact HLL.out.1);rw [rat_set l 0 HLL.out.1] at c0 c1 c2 c3;have C0:Last w p gF (.slice (some ⟨gu,0,none⟩) n cu) (l.set 0 y) Wz.drew:=⟨HV.out.row,HV.out.own⟩;have r0:=Sc.cell_in (C:=Last w p gF (.slice (some ⟨gu,0,none⟩) n cu) (l.set 0 y)) (a:=⟨gF,0,none⟩) (fun W' h=>row_cell h.1 0);have r1:=Sc.cell_in (C:=Last w p gF (.slice (some ⟨gu,0,none⟩) n cu) (l.set 0 y)) (a:=⟨gF,1,none⟩) (fun W' h=>row_cell h.1 1);have HQ:Hid (∀ W',Last w p gF (.slice (some ⟨gu,0,none⟩) n cu) (l.set 0 y) W'→(W'.cell? ⟨gu,0,none⟩=some (.int .u8 y.1)∧W'.cell? ⟨gu,1,none⟩=some (.int .u8 y.2.1)∧W'.cell? ⟨gu,2,none⟩=some (.int .u8 y.2.2.1)∧W'.cell? ⟨gu,3,none⟩=some (.int .u8 y.2.2.2))):=fun W' h=>by
  have:=(own4 h.2 0 (by rw [List.length_set];exact HLL.out.1)).1;rw [rat_set l 0 HLL.out.1] at this;exact this
 have q0:=Sc.cell_in (C:=Last w p gF (.slice (some ⟨gu,0,none⟩) n cu) (l.set 0 y)) (fun W' h=>(HQ.out W' h).1);have q1:=Sc.cell_in (C:=Last w p gF (.slice (some ⟨gu,0,none⟩) n cu) (l.set 0 y)) (fun W' h=>(HQ.out W' h).2.1);have q2:=Sc.cell_in (C:=Last w p gF (.slice (some ⟨gu,0,none⟩) n cu) (l.set 0 y)) (fun W' h=>(HQ.out W' h).2.2.1);have q3:=Sc.cell_in (C:=Last w p gF (.slice (some ⟨gu,0,none⟩) n cu) (l.set 0 y)) (fun W' h=>(HQ.out W' h).2.2.2);have ne:Nonempty (Sc.In (Last w p gF (.slice (some ⟨gu,0,none⟩) n cu) (l.set 0 y))):=⟨⟨_,C0⟩⟩;clear c0 c1 c2 c3 HQ;refine Sc.start (Last w p gF (.slice (some ⟨gu,0,none⟩) n cu) (l.set 0 y)) [(false,0),(false,1),(false,2),(false,3),(false,4),(false,5),(true,6),(true,7),(false,8)] (by kernel_rfl) (by kernel_rfl) (by kernel_rfl) C0 ?_;dsimp only [Sd.picks,List.getElem?_cons_succ,List.getElem?_cons_zero]
 repeat (refine Sd.lit ?_;quiet_step (fail);refine wpQuiet_nil ?_)
 have HD:Hid (Have w p (.slice (some ⟨b,off,none⟩) n cap) x gF (.slice (some ⟨gu,0,none⟩) n cu) (l.set 0 y) Wz.drew):=HV.out.mono ((Below.refl _ _).drew);clear HV r0 r1 q0 q1 q2 q3 C0;generalize Wz.drew=Wy at *;refine Sd.call (by rfl) (fun K hK=>?_);have c0:Wy.cell? ⟨w.heap.size+2,0,none⟩=some (.int .i64 0):=row_cell HD.out.st.res1 0;have c1:Wy.cell? ⟨w.heap.size+2,1,none⟩=some (.slice none 0 0):=row_cell HD.out.st.res1 1;have f0:=row_frozen HD.out.st.res1 0;have f1:=row_frozen HD.out.st.res1 1;have hge:=(own4 HD.out.own 0 (by rw [List.length_set];exact HLL.out.1)).2.2.1;have hF:=HD.out.ge;have n1:(Value.slice (some ⟨gu,0,none⟩) n cu).ownBlock≠some (w.heap.size+2):=fun e=>by simp [Value.ownBlock] at e;omega
 have n2:(Value.slice (some ⟨gu,0,none⟩) n cu).ownBlock≠some (w.heap.size+3):=fun e=>by simp [Value.ownBlock] at e;omega
 have L1:Last w p gF (.slice (some ⟨gu,0,none⟩) n cu) (l.set 0 y) (sto2 Wy (w.heap.size+2) p (.slice (some ⟨gu,0,none⟩) n cu)):=⟨sto2_other HD.out.row (by omega),sto2_off HD.out.own n1 p⟩;have R1:=Lib.hid (sto2_row HD.out.st.res1 p (.slice (some ⟨gu,0,none⟩) n cu));have R2:=sto2_other (g:=w.heap.size+2) (p:=p) (v:=.slice (some ⟨gu,0,none⟩) n cu) HD.out.st.res2 (by omega);have B1:=Lib.hid (sto2_below (p:=p) (v:=.slice (some ⟨gu,0,none⟩) n cu) HD.out.st.bel (show w.heap.size≤w.heap.size+2 by omega));clear HD;go_simp;refine hK _ _ (Sc.Cl.of L1) ?_;clear hK K c0 c1 f0 f1
 show Sd.wpSd _ _ _ _ _ _ (sto2 Wy (w.heap.size+2) p (.slice (some ⟨gu,0,none⟩) n cu))
 generalize sto2 Wy (w.heap.size+2) p (.slice (some ⟨gu,0,none⟩) n cu)=Wx at *;refine Sd.call (by rfl) (fun K hK=>?_);have d0:Wx.cell? ⟨w.heap.size+3,0,none⟩=some (.int .u8 0):=row_cell R2 0;have d1:Wx.cell? ⟨w.heap.size+3,1,none⟩=some (.int .u8 0):=row_cell R2 1;have d2:Wx.cell? ⟨w.heap.size+3,2,none⟩=some (.int .u8 0):=row_cell R2 2;have d3:Wx.cell? ⟨w.heap.size+3,3,none⟩=some (.int .u8 0):=row_cell R2 3;have k0:=row_frozen R2 0;have k1:=row_frozen R2 1;have k2:=row_frozen R2 2;have k3:=row_frozen R2 3;have L2:Last w p gF (.slice (some ⟨gu,0,none⟩) n cu) (l.set 0 y) (sto4 Wx (w.heap.size+3) 0 y):=⟨sto4_other L1.1 (by omega),sto4_off L1.2 n2 y⟩;have R3:=Lib.hid (sto4_row R2 y);have R4:=Lib.hid (sto4_other (g:=w.heap.size+3) (o:=0) (r:=y) R1.out (by omega));have B2:=Lib.hid (sto4_below (o:=0) (r:=y) B1.out (show w.heap.size≤w.heap.size+3 by omega));clear R2 R1 B1 L1;go_simp;refine hK _ _ (Sc.Cl.of L2) ?_;clear hK K d0 d1 d2 d3 k0 k1 k2 k3
 show Sd.wpSd _ _ _ _ _ _ (sto4 Wx (w.heap.size+3) 0 y)
 have O2:=Lib.hid L2.2;clear L2;generalize sto4 Wx (w.heap.size+3) 0 y=Ww at *
 repeat (refine Sd.lit ?_;quiet_step (fail);refine wpQuiet_nil ?_)
 refine Sd.done ?_;go_wp2
 (try simp only [Exit.inBlock,Exit.then])
 exact bodyPost_ret (results_do (p:=8) (q:=9) (r:=10) rfl _ _ (w.heap.size+2) (w.heap.size+3) p _ y 0 rfl rfl rfl R4.out R3.out) rfl (EY.out _ _ (O2.out.low (by omega)) B2.out)
set_option maxHeartbeats 1000000 in
theorem rdo_w (w:World) (p:Int) (b off n cap:Nat) (l:List R4) (R:Rd K4 w (.slice (some ⟨b,off,none⟩) n cap) l) (hA:At K4 w b off l) (hl:okL l) (k:Nat) (x:R4) (he:doE p l 1 k=0) (hz0:0 < k) (hq:p / 2 % 2=1) (hn:n=l.length) (hk:k < l.length) (hg:goodF p l):Calls Tryz.prog 113 #[file p (.slice (some ⟨b,off,none⟩) n cap),.int .i64 1,.int .i64 (k:Int),rec4 x] w (DoPost w p l 1 k x):=by
 have S0:Hid (StartR w p (.slice (some ⟨b,off,none⟩) n cap) x (((((w.alloc (.cells #[.int .i64 p,.slice (some ⟨b,off,none⟩) n cap] 65)).alloc (.cells #[.int .u8 x.1,.int .u8 x.2.1,.int .u8 x.2.2.1,.int .u8 x.2.2.2] 96)).alloc (.cells #[.int .i64 0,.slice none 0 0] 65)).alloc (.cells #[.int .u8 0,.int .u8 0,.int .u8 0,.int .u8 0] 96)).alloc (.cells #[.int .i64 0,.slice none 0 0] 65))):=Lib.hid (StartR.of w p _ x);have GR:=Lib.hid (at_bool (show goodFB p l=true from decide_eq_true hg) (rgood_any _ p _ l (R.below S0.out.st.bel)));have E:Hid (∀ y u w',y=newR l 1 k x→Ow K4 w' w.heap.size 96 u (l.set k y)→Below w.heap.size w w'→DoPost w p l 1 k x (.returned (.tuple #[file p u,rec4 y,.int .i64 0])) w'):=fun y u w' hy h hb=>⟨u,by rw [if_pos he,if_pos he,he,hy],by rw [if_pos he,← hy,Int.toNat_natCast];exact h,hb⟩;have HLL:=Lib.hid (And.intro hk (And.intro hn hg.2.2.2.1));have HA:=Lib.hid hA;have OK:=Lib.hid hl;have hkn:k < n:=by omega
 have hkn2:(k:Int) < n:=by omega
 have p0:0≤p:=hg.1;have p1:p≤7:=hg.2.1;clear he R hA hl hn hk hg;unfold file rec4 at *;have hq1:IntKind.i64.wrap (Int.tdiv p 2)=p / 2:=by rw [Int.tdiv_eq_ediv_of_nonneg p0];exact IntWalk.i64_in _ (by omega)
 have hq2:Int.tmod (p / 2) 2=1:=by rw [Int.tmod_eq_emod_of_nonneg (by omega)];exact hq
 clear hq;have hz:¬ (k:Int)=0:=by omega
 have hz2:((k:Int) == 0)=false:=by simpa using hz
 have hz3:0 < (k:Int):=by omega
 go_enter Tryz.func113,Tryz.ntmps113
 go_wp2_with fail;generalize ((((w.alloc (.cells #[.int .i64 p,.slice (some ⟨b,off,none⟩) n cap] 65)).alloc (.cells #[.int .u8 x.1,.int .u8 x.2.1,.int .u8 x.2.2.1,.int .u8 x.2.2.2] 96)).alloc (.cells #[.int .i64 0,.slice none 0 0] 65)).alloc (.cells #[.int .u8 0,.int .u8 0,.int .u8 0,.int .u8 0] 96)).alloc (.cells #[.int .i64 0,.slice none 0 0] 65)=W at *;refine GR.out.mono ?_;rintro e w1 ⟨rfl,b1⟩;have S1:=Lib.hid (S0.out.mono b1);clear b1 S0 GR;have b0:w1.cell? ⟨w.heap.size,0,none⟩=some (.int .i64 p):=row_cell S1.out.st.box 0;have b1':w1.cell? ⟨w.heap.size,1,none⟩=some (.slice (some ⟨b,off,none⟩) n cap):=row_cell S1.out.st.box 1;go_upto_region 9 with fail;have S2:Hid (Start w p (.slice (some ⟨b,off,none⟩) n cap) x (w1.alloc (.cells #[.int .i64 1,.int .i64 2,.int .i64 4] 3))):=Lib.hid (S1.out.st.mono ((Below.refl _ _).alloc (Nat.le_refl _) _));clear b0 b1' S1;generalize w1.alloc (.cells #[.int .i64 1,.int .i64 2,.int .i64 4] 3)=w2 at *;have b0:w2.cell? ⟨w.heap.size,0,none⟩=some (.int .i64 p):=row_cell S2.out.box 0;have b1':w2.cell? ⟨w.heap.size,1,none⟩=some (.slice (some ⟨b,off,none⟩) n cap):=row_cell S2.out.box 1;go_upto_region 11 with fail;clear b0 b1';clear hq1 hq2 hz hz2 hz3;have s0:=Sd.cell_by (show w2.cell? ⟨w.heap.size,0,none⟩=some (.int .i64 p) from row_cell S2.out.box 0);have s1:=Sd.cell_by (show w2.cell? ⟨w.heap.size,1,none⟩=some (.slice (some ⟨b,off,none⟩) n cap) from row_cell S2.out.box 1);refine Sf.start [(0,0),(0,1),(0,3),(0,4),(1,2),(1,5),(0,6),(2,7),(1,8)] [⟨7,13,#[.int .i64 0,.slice none 0 0],65⟩] (by kernel_rfl) (by kernel_rfl) (by kernel_rfl) (by decide) (by decide) ?_ ?_ ?_
 ·simp
 ·intro f hf
  simp only [List.mem_cons,List.not_mem_nil,or_false] at hf;subst hf;exact ⟨_,rfl,rfl,rfl,fun ρ w=>by go_simp⟩
 dsimp only [Sf.picks,List.getElem?_cons_succ,List.getElem?_cons_zero];have BW:=Lib.hid ((Below.refl w2.heap.size w2).drew)
 repeat (refine Sf.lit (fun xs=>?_);simp only [Sf.fill,List.foldl_cons,List.foldl_nil];quiet_step (fail);refine wpQuiet_nil ?_)
 refine Sf.call (fun xs w3 hb hc=>⟨by rfl,fun K hK=>?_⟩);have B3:=Lib.hid (BW.out.trans (hb.mono BW.out.size));clear hb hc BW;simp only [Sf.fill,List.foldl_cons,List.foldl_nil];go_simp;have bz:Below w3.heap.size w3 (w3.alloc (.cells #[] 96)):=(Below.refl _ _).alloc (Nat.le_refl _) _;have B4:=Lib.hid (B3.out.trans (bz.mono B3.out.size));refine hK _ _ (Sd.Cl.of B4.out) bz.size (fun _=>bz) ?_;clear hK K bz;have hs3:=B3.out.size;have h34:w3.heap.size≤(w3.alloc (.cells #[] 96)).heap.size:=by simp
 generalize w3.alloc (.cells #[] 96)=w4 at *;refine Sf.call (fun xs w5 hb hc=>⟨by rfl,fun K hK=>?_⟩);have B5:=Lib.hid (B4.out.trans (hb.mono B4.out.size));have A5:=HA.out.below (S2.out.bel.trans (B5.out.mono (by have:=S2.out.siz;omega)));have h45:=hb.size;clear hb hc B4;simp only [Sf.fill,List.foldl_cons,List.foldl_nil];refine grow_op Tryz.underlying63 infoR rfl (by omega) _ _ rfl _ rfl b off cap l (by rw [← HLL.out.2.1];rfl) A5 (by have:=HLL.out.1;omega) (by have:=HLL.out.2.2;omega) ?_
 intro u w6 o6 b6
 obtain ⟨gu,cu,rfl⟩:=own_form o6 (by have:=HLL.out.1;omega);rw [← HLL.out.2.1] at o6 ⊢;have B6:=Lib.hid (B5.out.trans (b6.mono B5.out.size));have O6:=Lib.hid o6;go_simp;refine hK _ _ (Sd.Cl.of B6.out) b6.size (fun _=>b6) ?_;clear hK K b6 o6 A5
 repeat (refine Sf.lit (fun xs=>?_);simp only [Sf.fill,List.foldl_cons,List.foldl_nil];quiet_step (fail);refine wpQuiet_nil ?_)
 refine Sf.meet (fun gF w7 hb hc row n7 hH hL=>?_);have B7:=Lib.hid (B6.out.trans (hb.mono B6.out.size));have N7:=Lib.hid (O6.out.range (hH _ (List.mem_cons_self ..)));have O7:=Lib.hid (O6.out.keep hb);have R7:Hid (w7.heap[gF]? = some (.cells #[.int .i64 0,.slice none 0 0] 65 (0,0))):=row;have hs5:=B5.out.size;clear hb hc row hH hL B6 O6;refine Sf.call (fun xs w9 hb hc=>⟨by rfl,fun K hK=>?_⟩);have B9:=Lib.hid (B7.out.trans (hb.mono B7.out.size));have O9:=Lib.hid (O7.out.keep hb);have R9:=(hb.block _ (lt_of_block R7.out)).trans R7.out;have c0:w9.cell? ⟨gF,0,none⟩=some (.int .i64 0):=row_cell R9 0;have c1:w9.cell? ⟨gF,1,none⟩=some (.slice none 0 0):=row_cell R9 1;have f0:=row_frozen R9 0;have f1:=row_frozen R9 1;have RA:=sto2_row R9 p (.slice (some ⟨gu,0,none⟩) n cu);have BA:=sto2_below (p:=p) (v:=.slice (some ⟨gu,0,none⟩) n cu) B9.out n7;have OA:=sto2_off (u:=.slice (some ⟨gu,0,none⟩) n cu) O9.out N7.out p;have hs1:=S2.out.siz;have HB:Hid (Have w p (.slice (some ⟨b,off,none⟩) n cap) x gF (.slice (some ⟨gu,0,none⟩) n cu) l (sto2 w9 gF p (.slice (some ⟨gu,0,none⟩) n cu))):=⟨S2.out.mono BA,RA,OA.low (by omega),by omega,N7.out⟩;have hsz:=sto2_size w9 gF p (.slice (some ⟨gu,0,none⟩) n cu);clear hb hc B7 O7 R7 R9 RA OA B9 O9 N7 hs3 h34 h45 hs5 B5 B3;simp only [Sf.fill,List.foldl_nil];go_simp;refine hK _ _ (Sd.Cl.of BA) (by rw [← hsz];exact Nat.le_refl _) (fun h=>absurd rfl h) ?_;clear hK K c0 c1 f0 f1
 show Sf.wpSf _ _ _ _ _ _ _ _ _ _ (sto2 w9 gF p (.slice (some ⟨gu,0,none⟩) n cu))
 clear BA hsz;generalize sto2 w9 gF p (.slice (some ⟨gu,0,none⟩) n cu)=wA at *;refine Sf.done (fun wB hb hc=>?_);have HV:=Lib.hid (HB.out.mono hb);clear hb hc HB s0 s1 n7 hs1;have EY:Hid (∀ u w',Ow K4 w' w.heap.size 96 u (l.set k x)→Below w.heap.size w w'→DoPost w p l 1 k x (.returned (.tuple #[file p u,rec4 x,.int .i64 0])) w'):=fun u w'=>E.out x u w' (by unfold newR;rw [if_pos rfl]);have HP:=Lib.hid (HV.out.put HLL.out.2.1 k HLL.out.1 x);obtain ⟨⟨c0,c1,c2,c3⟩,hfr,_,_⟩:=own4 HV.out.own k HLL.out.1;have f0:=hfr (k * 4);have f1:=hfr (k * 4+1);have f2:=hfr (k * 4+2);have f3:=hfr (k * 4+3);have r1:wB.cell? ⟨gF,1,none⟩=some (.slice (some ⟨gu,0,none⟩) n cu):=row_cell HV.out.row 1;have a0:wB.cell? ⟨w.heap.size+1,0,none⟩=some (.int .u8 x.1):=row_cell HV.out.st.arg 0;have a1:wB.cell? ⟨w.heap.size+1,1,none⟩=some (.int .u8 x.2.1):=row_cell HV.out.st.arg 1;have a2:wB.cell? ⟨w.heap.size+1,2,none⟩=some (.int .u8 x.2.2.1):=row_cell HV.out.st.arg 2;have a3:wB.cell? ⟨w.heap.size+1,3,none⟩=some (.int .u8 x.2.2.2):=row_cell HV.out.st.arg 3;clear E hfr HV;go_wp2_with fail;clear c0 c1 c2 c3 f0 f1 f2 f3 r1 a0 a1 a2 a3
 show Code.wp _ _ _ _ (sto4 wB gu (k * 4) x)
 generalize sto4 wB gu (k * 4) x=Wz at *;have HV:=HP;clear HP;obtain ⟨⟨c0,c1,c2,c3⟩,_,_,_⟩:=own4 HV.out.own k (by rw [List.length_set];exact HLL.out.1);rw [rat_set l k HLL.out.1] at c0 c1 c2 c3;have C0:Last w p gF (.slice (some ⟨gu,0,none⟩) n cu) (l.set k x) Wz.drew:=⟨HV.out.row,HV.out.own⟩;have r0:=Sc.cell_in (C:=Last w p gF (.slice (some ⟨gu,0,none⟩) n cu) (l.set k x)) (a:=⟨gF,0,none⟩) (fun W' h=>row_cell h.1 0);have r1:=Sc.cell_in (C:=Last w p gF (.slice (some ⟨gu,0,none⟩) n cu) (l.set k x)) (a:=⟨gF,1,none⟩) (fun W' h=>row_cell h.1 1);have HQ:Hid (∀ W',Last w p gF (.slice (some ⟨gu,0,none⟩) n cu) (l.set k x) W'→(W'.cell? ⟨gu,k * 4,none⟩=some (.int .u8 x.1)∧W'.cell? ⟨gu,k * 4+1,none⟩=some (.int .u8 x.2.1)∧W'.cell? ⟨gu,k * 4+2,none⟩=some (.int .u8 x.2.2.1)∧W'.cell? ⟨gu,k * 4+3,none⟩=some (.int .u8 x.2.2.2))):=fun W' h=>by
  have:=(own4 h.2 k (by rw [List.length_set];exact HLL.out.1)).1;rw [rat_set l k HLL.out.1] at this;exact this
 have q0:=Sc.cell_in (C:=Last w p gF (.slice (some ⟨gu,0,none⟩) n cu) (l.set k x)) (fun W' h=>(HQ.out W' h).1);have q1:=Sc.cell_in (C:=Last w p gF (.slice (some ⟨gu,0,none⟩) n cu) (l.set k x)) (fun W' h=>(HQ.out W' h).2.1);have q2:=Sc.cell_in (C:=Last w p gF (.slice (some ⟨gu,0,none⟩) n cu) (l.set k x)) (fun W' h=>(HQ.out W' h).2.2.1);have q3:=Sc.cell_in (C:=Last w p gF (.slice (some ⟨gu,0,none⟩) n cu) (l.set k x)) (fun W' h=>(HQ.out W' h).2.2.2);have ne:Nonempty (Sc.In (Last w p gF (.slice (some ⟨gu,0,none⟩) n cu) (l.set k x))):=⟨⟨_,C0⟩⟩;clear c0 c1 c2 c3 HQ;refine Sc.start (Last w p gF (.slice (some ⟨gu,0,none⟩) n cu) (l.set k x)) [(false,0),(false,1),(false,2),(false,3),(false,4),(false,5),(true,6),(true,7),(false,8)] (by kernel_rfl) (by kernel_rfl) (by kernel_rfl) C0 ?_;dsimp only [Sd.picks,List.getElem?_cons_succ,List.getElem?_cons_zero]
 repeat (refine Sd.lit ?_;quiet_step (fail);refine wpQuiet_nil ?_)
 have HD:Hid (Have w p (.slice (some ⟨b,off,none⟩) n cap) x gF (.slice (some ⟨gu,0,none⟩) n cu) (l.set k x) Wz.drew):=HV.out.mono ((Below.refl _ _).drew);clear HV r0 r1 q0 q1 q2 q3 C0;generalize Wz.drew=Wy at *;refine Sd.call (by rfl) (fun K hK=>?_);have c0:Wy.cell? ⟨w.heap.size+2,0,none⟩=some (.int .i64 0):=row_cell HD.out.st.res1 0;have c1:Wy.cell? ⟨w.heap.size+2,1,none⟩=some (.slice none 0 0):=row_cell HD.out.st.res1 1;have f0:=row_frozen HD.out.st.res1 0;have f1:=row_frozen HD.out.st.res1 1;have hge:=(own4 HD.out.own k (by rw [List.length_set];exact HLL.out.1)).2.2.1;have hF:=HD.out.ge;have n1:(Value.slice (some ⟨gu,0,none⟩) n cu).ownBlock≠some (w.heap.size+2):=fun e=>by simp [Value.ownBlock] at e;omega
 have n2:(Value.slice (some ⟨gu,0,none⟩) n cu).ownBlock≠some (w.heap.size+3):=fun e=>by simp [Value.ownBlock] at e;omega
 have L1:Last w p gF (.slice (some ⟨gu,0,none⟩) n cu) (l.set k x) (sto2 Wy (w.heap.size+2) p (.slice (some ⟨gu,0,none⟩) n cu)):=⟨sto2_other HD.out.row (by omega),sto2_off HD.out.own n1 p⟩;have R1:=Lib.hid (sto2_row HD.out.st.res1 p (.slice (some ⟨gu,0,none⟩) n cu));have R2:=sto2_other (g:=w.heap.size+2) (p:=p) (v:=.slice (some ⟨gu,0,none⟩) n cu) HD.out.st.res2 (by omega);have B1:=Lib.hid (sto2_below (p:=p) (v:=.slice (some ⟨gu,0,none⟩) n cu) HD.out.st.bel (show w.heap.size≤w.heap.size+2 by omega));clear HD;go_simp;refine hK _ _ (Sc.Cl.of L1) ?_;clear hK K c0 c1 f0 f1
 show Sd.wpSd _ _ _ _ _ _ (sto2 Wy (w.heap.size+2) p (.slice (some ⟨gu,0,none⟩) n cu))
 generalize sto2 Wy (w.heap.size+2) p (.slice (some ⟨gu,0,none⟩) n cu)=Wx at *;refine Sd.call (by rfl) (fun K hK=>?_);have d0:Wx.cell? ⟨w.heap.size+3,0,none⟩=some (.int .u8 0):=row_cell R2 0;have d1:Wx.cell? ⟨w.heap.size+3,1,none⟩=some (.int .u8 0):=row_cell R2 1;have d2:Wx.cell? ⟨w.heap.size+3,2,none⟩=some (.int .u8 0):=row_cell R2 2;have d3:Wx.cell? ⟨w.heap.size+3,3,none⟩=some (.int .u8 0):=row_cell R2 3;have k0:=row_frozen R2 0;have k1:=row_frozen R2 1;have k2:=row_frozen R2 2;have k3:=row_frozen R2 3;have L2:Last w p gF (.slice (some ⟨gu,0,none⟩) n cu) (l.set k x) (sto4 Wx (w.heap.size+3) 0 x):=⟨sto4_other L1.1 (by omega),sto4_off L1.2 n2 x⟩;have R3:=Lib.hid (sto4_row R2 x);have R4:=Lib.hid (sto4_other (g:=w.heap.size+3) (o:=0) (r:=x) R1.out (by omega));have B2:=Lib.hid (sto4_below (o:=0) (r:=x) B1.out (show w.heap.size≤w.heap.size+3 by omega));clear R2 R1 B1 L1;go_simp;refine hK _ _ (Sc.Cl.of L2) ?_;clear hK K d0 d1 d2 d3 k0 k1 k2 k3
 show Sd.wpSd _ _ _ _ _ _ (sto4 Wx (w.heap.size+3) 0 x)
 have O2:=Lib.hid L2.2;clear L2;generalize sto4 Wx (w.heap.size+3) 0 x=Ww at *
 repeat (refine Sd.lit ?_;quiet_step (fail);refine wpQuiet_nil ?_)
 refine Sd.done ?_;go_wp2
 (try simp only [Exit.inBlock,Exit.then])
 exact bodyPost_ret (results_do (p:=8) (q:=9) (r:=10) rfl _ _ (w.heap.size+2) (w.heap.size+3) p _ x 0 rfl rfl rfl R4.out R3.out) rfl (EY.out _ _ (O2.out.low (by omega)) B2.out)
set_option maxHeartbeats 1000000 in
theorem rdo_x (w:World) (p:Int) (b off n cap:Nat) (l:List R4) (R:Rd K4 w (.slice (some ⟨b,off,none⟩) n cap) l) (hA:At K4 w b off l) (hl:okL l) (k:Nat) (x:R4) (he:doE p l 2 k=0) (hz0:0 < k) (hq:p / 4 % 2=1) (hn:n=l.length) (hk:k < l.length) (hg:goodF p l):Calls Tryz.prog 113 #[file p (.slice (some ⟨b,off,none⟩) n cap),.int .i64 2,.int .i64 (k:Int),rec4 x] w (DoPost w p l 2 k x):=by
 have S0:Hid (StartR w p (.slice (some ⟨b,off,none⟩) n cap) x (((((w.alloc (.cells #[.int .i64 p,.slice (some ⟨b,off,none⟩) n cap] 65)).alloc (.cells #[.int .u8 x.1,.int .u8 x.2.1,.int .u8 x.2.2.1,.int .u8 x.2.2.2] 96)).alloc (.cells #[.int .i64 0,.slice none 0 0] 65)).alloc (.cells #[.int .u8 0,.int .u8 0,.int .u8 0,.int .u8 0] 96)).alloc (.cells #[.int .i64 0,.slice none 0 0] 65))):=Lib.hid (StartR.of w p _ x);have GR:=Lib.hid (at_bool (show goodFB p l=true from decide_eq_true hg) (rgood_any _ p _ l (R.below S0.out.st.bel)));have E:Hid (∀ y u w',y=newR l 2 k x→Ow K4 w' w.heap.size 96 u (l.set k y)→Below w.heap.size w w'→DoPost w p l 2 k x (.returned (.tuple #[file p u,rec4 y,.int .i64 0])) w'):=fun y u w' hy h hb=>⟨u,by rw [if_pos he,if_pos he,he,hy],by rw [if_pos he,← hy,Int.toNat_natCast];exact h,hb⟩;have HLL:=Lib.hid (And.intro hk (And.intro hn hg.2.2.2.1));have HA:=Lib.hid hA;have OK:=Lib.hid hl;have hkn:k < n:=by omega
 have hkn2:(k:Int) < n:=by omega
 have p0:0≤p:=hg.1;have p1:p≤7:=hg.2.1;clear he R hA hl hn hk hg;unfold file rec4 at *;have hq1:IntKind.i64.wrap (Int.tdiv p 4)=p / 4:=by rw [Int.tdiv_eq_ediv_of_nonneg p0];exact IntWalk.i64_in _ (by omega)
 have hq2:Int.tmod (p / 4) 2=1:=by rw [Int.tmod_eq_emod_of_nonneg (by omega)];exact hq
 clear hq;have hz:¬ (k:Int)=0:=by omega
 have hz2:((k:Int) == 0)=false:=by simpa using hz
 have hz3:0 < (k:Int):=by omega
 go_enter Tryz.func113,Tryz.ntmps113
 go_wp2_with fail;generalize ((((w.alloc (.cells #[.int .i64 p,.slice (some ⟨b,off,none⟩) n cap] 65)).alloc (.cells #[.int .u8 x.1,.int .u8 x.2.1,.int .u8 x.2.2.1,.int .u8 x.2.2.2] 96)).alloc (.cells #[.int .i64 0,.slice none 0 0] 65)).alloc (.cells #[.int .u8 0,.int .u8 0,.int .u8 0,.int .u8 0] 96)).alloc (.cells #[.int .i64 0,.slice none 0 0] 65)=W at *;refine GR.out.mono ?_;rintro e w1 ⟨rfl,b1⟩;have S1:=Lib.hid (S0.out.mono b1);clear b1 S0 GR;have b0:w1.cell? ⟨w.heap.size,0,none⟩=some (.int .i64 p):=row_cell S1.out.st.box 0;have b1':w1.cell? ⟨w.heap.size,1,none⟩=some (.slice (some ⟨b,off,none⟩) n cap):=row_cell S1.out.st.box 1;go_upto_region 9 with fail;have S2:Hid (Start w p (.slice (some ⟨b,off,none⟩) n cap) x (w1.alloc (.cells #[.int .i64 1,.int .i64 2,.int .i64 4] 3))):=Lib.hid (S1.out.st.mono ((Below.refl _ _).alloc (Nat.le_refl _) _));clear b0 b1' S1;generalize w1.alloc (.cells #[.int .i64 1,.int .i64 2,.int .i64 4] 3)=w2 at *;have b0:w2.cell? ⟨w.heap.size,0,none⟩=some (.int .i64 p):=row_cell S2.out.box 0;have b1':w2.cell? ⟨w.heap.size,1,none⟩=some (.slice (some ⟨b,off,none⟩) n cap):=row_cell S2.out.box 1;go_upto_region 11 with fail;clear b0 b1';clear hq1 hq2 hz hz2 hz3;have s0:=Sd.cell_by (show w2.cell? ⟨w.heap.size,0,none⟩=some (.int .i64 p) from row_cell S2.out.box 0);have s1:=Sd.cell_by (show w2.cell? ⟨w.heap.size,1,none⟩=some (.slice (some ⟨b,off,none⟩) n cap) from row_cell S2.out.box 1);refine Sf.start [(0,0),(0,1),(0,3),(0,4),(1,2),(1,5),(0,6),(2,7),(1,8)] [⟨7,13,#[.int .i64 0,.slice none 0 0],65⟩] (by kernel_rfl) (by kernel_rfl) (by kernel_rfl) (by decide) (by decide) ?_ ?_ ?_
 ·simp
 ·intro f hf
  simp only [List.mem_cons,List.not_mem_nil,or_false] at hf;subst hf;exact ⟨_,rfl,rfl,rfl,fun ρ w=>by go_simp⟩
 dsimp only [Sf.picks,List.getElem?_cons_succ,List.getElem?_cons_zero];have BW:=Lib.hid ((Below.refl w2.heap.size w2).drew)
 repeat (refine Sf.lit (fun xs=>?_);simp only [Sf.fill,List.foldl_cons,List.foldl_nil];quiet_step (fail);refine wpQuiet_nil ?_)
 refine Sf.call (fun xs w3 hb hc=>⟨by rfl,fun K hK=>?_⟩);have B3:=Lib.hid (BW.out.trans (hb.mono BW.out.size));clear hb hc BW;simp only [Sf.fill,List.foldl_cons,List.foldl_nil];go_simp;have bz:Below w3.heap.size w3 (w3.alloc (.cells #[] 96)):=(Below.refl _ _).alloc (Nat.le_refl _) _;have B4:=Lib.hid (B3.out.trans (bz.mono B3.out.size));refine hK _ _ (Sd.Cl.of B4.out) bz.size (fun _=>bz) ?_;clear hK K bz;have hs3:=B3.out.size;have h34:w3.heap.size≤(w3.alloc (.cells #[] 96)).heap.size:=by simp
 generalize w3.alloc (.cells #[] 96)=w4 at *;refine Sf.call (fun xs w5 hb hc=>⟨by rfl,fun K hK=>?_⟩);have B5:=Lib.hid (B4.out.trans (hb.mono B4.out.size));have A5:=HA.out.below (S2.out.bel.trans (B5.out.mono (by have:=S2.out.siz;omega)));have h45:=hb.size;clear hb hc B4;simp only [Sf.fill,List.foldl_cons,List.foldl_nil];refine grow_op Tryz.underlying63 infoR rfl (by omega) _ _ rfl _ rfl b off cap l (by rw [← HLL.out.2.1];rfl) A5 (by have:=HLL.out.1;omega) (by have:=HLL.out.2.2;omega) ?_
 intro u w6 o6 b6
 obtain ⟨gu,cu,rfl⟩:=own_form o6 (by have:=HLL.out.1;omega);rw [← HLL.out.2.1] at o6 ⊢;have B6:=Lib.hid (B5.out.trans (b6.mono B5.out.size));have O6:=Lib.hid o6;go_simp;refine hK _ _ (Sd.Cl.of B6.out) b6.size (fun _=>b6) ?_;clear hK K b6 o6 A5
 repeat (refine Sf.lit (fun xs=>?_);simp only [Sf.fill,List.foldl_cons,List.foldl_nil];quiet_step (fail);refine wpQuiet_nil ?_)
 refine Sf.meet (fun gF w7 hb hc row n7 hH hL=>?_);have B7:=Lib.hid (B6.out.trans (hb.mono B6.out.size));have N7:=Lib.hid (O6.out.range (hH _ (List.mem_cons_self ..)));have O7:=Lib.hid (O6.out.keep hb);have R7:Hid (w7.heap[gF]? = some (.cells #[.int .i64 0,.slice none 0 0] 65 (0,0))):=row;have hs5:=B5.out.size;clear hb hc row hH hL B6 O6;refine Sf.call (fun xs w9 hb hc=>⟨by rfl,fun K hK=>?_⟩);have B9:=Lib.hid (B7.out.trans (hb.mono B7.out.size));have O9:=Lib.hid (O7.out.keep hb);have R9:=(hb.block _ (lt_of_block R7.out)).trans R7.out;have c0:w9.cell? ⟨gF,0,none⟩=some (.int .i64 0):=row_cell R9 0;have c1:w9.cell? ⟨gF,1,none⟩=some (.slice none 0 0):=row_cell R9 1;have f0:=row_frozen R9 0;have f1:=row_frozen R9 1;have RA:=sto2_row R9 p (.slice (some ⟨gu,0,none⟩) n cu);have BA:=sto2_below (p:=p) (v:=.slice (some ⟨gu,0,none⟩) n cu) B9.out n7;have OA:=sto2_off (u:=.slice (some ⟨gu,0,none⟩) n cu) O9.out N7.out p;have hs1:=S2.out.siz;have HB:Hid (Have w p (.slice (some ⟨b,off,none⟩) n cap) x gF (.slice (some ⟨gu,0,none⟩) n cu) l (sto2 w9 gF p (.slice (some ⟨gu,0,none⟩) n cu))):=⟨S2.out.mono BA,RA,OA.low (by omega),by omega,N7.out⟩;have hsz:=sto2_size w9 gF p (.slice (some ⟨gu,0,none⟩) n cu);clear hb hc B7 O7 R7 R9 RA OA B9 O9 N7 hs3 h34 h45 hs5 B5 B3;simp only [Sf.fill,List.foldl_nil];go_simp;refine hK _ _ (Sd.Cl.of BA) (by rw [← hsz];exact Nat.le_refl _) (fun h=>absurd rfl h) ?_;clear hK K c0 c1 f0 f1
 show Sf.wpSf _ _ _ _ _ _ _ _ _ _ (sto2 w9 gF p (.slice (some ⟨gu,0,none⟩) n cu))
 clear BA hsz;generalize sto2 w9 gF p (.slice (some ⟨gu,0,none⟩) n cu)=wA at *;refine Sf.done (fun wB hb hc=>?_);have HV:=Lib.hid (HB.out.mono hb);clear hb hc HB s0 s1 n7 hs1;have EY:Hid (∀ u w',Ow K4 w' w.heap.size 96 u (l.set k (inc (rat l k)))→Below w.heap.size w w'→DoPost w p l 2 k x (.returned (.tuple #[file p u,rec4 (inc (rat l k)),.int .i64 0])) w'):=fun u w'=>E.out _ u w' (by unfold newR;rw [if_neg (by decide),if_pos rfl,Int.toNat_natCast]);have hy:=okR_at OK.out k;obtain ⟨⟨c0,c1,c2,c3⟩,hfr,_,_⟩:=own4 HV.out.own k HLL.out.1;have r1:wB.cell? ⟨gF,1,none⟩=some (.slice (some ⟨gu,0,none⟩) n cu):=row_cell HV.out.row 1;clear E hfr;obtain ⟨r,hr⟩:∃ r,rat l k=r:=⟨_,rfl⟩;rw [hr] at hy EY c0 c1 c2 c3;go_upto_region 17 with fail;have hEX:((r.fst % 4294967296 * 16777216+r.snd.fst % 4294967296 * 65536+r.snd.snd.fst % 4294967296 * 256+r.snd.snd.snd) % 4294967296+1) % 4294967296=(num r+1) % 4294967296:=by
  obtain ⟨⟨x0,x1⟩,⟨y0,y1⟩,⟨v0,v1⟩,u0,u1⟩:=hy;unfold num
  omega
 rw [hEX];clear hEX hy;obtain ⟨N,hN⟩:∃ N,(num r+1) % 4294967296=N:=⟨_,rfl⟩;have N0:0≤N:=by omega
 have N1:N < 4294967296:=by omega
 have hi:inc r=bytes N:=by unfold inc;rw [hN]
 rw [hN];rw [hi] at EY;clear hN hi;have t1:Int.tdiv N 16777216=N / 16777216:=Int.tdiv_eq_ediv_of_nonneg N0;have t2:Int.tdiv N 65536=N / 65536:=Int.tdiv_eq_ediv_of_nonneg N0;have t3:Int.tdiv N 256=N / 256:=Int.tdiv_eq_ediv_of_nonneg N0;have HV2:Hid (Have w p (.slice (some ⟨b,off,none⟩) n cap) x gF (.slice (some ⟨gu,0,none⟩) n cu) l (wB.alloc (.cells #[.int .u8 r.1,.int .u8 r.2.1,.int .u8 r.2.2.1,.int .u8 r.2.2.2] 96))):=HV.out.mono ((Below.refl _ _).alloc (Nat.le_refl _) _);clear HV c0 c1 c2 c3 r1;generalize wB.alloc (.cells #[.int .u8 r.1,.int .u8 r.2.1,.int .u8 r.2.2.1,.int .u8 r.2.2.2] 96)=wC at *;have r1:wC.cell? ⟨gF,1,none⟩=some (.slice (some ⟨gu,0,none⟩) n cu):=row_cell HV2.out.row 1;obtain ⟨⟨c0,c1,c2,c3⟩,hfr,_,_⟩:=own4 HV2.out.own k HLL.out.1;have f0:=hfr (k * 4);have f1:=hfr (k * 4+1);have f2:=hfr (k * 4+2);have f3:=hfr (k * 4+3);clear hfr;have HP:=Lib.hid (HV2.out.put HLL.out.2.1 k HLL.out.1 (bytes N));clear HV2;go_upto_region 18 with fail;clear c0 c1 c2 c3 f0 f1 f2 f3 r1 t1 t2 t3
 show Code.wp _ _ _ _ (sto4 wC gu (k * 4) (bytes N))
 generalize bytes N=y at *;generalize sto4 wC gu (k * 4) y=Wz at *;have HV:=HP;clear HP;obtain ⟨⟨c0,c1,c2,c3⟩,_,_,_⟩:=own4 HV.out.own k (by rw [List.length_set];exact HLL.out.1);rw [rat_set l k HLL.out.1] at c0 c1 c2 c3;have C0:Last w p gF (.slice (some ⟨gu,0,none⟩) n cu) (l.set k y) Wz.drew:=⟨HV.out.row,HV.out.own⟩;have r0:=Sc.cell_in (C:=Last w p gF (.slice (some ⟨gu,0,none⟩) n cu) (l.set k y)) (a:=⟨gF,0,none⟩) (fun W' h=>row_cell h.1 0);have r1:=Sc.cell_in (C:=Last w p gF (.slice (some ⟨gu,0,none⟩) n cu) (l.set k y)) (a:=⟨gF,1,none⟩) (fun W' h=>row_cell h.1 1);have HQ:Hid (∀ W',Last w p gF (.slice (some ⟨gu,0,none⟩) n cu) (l.set k y) W'→(W'.cell? ⟨gu,k * 4,none⟩=some (.int .u8 y.1)∧W'.cell? ⟨gu,k * 4+1,none⟩=some (.int .u8 y.2.1)∧W'.cell? ⟨gu,k * 4+2,none⟩=some (.int .u8 y.2.2.1)∧W'.cell? ⟨gu,k * 4+3,none⟩=some (.int .u8 y.2.2.2))):=fun W' h=>by
  have:=(own4 h.2 k (by rw [List.length_set];exact HLL.out.1)).1;rw [rat_set l k HLL.out.1] at this;exact this
 have q0:=Sc.cell_in (C:=Last w p gF (.slice (some ⟨gu,0,none⟩) n cu) (l.set k y)) (fun W' h=>(HQ.out W' h).1);have q1:=Sc.cell_in (C:=Last w p gF (.slice (some ⟨gu,0,none⟩) n cu) (l.set k y)) (fun W' h=>(HQ.out W' h).2.1);have q2:=Sc.cell_in (C:=Last w p gF (.slice (some ⟨gu,0,none⟩) n cu) (l.set k y)) (fun W' h=>(HQ.out W' h).2.2.1);have q3:=Sc.cell_in (C:=Last w p gF (.slice (some ⟨gu,0,none⟩) n cu) (l.set k y)) (fun W' h=>(HQ.out W' h).2.2.2);have ne:Nonempty (Sc.In (Last w p gF (.slice (some ⟨gu,0,none⟩) n cu) (l.set k y))):=⟨⟨_,C0⟩⟩;clear c0 c1 c2 c3 HQ;refine Sc.start (Last w p gF (.slice (some ⟨gu,0,none⟩) n cu) (l.set k y)) [(false,0),(false,1),(false,2),(false,3),(false,4),(false,5),(true,6),(true,7),(false,8)] (by kernel_rfl) (by kernel_rfl) (by kernel_rfl) C0 ?_;dsimp only [Sd.picks,List.getElem?_cons_succ,List.getElem?_cons_zero]
 repeat (refine Sd.lit ?_;quiet_step (fail);refine wpQuiet_nil ?_)
 have HD:Hid (Have w p (.slice (some ⟨b,off,none⟩) n cap) x gF (.slice (some ⟨gu,0,none⟩) n cu) (l.set k y) Wz.drew):=HV.out.mono ((Below.refl _ _).drew);clear HV r0 r1 q0 q1 q2 q3 C0;generalize Wz.drew=Wy at *;refine Sd.call (by rfl) (fun K hK=>?_);have c0:Wy.cell? ⟨w.heap.size+2,0,none⟩=some (.int .i64 0):=row_cell HD.out.st.res1 0;have c1:Wy.cell? ⟨w.heap.size+2,1,none⟩=some (.slice none 0 0):=row_cell HD.out.st.res1 1;have f0:=row_frozen HD.out.st.res1 0;have f1:=row_frozen HD.out.st.res1 1;have hge:=(own4 HD.out.own k (by rw [List.length_set];exact HLL.out.1)).2.2.1;have hF:=HD.out.ge;have n1:(Value.slice (some ⟨gu,0,none⟩) n cu).ownBlock≠some (w.heap.size+2):=fun e=>by simp [Value.ownBlock] at e;omega
 have n2:(Value.slice (some ⟨gu,0,none⟩) n cu).ownBlock≠some (w.heap.size+3):=fun e=>by simp [Value.ownBlock] at e;omega
 have L1:Last w p gF (.slice (some ⟨gu,0,none⟩) n cu) (l.set k y) (sto2 Wy (w.heap.size+2) p (.slice (some ⟨gu,0,none⟩) n cu)):=⟨sto2_other HD.out.row (by omega),sto2_off HD.out.own n1 p⟩;have R1:=Lib.hid (sto2_row HD.out.st.res1 p (.slice (some ⟨gu,0,none⟩) n cu));have R2:=sto2_other (g:=w.heap.size+2) (p:=p) (v:=.slice (some ⟨gu,0,none⟩) n cu) HD.out.st.res2 (by omega);have B1:=Lib.hid (sto2_below (p:=p) (v:=.slice (some ⟨gu,0,none⟩) n cu) HD.out.st.bel (show w.heap.size≤w.heap.size+2 by omega));clear HD;go_simp;refine hK _ _ (Sc.Cl.of L1) ?_;clear hK K c0 c1 f0 f1
 show Sd.wpSd _ _ _ _ _ _ (sto2 Wy (w.heap.size+2) p (.slice (some ⟨gu,0,none⟩) n cu))
 generalize sto2 Wy (w.heap.size+2) p (.slice (some ⟨gu,0,none⟩) n cu)=Wx at *;refine Sd.call (by rfl) (fun K hK=>?_);have d0:Wx.cell? ⟨w.heap.size+3,0,none⟩=some (.int .u8 0):=row_cell R2 0;have d1:Wx.cell? ⟨w.heap.size+3,1,none⟩=some (.int .u8 0):=row_cell R2 1;have d2:Wx.cell? ⟨w.heap.size+3,2,none⟩=some (.int .u8 0):=row_cell R2 2;have d3:Wx.cell? ⟨w.heap.size+3,3,none⟩=some (.int .u8 0):=row_cell R2 3;have k0:=row_frozen R2 0;have k1:=row_frozen R2 1;have k2:=row_frozen R2 2;have k3:=row_frozen R2 3;have L2:Last w p gF (.slice (some ⟨gu,0,none⟩) n cu) (l.set k y) (sto4 Wx (w.heap.size+3) 0 y):=⟨sto4_other L1.1 (by omega),sto4_off L1.2 n2 y⟩;have R3:=Lib.hid (sto4_row R2 y);have R4:=Lib.hid (sto4_other (g:=w.heap.size+3) (o:=0) (r:=y) R1.out (by omega));have B2:=Lib.hid (sto4_below (o:=0) (r:=y) B1.out (show w.heap.size≤w.heap.size+3 by omega));clear R2 R1 B1 L1;go_simp;refine hK _ _ (Sc.Cl.of L2) ?_;clear hK K d0 d1 d2 d3 k0 k1 k2 k3
 show Sd.wpSd _ _ _ _ _ _ (sto4 Wx (w.heap.size+3) 0 y)
 have O2:=Lib.hid L2.2;clear L2;generalize sto4 Wx (w.heap.size+3) 0 y=Ww at *
 repeat (refine Sd.lit ?_;quiet_step (fail);refine wpQuiet_nil ?_)
 refine Sd.done ?_;go_wp2
 (try simp only [Exit.inBlock,Exit.then])
 exact bodyPost_ret (results_do (p:=8) (q:=9) (r:=10) rfl _ _ (w.heap.size+2) (w.heap.size+3) p _ y 0 rfl rfl rfl R4.out R3.out) rfl (EY.out _ _ (O2.out.low (by omega)) B2.out)
theorem rdo_any (w:World) (p:Int) (v:Value) (l:List R4) (R:Rd K4 w v l) (hl:okL l) (op rec:Int) (x:R4):Calls Tryz.prog 113 #[file p v,.int .i64 op,.int .i64 rec,rec4 x] w (DoPost w p l op rec x):=by
 obtain ⟨a,cap,rfl,_⟩:=R.slice
 by_cases hg:goodF p l
 ·by_cases ho:0≤op∧op≤2
  ·by_cases hr:0≤rec∧rec < l.length
   ·by_cases hk:rec=0∧op=0∨0 < rec∧p / need op % 2=1
    ·have he:=doE_0 hg ho hr hk
     obtain ⟨k,rfl⟩:∃ k:Nat,rec=k:=⟨rec.toNat,by omega⟩;have hkl:k < l.length:=by omega
     obtain ⟨b,off,rfl,hA⟩:∃ b off,a=some ⟨b,off,none⟩∧At K4 w b off l:=by
      obtain ⟨a',cap',e,_,_,h4⟩:=R;injection e with e1 e2 e3;subst e1;exact h4 (by omega)
     rcases yes4 he with ⟨rfl,h0⟩ | ⟨rfl,h0,hq⟩ | ⟨rfl,h0,hq⟩ | ⟨rfl,h0,hq⟩
     ·exact rdo_h w p b off _ cap l R hA hl k x he h0 rfl hkl hg
     ·exact rdo_r w p b off _ cap l R hA hl k x he h0 hq rfl hkl hg
     ·exact rdo_w w p b off _ cap l R hA hl k x he h0 hq rfl hkl hg
     ·exact rdo_x w p b off _ cap l R hA hl k x he h0 hq rfl hkl hg
    ·exact rdo_5 w p a _ cap l R op rec x hg ho hr hk
   ·exact rdo_4 w p a _ cap l R op rec x hg ho hr
  ·exact rdo_1 w p a _ cap l R op rec x hg ho
 ·exact rdo_2 w p a _ cap l R op rec x hg
end Go.Proofs.YtpkipilggkbkeaaGreatDoor.Fl
namespace Go.Proofs.YtpkipilggkbkeaaGreatDoor.Fs
open Go.RowKit Go.Maps
open Fl (R4 z4 K4 rec4 rat goodF goodFB okR okL doE newR file arr4 sto2 sto4 sto2_row sto2_other sto2_below sto2_size sto2_off sto4_row sto4_other sto4_below sto4_size sto4_off row_cell row_frozen rdo_any)
open Ad (goodB)
open Rw (Rd Ow At)
set_option maxRecDepth 100000
attribute [local irreducible] Sd.wpSd wpQuiet Sf.wpSf
theorem rdo_err (w:World) (p:Int) (v:Value) (l:List R4) (R:Rd K4 w v l) (hl:okL l) (o r k:Int) (x:R4) (he:doE p l o r=k) (hk:k≠0):Calls Tryz.prog 113 #[file p v,.int .i64 o,.int .i64 r,rec4 x] w fun e w'=>∃ a cap,e = .returned (.tuple #[file 0 (.slice a 0 cap),rec4 z4,.int .i64 k])∧Below w.heap.size w w' :=
 (rdo_any w p v l R hl o r x).mono fun e w' ⟨u,h1,h2,h3⟩=>by
   rw [he,if_neg hk] at h2;obtain ⟨a,cap,rfl,_⟩:=h2.slice;rw [he,if_neg hk,if_neg hk] at h1;exact ⟨a,cap,h1,h3⟩
theorem rdo_ok (w:World) (p:Int) (v:Value) (l:List R4) (R:Rd K4 w v l) (hl:okL l) (o r:Int) (x:R4) (he:doE p l o r=0):Calls Tryz.prog 113 #[file p v,.int .i64 o,.int .i64 r,rec4 x] w fun e w'=>∃ a cap,e = .returned (.tuple #[file p (.slice a l.length cap),rec4 (newR l o r x),.int .i64 0])∧Ow K4 w' w.heap.size 96 (.slice a l.length cap) (l.set r.toNat (newR l o r x))∧Below w.heap.size w w' :=
 (rdo_any w p v l R hl o r x).mono fun e w' ⟨u,h1,h2,h3⟩=>by
   rw [he,if_pos rfl] at h2;obtain ⟨a,cap,rfl,_⟩:=h2.slice;rw [List.length_set] at h1 h2;rw [he,if_pos rfl,if_pos rfl] at h1;exact ⟨a,cap,h1,h2,h3⟩
def RDPost (w:World) (r:Nat) (F:Nat→Prop) (d:Int) (y:R4) (k:Int) (A':Abs) (e:Ending) (w':World):Prop:=e = .returned (.tuple #[rec4 y,.int .i64 k])∧Rs w' r F A' d∧Only (fun k=>k=r) w w'
set_option maxHeartbeats 1000000 in
theorem rdos_1 (w:World) (s:Nat) (o f j:Int) (x:R4) (hn:goodB o f j=false):Calls Tryz.prog 76 #[.pointer (some ⟨s,0,none⟩),Ad.addr o f j,rec4 x] w (DoNo w 1):=by
 have A0:=ask0_of w o f j x;have S0:Hid (Ask0 w o f j x (((w.alloc (.cells #[.int .i64 o,.int .i64 f,.int .i64 j] 137)).alloc (.cells #[.int .u8 x.1,.int .u8 x.2.1,.int .u8 x.2.2.1,.int .u8 x.2.2.2] 96)).alloc (.cells #[.int .u8 0,.int .u8 0,.int .u8 0,.int .u8 0] 96))):=A0;have GA:∀ W,Calls Tryz.prog 112 #[Ad.addr o f j] W fun e w'=>e = .returned (.bool false)∧Below W.heap.size W w':=fun W=>by have:=Ad.rgood_any W o f j;rwa [hn] at this
 have HG:=Lib.hid GA;clear A0 GA hn;unfold rec4;unfold Ad.addr at *;have AC:=S0.out;have a0:=row_cell AC.adr 0;have a1:=row_cell AC.adr 1;have a2:=row_cell AC.adr 2;clear AC
 go_enter Tryz.func76,Tryz.ntmps76
 go_wp2_with fail;clear a0 a1 a2;generalize (((w.alloc (.cells #[.int .i64 o,.int .i64 f,.int .i64 j] 137)).alloc (.cells #[.int .u8 x.1,.int .u8 x.2.1,.int .u8 x.2.2.1,.int .u8 x.2.2.2] 96)).alloc (.cells #[.int .u8 0,.int .u8 0,.int .u8 0,.int .u8 0] 96))=W at *;refine (HG.out _).mono ?_;rintro e w1 ⟨rfl,b1⟩;have S1:=Lib.hid (S0.out.mono b1);clear b1 HG S0;have d0:w1.cell? ⟨w.heap.size+2,0,none⟩=some (.int .u8 0):=row_cell S1.out.res 0;have d1:w1.cell? ⟨w.heap.size+2,1,none⟩=some (.int .u8 0):=row_cell S1.out.res 1;have d2:w1.cell? ⟨w.heap.size+2,2,none⟩=some (.int .u8 0):=row_cell S1.out.res 2;have d3:w1.cell? ⟨w.heap.size+2,3,none⟩=some (.int .u8 0):=row_cell S1.out.res 3;have k0:=row_frozen S1.out.res 0;have k1:=row_frozen S1.out.res 1;have k2:=row_frozen S1.out.res 2;have k3:=row_frozen S1.out.res 3;have R3:=Lib.hid (sto4_row S1.out.res z4);have B3:=Lib.hid (sto4_below (o:=0) (r:=z4) S1.out.bel (show w.heap.size≤w.heap.size+2 by omega));clear S1;go_wp2
 (try simp only [Exit.inBlock,Exit.then])
 exact bodyPost_ret (results_rec (p:=6) (r:=7) rfl _ _ (w.heap.size+2) z4 (.int .i64 1) rfl rfl R3.out) rfl ⟨rfl,B3.out⟩
set_option maxHeartbeats 1000000 in
theorem rdos_3 {w:World} {r:Nat} {F:Nat→Prop} {v:Value} {L:List Ent} {d:Int} (R:Rst w r F v L d) (o f j:Int) (x:R4) (hn:goodB o f j=true) (hq:Ix L f (-1)):Calls Tryz.prog 76 #[.pointer (some ⟨r,0,none⟩),Ad.addr o f j,rec4 x] w (DoNo w 3):=by
 have IX:=Lib.hid (fun W (hb:Below w.heap.size w W)=>rix_any (R.below hb) hq);clear hq R;have A0:=ask0_of w o f j x;have S0:Hid (Ask0 w o f j x (((w.alloc (.cells #[.int .i64 o,.int .i64 f,.int .i64 j] 137)).alloc (.cells #[.int .u8 x.1,.int .u8 x.2.1,.int .u8 x.2.2.1,.int .u8 x.2.2.2] 96)).alloc (.cells #[.int .u8 0,.int .u8 0,.int .u8 0,.int .u8 0] 96))):=A0;have GA:∀ W,Calls Tryz.prog 112 #[Ad.addr o f j] W fun e w'=>e = .returned (.bool true)∧Below W.heap.size W w':=fun W=>by have:=Ad.rgood_any W o f j;rwa [hn] at this
 have HG:=Lib.hid GA;clear A0 GA hn;unfold rec4;unfold Ad.addr at *;have AC:=S0.out;have a0:=row_cell AC.adr 0;have a1:=row_cell AC.adr 1;have a2:=row_cell AC.adr 2;clear AC
 go_enter Tryz.func76,Tryz.ntmps76
 go_wp2_with fail;clear a0 a1 a2;generalize (((w.alloc (.cells #[.int .i64 o,.int .i64 f,.int .i64 j] 137)).alloc (.cells #[.int .u8 x.1,.int .u8 x.2.1,.int .u8 x.2.2.1,.int .u8 x.2.2.2] 96)).alloc (.cells #[.int .u8 0,.int .u8 0,.int .u8 0,.int .u8 0] 96))=W at *;refine (HG.out _).mono ?_;rintro e w1 ⟨rfl,b1⟩;have S1:=Lib.hid (S0.out.mono b1);clear b1 HG S0;have a1:w1.cell? ⟨w.heap.size,1,none⟩=some (.int .i64 f):=row_cell S1.out.adr 1;go_wp2_with fail;refine (IX.out _ S1.out.bel).mono ?_;rintro e w2 ⟨rfl,b2⟩;have S2:=Lib.hid (S1.out.mono b2);clear b2 IX S1 a1;have d0:w2.cell? ⟨w.heap.size+2,0,none⟩=some (.int .u8 0):=row_cell S2.out.res 0;have d1:w2.cell? ⟨w.heap.size+2,1,none⟩=some (.int .u8 0):=row_cell S2.out.res 1;have d2:w2.cell? ⟨w.heap.size+2,2,none⟩=some (.int .u8 0):=row_cell S2.out.res 2;have d3:w2.cell? ⟨w.heap.size+2,3,none⟩=some (.int .u8 0):=row_cell S2.out.res 3;have k0:=row_frozen S2.out.res 0;have k1:=row_frozen S2.out.res 1;have k2:=row_frozen S2.out.res 2;have k3:=row_frozen S2.out.res 3;have R3:=Lib.hid (sto4_row S2.out.res z4);have B3:=Lib.hid (sto4_below (o:=0) (r:=z4) S2.out.bel (show w.heap.size≤w.heap.size+2 by omega));clear S2;go_wp2
 (try simp only [Exit.inBlock,Exit.then])
 exact bodyPost_ret (results_rec (p:=6) (r:=7) rfl _ _ (w.heap.size+2) z4 (.int .i64 3) rfl rfl R3.out) rfl ⟨rfl,B3.out⟩
set_option maxHeartbeats 4000000 in
theorem rdos_err {w:World} {r:Nat} {F:Nat→Prop} {v:Value} {L:List Ent} {d:Int} (R:Rst w r F v L d) (o f j k:Int) (x:R4) (hn:goodB o f j=true) {i:Nat} {c:Ent} (hi:L[i]? = some c) (hq:Ix L f i) (he:doE c.p c.l o j=k) (h0:k≠0) (hd:0≤d∧d < 1000000) (d':Int) (hd':d'=if k=5 then d+1 else d) :
 Calls Tryz.prog 76 #[.pointer (some ⟨r,0,none⟩),Ad.addr o f j,rec4 x] w (RDPost w r F d' z4 k (L.map Ent.abs)):=by
 have IX:=Lib.hid (fun W (hb:Below w.heap.size w W)=>rix_any (R.below hb) hq);have RR:=Lib.hid R;have hlen:=R.len;have hil:i < L.length:=(List.getElem?_eq_some_iff.1 hi).1;have hrl:r < w.heap.size:=lt_of_block R.row;have hmem:=List.mem_of_getElem? hi;have hcm:c.abs∈L.map Ent.abs:=List.mem_map_of_mem hmem;have FR:=Lib.hid (R.list.file c hmem);have FO:=Lib.hid (R.list.foff c hmem);have OKC:=Lib.hid (R.ok.ok _ hcm);have HI:=Lib.hid hi;obtain ⟨va,vcap,rfl,_,_,h3⟩:=R.list.rd;obtain ⟨b,off,rfl,hA⟩:=h3 (by omega);have A3:=Lib.hid (at3 hA hi);have CR:=Lib.hid (row_cell R.row 0);have A0:=ask0_of w o f j x;have S0:Hid (Ask0 w o f j x (((w.alloc (.cells #[.int .i64 o,.int .i64 f,.int .i64 j] 137)).alloc (.cells #[.int .u8 x.1,.int .u8 x.2.1,.int .u8 x.2.2.1,.int .u8 x.2.2.2] 96)).alloc (.cells #[.int .u8 0,.int .u8 0,.int .u8 0,.int .u8 0] 96))):=A0;have GA:∀ W,Calls Tryz.prog 112 #[Ad.addr o f j] W fun e w'=>e = .returned (.bool true)∧Below W.heap.size W w':=fun W=>by have:=Ad.rgood_any W o f j;rwa [hn] at this
 have HG:=Lib.hid GA;clear A0 GA hn;have DO:=Lib.hid (fun W (hb:Below w.heap.size w W)=>rdo_err W c.p c.sl c.l (FR.out.below hb) OKC.out o j k x he h0);have hk1:(k == 0)=false:=by simpa using h0
 have HD:=Lib.hid hd';have W0:IntKind.i64.wrap (d+1)=d+1:=IntWalk.i64_in _ (by omega);clear R hi hq h3 hA hmem hcm he h0 hd hd' FR FO;unfold Ent.sl at A3 DO;generalize hN:L.length=N at *;have HN:=Lib.hid hN;generalize hQ:c.l.length=q at *;clear hN hQ;unfold file rec4 at DO;unfold rec4;unfold Ad.addr at *;have AC:=S0.out;have a0:=row_cell AC.adr 0;have a1:=row_cell AC.adr 1;have a2:=row_cell AC.adr 2;clear AC
 go_enter Tryz.func76,Tryz.ntmps76
 go_wp2_with fail;clear a0 a1 a2;generalize (((w.alloc (.cells #[.int .i64 o,.int .i64 f,.int .i64 j] 137)).alloc (.cells #[.int .u8 x.1,.int .u8 x.2.1,.int .u8 x.2.2.1,.int .u8 x.2.2.2] 96)).alloc (.cells #[.int .u8 0,.int .u8 0,.int .u8 0,.int .u8 0] 96))=W at *;refine (HG.out _).mono ?_;rintro e w1 ⟨rfl,b1⟩;have S1:=Lib.hid (S0.out.mono b1);clear b1 HG S0;have a1:w1.cell? ⟨w.heap.size,1,none⟩=some (.int .i64 f):=row_cell S1.out.adr 1;go_wp2_with fail;refine (IX.out _ S1.out.bel).mono ?_;rintro e w2 ⟨rfl,b2⟩;have S2:=Lib.hid (S1.out.mono b2);clear b2 IX S1 a1;have hi0:¬ ((i:Int) < 0):=by omega
 go_wp2_with fail;have CELL:=Lib.hid (fun (p:Addr) (u:Value) (h:w.cell? p=some u)=>(S2.out.bel.cell (World.block_lt_of_cell? _ _ h)).trans h);have s0:=Sd.cell_by (show w2.cell? ⟨r,0,none⟩=some (.slice (some ⟨b,off,none⟩) N vcap) from CELL.out _ _ CR.out);have s1:=Sd.cell_by (CELL.out _ _ A3.out.2.1);have s2:=Sd.cell_by (show w2.cell? ⟨b,off+i * 3+2,none⟩=some (.slice c.a q c.cap) from CELL.out _ _ A3.out.2.2);have s3:=Sd.cell_by (show w2.cell? ⟨w.heap.size,0,none⟩=some (.int .i64 o) from row_cell S2.out.adr 0);have s4:=Sd.cell_by (show w2.cell? ⟨w.heap.size,2,none⟩=some (.int .i64 j) from row_cell S2.out.adr 2);have s5:=Sd.cell_by (show w2.cell? ⟨w.heap.size+1,0,none⟩=some (.int .u8 x.1) from row_cell S2.out.arg 0);have s6:=Sd.cell_by (show w2.cell? ⟨w.heap.size+1,1,none⟩=some (.int .u8 x.2.1) from row_cell S2.out.arg 1);have s7:=Sd.cell_by (show w2.cell? ⟨w.heap.size+1,2,none⟩=some (.int .u8 x.2.2.1) from row_cell S2.out.arg 2);have s8:=Sd.cell_by (show w2.cell? ⟨w.heap.size+1,3,none⟩=some (.int .u8 x.2.2.2) from row_cell S2.out.arg 3);refine Sf.start [(0,0),(0,1),(0,2),(0,3),(0,4),(0,5),(0,6),(0,7),(0,8),(0,9),(0,10),(0,11),(0,12),(1,13),(0,14),(0,15),(0,16),(0,17),(2,18),(2,19),(1,20),(1,21),(0,22)] [⟨18,9,#[.int .i64 0,.slice none 0 0],65⟩,⟨19,10,#[.int .u8 0,.int .u8 0,.int .u8 0,.int .u8 0],96⟩] (by kernel_rfl) (by kernel_rfl) (by kernel_rfl) (by decide) (by decide) ?_ ?_ ?_
 ·simp
 ·intro f hf
  simp only [List.mem_cons,List.not_mem_nil,or_false] at hf
  rcases hf with rfl | rfl
  ·exact ⟨_,rfl,rfl,rfl,fun ρ w=>by go_simp⟩
  ·exact ⟨_,rfl,rfl,rfl,fun ρ w=>by go_simp⟩
 dsimp only [Sf.picks,List.getElem?_cons_succ,List.getElem?_cons_zero];have BW:=Lib.hid ((Below.refl w2.heap.size w2).drew)
 repeat (refine Sf.lit (fun xs=>?_);simp only [Sf.fill,List.foldl_cons,List.foldl_nil];quiet_step (fail);refine wpQuiet_nil ?_)
 refine Sf.call (fun xs w3 hb hc=>⟨by rfl,fun K hK=>?_⟩);have B3:=Lib.hid (BW.out.trans (hb.mono BW.out.size));clear hb hc BW s0 s1 s2 s3 s4 s5 s6 s7 s8;simp only [Sf.fill,List.foldl_cons,List.foldl_nil];go_simp;have DOW:=DO.out w3 (S2.out.bel.trans (B3.out.mono S2.out.bel.size));refine DOW.mono ?_;rintro e w4 ⟨ua,ucap,rfl,b4⟩;have B4:=Lib.hid (B3.out.trans (b4.mono B3.out.size));refine hK _ _ (Sd.Cl.of B4.out) b4.size (fun _=>b4) ?_;clear hK K DOW
 repeat (refine Sf.lit (fun xs=>?_);simp only [Sf.fill,List.foldl_cons,List.foldl_nil];quiet_step (fail);refine wpQuiet_nil ?_)
 refine Sf.meet (fun g9 w5 hb hc row n9 hH hL=>?_);have B5:=Lib.hid (B4.out.trans (hb.mono B4.out.size));have R5:Hid (w5.heap[g9]? = some (.cells #[.int .i64 0,.slice none 0 0] 65 (0,0))):=row;clear hb hc row hH hL B4;refine Sf.meet (fun g10 w6 hb hc row n10 hH hL=>?_);have B6:=Lib.hid (B5.out.trans (hb.mono B5.out.size));have Q6:Hid (w6.heap[g10]? = some (.cells (arr4 z4) 96 (0,0))):=row;have R6:=Lib.hid ((hb.block _ (lt_of_block R5.out)).trans R5.out);have D9:g10≠g9:=fun e=>hL (by rw [e];exact List.mem_cons_self ..);clear hb hc row hH hL B5 R5;refine Sf.call (fun xs w7 hb hc=>⟨by rfl,fun K hK=>?_⟩);have B7:=Lib.hid (B6.out.trans (hb.mono B6.out.size));have Q7:=(hb.block _ (lt_of_block Q6.out)).trans Q6.out;have R7:=(hb.block _ (lt_of_block R6.out)).trans R6.out;have c0:w7.cell? ⟨g9,0,none⟩=some (.int .i64 0):=row_cell R7 0;have c1:w7.cell? ⟨g9,1,none⟩=some (.slice none 0 0):=row_cell R7 1;have f0:=row_frozen R7 0;have f1:=row_frozen R7 1;have R8:=Lib.hid (sto2_row R7 0 (.slice ua 0 ucap));have Q8:=Lib.hid (sto2_other (g:=g9) (p:=0) (v:=.slice ua 0 ucap) Q7 D9);have B8:=Lib.hid (sto2_below (p:=0) (v:=.slice ua 0 ucap) B7.out n9);have hsz:=sto2_size w7 g9 0 (.slice ua 0 ucap);clear hb hc B6 B7 Q6 Q7 R6 R7;simp only [Sf.fill,List.foldl_nil];go_simp;refine hK _ _ (Sd.Cl.of B8.out) (by rw [← hsz];exact Nat.le_refl _) (fun h=>absurd rfl h) ?_;clear hK K c0 c1 f0 f1 hsz
 show Sf.wpSf _ _ _ _ _ _ _ _ _ _ (sto2 w7 g9 0 (.slice ua 0 ucap))
 generalize sto2 w7 g9 0 (.slice ua 0 ucap)=w8 at *;refine Sf.call (fun xs w9 hb hc=>⟨by rfl,fun K hK=>?_⟩);have B9:=Lib.hid (B8.out.trans (hb.mono B8.out.size));have Q9:=(hb.block _ (lt_of_block Q8.out)).trans Q8.out;have R9:=(hb.block _ (lt_of_block R8.out)).trans R8.out;have c0:w9.cell? ⟨g10,0,none⟩=some (.int .u8 0):=row_cell Q9 0;have c1:w9.cell? ⟨g10,1,none⟩=some (.int .u8 0):=row_cell Q9 1;have c2:w9.cell? ⟨g10,2,none⟩=some (.int .u8 0):=row_cell Q9 2;have c3:w9.cell? ⟨g10,3,none⟩=some (.int .u8 0):=row_cell Q9 3;have f0:=row_frozen Q9 0;have f1:=row_frozen Q9 1;have f2:=row_frozen Q9 2;have f3:=row_frozen Q9 3;have QA:=Lib.hid (sto4_row Q9 z4);have RA:=Lib.hid (sto4_other (g:=g10) (o:=0) (r:=z4) R9 (fun e=>D9 e.symm));have BA:=Lib.hid (sto4_below (o:=0) (r:=z4) B9.out n10);have hsz:=sto4_size w9 g10 0 z4;clear hb hc B8 B9 Q8 Q9 R8 R9;simp only [Sf.fill,List.foldl_nil];go_simp;refine hK _ _ (Sd.Cl.of BA.out) (by rw [← hsz];exact Nat.le_refl _) (fun h=>absurd rfl h) ?_;clear hK K c0 c1 c2 c3 f0 f1 f2 f3 hsz
 show Sf.wpSf _ _ _ _ _ _ _ _ _ _ (sto4 w9 g10 0 z4)
 generalize sto4 w9 g10 0 z4=wA at *
 repeat (refine Sf.lit (fun xs=>?_);simp only [Sf.fill,List.foldl_nil];quiet_step (fail);refine wpQuiet_nil ?_)
 refine Sf.done (fun wB hb hc=>?_);have BX:=Lib.hid (BA.out.trans (hb.mono BA.out.size));have G9:=Lib.hid ((hb.block _ (lt_of_block RA.out)).trans RA.out);have G10:=Lib.hid ((hb.block _ (lt_of_block QA.out)).trans QA.out);have S3:=Lib.hid (S2.out.mono BX.out);clear hb hc BA RA QA CELL;clear G9 G10 D9 n9 n10 BX S2;have hrow:Hid (wB.heap[r]? = _):=(S3.out.bel.block r hrl).trans RR.out.row
 by_cases h5:k=5
 ·subst h5
  have c1:wB.cell? ⟨r,1,none⟩=some (.int .i64 d):=row_cell hrow.out 1;have f1:=row_frozen hrow.out 1;have Rw':=Lib.hid (Rw.heap_setCell_same (j:=1) hrow.out (.int .i64 (d+1)));have Rs':=Lib.hid ((Below.heap_setCell wB ⟨r,1,none⟩ (.int .i64 (d+1)) (w.heap.size+2) (by show w.heap.size+2≠r;omega)).trans S3.out.res);have OO:Hid (Only (fun k=>k=r) w (wB.setCell ⟨r,1,none⟩ (.int .i64 (d+1)))):=(Only.of_below S3.out.bel).trans (Only.set (fun k=>k=r) wB (a:=⟨r,1,none⟩) rfl _) fun _ _ g=>g;go_upto_region 10 with fail;clear c1 f1 S3 hrow;generalize wB.setCell ⟨r,1,none⟩ (.int .i64 (d+1))=wC at *;have d0:wC.cell? ⟨w.heap.size+2,0,none⟩=some (.int .u8 0):=row_cell Rs'.out 0;have d1:wC.cell? ⟨w.heap.size+2,1,none⟩=some (.int .u8 0):=row_cell Rs'.out 1;have d2:wC.cell? ⟨w.heap.size+2,2,none⟩=some (.int .u8 0):=row_cell Rs'.out 2;have d3:wC.cell? ⟨w.heap.size+2,3,none⟩=some (.int .u8 0):=row_cell Rs'.out 3;have k0:=row_frozen Rs'.out 0;have k1:=row_frozen Rs'.out 1;have k2:=row_frozen Rs'.out 2;have k3:=row_frozen Rs'.out 3;have R3:=Lib.hid (sto4_row Rs'.out z4);have RES:Hid (RDPost w r F d' z4 5 (L.map Ent.abs) (.returned (.tuple #[rec4 z4,.int .i64 5])) (sto4 wC (w.heap.size+2) 0 z4)):=by
   have O9:Only (fun k=>k=r) w (sto4 wC (w.heap.size+2) 0 z4):=OO.out.trans (Only.of_from (B:=w.heap.size) (sto4_below (o:=0) (r:=z4) (Below.refl w.heap.size wC) (by omega))) fun k hk g=>by omega
   refine ⟨rfl,⟨_,L,⟨?_,RR.out.off,⟨rd_only (G:=fun k=>k=r) RR.out.list.rd (fun h0 k hk e=>RR.out.list.off h0 k hk (.inr e)) O9,RR.out.list.off,fun c hc=>rd_only (G:=fun k=>k=r) (RR.out.list.file c hc) (fun h0 k hk e=>RR.out.list.foff c hc h0 k hk (.inr e)) O9,RR.out.list.foff⟩,RR.out.ok⟩,rfl⟩,O9⟩;rw [HD.out,if_pos rfl];have:=sto4_other (g:=w.heap.size+2) (o:=0) (r:=z4) Rw'.out (by omega);rw [this]
   simp
  clear Rs' OO Rw';go_wp2
  (try simp only [Exit.inBlock,Exit.then])
  exact bodyPost_ret (results_rec (p:=6) (r:=7) rfl _ _ (w.heap.size+2) z4 (.int .i64 5) rfl rfl R3.out) rfl RES.out
 ·have hk5:(k == 5)=false:=by simpa using h5
  have d0:wB.cell? ⟨w.heap.size+2,0,none⟩=some (.int .u8 0):=row_cell S3.out.res 0;have d1:wB.cell? ⟨w.heap.size+2,1,none⟩=some (.int .u8 0):=row_cell S3.out.res 1;have d2:wB.cell? ⟨w.heap.size+2,2,none⟩=some (.int .u8 0):=row_cell S3.out.res 2;have d3:wB.cell? ⟨w.heap.size+2,3,none⟩=some (.int .u8 0):=row_cell S3.out.res 3;have k0:=row_frozen S3.out.res 0;have k1:=row_frozen S3.out.res 1;have k2:=row_frozen S3.out.res 2;have k3:=row_frozen S3.out.res 3;have R3:=Lib.hid (sto4_row S3.out.res z4);have B3:=Lib.hid (sto4_below (o:=0) (r:=z4) S3.out.bel (show w.heap.size≤w.heap.size+2 by omega));have RES:Hid (RDPost w r F d' z4 k (L.map Ent.abs) (.returned (.tuple #[rec4 z4,.int .i64 k])) (sto4 wB (w.heap.size+2) 0 z4)):=by
   rw [HD.out,if_neg h5];exact ⟨rfl,⟨_,L,RR.out.below B3.out,rfl⟩,Only.of_below B3.out⟩
  clear S3 hrow;go_wp2
  (try simp only [Exit.inBlock,Exit.then])
  exact bodyPost_ret (results_rec (p:=6) (r:=7) rfl _ _ (w.heap.size+2) z4 (.int .i64 k) rfl rfl R3.out) rfl RES.out
set_option maxHeartbeats 4000000 in
theorem rdos_0 {w:World} {r:Nat} {F:Nat→Prop} {v:Value} {L:List Ent} {d:Int} (R:Rst w r F v L d) (hF:∀ k,F k→k < w.heap.size) (o f j:Int) (x:R4) (hx:okR x) (hn:goodB o f j=true) {i:Nat} {c:Ent} (hi:L[i]? = some c) (hq:Ix L f i) (he:doE c.p c.l o j=0) :
 Calls Tryz.prog 76 #[.pointer (some ⟨r,0,none⟩),Ad.addr o f j,rec4 x] w (RDPost w r F d (newR c.l o j x) 0 ((L.set i (⟨c.n,c.p,none,0,c.l.set j.toNat (newR c.l o j x)⟩:Ent)).map Ent.abs)):=by
 have IX:=Lib.hid (fun W (hb:Below w.heap.size w W)=>rix_any (R.below hb) hq);have RR:=Lib.hid R;have hlen:=R.len;have hil:i < L.length:=(List.getElem?_eq_some_iff.1 hi).1;have hrl:r < w.heap.size:=lt_of_block R.row;have hmem:=List.mem_of_getElem? hi;have hcm:c.abs∈L.map Ent.abs:=List.mem_map_of_mem hmem;have FR:=Lib.hid (R.list.file c hmem);have FO:=Lib.hid (R.list.foff c hmem);have OKC:=Lib.hid (R.ok.ok _ hcm);have HI:=Lib.hid hi;obtain ⟨va,vcap,rfl,_,_,h3⟩:=R.list.rd;obtain ⟨b,off,rfl,hA⟩:=h3 (by omega);have A3:=Lib.hid (at3 hA hi);have CR:=Lib.hid (row_cell R.row 0);have A0:=ask0_of w o f j x;have S0:Hid (Ask0 w o f j x (((w.alloc (.cells #[.int .i64 o,.int .i64 f,.int .i64 j] 137)).alloc (.cells #[.int .u8 x.1,.int .u8 x.2.1,.int .u8 x.2.2.1,.int .u8 x.2.2.2] 96)).alloc (.cells #[.int .u8 0,.int .u8 0,.int .u8 0,.int .u8 0] 96))):=A0;have GA:∀ W,Calls Tryz.prog 112 #[Ad.addr o f j] W fun e w'=>e = .returned (.bool true)∧Below W.heap.size W w':=fun W=>by have:=Ad.rgood_any W o f j;rwa [hn] at this
 have HG:=Lib.hid GA;clear A0 GA hn;have DO:=Lib.hid (fun W (hb:Below w.heap.size w W)=>rdo_ok W c.p c.sl c.l (FR.out.below hb) OKC.out o j x he);have hok:okL c.l:=R.ok.ok _ hcm;have FIN:Hid (∀ (ua:Option Addr) (uc:Nat) (v':Value) (W:World),Only (fun k=>k=r) w W→W.heap[r]? = some (.cells #[v',.int .i64 d] 42 (0,0))→Ow E3 W w.heap.size 67 v' (L.set i (⟨c.n,c.p,ua,uc,c.l.set j.toNat (newR c.l o j x)⟩:Ent))→Ow K4 W w.heap.size 96 (.slice ua c.l.length uc) (c.l.set j.toNat (newR c.l o j x))→RDPost w r F d (newR c.l o j x) 0 ((L.set i (⟨c.n,c.p,none,0,c.l.set j.toNat (newR c.l o j x)⟩:Ent)).map Ent.abs) (.returned (.tuple #[rec4 (newR c.l o j x),.int .i64 0])) W):=fun ua uc v' W O row own new=>by
  have e:(L.set i (⟨c.n,c.p,ua,uc,c.l.set j.toNat (newR c.l o j x)⟩:Ent)).map Ent.abs=(L.set i (⟨c.n,c.p,none,0,c.l.set j.toNat (newR c.l o j x)⟩:Ent)).map Ent.abs:=by rw [List.map_set,List.map_set];rfl
  have e3:put Ent.n (⟨c.n,c.p,none,0,c.l.set j.toNat (newR c.l o j x)⟩:Ent) L=L.set i (⟨c.n,c.p,none,0,c.l.set j.toNat (newR c.l o j x)⟩:Ent):=put_set (srtL R.ok) hi rfl;have ok:OkA ((L.set i (⟨c.n,c.p,none,0,c.l.set j.toNat (newR c.l o j x)⟩:Ent)).map Ent.abs):=by
   rw [← e3,abs_put];exact R.ok.put (R.ok.nm _ hcm) (good_do he) (okL_set hok (okR_new hok hx))
  have new':Ow K4 W w.heap.size 96 (⟨c.n,c.p,ua,uc,c.l.set j.toNat (newR c.l o j x)⟩:Ent).sl (c.l.set j.toNat (newR c.l o j x)):=by unfold Ent.sl;rw [List.length_set];exact new
  refine ⟨rfl,⟨v',_,R.next hF O row own (fun e he=>?_) (by rw [e];exact ok),e⟩,O⟩
  rcases List.mem_or_eq_of_mem_set he with h | rfl
  ·exact .inl h
  ·exact .inr (gd_new hF hrl new')
 clear R hi hq hF h3 hA hmem hcm he FR FO OKC hok hx;unfold Ent.sl at A3 DO;have ESL:Hid (∀ ua uc,(⟨c.n,c.p,ua,uc,c.l.set j.toNat (newR c.l o j x)⟩:Ent).sl = .slice ua c.l.length uc):=fun ua uc=>by unfold Ent.sl;rw [List.length_set]
 generalize hN:L.length=N at *;have HN:=Lib.hid hN;generalize hQ:c.l.length=q at *;generalize c.l.set j.toNat (newR c.l o j x)=l2 at *;generalize newR c.l o j x=y at *;generalize hcp:c.p=p at *;have HCP:=Lib.hid hcp;clear hN hQ hcp;unfold file rec4 at DO;unfold rec4;unfold Ad.addr at *;have AC:=S0.out;have a0:=row_cell AC.adr 0;have a1:=row_cell AC.adr 1;have a2:=row_cell AC.adr 2;clear AC
 go_enter Tryz.func76,Tryz.ntmps76
 go_wp2_with fail;clear a0 a1 a2;generalize (((w.alloc (.cells #[.int .i64 o,.int .i64 f,.int .i64 j] 137)).alloc (.cells #[.int .u8 x.1,.int .u8 x.2.1,.int .u8 x.2.2.1,.int .u8 x.2.2.2] 96)).alloc (.cells #[.int .u8 0,.int .u8 0,.int .u8 0,.int .u8 0] 96))=W at *;refine (HG.out _).mono ?_;rintro e w1 ⟨rfl,b1⟩;have S1:=Lib.hid (S0.out.mono b1);clear b1 HG S0;have a1:w1.cell? ⟨w.heap.size,1,none⟩=some (.int .i64 f):=row_cell S1.out.adr 1;go_wp2_with fail;refine (IX.out _ S1.out.bel).mono ?_;rintro e w2 ⟨rfl,b2⟩;have S2:=Lib.hid (S1.out.mono b2);clear b2 IX S1 a1;have hi0:¬ ((i:Int) < 0):=by omega
 go_wp2_with fail;have CELL:=Lib.hid (fun (p:Addr) (u:Value) (h:w.cell? p=some u)=>(S2.out.bel.cell (World.block_lt_of_cell? _ _ h)).trans h);have s0:=Sd.cell_by (show w2.cell? ⟨r,0,none⟩=some (.slice (some ⟨b,off,none⟩) N vcap) from CELL.out _ _ CR.out);have s1:=Sd.cell_by (CELL.out _ _ A3.out.2.1);have s2:=Sd.cell_by (show w2.cell? ⟨b,off+i * 3+2,none⟩=some (.slice c.a q c.cap) from CELL.out _ _ A3.out.2.2);have s3:=Sd.cell_by (show w2.cell? ⟨w.heap.size,0,none⟩=some (.int .i64 o) from row_cell S2.out.adr 0);have s4:=Sd.cell_by (show w2.cell? ⟨w.heap.size,2,none⟩=some (.int .i64 j) from row_cell S2.out.adr 2);have s5:=Sd.cell_by (show w2.cell? ⟨w.heap.size+1,0,none⟩=some (.int .u8 x.1) from row_cell S2.out.arg 0);have s6:=Sd.cell_by (show w2.cell? ⟨w.heap.size+1,1,none⟩=some (.int .u8 x.2.1) from row_cell S2.out.arg 1);have s7:=Sd.cell_by (show w2.cell? ⟨w.heap.size+1,2,none⟩=some (.int .u8 x.2.2.1) from row_cell S2.out.arg 2);have s8:=Sd.cell_by (show w2.cell? ⟨w.heap.size+1,3,none⟩=some (.int .u8 x.2.2.2) from row_cell S2.out.arg 3);refine Sf.start [(0,0),(0,1),(0,2),(0,3),(0,4),(0,5),(0,6),(0,7),(0,8),(0,9),(0,10),(0,11),(0,12),(1,13),(0,14),(0,15),(0,16),(0,17),(2,18),(2,19),(1,20),(1,21),(0,22)] [⟨18,9,#[.int .i64 0,.slice none 0 0],65⟩,⟨19,10,#[.int .u8 0,.int .u8 0,.int .u8 0,.int .u8 0],96⟩] (by kernel_rfl) (by kernel_rfl) (by kernel_rfl) (by decide) (by decide) ?_ ?_ ?_
 ·simp
 ·intro f hf
  simp only [List.mem_cons,List.not_mem_nil,or_false] at hf
  rcases hf with rfl | rfl
  ·exact ⟨_,rfl,rfl,rfl,fun ρ w=>by go_simp⟩
  ·exact ⟨_,rfl,rfl,rfl,fun ρ w=>by go_simp⟩
 dsimp only [Sf.picks,List.getElem?_cons_succ,List.getElem?_cons_zero];have BW:=Lib.hid ((Below.refl w2.heap.size w2).drew)
 repeat (refine Sf.lit (fun xs=>?_);simp only [Sf.fill,List.foldl_cons,List.foldl_nil];quiet_step (fail);refine wpQuiet_nil ?_)
 refine Sf.call (fun xs w3 hb hc=>⟨by rfl,fun K hK=>?_⟩);have B3:=Lib.hid (BW.out.trans (hb.mono BW.out.size));clear hb hc BW s0 s1 s2 s3 s4 s5 s6 s7 s8;simp only [Sf.fill,List.foldl_cons,List.foldl_nil];go_simp;have DOW:=DO.out w3 (S2.out.bel.trans (B3.out.mono S2.out.bel.size));refine DOW.mono ?_;rintro e w4 ⟨ua,ucap,rfl,o4,b4⟩;have B4:=Lib.hid (B3.out.trans (b4.mono B3.out.size));refine hK _ _ (Sd.Cl.of B4.out) b4.size (fun _=>b4) ?_;clear hK K DOW;have O4:=Lib.hid o4;have NR:Hid (∀ g,(g < w3.heap.size∨w4.heap.size≤g)→Value.ownBlock (.slice ua q ucap)≠some g):=fun g hg=>O4.out.range hg;have hw3:Hid (w2.heap.size≤w3.heap.size):=B3.out.size;clear b4 o4
 repeat (refine Sf.lit (fun xs=>?_);simp only [Sf.fill,List.foldl_cons,List.foldl_nil];quiet_step (fail);refine wpQuiet_nil ?_)
 refine Sf.meet (fun g9 w5 hb hc row n9 hH hL=>?_);have B5:=Lib.hid (B4.out.trans (hb.mono B4.out.size));have R5:Hid (w5.heap[g9]? = some (.cells #[.int .i64 0,.slice none 0 0] 65 (0,0))):=row;have N9:=Lib.hid (NR.out g9 (hH _ (List.mem_cons_self ..)));have O5:=Lib.hid (O4.out.keep hb);clear O4;clear hb hc row hH hL B4;refine Sf.meet (fun g10 w6 hb hc row n10 hH hL=>?_);have B6:=Lib.hid (B5.out.trans (hb.mono B5.out.size));have Q6:Hid (w6.heap[g10]? = some (.cells (arr4 z4) 96 (0,0))):=row;have R6:=Lib.hid ((hb.block _ (lt_of_block R5.out)).trans R5.out);have D9:g10≠g9:=fun e=>hL (by rw [e];exact List.mem_cons_self ..);have N10:=Lib.hid (NR.out g10 (hH _ (List.mem_cons_self ..)));have O6:=Lib.hid (O5.out.keep hb);clear O5 NR;clear hb hc row hH hL B5 R5;refine Sf.call (fun xs w7 hb hc=>⟨by rfl,fun K hK=>?_⟩);have B7:=Lib.hid (B6.out.trans (hb.mono B6.out.size));have Q7:=(hb.block _ (lt_of_block Q6.out)).trans Q6.out;have R7:=(hb.block _ (lt_of_block R6.out)).trans R6.out;have c0:w7.cell? ⟨g9,0,none⟩=some (.int .i64 0):=row_cell R7 0;have c1:w7.cell? ⟨g9,1,none⟩=some (.slice none 0 0):=row_cell R7 1;have f0:=row_frozen R7 0;have f1:=row_frozen R7 1;have R8:=Lib.hid (sto2_row R7 p (.slice ua q ucap));have Q8:=Lib.hid (sto2_other (g:=g9) (p:=p) (v:=.slice ua q ucap) Q7 D9);have B8:=Lib.hid (sto2_below (p:=p) (v:=.slice ua q ucap) B7.out n9);have hsz:=sto2_size w7 g9 p (.slice ua q ucap);have O8:=Lib.hid (sto2_off (u:=.slice ua q ucap) (O6.out.keep hb) N9.out p);clear O6;clear hb hc B6 B7 Q6 Q7 R6 R7;simp only [Sf.fill,List.foldl_nil];go_simp;refine hK _ _ (Sd.Cl.of B8.out) (by rw [← hsz];exact Nat.le_refl _) (fun h=>absurd rfl h) ?_;clear hK K c0 c1 f0 f1 hsz
 show Sf.wpSf _ _ _ _ _ _ _ _ _ _ (sto2 w7 g9 p (.slice ua q ucap))
 generalize sto2 w7 g9 p (.slice ua q ucap)=w8 at *;refine Sf.call (fun xs w9 hb hc=>⟨by rfl,fun K hK=>?_⟩);have B9:=Lib.hid (B8.out.trans (hb.mono B8.out.size));have Q9:=(hb.block _ (lt_of_block Q8.out)).trans Q8.out;have R9:=(hb.block _ (lt_of_block R8.out)).trans R8.out;have c0:w9.cell? ⟨g10,0,none⟩=some (.int .u8 0):=row_cell Q9 0;have c1:w9.cell? ⟨g10,1,none⟩=some (.int .u8 0):=row_cell Q9 1;have c2:w9.cell? ⟨g10,2,none⟩=some (.int .u8 0):=row_cell Q9 2;have c3:w9.cell? ⟨g10,3,none⟩=some (.int .u8 0):=row_cell Q9 3;have f0:=row_frozen Q9 0;have f1:=row_frozen Q9 1;have f2:=row_frozen Q9 2;have f3:=row_frozen Q9 3;have QA:=Lib.hid (sto4_row Q9 y);have RA:=Lib.hid (sto4_other (g:=g10) (o:=0) (r:=y) R9 (fun e=>D9 e.symm));have BA:=Lib.hid (sto4_below (o:=0) (r:=y) B9.out n10);have hsz:=sto4_size w9 g10 0 y;have OA:=Lib.hid (sto4_off (o:=0) (O8.out.keep hb) N10.out y);clear O8;clear hb hc B8 B9 Q8 Q9 R8 R9;simp only [Sf.fill,List.foldl_nil];go_simp;refine hK _ _ (Sd.Cl.of BA.out) (by rw [← hsz];exact Nat.le_refl _) (fun h=>absurd rfl h) ?_;clear hK K c0 c1 c2 c3 f0 f1 f2 f3 hsz
 show Sf.wpSf _ _ _ _ _ _ _ _ _ _ (sto4 w9 g10 0 y)
 generalize sto4 w9 g10 0 y=wA at *
 repeat (refine Sf.lit (fun xs=>?_);simp only [Sf.fill,List.foldl_nil];quiet_step (fail);refine wpQuiet_nil ?_)
 refine Sf.done (fun wB hb hc=>?_);have BX:=Lib.hid (BA.out.trans (hb.mono BA.out.size));have G9:=Lib.hid ((hb.block _ (lt_of_block RA.out)).trans RA.out);have G10:=Lib.hid ((hb.block _ (lt_of_block QA.out)).trans QA.out);have S3:=Lib.hid (S2.out.mono BX.out);have OX:=Lib.hid (OA.out.keep hb);clear OA;clear hb hc BA RA QA CELL;have hw2w:Hid (w.heap.size+3≤w2.heap.size):=S2.out.siz;have hrow:Hid (wB.heap[r]? = _):=(S3.out.bel.block r hrl).trans RR.out.row;have B4:=Lib.hid (S3.out.bel.alloc S3.out.bel.size (.cells #[] 67));have R4':=RR.out.below B4.out;have c0:(wB.alloc (.cells #[] 67)).cell? ⟨r,0,none⟩=some (.slice (some ⟨b,off,none⟩) N vcap):=row_cell R4'.row 0;have RDL:=Lib.hid R4'.list.rd;have OM:=Lib.hid (Rw.Ow.made (K:=E3) wB wB.heap.size 67 (Nat.le_refl _));have hn9:Hid (w2.heap.size≤g9):=n9;have hn10:Hid (w2.heap.size≤g10):=n10;clear R4' D9 n9 n10 BX hi0
 go_wp2_with (at_builtin;refine Rw.all_step (K:=E3) Tryz.underlying38 infoE3 rfl (by omega) rfl _ _ rfl wB.heap.size _ _ rfl OM.out _ L rfl RDL.out ?c1 ?c2 ?_)
 case c1=>simp only [List.length_nil];have:=HN.out;omega
 case c2=>simp
 intro v5 w5 o5 b5
 obtain ⟨g5,cap5,e5⟩:∃ g cap,v5 = .slice (some ⟨g,0,none⟩) N cap:=by
  obtain ⟨g,cap,e,_⟩:=o5.form (by have:=HN.out;omega);rw [HN.out] at e;exact ⟨g,cap,e⟩
 subst e5;have bB5:Below wB.heap.size wB w5:=((Below.refl wB.heap.size wB).alloc (Nat.le_refl _) _).trans b5;have Rw5:=(bB5.block r (lt_of_block hrow.out)).trans hrow.out;have c5:w5.cell? ⟨r,0,none⟩=some (.slice (some ⟨b,off,none⟩) N vcap):=row_cell Rw5 0;have f5:=row_frozen Rw5 0;have hr2:r < w2.heap.size:=by have:=hw2w.out;omega
 have Row6:=Lib.hid (Rw.heap_setCell_same (j:=0) Rw5 (.slice (some ⟨g5,0,none⟩) N cap5));have O6:Hid (Only (fun k=>k=r) w (w5.setCell ⟨r,0,none⟩ (.slice (some ⟨g5,0,none⟩) N cap5))):=((Only.of_below S3.out.bel).then bB5).trans (Only.set (fun k=>k=r) w5 (a:=⟨r,0,none⟩) rfl _) fun _ _ g=>g;have OW6:=Lib.hid (o5.far (p:=⟨r,0,none⟩) Rw5 (by decide) (.slice (some ⟨g5,0,none⟩) N cap5));have other:∀ k,k < wB.heap.size→k≠r→(w5.setCell ⟨r,0,none⟩ (.slice (some ⟨g5,0,none⟩) N cap5)).heap[k]? = wB.heap[k]?:=fun k hk hne=>(Below.heap_setCell w5 ⟨r,0,none⟩ _ k hne).trans (bB5.block k hk);have N6:=Lib.hid ((other g9 (lt_of_block G9.out) (by have:=hn9.out;omega)).trans G9.out);have M6:=Lib.hid ((other g10 (lt_of_block G10.out) (by have:=hn10.out;omega)).trans G10.out);have T6:=Lib.hid ((other (w.heap.size+2) (lt_of_block S3.out.res) (by omega)).trans S3.out.res);have U6:Hid (Ow K4 (w5.setCell ⟨r,0,none⟩ (.slice (some ⟨g5,0,none⟩) N cap5)) w3.heap.size 96 (.slice ua q ucap) l2):=(OX.out.keep bB5).off (p:=⟨r,0,none⟩) (OX.out.range (.inl (by have:=hw3.out;show r < _;omega))) _;have hwB:Hid (g9 < wB.heap.size∧g10 < wB.heap.size∧w.heap.size+3≤wB.heap.size):=⟨lt_of_block G9.out,lt_of_block G10.out,S3.out.siz⟩;have UB:Hid (∀ g,(Value.slice ua q ucap).ownBlock=some g→g < wB.heap.size):=fun g h=>(ow_new OX.out g h).2;clear b5 o5 Rw5 bB5 other B4 OM RDL c0 hrow G9 G10 S3 OX S2;go_upto_region 12 with fail;clear c5 f5;generalize w5.setCell ⟨r,0,none⟩ (.slice (some ⟨g5,0,none⟩) N cap5)=w6 at *;obtain ⟨_,_,hg5,_⟩:=own3 OW6.out HI.out;have HG5:=Lib.hid hg5;clear hg5;have C0:RC r (.slice (some ⟨g5,0,none⟩) N cap5) d g9 p (.slice ua q ucap) w6.drew:=⟨Row6.out,N6.out⟩;have c0:=Sc.cell_in (C:=RC r (.slice (some ⟨g5,0,none⟩) N cap5) d g9 p (.slice ua q ucap)) (a:=⟨r,0,none⟩) (fun W' h=>row_cell h.row 0);have r0:=Sc.cell_in (C:=RC r (.slice (some ⟨g5,0,none⟩) N cap5) d g9 p (.slice ua q ucap)) (a:=⟨g9,0,none⟩) (fun W' h=>row_cell h.box 0);have r1:=Sc.cell_in (C:=RC r (.slice (some ⟨g5,0,none⟩) N cap5) d g9 p (.slice ua q ucap)) (a:=⟨g9,1,none⟩) (fun W' h=>row_cell h.box 1);have ne:Nonempty (Sc.In (RC r (.slice (some ⟨g5,0,none⟩) N cap5) d g9 p (.slice ua q ucap))):=⟨⟨_,C0⟩⟩;refine Sc.start (RC r (.slice (some ⟨g5,0,none⟩) N cap5) d g9 p (.slice ua q ucap)) [(false,0),(false,1),(false,2),(false,3),(false,4),(false,5),(false,6),(false,7),(true,8)] (by kernel_rfl) (by kernel_rfl) (by kernel_rfl) C0 ?_;dsimp only [Sd.picks,List.getElem?_cons_succ,List.getElem?_cons_zero]
 repeat (refine Sd.lit ?_;quiet_step (fail);refine wpQuiet_nil ?_)
 have OW7:Hid (Ow E3 w6.drew wB.heap.size 67 (.slice (some ⟨g5,0,none⟩) N cap5) L):=OW6.out;have U7:Hid (Ow K4 w6.drew w3.heap.size 96 (.slice ua q ucap) l2):=U6.out;have O7:Hid (Only (fun k=>k=r) w w6.drew):=O6.out.then ((Below.refl _ _).drew);have Row7:Hid (w6.drew.heap[r]? = _):=Row6.out;have N7:Hid (w6.drew.heap[g9]? = _):=N6.out;have M7:Hid (w6.drew.heap[g10]? = _):=M6.out;have T7:Hid (w6.drew.heap[w.heap.size+2]? = _):=T6.out;clear c0 r0 r1 C0 OW6 U6 O6 Row6 N6 M6 T6;generalize w6.drew=w7 at *;refine Sd.call (by rfl) (fun K hK=>?_);obtain ⟨⟨_,q1,q2⟩,hfr,_,_⟩:=own3 OW7.out HI.out;unfold Ent.sl at q2;have f1:=hfr (i * 3+1);have f2:=hfr (i * 3+2);have hwg:w.heap.size≤g5:=by have:=HG5.out;have:=hwB.out.2.2;omega
 have old:∀ k,k≠g5→((w7.setCell ⟨g5,i * 3+1,none⟩ (.int .i64 p)).setCell ⟨g5,i * 3+2,none⟩ (.slice ua q ucap)).heap[k]? = w7.heap[k]?:=fun k hk=>(Below.heap_setCell _ ⟨g5,i * 3+2,none⟩ _ k hk).trans (Below.heap_setCell _ ⟨g5,i * 3+1,none⟩ _ k hk);have g5r:r≠g5:=by omega
 have g59:g9≠g5:=by have:=HG5.out;have:=hwB.out.1;omega
 have g510:g10≠g5:=by have:=HG5.out;have:=hwB.out.2.1;omega
 have g52:w.heap.size+2≠g5:=by have:=HG5.out;have:=hwB.out.2.2;omega
 have Row8:=Lib.hid ((old r g5r).trans Row7.out);have M8:=Lib.hid ((old g10 g510).trans M7.out);have T8:=Lib.hid ((old _ g52).trans T7.out);have CC:RC r (.slice (some ⟨g5,0,none⟩) N cap5) d g9 p (.slice ua q ucap) ((w7.setCell ⟨g5,i * 3+1,none⟩ (.int .i64 p)).setCell ⟨g5,i * 3+2,none⟩ (.slice ua q ucap)):=⟨(old r g5r).trans Row7.out,(old g9 g59).trans N7.out⟩;have OW8:Hid (Ow E3 ((w7.setCell ⟨g5,i * 3+1,none⟩ (.int .i64 p)).setCell ⟨g5,i * 3+2,none⟩ (.slice ua q ucap)) w.heap.size 67 (.slice (some ⟨g5,0,none⟩) N cap5) (L.set i (⟨c.n,p,ua,ucap,l2⟩:Ent))):=by
  have:=set3 (c':=⟨c.n,p,ua,ucap,l2⟩) OW7.out HN.out.symm HI.out rfl HCP.out.symm;rw [ESL.out] at this;exact this.low (by have:=hwB.out.2.2;omega)
 have n8:∀ jj,(Value.slice ua q ucap).ownBlock≠some (⟨g5,jj,none⟩:Addr).block:=fun jj e=>by
  have:=UB.out g5 e;have:=HG5.out
  omega
 have U8:Hid (Ow K4 ((w7.setCell ⟨g5,i * 3+1,none⟩ (.int .i64 p)).setCell ⟨g5,i * 3+2,none⟩ (.slice ua q ucap)) w3.heap.size 96 (.slice ua q ucap) l2):=(U7.out.off (n8 _) _).off (n8 _) _;have O8:Hid (Only (fun k=>k=r) w ((w7.setCell ⟨g5,i * 3+1,none⟩ (.int .i64 p)).setCell ⟨g5,i * 3+2,none⟩ (.slice ua q ucap))):=O7.out.trans (Only.of_from (B:=w.heap.size) (((Below.refl w.heap.size w7).setCell (p:=⟨g5,i * 3+1,none⟩) hwg _).setCell (p:=⟨g5,i * 3+2,none⟩) hwg _)) fun k hk g=>by omega
 have hg52:=Lib.hid g52;clear hfr old g5r g59 g510 g52 n8 OW7 U7 O7 Row7 N7 M7 T7;go_simp;refine hK _ _ (Sc.Cl.of CC) ?_;clear hK K q1 q2 f1 f2 CC;generalize (w7.setCell ⟨g5,i * 3+1,none⟩ (.int .i64 p)).setCell ⟨g5,i * 3+2,none⟩ (.slice ua q ucap)=w8' at *;refine Sd.done ?_;have y0:w8'.cell? ⟨g10,0,none⟩=some (.int .u8 y.1):=row_cell M8.out 0;have y1:w8'.cell? ⟨g10,1,none⟩=some (.int .u8 y.2.1):=row_cell M8.out 1;have y2:w8'.cell? ⟨g10,2,none⟩=some (.int .u8 y.2.2.1):=row_cell M8.out 2;have y3:w8'.cell? ⟨g10,3,none⟩=some (.int .u8 y.2.2.2):=row_cell M8.out 3;have d0:w8'.cell? ⟨w.heap.size+2,0,none⟩=some (.int .u8 0):=row_cell T8.out 0;have d1:w8'.cell? ⟨w.heap.size+2,1,none⟩=some (.int .u8 0):=row_cell T8.out 1;have d2:w8'.cell? ⟨w.heap.size+2,2,none⟩=some (.int .u8 0):=row_cell T8.out 2;have d3:w8'.cell? ⟨w.heap.size+2,3,none⟩=some (.int .u8 0):=row_cell T8.out 3;have k0:=row_frozen T8.out 0;have k1:=row_frozen T8.out 1;have k2:=row_frozen T8.out 2;have k3:=row_frozen T8.out 3;have R3:=Lib.hid (sto4_row T8.out y);have n52:(Value.slice (some ⟨g5,0,none⟩) N cap5).ownBlock≠some (w.heap.size+2):=fun e=>by
  have:g5=w.heap.size+2:=by simpa [Value.ownBlock] using e
  exact hg52.out this.symm
 have RES:Hid (RDPost w r F d y 0 ((L.set i (⟨c.n,p,none,0,l2⟩:Ent)).map Ent.abs) (.returned (.tuple #[rec4 y,.int .i64 0])) (sto4 w8' (w.heap.size+2) 0 y)):=by
  refine FIN.out ua ucap (.slice (some ⟨g5,0,none⟩) N cap5) _ (O8.out.trans (Only.of_from (B:=w.heap.size) (sto4_below (o:=0) (r:=y) (Below.refl w.heap.size w8') (by omega))) fun k hk g=>by omega) (sto4_other Row8.out (by omega)) ?_ ?_
  ·exact (((OW8.out.off (p:=⟨w.heap.size+2,0,none⟩) n52 _).off (p:=⟨w.heap.size+2,0+1,none⟩) n52 _).off (p:=⟨w.heap.size+2,0+2,none⟩) n52 _).off (p:=⟨w.heap.size+2,0+3,none⟩) n52 _
  ·exact (sto4_off (o:=0) U8.out (U8.out.range (.inl (by have:=hw3.out;have:=hw2w.out;omega))) y).low (by have:=hw3.out;have:=hw2w.out;omega)
 clear M8 T8 OW8 U8 O8 Row8 n52 FIN;go_wp2
 (try simp only [Exit.inBlock,Exit.then])
 exact bodyPost_ret (results_rec (p:=6) (r:=7) rfl _ _ (w.heap.size+2) y (.int .i64 0) rfl rfl R3.out) rfl RES.out
theorem rdos_any {w:World} {r:Nat} {F:Nat→Prop} {A:Abs} {d:Int} (R:Rs w r F A d) (hF:∀ k,F k→k < w.heap.size) (hd:0≤d∧d < 1000000) (o f j:Int) (x:R4) (hx:okR x) :
 Calls Tryz.prog 76 #[.pointer (some ⟨r,0,none⟩),Ad.addr o f j,rec4 x] w (RDPost w r F (dD A o f j d) (dV A o f j x) (dE A o f j) (dA A o f j x)):=by
 obtain ⟨v,L,h,rfl⟩:=R;have no:∀ k e w',dE (L.map Ent.abs) o f j=k→k≠0→k≠5→DoNo w k e w'→RDPost w r F (dD (L.map Ent.abs) o f j d) (dV (L.map Ent.abs) o f j x) (dE (L.map Ent.abs) o f j) (dA (L.map Ent.abs) o f j x) e w':=fun k e w' hk h0 h5 ⟨he,b⟩=>by
  have e1:dV (L.map Ent.abs) o f j x=z4:=by unfold dV;split;rfl;rw [hk,if_neg h0]
  have e2:dA (L.map Ent.abs) o f j x=L.map Ent.abs:=by unfold dA;split;rfl;rw [hk,if_neg h0]
  have e3:dD (L.map Ent.abs) o f j d=d:=by unfold dD;rw [hk,if_neg h5]
  rw [e1,e2,e3,hk];exact ⟨he,⟨v,L,h.below b,rfl⟩,Only.of_below b⟩
 cases hn:goodB o f j with
 | false=>exact (rdos_1 w r o f j x hn).mono fun e w'=>no 1 e w' (by unfold dE;rw [if_neg (by rw [hn];decide)]) (by decide) (by decide)
 | true =>
   cases hk:look Ent.n f L with
   | none=>exact (rdos_3 h o f j x hn (ix_none hk)).mono fun e w'=>no 3 e w' (by unfold dE;rw [if_pos hn,look_abs,hk];rfl) (by decide) (by decide)
   | some c =>
     obtain ⟨i,hi,hq⟩:=ix_some (srtL h.ok) hk;have e:dE (L.map Ent.abs) o f j=doE c.p c.l o j:=by unfold dE;rw [if_pos hn,look_abs,hk];rfl
     by_cases h0:doE c.p c.l o j=0
     ·have e1:dV (L.map Ent.abs) o f j x=newR c.l o j x:=by
       unfold dV;rw [e,h0,look_abs,hk]
       rfl
      have e2:dA (L.map Ent.abs) o f j x=(L.set i (⟨c.n,c.p,none,0,c.l.set j.toNat (newR c.l o j x)⟩:Ent)).map Ent.abs:=by
       have e4:put Ent.n (⟨c.n,c.p,none,0,c.l.set j.toNat (newR c.l o j x)⟩:Ent) L=L.set i (⟨c.n,c.p,none,0,c.l.set j.toNat (newR c.l o j x)⟩:Ent):=put_set (srtL h.ok) hi rfl;rw [← e4,abs_put];unfold dA;rw [e,h0,look_abs,hk];obtain ⟨_,rfl⟩:=look_some hk
       rfl
      have e3:dD (L.map Ent.abs) o f j d=d:=by unfold dD;rw [e,h0,if_neg (by decide)]
      rw [e1,e2,e3,e,h0];exact rdos_0 h hF o f j x hx hn hi hq h0
     ·have e1:dV (L.map Ent.abs) o f j x=z4:=by
       unfold dV
       split
       ·rfl
       ·rw [e,if_neg h0]
      have e2:dA (L.map Ent.abs) o f j x=L.map Ent.abs:=by
       unfold dA
       split
       ·rfl
       ·rw [e,if_neg h0]
      rw [e1,e2,e];exact rdos_err h o f j _ x hn hi hq rfl h0 hd _ (by unfold dD;rw [e])
end Go.Proofs.YtpkipilggkbkeaaGreatDoor.Fs
namespace Go.Proofs.YtpkipilggkbkeaaGreatDoor.Fs
open Go.RowKit Go.Maps
open Fl (R4 z4 K4 rec4 rat file rsame_any sameF ret_bool)
open Rw (Rd Ow At)
set_option maxRecDepth 100000
attribute [local irreducible] wpQuiet
instance decR4:DecidableEq R4:=@instDecidableEqProd _ _ _ (@instDecidableEqProd _ _ _ (@instDecidableEqProd _ _ _ _))
instance decFil:DecidableEq Fil:=@instDecidableEqProd _ _ _ (@instDecidableEqProd _ _ _ (@instDecidableEqList _ decR4))
instance decAbs (A B:Abs):Decidable (A=B):=@instDecidableEqList _ decFil A B
theorem below_drew {B:Nat} {w w':World} (h:Below B w w') (n:Nat):Below B w (w'.drewN n):=⟨h.os,h.tape,h.output,h.size,h.block⟩
set_option maxHeartbeats 2000000 in
theorem same_any {w:World} {F F':Nat→Prop} {v v':Value} {L L':List Ent} (h:Lst F w v L) (h':Lst F' w v' L') (hlen:L.length≤64) :
 Calls Tryz.prog 10 #[v,v'] w fun e w'=>e = .returned (.bool (decide (L.map Ent.abs=L'.map Ent.abs)))∧Below w.heap.size w w':=by
 obtain ⟨a,cap,rfl,_,_,h3⟩:=h.rd;obtain ⟨a',cap',rfl,_,_,h3'⟩:=h'.rd;have H3:=Lib.hid h3;have H3':=Lib.hid h3';have FL:=Lib.hid h.file;have FL':=Lib.hid h'.file;clear h h' h3 h3'
 by_cases hl:L.length=L'.length
 ·have HL:=Lib.hid hl
  rw [← hl];rw [← hl] at H3';clear hl;generalize hn:L.length=N at *;have HN:=Lib.hid hn;clear hn
  go_enter Tryz.func10,Tryz.ntmps10
  go_wp2
  go_loopw [5] (fun i wr=>∃ k:Nat,k≤N∧i = .int .i64 k∧Hid ((L.take k).map Ent.abs=(L'.take k).map Ent.abs)∧Hid (Below w.heap.size w wr)) (fun i _=>N - (intOf i).toNat)
  case atStart=>exact ⟨0,Nat.zero_le _,rfl,rfl,Below.refl _ _⟩
  case round =>
   obtain ⟨k,hk,rfl,E,B⟩:=hrel
   by_cases hlt:k < N
   ·have hkL:k < L.length:=by have:=HN.out;omega
    have hkL':k < L'.length:=by have:=HL.out;have:=HN.out;omega
    obtain ⟨⟨cn,cp,ca,cc,cl⟩,hc⟩:∃ c:Ent,L[k]? = some c:=⟨_,List.getElem?_eq_getElem hkL⟩;obtain ⟨⟨dn,dp,da,dc,dl⟩,hd⟩:∃ c:Ent,L'[k]? = some c:=⟨_,List.getElem?_eq_getElem hkL'⟩;obtain ⟨b,off,rfl,hA⟩:=H3.out (by omega);obtain ⟨b',off',rfl,hA'⟩:=H3'.out (by omega);obtain ⟨x0,x1,x2⟩:=at3 (hA.below B.out) hc;obtain ⟨y0,y1,y2⟩:=at3 (hA'.below B.out) hd;unfold Ent.sl at x2 y2;simp only at x0 x1 x2 y0 y1 y2;have RC:Hid (Rd K4 w (.slice ca cl.length cc) cl):=FL.out _ (List.mem_of_getElem? hc);have RD:Hid (Rd K4 w (.slice da dl.length dc) dl):=FL'.out _ (List.mem_of_getElem? hd);have NO:Hid (¬ (cn=dn∧cp=dp∧cl=dl)→¬ (L.map Ent.abs=L'.map Ent.abs)):=fun hne e=>by
     have e1:=congrArg (fun l:List Fil=>l[k]?) e;simp only [List.getElem?_map,hc,hd,Option.map_some,Ent.abs] at e1;injection e1 with e1;injection e1 with e1 e2;injection e2 with e2 e3;exact hne ⟨e1,e2,e3⟩
    have YES:Hid (cn=dn→cp=dp→cl=dl→(L.take (k+1)).map Ent.abs=(L'.take (k+1)).map Ent.abs):=fun e1 e2 e3=>by
     rw [List.take_add_one,List.take_add_one,hc,hd,List.map_append,List.map_append,E.out]
     simp [Ent.abs,e1,e2,e3]
    have SA:=Lib.hid (fun W (hb:Below w.heap.size w W)=>rsame_any W cp dp (.slice ca cl.length cc) (.slice da dl.length dc) cl dl (RC.out.below hb) (RD.out.below hb));clear hc hd hA hA' hkL hkL'
    by_cases he:cn=dn
    ·subst he
     cases hs:sameF cp cl dp dl with
     | false =>
       rw [hs] at SA;have RES:Hid (decide (L.map Ent.abs=L'.map Ent.abs)=false):=decide_eq_false (NO.out fun ⟨_,e2,e3⟩=>by unfold sameF at hs;rw [decide_eq_true ⟨e2,e3⟩] at hs;cases hs);clear NO YES RC RD hs;generalize cl.length=q at *;generalize dl.length=q' at *;unfold file at SA;go_wp2_with fail;have s0:=Qb.cell_by x0;have s1:=Qb.cell_by x1;have s2:=Qb.cell_by x2;have t0:=Qb.cell_by y0;have t1:=Qb.cell_by y1;have t2:=Qb.cell_by y2;clear x0 x1 x2 y0 y1 y2;have SB:=Lib.hid (fun (P:Qb.By wr)=>SA.out P.world (B.out.trans (P.below.mono B.out.size)));refine Qb.wp_region_by (by kernel_rfl) (by kernel_rfl) ?_
       repeat (quiet_step ((go_at_call 34;exact Qb.of_below (SB.out _))))
       refine wpQuiet_nil ?_
       intro _ hw'
       obtain ⟨pp,rfl⟩:=hw';go_wp2
       go_ret
       exact ⟨ret_bool RES.out.symm,B.out.trans (pp.below.mono B.out.size)⟩
     | true =>
       rw [hs] at SA;have ST:Hid ((L.take (k+1)).map Ent.abs=(L'.take (k+1)).map Ent.abs):=by
        have:=of_decide_eq_true hs;exact YES.out rfl this.1 this.2
       clear NO YES RC RD hs;generalize cl.length=q at *;generalize dl.length=q' at *;unfold file at SA;go_wp2_with fail;have s0:=Qb.cell_by x0;have s1:=Qb.cell_by x1;have s2:=Qb.cell_by x2;have t0:=Qb.cell_by y0;have t1:=Qb.cell_by y1;have t2:=Qb.cell_by y2;clear x0 x1 x2 y0 y1 y2;have SB:=Lib.hid (fun (P:Qb.By wr)=>SA.out P.world (B.out.trans (P.below.mono B.out.size)));refine Qb.wp_region_by (by kernel_rfl) (by kernel_rfl) ?_
       repeat (quiet_step ((go_at_call 34;exact Qb.of_below (SB.out _))))
       refine wpQuiet_nil ?_
       intro _ hw'
       obtain ⟨pp,rfl⟩:=hw';clear s0 s1 s2 t0 t1 t2 SB SA;have BP:=Lib.hid (B.out.trans (pp.below.mono B.out.size));generalize pp.world=wp at *;go_wp2
       go_roundw
       case rel=>exact ⟨k+1,by omega,by go_num,ST,BP⟩
       case measure=>simp [intOf];omega
    ·have RES:Hid (decide (L.map Ent.abs=L'.map Ent.abs)=false):=decide_eq_false (NO.out fun h=>he h.1)
     clear NO YES RC RD SA;generalize cl.length=q at *;generalize dl.length=q' at *;go_wp2_with fail;have s0:=Qb.cell_by x0;have s1:=Qb.cell_by x1;have s2:=Qb.cell_by x2;have t0:=Qb.cell_by y0;have t1:=Qb.cell_by y1;have t2:=Qb.cell_by y2;clear x0 x1 x2 y0 y1 y2;refine Qb.wp_region_by (by kernel_rfl) (by kernel_rfl) ?_
     repeat (quiet_step (fail))
     refine wpQuiet_nil ?_
     intro _ hw'
     obtain ⟨pp,rfl⟩:=hw';go_wp2
     go_ret
     exact ⟨ret_bool RES.out.symm,B.out.trans (pp.below.mono B.out.size)⟩
   ·obtain rfl:k=N:=by omega
    have RES:Hid (decide (L.map Ent.abs=L'.map Ent.abs)=true):=by
     have e:=E.out;rw [List.take_of_length_le (by have:=HN.out;omega),List.take_of_length_le (by have:=HN.out;have:=HL.out;omega)] at e;exact decide_eq_true e
    go_wp2
    go_ret
    exact ⟨ret_bool RES.out.symm,B.out⟩
 ·have RES:Hid (decide (L.map Ent.abs=L'.map Ent.abs)=false):=decide_eq_false fun e=>hl (by have:=congrArg List.length e;rwa [List.length_map,List.length_map] at this)
  have h3:¬ ((L.length:Int)=L'.length):=by omega
  clear hl H3 H3' FL FL';generalize L.length=N at *;generalize L'.length=N' at *
  go_enter Tryz.func10,Tryz.ntmps10
  go_wp2
  go_ret
  exact ⟨ret_bool RES.out.symm,Below.refl _ _⟩
theorem same_is {w:World} {F F':Nat→Prop} {v v':Value} {A:Abs} (h:Ls F w v A) (h':Ls F' w v' A) (hlen:A.length≤64) :
 Calls Tryz.prog 10 #[v,v'] w fun e w'=>e = .returned (.bool true)∧Below w.heap.size w w':=by
 obtain ⟨L,hL,rfl⟩:=h;obtain ⟨L',hL',e⟩:=h';have:=same_any hL hL' (by rwa [List.length_map] at hlen)
 rwa [decide_eq_true e.symm] at this
end Go.Proofs.YtpkipilggkbkeaaGreatDoor.Fs
namespace Go.Proofs.YtpkipilggkbkeaaGreatDoor.Fs
open Go.RowKit Go.Maps
open Fl (R4 z4 K4 rec4 rat goodF goodFB okR okL file arr4 row_cell row_frozen)
open Rw (Rd Ow At)
set_option maxRecDepth 100000
structure Dd (w:World) (s r:Nat) (F:Nat→Prop) (A:Abs) (d:Int) (A':Abs) (d':Int) (W:World):Prop where
 st:St W s F A d
 rs:Rs W r F A' d'
 lo:∀ k,F k→w.heap.size≤k
 rlo:w.heap.size≤r
 bel:Below w.heap.size w W
section
variable {w W W':World} {s r:Nat} {F:Nat→Prop} {A A' A2:Abs} {d d' d2:Int}
theorem Dd.off (h:Dd w s r F A d A' d' W):¬ F r:=by obtain ⟨v,L,hh,_⟩:=h.rs;exact hh.off
theorem Dd.below (h:Dd w s r F A d A' d' W) (b:Below W.heap.size W W'):Dd w s r F A d A' d' W':=⟨h.st.below b,h.rs.below b,h.lo,h.rlo,h.bel.trans (b.mono h.bel.size)⟩
theorem rget_st {w:World} {r:Nat} {F:Nat→Prop} {A:Abs} {d:Int} (R:Rs w r F A d) (n k:Int):Calls Tryz.prog 74 #[.pointer (some ⟨r,0,none⟩),.int .i64 n,.int .i64 k] w (GetPost w (gV A n k) (gB A n k)):=by
 obtain ⟨v,L,h,rfl⟩:=R;exact rget_any h n k
structure Cb (F:Nat→Prop) (r:Nat) (W:World) (g:Nat) (cs:Array Value) (t:TypeId):Prop where
 row:W.heap[g]? = some (.cells cs t (0,0))
 off:¬ F g
 ne:g≠r
theorem Cb.below {g:Nat} {cs:Array Value} {t:TypeId} (h:Cb F r W g cs t) (b:Below W.heap.size W W'):Cb F r W' g cs t:=⟨(b.block g (lt_of_block h.row)).trans h.row,h.off,h.ne⟩
theorem Dd.box (h:Dd w s r F A d A' d' W) (cs:Array Value) (t:TypeId):Cb F r (W.alloc (.cells cs t)) W.heap.size cs t:=⟨heap_alloc_new W _,fun hk=>by have:=h.st.low _ hk;omega,fun e=>by obtain ⟨v,L,hh,_⟩:=h.rs;have:=lt_of_block hh.row;omega⟩
end
theorem dD_le {A:Abs} {o f r d:Int} : d≤dD A o f r d∧dD A o f r d≤d+1:=by unfold dD;split <;> omega
end Go.Proofs.YtpkipilggkbkeaaGreatDoor.Fs
namespace Go.Proofs.YtpkipilggkbkeaaGreatDoor.Ua
open Go.RowKit
def arr (F:Nat→Bool):Array Value:=#[.bool (F 0),.bool (F 1),.bool (F 2),.bool (F 3),.bool (F 4),.bool (F 5),.bool (F 6),.bool (F 7),.bool (F 8),.bool (F 9),.bool (F 10)]
theorem arr_size (F:Nat→Bool):(arr F).size=11:=rfl
theorem arr_one (F:Nat→Bool):(arr F).all (·.oneCell')=true:=by simp [arr,Value.oneCell']
theorem arr_get (F:Nat→Bool) (k:Nat) (h:k < 11):(arr F)[k]? = some (.bool (F k)):=by
 rcases (by omega:k=0∨k=1∨k=2∨k=3∨k=4∨k=5∨k=6∨k=7∨k=8∨k=9∨k=10) with rfl | rfl | rfl | rfl | rfl | rfl | rfl | rfl | rfl | rfl | rfl <;> rfl
theorem arr_set (F:Nat→Bool) (k:Nat) (h:k < 11) (x:Bool):(arr F).setIfInBounds k (.bool x)=arr (upd F k x):=by
 rcases (by omega:k=0∨k=1∨k=2∨k=3∨k=4∨k=5∨k=6∨k=7∨k=8∨k=9∨k=10) with rfl | rfl | rfl | rfl | rfl | rfl | rfl | rfl | rfl | rfl | rfl <;> rfl
theorem arr_congr {F G:Nat→Bool} (h:∀ i,i < 11→F i=G i):arr F=arr G:=by
 unfold arr;rw [h 0 (by omega),h 1 (by omega),h 2 (by omega),h 3 (by omega),h 4 (by omega),h 5 (by omega),h 6 (by omega),h 7 (by omega),h 8 (by omega),h 9 (by omega),h 10 (by omega)]
def Row (w:World) (g:Nat) (F:Nat→Bool):Prop:=w.heap[g]? = some (.cells (arr F) 114 (0,0))
section
variable {w w':World} {g:Nat} {F:Nat→Bool}
theorem Row.lt (h:Row w g F):g < w.heap.size:=lt_of_block h
theorem Row.cell (h:Row w g F) (k:Nat) (hk:k < 11):w.cell? ⟨g,k,none⟩=some (.bool (F k)):=by rw [cell_of_row w g k _ _ (0,0) h,arr_get F k hk]
theorem Row.frozen (h:Row w g F) (k:Nat):w.frozen? ⟨g,k,none⟩=false:=frozen_of_row w g k _ _ h
theorem Row.new (w:World) (F:Nat→Bool):Row (w.alloc (.cells (arr F) 114)) w.heap.size F:=heap_alloc_new w _
theorem Row.draw (h:Row w g F) (n:Nat):Row (w.drewN n) g F:=h
theorem Row.alloc (h:Row w g F) (o:Obj):Row (w.alloc o) g F:=(Below.heap_alloc w o g h.lt).trans h
theorem Row.set_ (h:Row w g F) (k:Nat) (hk:k < 11) (x:Bool):Row (w.setCell ⟨g,k,none⟩ (.bool x)) g (upd F k x):=by
 unfold Row at h ⊢;rw [heap_setCell_same w g k _ _ _ h,arr_set F k hk x]
theorem Row.far (h:Row w g F) {p:Addr} (hp:g≠p.block) (u:Value):Row (w.setCell p u) g F:=(Below.heap_setCell w p u g hp).trans h
theorem Row.row (h:Row w g F) (G:Nat→Bool):Row (w.setRow g (arr G)) g G:=setRow_heap w g _ _ _ _ h
theorem Row.below {B:Nat} (h:Row w g F) (hb:Below B w w') (hg:g < B):Row w' g F:=(hb.block g hg).trans h
theorem Row.to {G:Nat→Bool} (h:Row w g F) (e:∀ i,i < 11→F i=G i):Row w g G:=by unfold Row at *;rw [h,arr_congr e]
theorem Row.load (h:Row w g F):(loadVar 114 ⟨g,0,none⟩).run Tryz.prog w = .ok (.agg (arr F)) w :=
 run_loadVar_row w g _ _ (arr F) (0,0) _ h Tryz.underlying114 rfl (by rw [arr_size];kernel_rfl)
end
theorem info:(Tryz.prog.info? 114).map (·.size)=some 11:=by kernel_rfl
theorem info_of (F:Nat→Bool):(Tryz.prog.info? 114).map (·.size)=some (arr F).size:=by rw [arr_size];exact info
theorem load_frame {ops:Array Oper} {rest:List Oper} {o:Oper} {a:Act} {w:World} {Q:Exit→Act→World→Prop} (hgd:o.guard=none) (x:Operand) (ho:o.op = .load 114 x)
 (g:Nat) (F:Nat→Bool) (hx:a.eval x = .pointer (some ⟨g,0,none⟩)) (hrow:Row w g F) (h:wpList Tryz.prog ops Q rest (a.put o.dst (.agg (arr F))) w):wpList Tryz.prog ops Q (o :: rest) a w :=
 wpList_load_row hgd _ x ho g hx _ _ _ _ hrow Tryz.underlying114 rfl (info_of _) h
theorem store_frame {ops:Array Oper} {rest:List Oper} {o:Oper} {a:Act} {w:World} {Q:Exit→Act→World→Prop} (hgd:o.guard=none) (x y:Operand) (ho:o.op = .store 114 x y)
 (g:Nat) (F G:Nat→Bool) (hx:a.eval x = .pointer (some ⟨g,0,none⟩)) (hy:a.eval y = .agg (arr F)) (hrow:Row w g G) (h:wpList Tryz.prog ops Q rest (a.put o.dst undef) (w.setRow g (arr F))):wpList Tryz.prog ops Q (o :: rest) a w :=
 wpList_store_row hgd _ x y ho g _ hx hy _ _ hrow (info_of _) rfl (arr_one _) h
theorem store_new {ops:Array Oper} {rest:List Oper} {o:Oper} {a:Act} {w:World} {Q:Exit→Act→World→Prop} (hgd:o.guard=none) (x y:Operand) (ho:o.op = .store 114 x y)
 (F:Nat→Bool) (hx:a.eval x = .pointer (some ⟨w.heap.size,0,none⟩)) (hy:a.eval y = .agg (arr F)) (h:wpList Tryz.prog ops Q rest (a.put o.dst undef) (w.alloc (.cells (arr F) 114))) :
 wpList Tryz.prog ops Q (o :: rest) a (w.alloc (.cells #[.bool false,.bool false,.bool false,.bool false,.bool false,.bool false,.bool false,.bool false,.bool false,.bool false,.bool false] 114)) :=
 store_frame hgd x y ho _ F (fun _=>false) hx hy (Row.new w (fun _=>false)) (by rw [World.setRow_alloc_new];exact h)
theorem copy_frame {ops:Array Oper} {rest:List Oper} {o o':Oper} {a:Act} {w:World} {Q:Exit→Act→World→Prop} (hg:o.guard=none) (hg':o'.guard=none) (x y:Operand) (d:Tmp) (ho:o.op = .load 114 x) (hd:o.dst=some d) (ho':o'.op = .store 114 y (.tmp d))
 (g g':Nat) (F G:Nat→Bool) (hx:a.eval x = .pointer (some ⟨g,0,none⟩)) (hy:(a.put (some d) (.agg (arr F))).eval y = .pointer (some ⟨g',0,none⟩)) (hz:(a.put (some d) (.agg (arr F))).eval (.tmp d) = .agg (arr F)) (hrow:Row w g F) (hrow':Row w g' G)
 (h:wpList Tryz.prog ops Q rest ((a.put (some d) (.agg (arr F))).put o'.dst undef) (w.setRow g' (arr F))):wpList Tryz.prog ops Q (o :: o' :: rest) a w :=
 load_frame hg x ho g F hx hrow (by rw [hd];exact store_frame hg' y (.tmp d) ho' g' F G hy hz hrow' h)
theorem results_frame {fn:Func} {p:Tmp} (h:fn.results=#[.cell p 114]) (tmps:Array Value) (w:World) (g:Nat) (F:Nat→Bool) (hp:tmps.getD p undef = .pointer (some ⟨g,0,none⟩)) (hrow:Row w g F) :
 (results fn tmps).run Tryz.prog w = .ok (.agg (arr F)) w:=results_cell_row h tmps w g _ _ _ _ hp hrow Tryz.underlying114 rfl (info_of _)
theorem below_setRow {B:Nat} {a w:World} (h:Below B a w) (g:Nat) (cs:Array Value) (hg:B≤g):Below B a (w.setRow g cs) :=
 ⟨h.os,h.tape,h.output,by rw [size_setRow];exact h.size,fun k hk=>(setRow_other w g k cs (by omega)).trans (h.block k hk)⟩
theorem ret_bool {a b:Bool} (h:a=b):Ending.returned (.bool a) = .returned (.bool b):=by rw [h]
theorem ret_int {k:IntKind} {a b:Int} (h:a=b):Ending.returned (.int k a) = .returned (.int k b):=by rw [h]
theorem ret_arr {F G:Nat→Bool} (h:∀ i,i < 11→F i=G i):Ending.returned (.agg (arr F)) = .returned (.agg (arr G)):=by rw [arr_congr h]
end Go.Proofs.YtpkipilggkbkeaaGreatDoor.Ua
