import Derived.Test.YtdbdacceecnpmaaGreatDoorQr3
import Derived.WideKeyEntry
import Derived.DeepKeys5
set_option maxRecDepth 100000
set_option maxHeartbeats 4000000
namespace Go.Proofs.YtdbdacceecnpmaaGreatDoor
open Go.Proofs.Tryz Go.RowKit
open Ad (goodB)
open Ck (LL bI lat may_all sE sN tE who_cases)
open Fl (DoPost K4 R4 arr4 at4 at_bool doE do_any eq_rec file goodF goodFB hdr newL newP newR okL okR rat rec4 row_cell row_frozen rsame_any sameF sto2 sto2_below sto2_other sto2_row sto2_size sto4 sto4_below sto4_other sto4_row sto4_size z4)
open Fs (Abs Fx GetPost OkA Only Rh SetPost St Wf dA dD dE gB gV keyI law sA sB set_any)
open Ro (E5 K5 at5 eat ent may_each okB okE okE_bounds ok_yes z5)
open Rw (At Kind Ow Rd)
namespace Fs
open Go.Maps
attribute [local irreducible] Sd.wpSd wpQuiet Sg.wpSg
structure Ask0 (w:World) (o f r:Int) (x:R4) (W:World):Prop where
 adr:W.heap[w.heap.size]? = some (.cells #[.int .i64 o,.int .i64 f,.int .i64 r] 66 (0,0))
 arg:W.heap[w.heap.size+1]? = some (.cells (arr4 x) 36 (0,0))
 res:W.heap[w.heap.size+2]? = some (.cells (arr4 z4) 36 (0,0))
 siz:w.heap.size+3<=W.heap.size
 bel:Below w.heap.size w W
theorem Ask0.mono {w W W':World} {o f r:Int} {x:R4} (h:Ask0 w o f r x W) (b:Below W.heap.size W W'):Ask0 w o f r x W' :=
 have s:=h.siz
 ⟨(b.block _ (by omega)).trans h.adr,(b.block _ (by omega)).trans h.arg,(b.block _ (by omega)).trans h.res,aX h.siz b.size,h.bel.trans (b.mono (by omega))⟩
theorem ask0_of (w:World) (o f r:Int) (x:R4):Ask0 w o f r x (((w.alloc (.cells #[.int .i64 o,.int .i64 f,.int .i64 r] 66)).alloc (.cells #[.int .u8 x.1,.int .u8 x.2.1,.int .u8 x.2.2.1,.int .u8 x.2.2.2] 36)).alloc (.cells #[.int .u8 0,.int .u8 0,.int .u8 0,.int .u8 0] 36)):=by
 have z1:∀ a,(w.alloc a).heap.size=w.heap.size+1:=fun a=>by simp
 have z2:∀ a b,((w.alloc a).alloc b).heap.size=w.heap.size+2:=fun a b=>by simp
 refine ⟨?_,?_,?_,by simp,(((aa w.heap.size w).alloc (ac _) _).alloc (by simp) _).alloc (by simp;omega) _⟩
 ·exact (aQ _ _ _ (by rw [z2];omega)).trans ((aQ _ _ _ (by rw [z1];omega)).trans (am w _))
 ·have:=am (w.alloc (.cells #[.int .i64 o,.int .i64 f,.int .i64 r] 66)) (.cells (arr4 x) 36)
  rw [z1] at this;exact (aQ _ _ _ (by rw [z2];omega)).trans this
 ·have:=am ((w.alloc (.cells #[.int .i64 o,.int .i64 f,.int .i64 r] 66)).alloc (.cells (arr4 x) 36)) (.cells (arr4 z4) 36)
  rw [z2] at this;exact this
def Adr (w:World) (o f r:Int) (W:World):Prop:=W.heap[w.heap.size]? = some (.cells #[.int .i64 o,.int .i64 f,.int .i64 r] 66 (0,0))
def AskNo (w:World) (f k:Int) (e:Ending) (w':World):Prop:=e = .returned (.tuple #[rec4 z4,fault f k])/\Below w.heap.size w w'
variable {w W W':World} {s b B:Nat} {F:Nat->Prop} {m:Value} {C:List Ent} {d:Int}
theorem ask_none (S:Sto w s F m C d) (o f r:Int) (x:R4) (hn:Wf f) (hk:look Ent.n f C=none) :
 Calls prog 79 #[.pointer (some ⟨s,0,none⟩),Ad.addr o f r,rec4 x] w (AskNo w f 3):=by
 have A0:=ask0_of w o f r x;have S0:=Hh (A0);have SS:=Hh (S.below A0.bel);have HN:=Hh hn;have L:=Hh (lv_none hk);have LB:=Hh (lb_none hk);clear A0 hn;clear S hk;unfold rec4;unfold Ad.addr
 go_enter func79,ntmps79
 go_wp2_with fail;generalize (((w.alloc (.cells #[.int .i64 o,.int .i64 f,.int .i64 r] 66)).alloc (.cells #[.int .u8 x.1,.int .u8 x.2.1,.int .u8 x.2.2.1,.int .u8 x.2.2.2] 36)).alloc (.cells #[.int .u8 0,.int .u8 0,.int .u8 0,.int .u8 0] 36))=W at *;have c0:=Sd.cell_by (Fl.rc SS.row 0);have a1:=Sd.cell_by (Fl.rc S0.adr 1);have hlk:∀ P:Sd.By W,(Instr.lookup 148 m (.int .i64 f) true).run prog P.world = .ok (.tuple #[.agg #[.int .i64 0,.slice none 0 0],.bool false]) P.world:=fun P=>by
  have:=run_look (SS.below P.below).mp HN true;rw [L.out,LB.out] at this;exact this
 refine Sg.startP [(0,0),(0,1),(0,2),(0,3),(0,4),(0,5),(0,6),(0,7),(0,8),(0,9),(2,10),(1,11),(0,12)] [⟨10,8,#[.int .i64 0,.slice none 0 0],83,none,none⟩] (by kernel_rfl) (by kernel_rfl) (by kernel_rfl) (by decide) (by decide) ?_ ?_ ?_
 ·simp
 ·intro f hf
  simp only [aN,bp,cG] at hf;subst hf;exact Sg.okP rfl rfl rfl fun ρ w=>by go_simp
 dsimp only [Sg.picks,List.getElem?_cons_succ,List.getElem?_cons_zero];have BW:=Hh ((aa W.heap.size W).drew)
 repeat (refine Sg.lit (fun xs=>?_);simp only [Sg.fill,aK,aD];quiet_step (fail);refine az ?_)
 refine Sg.meetP (fun gF w7 hb hc row n7 hH hL=>?_);have B7:=bTr BW hb;have R7:=Hh (row);clear hb hc row hH hL BW;refine Sg.callB (fun xs w9 hb hc=>⟨by rfl,fun K hK=>?_⟩);have B9:=bTr B7 hb;have R9:=bBl hb R7;obtain ⟨k0,k1,f0,f1⟩:=rf2 R9;have RA:=Hh (sto2_row R9 0 (.slice none 0 0));have BA:=Hh (sto2_below (p:=0) (v:=.slice none 0 0) B9 n7);have hsz:=sto2_size w9 gF 0 (.slice none 0 0);clear hb hc B7 R7 R9 B9;simp only [Sg.fill,aD];go_simp;refine hK _ _ (Sd.Cl.of BA) (by rw [← hsz];exact ac _) (fun h=>absurd rfl h) ?_;clear hK K k0 k1 f0 f1 hsz
 show Sg.wpSg _ _ _ _ _ _ _ _ _ _ _ (sto2 w9 gF 0 (.slice none 0 0))
 generalize sto2 w9 gF 0 (.slice none 0 0)=wA at *
 repeat (refine Sg.lit (fun xs=>?_);simp only [Sg.fill,aD];quiet_step (fail);refine az ?_)
 refine Sg.done (fun wB hb hc=>?_);have BX:=bTr BA hb;have G1:=Hh (bBl hb RA);have S1:=Hh (S0.mono BX);have N7:=Hh (n7);clear hb hc BA RA c0 a1 hlk n7 S0;clear BX G1 N7 SS;go_wp2_with fail;have C0:=S1.adr;have a1:=Sc.cell_in (C:=Adr w o f r) (a:=⟨w.heap.size,1,none⟩) (v:=.int .i64 f) (fun W' h=>row_cell h 1);have ne:Nonempty (Sc.In (Adr w o f r)):=⟨⟨_,C0⟩⟩;refine Sc.start (Adr w o f r) [(false,0),(false,1),(false,2),(false,3),(false,4),(false,5),(true,6),(false,7)] (by kernel_rfl) (by kernel_rfl) (by kernel_rfl) C0 ?_;dsimp only [Sd.picks,List.getElem?_cons_succ,List.getElem?_cons_zero]
 repeat (refine Sd.lit ?_;quiet_step (fail);refine az ?_)
 have S2:=Hh (S1.mono ((aa wB.heap.size wB).drew));clear S1 C0 a1;generalize wB.drew=Wy at *;refine Sd.call (by rfl) (fun K hK=>?_);obtain ⟨d0,d1,d2,d3,k0,k1,k2,k3⟩:=rf4 S2.res;have L2:Adr w o f r (sto4 Wy (w.heap.size+2) 0 z4):=sto4_other S2.adr (by omega);have R3:=Hh (sto4_row S2.res z4);have B3:=Hh (sto4_below (o:=0) (r:=z4) S2.bel (show w.heap.size<=w.heap.size+2 by omega));clear S2;go_simp;refine hK _ _ (Sc.Cl.of L2) ?_;clear hK K d0 d1 d2 d3 k0 k1 k2 k3 L2
 show Sd.wpSd _ _ _ _ _ _ (sto4 Wy (w.heap.size+2) 0 z4)
 generalize sto4 Wy (w.heap.size+2) 0 z4=Wz at *
 repeat (refine Sd.lit ?_;quiet_step (fail);refine az ?_)
 refine Sd.done ?_;go_wp2
 (try simp only [Exit.inBlock,Exit.then])
 exact aA (results_rec (p:=6) (r:=7) rfl _ _ (w.heap.size+2) z4 (fault f 3) rfl rfl R3) rfl ⟨rfl,B3⟩
theorem do_err (w:World) (p:Int) (v:Value) (l:List R4) (R:Rd K4 w v l) (hl:okL l) (o r k:Int) (x:R4) (he:doE p l o r=k) (hk:k≠0):Calls prog 106 #[file p v,.int .i64 o,.int .i64 r,rec4 x] w fun e w'=>∃ a cap,e = .returned (.tuple #[file 0 (.slice a 0 cap),rec4 z4,.int .i64 k])/\Below w.heap.size w w' :=
 (do_any w p v l R hl o r x).mono fun e w' ⟨u,h1,h2,h3⟩=>by
   rw [he,ah hk] at h2;obtain ⟨a,cap,rfl,_⟩:=h2.slice;rw [he,ah hk,ah hk] at h1;exact ⟨a,cap,h1,h3⟩
theorem do_ok (w:World) (p:Int) (v:Value) (l:List R4) (R:Rd K4 w v l) (hl:okL l) (o r:Int) (x:R4) (he:doE p l o r=0):Calls prog 106 #[file p v,.int .i64 o,.int .i64 r,rec4 x] w fun e w'=>∃ a cap,e = .returned (.tuple #[file p (.slice a l.length cap),rec4 (newR l o r x),.int .i64 0])/\Ow K4 w' w.heap.size 36 (.slice a l.length cap) (l.set r.toNat (newR l o r x))/\Below w.heap.size w w' :=
 (do_any w p v l R hl o r x).mono fun e w' ⟨u,h1,h2,h3⟩=>by
   rw [he,aj rfl] at h2;obtain ⟨a,cap,rfl,_⟩:=h2.slice;rw [aT] at h1 h2;rw [he,aj rfl,aj rfl] at h1;exact ⟨a,cap,h1,h2,h3⟩
theorem two_res (w:World) (q:Int) (u:Value) (y:R4):((w.alloc (.cells #[.int .i64 q,u] 83)).alloc (.cells (arr4 y) 36)).heap[w.heap.size]? = some (.cells #[.int .i64 q,u] 83 (0,0))/\((w.alloc (.cells #[.int .i64 q,u] 83)).alloc (.cells (arr4 y) 36)).heap[w.heap.size+1]? = some (.cells (arr4 y) 36 (0,0))/\Below w.heap.size w ((w.alloc (.cells #[.int .i64 q,u] 83)).alloc (.cells (arr4 y) 36)):=by
 refine ⟨(aQ _ _ _ (by simp)).trans (am w _),?_,((aa w.heap.size w).alloc (ac _) _).alloc (by simp) _⟩;have:=am (w.alloc (.cells #[.int .i64 q,u] 83)) (.cells (arr4 y) 36)
 simpa using this
variable {c:Ent}
theorem ask_err (S:Sto w s F m C d) (o f r k:Int) (x:R4) (hn:Wf f) (hk:look Ent.n f C=some c) (he:doE c.p c.l o r=k) (h0:k≠0) :
 Calls prog 79 #[.pointer (some ⟨s,0,none⟩),Ad.addr o f r,rec4 x] w (AskNo w f k):=by
 obtain ⟨ho,hgd,hok,_,_,hcm⟩:=S.find hk;have RR:=Hh (ho.rd);have OK:=Hh hok;have A0:=ask0_of w o f r x;have S0:=Hh (A0);have SS:=Hh (S.below A0.bel);have HN:=Hh hn;have L:=Hh (lv_some hk);have LB:=Hh (lb_some hk);obtain ⟨cn,p,a,cap,l⟩:=c;unfold Ent.sl at RR;simp only at *;have HE:=Hh (bT he h0);have hk1:(k == 0)=false:=by simpa using h0
 obtain ⟨q,hq⟩:∃ q,q=l.length:=⟨_,rfl⟩;rw [← hq] at RR L;have HQ:=Hh hq;clear S hk A0 hn ho hgd hok hcm he hq;unfold rec4;unfold Ad.addr
 go_enter func79,ntmps79
 go_wp2_with fail;generalize (((w.alloc (.cells #[.int .i64 o,.int .i64 f,.int .i64 r] 66)).alloc (.cells #[.int .u8 x.1,.int .u8 x.2.1,.int .u8 x.2.2.1,.int .u8 x.2.2.2] 36)).alloc (.cells #[.int .u8 0,.int .u8 0,.int .u8 0,.int .u8 0] 36))=W at *;have c0:=Sd.cell_by (Fl.rc SS.row 0);have a1:=Sd.cell_by (Fl.rc S0.adr 1);have hlk:∀ P:Sd.By W,(Instr.lookup 148 m (.int .i64 f) true).run prog P.world = .ok (.tuple #[.agg #[.int .i64 p,.slice a q cap],.bool true]) P.world:=fun P=>by
  have:=run_look (SS.below P.below).mp HN true;rw [L.out,LB.out] at this;exact this
 refine Sg.startP [(0,0),(0,1),(0,2),(0,3),(0,4),(0,5),(0,6),(0,7),(0,8),(0,9),(2,10),(1,11),(0,12)] [⟨10,8,#[.int .i64 0,.slice none 0 0],83,none,none⟩] (by kernel_rfl) (by kernel_rfl) (by kernel_rfl) (by decide) (by decide) ?_ ?_ ?_
 ·simp
 ·intro f hf
  simp only [aN,bp,cG] at hf;subst hf;exact Sg.okP rfl rfl rfl fun ρ w=>by go_simp
 dsimp only [Sg.picks,List.getElem?_cons_succ,List.getElem?_cons_zero];have BW:=Hh ((aa W.heap.size W).drew)
 repeat (refine Sg.lit (fun xs=>?_);simp only [Sg.fill,aK,aD];quiet_step (fail);refine az ?_)
 refine Sg.meetP (fun gF w7 hb hc row n7 hH hL=>?_);have B7:=bTr BW hb;have R7:=Hh (row);clear hb hc row hH hL BW;refine Sg.callB (fun xs w9 hb hc=>⟨by rfl,fun K hK=>?_⟩);have B9:=bTr B7 hb;have R9:=bBl hb R7;obtain ⟨k0,k1,f0,f1⟩:=rf2 R9;have RA:=Hh (sto2_row R9 p (.slice a q cap));have BA:=Hh (sto2_below (p:=p) (v:=.slice a q cap) B9 n7);have hsz:=sto2_size w9 gF p (.slice a q cap);clear hb hc B7 R7 R9 B9;simp only [Sg.fill,aD];go_simp;refine hK _ _ (Sd.Cl.of BA) (by rw [← hsz];exact ac _) (fun h=>absurd rfl h) ?_;clear hK K k0 k1 f0 f1 hsz
 show Sg.wpSg _ _ _ _ _ _ _ _ _ _ _ (sto2 w9 gF p (.slice a q cap))
 generalize sto2 w9 gF p (.slice a q cap)=wA at *
 repeat (refine Sg.lit (fun xs=>?_);simp only [Sg.fill,aD];quiet_step (fail);refine az ?_)
 refine Sg.done (fun wB hb hc=>?_);have BX:=bTr BA hb;have G1:=Hh (bBl hb RA);have S1:=Hh (S0.mono BX);have N7:=Hh (n7);clear hb hc BA RA c0 a1 hlk n7 S0;obtain ⟨b0,b1⟩:=rc2 G1;have a0:=Fl.rc S1.adr 0;have a2:=Fl.rc S1.adr 2;obtain ⟨x0,x1,x2,x3⟩:=rc4 S1.arg;have DO:=Hh (do_err wB p (.slice a q cap) l (RR.below S1.bel) OK o r k x HE.out.1 HE.out.2);clear SS BX G1 N7 L LB;unfold file rec4 at DO;go_wp2_with fail;refine DO.mono ?_;rintro e w3 ⟨ua,ucap,rfl,b3⟩;obtain ⟨t1,t2,tB⟩:=two_res w3 0 (.slice ua 0 ucap) z4;have S3:=Hh ((S1.mono b3).mono tB);clear t1 t2 tB b3 DO b0 b1 a0 a2 x0 x1 x2 x3 S1;unfold z4;unfold arr4 z4 at S3;go_wp2_with fail;generalize ((w3.alloc (.cells #[.int .i64 0,.slice ua 0 ucap] 83)).alloc (.cells #[.int .u8 0,.int .u8 0,.int .u8 0,.int .u8 0] 36))=Wq at *;have S1:=Hh (S3);clear S3;have C0:=S1.adr;have a1:=Sc.cell_in (C:=Adr w o f r) (a:=⟨w.heap.size,1,none⟩) (v:=.int .i64 f) (fun W' h=>row_cell h 1);have ne:Nonempty (Sc.In (Adr w o f r)):=⟨⟨_,C0⟩⟩;refine Sc.start (Adr w o f r) [(false,0),(false,1),(false,2),(false,3),(false,4),(false,5),(false,6),(true,7),(false,8)] (by kernel_rfl) (by kernel_rfl) (by kernel_rfl) C0 ?_;dsimp only [Sd.picks,List.getElem?_cons_succ,List.getElem?_cons_zero]
 repeat (refine Sd.lit ?_;quiet_step (fail);refine az ?_)
 have S2:=Hh (S1.mono ((aa Wq.heap.size Wq).drew));clear S1 C0 a1;generalize Wq.drew=Wy at *;refine Sd.call (by rfl) (fun K hK=>?_);obtain ⟨d0,d1,d2,d3,k0,k1,k2,k3⟩:=rf4 S2.res;have L2:Adr w o f r (sto4 Wy (w.heap.size+2) 0 z4):=sto4_other S2.adr (by omega);have R3:=Hh (sto4_row S2.res z4);have B3:=Hh (sto4_below (o:=0) (r:=z4) S2.bel (show w.heap.size<=w.heap.size+2 by omega));clear S2;go_simp;refine hK _ _ (Sc.Cl.of L2) ?_;clear hK K d0 d1 d2 d3 k0 k1 k2 k3 L2
 show Sd.wpSd _ _ _ _ _ _ (sto4 Wy (w.heap.size+2) 0 z4)
 generalize sto4 Wy (w.heap.size+2) 0 z4=Wz at *
 repeat (refine Sd.lit ?_;quiet_step (fail);refine az ?_)
 refine Sd.done ?_;go_wp2
 (try simp only [Exit.inBlock,Exit.then])
 exact aA (results_rec (p:=6) (r:=7) rfl _ _ (w.heap.size+2) z4 (fault f k) rfl rfl R3) rfl ⟨rfl,B3⟩
theorem Sto.place2 (h:Sto w s F (.map (some b)) C d) (hb:Below w.heap.size w W) (hB:w.heap.size<=B) (hg:W.grownBy W' (some b)) (mp:Mp W' F (.map (some b)) (Fs.put Ent.n c C)) (ow:Ow K4 W B 36 c.sl c.l) (hn:0<=c.n/\c.n<=63) (hgd:goodF c.p c.l) (hl:okL c.l) :
 St W' s (fun k=>F k\/(B<=k/\k < W'.heap.size)) ((Fs.put Ent.n c C).map Ent.abs) d/\Only F w W':=by
 have hne:=h.map_ne;have hFb:=h.mp.isMap.1;have hbl:=h.low b hFb;have hsl:=h.low s h.foot;have O:=(Only.of_below hb).trans (Only.grown (G:=fun k=>k=b) rfl hg) fun k _ e=>e ▸ hFb;have off:=ow_new ow;refine ⟨⟨_,_,h.put (w':=W') (d':=d) (F':=fun k=>F k\/(B<=k/\k < W'.heap.size)) ?_ (fun k hk=>.inl hk) (mp.wide fun k hk=>.inl hk) (fun e he hne=>?_) ?_ (fun k hk=>.inr ⟨(off k hk).1,aV (off k hk).2 hg.size⟩) (fun e he hne k hk hk'=>?_) hn hgd hl (fun k hk=>?_),rfl⟩,O⟩
 ·rw [hg.block s (aV hsl hb.size) (by intro e;injection e with e;exact hne e.symm),hb.block s hsl]
  exact h.row
 ·exact ow_only (G:=fun k=>k=b) ((h.own e he).keep hb) (fun k hk e'=>(h.off he).2 b rfl (by rw [hk,e'])) (Only.grown rfl hg)
 ·exact ow_only (G:=fun k=>k=b) (ow.low (aI _)) (fun k hk e'=>by have:=(off k hk).1;omega) (Only.grown rfl hg)
 ·have:=(off k hk).1
  have:=h.low k (h.mine e he k hk')
  omega
 ·rcases hk with hk | ⟨_,hk⟩
  ·have:=h.low k hk
   have:=O.size
   omega
  ·exact hk
def AskYes (w:World) (s:Nat) (F:Nat->Prop) (d:Int) (y:R4) (A':Abs) (e:Ending) (w':World):Prop:=e = .returned (.tuple #[rec4 y,.nilIface])/\St w' s (Fx F w w') A' d/\Only F w w'
structure OkC (w:World) (s:Nat) (m:Value) (d o f r:Int) (g:Nat) (p:Int) (u:Value) (W:World):Prop where
 row:W.heap[s]? = some (.cells #[m,.int .i64 d] 150 (0,0))
 adr:W.heap[w.heap.size]? = some (.cells #[.int .i64 o,.int .i64 f,.int .i64 r] 66 (0,0))
 box:W.heap[g]? = some (.cells #[.int .i64 p,u] 83 (0,0))
theorem ask_ok (S:Sto w s F (.map (some b)) C d) (o f r:Int) (x:R4) (hx:okR x) (hn:Wf f) (hk:look Ent.n f C=some c) (he:doE c.p c.l o r=0) :
 Calls prog 79 #[.pointer (some ⟨s,0,none⟩),Ad.addr o f r,rec4 x] w (AskYes w s F d (newR c.l o r x) (put key (f,c.p,c.l.set r.toNat (newR c.l o r x)) (C.map Ent.abs))):=by
 obtain ⟨ho,hgd,hok,_,hnm,hcm⟩:=S.find hk;have RR:=Hh (ho.rd);have OK:=Hh hok;have A0:=ask0_of w o f r x;have S0:=Hh (A0);have SS:=Hh (S.below A0.bel);have HN:=Hh hn;have L:=Hh (lv_some hk);have LB:=Hh (lb_some hk);have SW:=Hh S;have hne:=S.map_ne;have hlen:=S.len;have hsl:=S.low s S.foot;have hbl:=S.low b S.mp.isMap.1;obtain ⟨cn,p,a,cap,l⟩:=c;unfold Ent.sl at RR;simp only at *;have FIN:Hid (∀ (B:Nat) (au:Option Addr) (cu:Nat) (W W' W'':World),w.heap.size+3<=B->Below w.heap.size w W->W.grownBy W' (some b)->Ow K4 W B 36 (.slice au l.length cu) (l.set r.toNat (newR l o r x))->(∀ c:Ent,c.n=f->c.file=file p (.slice au l.length cu)->c.l=l.set r.toNat (newR l o r x)->Mp W' F (.map (some b)) (put Ent.n c C))->B<=W'.heap.size->Only (fun k=>k=w.heap.size+2) W' W''->AskYes w s F d (newR l o r x) (put key (f,p,l.set r.toNat (newR l o r x)) (C.map Ent.abs)) (.returned (.tuple #[rec4 (newR l o r x),.nilIface])) W''):=fun B au cu W W' W'' hB hb hgr ow mp hBW o2=>by
  have hlen2:(l.set r.toNat (newR l o r x)).length=l.length:=aT ..;have hfile:(⟨f,p,au,cu,l.set r.toNat (newR l o r x)⟩:Ent).file=file p (.slice au l.length cu):=by unfold Ent.file Ent.sl;rw [hlen2]
  have ow':Ow K4 W B 36 (⟨f,p,au,cu,l.set r.toNat (newR l o r x)⟩:Ent).sl (l.set r.toNat (newR l o r x)):=by unfold Ent.sl;rw [hlen2];exact ow
  obtain ⟨S1,O1⟩:=S.place2 (c:=⟨f,p,au,cu,l.set r.toNat (newR l o r x)⟩) hb (by omega) hgr (mp _ rfl hfile rfl) ow' hnm (good_do he) (okL_set hok (okR_new hok hx));rw [abs_put] at S1;have O2:=O1.trans (o2.mono (G':=fun k=>k=w.heap.size+2) fun _ _ g=>g) fun k hk e=>by omega
  have S2:=S1.only (G:=fun k=>k=w.heap.size+2) (fun k hk e=>by
   rcases hk with hk | ⟨hk,_⟩
   ·have:=S.low k hk;omega
   ·omega) o2
  refine ⟨rfl,S2.wide (fun k hk=>?_) (Fx.low S.low O2.size),O2⟩
  rcases hk with hk | ⟨h1,h2⟩
  ·exact .inl hk
  ·exact .inr ⟨by omega,aV h2 o2.size⟩
 have HE:=Hh he;obtain ⟨q,hq⟩:∃ q,q=l.length:=⟨_,rfl⟩;rw [← hq] at RR L FIN;have HQ:=Hh hq;clear S hk A0 hn ho hgd hok hcm he hq hnm;unfold rec4;unfold Ad.addr
 go_enter func79,ntmps79
 go_wp2_with fail;generalize (((w.alloc (.cells #[.int .i64 o,.int .i64 f,.int .i64 r] 66)).alloc (.cells #[.int .u8 x.1,.int .u8 x.2.1,.int .u8 x.2.2.1,.int .u8 x.2.2.2] 36)).alloc (.cells #[.int .u8 0,.int .u8 0,.int .u8 0,.int .u8 0] 36))=W at *;have c0:=Sd.cell_by (Fl.rc SS.row 0);have a1:=Sd.cell_by (Fl.rc S0.adr 1);have hlk:∀ P:Sd.By W,(Instr.lookup 148 (.map (some b)) (.int .i64 f) true).run prog P.world = .ok (.tuple #[.agg #[.int .i64 p,.slice a q cap],.bool true]) P.world:=fun P=>by
  have:=run_look (SS.below P.below).mp HN true;rw [L.out,LB.out] at this;exact this
 refine Sg.startP [(0,0),(0,1),(0,2),(0,3),(0,4),(0,5),(0,6),(0,7),(0,8),(0,9),(2,10),(1,11),(0,12)] [⟨10,8,#[.int .i64 0,.slice none 0 0],83,none,none⟩] (by kernel_rfl) (by kernel_rfl) (by kernel_rfl) (by decide) (by decide) ?_ ?_ ?_
 ·simp
 ·intro f hf
  simp only [aN,bp,cG] at hf;subst hf;exact Sg.okP rfl rfl rfl fun ρ w=>by go_simp
 dsimp only [Sg.picks,List.getElem?_cons_succ,List.getElem?_cons_zero];have BW:=Hh ((aa W.heap.size W).drew)
 repeat (refine Sg.lit (fun xs=>?_);simp only [Sg.fill,aK,aD];quiet_step (fail);refine az ?_)
 refine Sg.meetP (fun gF w7 hb hc row n7 hH hL=>?_);have B7:=bTr BW hb;have R7:=Hh (row);clear hb hc row hH hL BW;refine Sg.callB (fun xs w9 hb hc=>⟨by rfl,fun K hK=>?_⟩);have B9:=bTr B7 hb;have R9:=bBl hb R7;obtain ⟨k0,k1,f0,f1⟩:=rf2 R9;have RA:=Hh (sto2_row R9 p (.slice a q cap));have BA:=Hh (sto2_below (p:=p) (v:=.slice a q cap) B9 n7);have hsz:=sto2_size w9 gF p (.slice a q cap);clear hb hc B7 R7 R9 B9;simp only [Sg.fill,aD];go_simp;refine hK _ _ (Sd.Cl.of BA) (by rw [← hsz];exact ac _) (fun h=>absurd rfl h) ?_;clear hK K k0 k1 f0 f1 hsz
 show Sg.wpSg _ _ _ _ _ _ _ _ _ _ _ (sto2 w9 gF p (.slice a q cap))
 generalize sto2 w9 gF p (.slice a q cap)=wA at *
 repeat (refine Sg.lit (fun xs=>?_);simp only [Sg.fill,aD];quiet_step (fail);refine az ?_)
 refine Sg.done (fun wB hb hc=>?_);have BX:=bTr BA hb;have G1:=Hh (bBl hb RA);have S1:=Hh (S0.mono BX);have N7:=Hh (n7);clear hb hc BA RA c0 a1 hlk n7 S0;obtain ⟨b0,b1⟩:=rc2 G1;have a0:=Fl.rc S1.adr 0;have a2:=Fl.rc S1.adr 2;obtain ⟨x0,x1,x2,x3⟩:=rc4 S1.arg;have DO:=Hh (do_ok wB p (.slice a q cap) l (RR.below S1.bel) OK o r x HE);rw [← HQ.out] at DO;have HB3:=Hh (S1.siz);clear BX G1 N7 L LB RR OK HE SS;generalize l.set r.toNat (newR l o r x)=l2 at *;generalize newR l o r x=y at *;unfold file rec4 at DO;go_wp2_with fail;refine DO.mono ?_;rintro e w3 ⟨ua,ucap,rfl,o3,b3⟩;obtain ⟨t1,t2,tB⟩:=two_res w3 p (.slice ua q ucap) y;have S3:=Hh ((S1.mono b3).mono tB);have T1:=Hh t1;have T2:=Hh t2;have O3:=Hh (o3.keep tB);have hw3:Hid (wB.heap.size<=w3.heap.size):=b3.size;clear t1 t2 tB b3 DO b0 b1 a0 a2 x0 x1 x2 x3 S1 o3;unfold arr4 at S3 T1 T2 O3;go_wp2_with fail;have TZ:Hid (w3.heap.size+2=((w3.alloc (.cells #[.int .i64 p,.slice ua q ucap] 83)).alloc (.cells #[.int .u8 y.1,.int .u8 y.2.1,.int .u8 y.2.2.1,.int .u8 y.2.2.2] 36)).heap.size):=by unfold Hid;simp
 generalize ((w3.alloc (.cells #[.int .i64 p,.slice ua q ucap] 83)).alloc (.cells #[.int .u8 y.1,.int .u8 y.2.1,.int .u8 y.2.2.1,.int .u8 y.2.2.2] 36))=Wq at *;have S5:=Hh (SW.below S3.bel);have C0:OkC w s (.map (some b)) d o f r w3.heap.size p (.slice ua q ucap) Wq.drew:=⟨S5.row,S3.adr,T1⟩;have c0:=Sc.cell_in (C:=OkC w s (.map (some b)) d o f r w3.heap.size p (.slice ua q ucap)) (a:=⟨s,0,none⟩) (fun W' h=>row_cell h.row 0);have a1:=Sc.cell_in (C:=OkC w s (.map (some b)) d o f r w3.heap.size p (.slice ua q ucap)) (a:=⟨w.heap.size,1,none⟩) (v:=.int .i64 f) (fun W' h=>row_cell h.adr 1);have r0:=Sc.cell_in (C:=OkC w s (.map (some b)) d o f r w3.heap.size p (.slice ua q ucap)) (a:=⟨w3.heap.size,0,none⟩) (fun W' h=>row_cell h.box 0);have r1:=Sc.cell_in (C:=OkC w s (.map (some b)) d o f r w3.heap.size p (.slice ua q ucap)) (a:=⟨w3.heap.size,1,none⟩) (fun W' h=>row_cell h.box 1);have ne:Nonempty (Sc.In (OkC w s (.map (some b)) d o f r w3.heap.size p (.slice ua q ucap))):=⟨⟨_,C0⟩⟩;refine Sc.start (OkC w s (.map (some b)) d o f r w3.heap.size p (.slice ua q ucap)) [(false,0),(false,1),(false,2),(false,3),(false,4),(false,5),(false,6),(true,7)] (by kernel_rfl) (by kernel_rfl) (by kernel_rfl) C0 ?_;dsimp only [Sd.picks,List.getElem?_cons_succ,List.getElem?_cons_zero]
 repeat (refine Sd.lit ?_;quiet_step (fail);refine az ?_)
 have BD:Below Wq.heap.size Wq Wq.drew:=(aa _ _).drew;have S6:=Hh (S3.mono BD);have M6:=Hh (S5.below BD).mp;have R6:=Hh (S5.below BD).row;have T6:Hid (Wq.drew.heap[w3.heap.size]? = _):=T1;have T7:Hid (Wq.drew.heap[w3.heap.size+1]? = _):=T2;have O6:=Hh (O3.keep BD);have Z6:Hid (w3.heap.size+2=Wq.drew.heap.size):=TZ;clear c0 a1 r0 r1 C0 S3 S5 T1 T2 O3 TZ BD;generalize Wq.drew=Wy at *;refine Sd.call (by rfl) (fun K hK=>?_);have hcl:C.length < maxLen:=by unfold maxLen;omega
 have hll2:Hid (l2.length=q):=by
  have:=O6.out;unfold Ow World.ownsRow at this
  rcases this.2 with ⟨e,h0⟩ | ⟨g,cp,cur,e,_⟩
  ·injection e with _ e _;exact h0.trans e.symm
  ·injection e with _ e _;exact e.symm
 have hfl:(⟨f,p,ua,ucap,l2⟩:Ent).file = .agg #[.int .i64 p,.slice ua q ucap]:=by unfold Ent.file Ent.sl Fl.file;rw [hll2.out]
 refine wp_put _ _ _ rfl rfl M6 ⟨f,p,ua,ucap,l2⟩ rfl (by rw [hfl];rfl) HN.out hcl (fun w4 m4 g4=>?_);have hbne1:b≠w3.heap.size:=by have:=HB3.out;have:=hw3.out;omega
 have hbne2:b≠w3.heap.size+1:=by have:=HB3.out;have:=hw3.out;omega
 have RES:=Hh (fun W''=>FIN wB.heap.size ua ucap Wy w4 W'' HB3 S6.bel g4 O6 (fun c e1 e2 e3=>by
  obtain ⟨cn',cp,ca,cc,cl⟩:=c;simp only at e1 e3;subst e1 e3;unfold Ent.file Fl.file Ent.sl at e2;injection e2 with e2;have e4:=bF (fun t:Array Value=>t[0]?) e2;have e5:=bF (fun t:Array Value=>t[1]?) e2
  simp at e4 e5
  obtain ⟨rfl,_,rfl⟩:=e5;subst e4
  exact m4) (by have:=g4.size;have:=Z6.out;have:=hw3.out;omega))
 have old:∀ k,k < Wy.heap.size->k≠b->w4.heap[k]? = Wy.heap[k]?:=fun k hk hne=>g4.block k hk (by intro e;injection e with e;exact hne e);have N1:w4.heap[s]? = _:=(old s (ay R6) (fun e=>hne e.symm)).trans R6;have N2:w4.heap[w.heap.size]? = _:=(old _ (ay S6.adr) (by omega)).trans S6.out.adr;have N3:w4.heap[w3.heap.size]? = _:=(old _ (ay T6) (fun e=>hbne1 e.symm)).trans T6;have N4:=(old _ (ay T7) (fun e=>hbne2 e.symm)).trans T7;have N5:=(old _ (ay S6.res) (by omega)).trans S6.out.res;refine hK _ _ (Sc.Cl.of ⟨N1,N2,N3⟩) ?_;clear hK K m4 g4 FIN N1 N2 N3 old R6 M6 T6 T7 O6;refine Sd.done ?_;obtain ⟨y0,y1,y2,y3⟩:=rc4 N4;obtain ⟨d0,d1,d2,d3,k0,k1,k2,k3⟩:=rf4 N5;have R9:=Hh (sto4_row N5 y);have O9:Hid (Only (fun k=>k=w.heap.size+2) w4 (sto4 w4 (w.heap.size+2) 0 y)):=by
  have O1:∀ W:World,∀ o v,Only (fun k=>k=w.heap.size+2) W (W.setCell ⟨w.heap.size+2,o,none⟩ v):=fun W o v=>Only.set (fun k=>k=w.heap.size+2) W (a:=⟨w.heap.size+2,o,none⟩) rfl v;exact (((O1 _ _ _).trans (O1 _ _ _) fun _ _ g=>g).trans (O1 _ _ _) fun _ _ g=>g).trans (O1 _ _ _) fun _ _ g=>g
 clear N4 N5 S6 HB3 hw3 Z6;go_wp2
 (try simp only [Exit.inBlock,Exit.then])
 exact aA (results_rec (p:=6) (r:=7) rfl _ _ (w.heap.size+2) y .nilIface rfl rfl R9) rfl (RES _ O9)
end Fs
namespace Ad
def Lead (o n:Int) (k:Bool):Prop:=o=0/\n=0/\k=true\/o=1/\n=64/\k=true\/o=2/\n=128/\k=true\/(o < 0\/2 < o)/\n=0/\k=false
theorem lead_any (w:World) (o n:Int) (k:Bool) (h:Lead o n k):Calls prog 105 #[.int .i64 o] w fun e w'=>e = .returned (.tuple #[.int .i64 n,.bool k])/\Below w.heap.size w w':=by
 rcases h with ⟨rfl,rfl,rfl⟩ | ⟨rfl,rfl,rfl⟩ | ⟨rfl,rfl,rfl⟩ | ⟨h | h,rfl,rfl⟩
 all_goals
  go_enter func105,ntmps105
  go_wp2
  go_ret2
  exact ⟨rfl,aa _ _⟩
variable {o:Int}
theorem lead_good (h1:0<=o) (h2:o<=2):Lead o (64 * o) true:=by
 unfold Lead
 rcases (by omega:o=0\/o=1\/o=2) with rfl | rfl | rfl
 ·exact .inl ⟨rfl,rfl,rfl⟩
 ·exact .inr (.inl ⟨rfl,rfl,rfl⟩)
 ·exact .inr (.inr (.inl ⟨rfl,rfl,rfl⟩))
theorem lead_bad (h:¬ (0<=o/\o<=2)):Lead o 0 false:=.inr (.inr (.inr ⟨by omega,rfl,rfl⟩))
theorem good_any (w:World) (o f r:Int):Calls prog 78 #[addr o f r] w fun e w'=>e = .returned (.bool (goodB o f r))/\Below w.heap.size w w':=by
 have B0:=Hh ((aa w.heap.size w).alloc (ac _) (.cells #[.int .i64 o,.int .i64 f,.int .i64 r] 66));unfold addr
 by_cases h0:0<=o/\o<=2
 ·have L:=Hh (lead_good h0.1 h0.2)
  obtain ⟨h1,h2⟩:=h0
  go_enter func78,ntmps78
  go_wp2_with fail;refine (lead_any _ o _ _ L).mono ?_;rintro e w1 ⟨rfl,b1⟩;have B1:=bTr B0 b1;have c1:w1.cell? ⟨w.heap.size,1,none⟩=some (.int .i64 f):=(b1.cell (by simp)).trans (by go_simp);have c2:w1.cell? ⟨w.heap.size,2,none⟩=some (.int .i64 r):=(b1.cell (by simp)).trans (by go_simp);clear b1 B0 L
  by_cases k0:0<=f
  ·by_cases k1:f < 64
   ·by_cases k2:0<=r
    ·by_cases k3:r < 256
     ·go_wp2
      go_ret
      exact ⟨ret_bool (by first | exact (an (show good o f r from ⟨by omega,by omega,by omega,by omega,by omega,by omega⟩)).symm | exact (ak (show ¬ good o f r from fun g=>by obtain ⟨_,_,_,_,_,_⟩:=g;omega)).symm | exact bf.2 ⟨fun h=>absurd h (by omega),fun g=>absurd g.2.2.2.2.2 (by omega)⟩),B1.out⟩
     ·go_wp2
      go_ret
      exact ⟨ret_bool (by first | exact (an (show good o f r from ⟨by omega,by omega,by omega,by omega,by omega,by omega⟩)).symm | exact (ak (show ¬ good o f r from fun g=>by obtain ⟨_,_,_,_,_,_⟩:=g;omega)).symm | exact bf.2 ⟨fun h=>absurd h (by omega),fun g=>absurd g.2.2.2.2.2 (by omega)⟩),B1.out⟩
    ·go_wp2
     go_ret
     exact ⟨ret_bool (by first | exact (an (show good o f r from ⟨by omega,by omega,by omega,by omega,by omega,by omega⟩)).symm | exact (ak (show ¬ good o f r from fun g=>by obtain ⟨_,_,_,_,_,_⟩:=g;omega)).symm | exact bf.2 ⟨fun h=>absurd h (by omega),fun g=>absurd g.2.2.2.2.2 (by omega)⟩),B1.out⟩
   ·go_wp2
    go_ret
    exact ⟨ret_bool (by first | exact (an (show good o f r from ⟨by omega,by omega,by omega,by omega,by omega,by omega⟩)).symm | exact (ak (show ¬ good o f r from fun g=>by obtain ⟨_,_,_,_,_,_⟩:=g;omega)).symm | exact bf.2 ⟨fun h=>absurd h (by omega),fun g=>absurd g.2.2.2.2.2 (by omega)⟩),B1.out⟩
  ·go_wp2
   go_ret
   exact ⟨ret_bool (by first | exact (an (show good o f r from ⟨by omega,by omega,by omega,by omega,by omega,by omega⟩)).symm | exact (ak (show ¬ good o f r from fun g=>by obtain ⟨_,_,_,_,_,_⟩:=g;omega)).symm | exact bf.2 ⟨fun h=>absurd h (by omega),fun g=>absurd g.2.2.2.2.2 (by omega)⟩),B1.out⟩
 ·have L:=Hh (lead_bad h0)
  go_enter func78,ntmps78
  go_wp2_with fail;refine (lead_any _ o _ _ L).mono ?_;rintro e w1 ⟨rfl,b1⟩;have B1:=bTr B0 b1;have c1:w1.cell? ⟨w.heap.size,1,none⟩=some (.int .i64 f):=(b1.cell (by simp)).trans (by go_simp);have c2:w1.cell? ⟨w.heap.size,2,none⟩=some (.int .i64 r):=(b1.cell (by simp)).trans (by go_simp);clear b1 B0 L;go_wp2
  go_ret
  exact ⟨ret_bool (by first | exact (an (show good o f r from ⟨by omega,by omega,by omega,by omega,by omega,by omega⟩)).symm | exact (ak (show ¬ good o f r from fun g=>by obtain ⟨_,_,_,_,_,_⟩:=g;omega)).symm | exact bf.2 ⟨fun h=>absurd h (by omega),fun g=>absurd g.2.2.2.2.2 (by omega)⟩),B1.out⟩
end Ad
namespace Fs
open Go.Maps
variable {w:World} {s:Nat} {F:Nat->Prop} {m:Value} {C:List Ent} {d:Int}
theorem ask_any (S:Sto w s F m C d) (o f r:Int) (x:R4) (hx:okR x) (hn:goodB o f r=true) :
 (∃ k,k≠0/\dE (C.map Ent.abs) o f r=k/\Calls prog 79 #[.pointer (some ⟨s,0,none⟩),Ad.addr o f r,rec4 x] w (AskNo w f k)) \/
 (dE (C.map Ent.abs) o f r=0/\Calls prog 79 #[.pointer (some ⟨s,0,none⟩),Ad.addr o f r,rec4 x] w (AskYes w s F d (dV (C.map Ent.abs) o f r x) (dA (C.map Ent.abs) o f r x))):=by
 have hg:=of_decide_eq_true hn;have wf:Wf f:=WalkArith.wf_i64 (by unfold Ad.good at hg;omega)
 cases hk:look Ent.n f C with
 | none=>exact .inl ⟨3,by decide,by unfold dE;rw [aj hn,look_abs,hk];rfl,ask_none S o f r x wf hk⟩
 | some c =>
   have e:dE (C.map Ent.abs) o f r=doE c.p c.l o r:=by unfold dE;rw [aj hn,look_abs,hk];rfl
   by_cases h0:doE c.p c.l o r=0
   ·refine .inr ⟨e.trans h0,?_⟩
    have e1:dV (C.map Ent.abs) o f r x=newR c.l o r x:=by
     unfold dV;rw [e,h0,look_abs,hk]
     rfl
    have e2:dA (C.map Ent.abs) o f r x=put key (f,c.p,c.l.set r.toNat (newR c.l o r x)) (C.map Ent.abs):=by
     unfold dA;rw [e,h0,look_abs,hk]
     rfl
    rw [e1,e2]
    rcases S.mp with ⟨_,rfl⟩ | ⟨b,rfl,_,_⟩
    ·cases hk
    ·exact ask_ok S o f r x hx wf hk h0
   ·exact .inl ⟨_,h0,e,ask_err S o f r _ x wf hk rfl h0⟩
theorem Sto.count (h:Sto w s F m C d) (d':Int):Sto (w.setCell ⟨s,1,none⟩ (.int .i64 d')) s F m C d'/\Only F w (w.setCell ⟨s,1,none⟩ (.int .i64 d')):=by
 have O:Only (fun k=>k=s) w (w.setCell ⟨s,1,none⟩ (.int .i64 d')):=Only.set (fun k=>k=s) w (a:=⟨s,1,none⟩) rfl _;refine ⟨⟨?_,h.foot,h.mp.kept fun b hb=>?_,fun c hc=>ow_only (G:=fun k=>k=s) (h.own c hc) (fun k hk e=>(h.off hc).1 (e ▸ hk)) O,h.mine,h.apart,h.ok,fun k hk=>aV (h.low k hk) O.size⟩,O.mono fun k _ e=>e ▸ h.foot⟩
 ·have:=Rw.heap_setCell_same (j:=1) h.row (.int .i64 d')
  rw [this]
  simp
 ·subst hb
  exact aH w _ _ b h.map_ne
def DoSPost (w:World) (s:Nat) (F:Nat->Prop) (d:Int) (y:R4) (k:Int) (A':Abs) (e:Ending) (w':World):Prop:=e = .returned (.tuple #[rec4 y,.int .i64 k])/\St w' s (Fx F w w') A' d/\Only F w w'
theorem o_sto4 (W:World) (g:Nat) (y:R4):Only (fun k=>k=g) W (sto4 W g 0 y):=by
 have O1:∀ W:World,∀ o v,Only (fun k=>k=g) W (W.setCell ⟨g,o,none⟩ v):=fun W o v=>Only.set (fun k=>k=g) W (a:=⟨g,o,none⟩) rfl v;exact (((O1 _ _ _).trans (O1 _ _ _) fun _ _ g=>g).trans (O1 _ _ _) fun _ _ g=>g).trans (O1 _ _ _) fun _ _ g=>g
def DoNo (w:World) (k:Int) (e:Ending) (w':World):Prop:=e = .returned (.tuple #[rec4 z4,.int .i64 k])/\Below w.heap.size w w'
theorem do_1 (w:World) (s:Nat) (o f r:Int) (x:R4) (hn:goodB o f r=false):Calls prog 49 #[.pointer (some ⟨s,0,none⟩),Ad.addr o f r,rec4 x] w (DoNo w 1):=by
 have A0:=ask0_of w o f r x;have S0:=Hh (A0);have GA:∀ W,Calls prog 78 #[Ad.addr o f r] W fun e w'=>e = .returned (.bool false)/\Below W.heap.size W w':=fun W=>by have:=Ad.good_any W o f r;rwa [hn] at this
 have HG:=Hh GA;clear A0 GA hn;unfold rec4;unfold Ad.addr at *
 go_enter func49,ntmps49
 have AC:=S0.out;obtain ⟨a0,a1,a2⟩:=rc3 AC.adr;clear AC;go_wp2_with fail;generalize (((w.alloc (.cells #[.int .i64 o,.int .i64 f,.int .i64 r] 66)).alloc (.cells #[.int .u8 x.1,.int .u8 x.2.1,.int .u8 x.2.2.1,.int .u8 x.2.2.2] 36)).alloc (.cells #[.int .u8 0,.int .u8 0,.int .u8 0,.int .u8 0] 36))=W at *;refine (HG _).mono ?_;rintro e w1 ⟨rfl,b1⟩;have S2:=Hh (S0.mono b1);clear b1 HG S0 a0 a1 a2;obtain ⟨d0,d1,d2,d3,k0,k1,k2,k3⟩:=rf4 S2.res;have R3:=Hh (sto4_row S2.res z4);have B3:=Hh (sto4_below (o:=0) (r:=z4) S2.bel (show w.heap.size<=w.heap.size+2 by omega));clear S2;go_wp2
 (try simp only [Exit.inBlock,Exit.then])
 exact aA (results_rec (p:=6) (r:=7) rfl _ _ (w.heap.size+2) z4 (.int .i64 1) rfl rfl R3) rfl ⟨rfl,B3⟩
theorem do_no (w:World) (s:Nat) (o f r k:Int) (x:R4) (hg:Glob w) (h5:k≠5) (hn:goodB o f r=true) (ha:∀ W,Below w.heap.size w W->w.heap.size+3<=W.heap.size->Calls prog 79 #[.pointer (some ⟨s,0,none⟩),Ad.addr o f r,rec4 x] W (AskNo W f k)) :
 Calls prog 49 #[.pointer (some ⟨s,0,none⟩),Ad.addr o f r,rec4 x] w (DoNo w k):=by
 have A0:=ask0_of w o f r x;have S0:=Hh (A0);have HGL:=Hh hg;have H5:=Hh (ak h5);clear hg h5;have GA:∀ W,Calls prog 78 #[Ad.addr o f r] W fun e w'=>e = .returned (.bool true)/\Below W.heap.size W w':=fun W=>by have:=Ad.good_any W o f r;rwa [hn] at this
 have HG:=Hh GA;have HA:=Hh ha;clear A0 GA hn ha;unfold rec4 at *;unfold Ad.addr at *
 go_enter func49,ntmps49
 have AC:=S0.out;obtain ⟨a0,a1,a2⟩:=rc3 AC.adr;clear AC;go_wp2_with fail;generalize (((w.alloc (.cells #[.int .i64 o,.int .i64 f,.int .i64 r] 66)).alloc (.cells #[.int .u8 x.1,.int .u8 x.2.1,.int .u8 x.2.2.1,.int .u8 x.2.2.2] 36)).alloc (.cells #[.int .u8 0,.int .u8 0,.int .u8 0,.int .u8 0] 36))=W at *;refine (HG _).mono ?_;rintro e w1 ⟨rfl,b1⟩;have S1:=Hh (S0.mono b1);clear b1 HG S0 a0 a1 a2;obtain ⟨a0,a1,a2⟩:=rc3 S1.adr;obtain ⟨x0,x1,x2,x3⟩:=rc4 S1.arg;go_wp2_with fail;refine (HA w1 S1.bel S1.siz).mono ?_;rintro e w2 ⟨rfl,b2⟩;have B2:=Hh (((aa w2.heap.size w2).alloc (ac _) (.cells #[.int .u8 0,.int .u8 0,.int .u8 0,.int .u8 0] 36)));have S2:=Hh ((S1.mono b2).mono B2);clear b2 S1 a0 a1 a2 x0 x1 x2 x3 HA;unfold rec4 z4 fault flt;go_wp2_with fail;clear B2;generalize (w2.alloc (.cells #[.int .u8 0,.int .u8 0,.int .u8 0,.int .u8 0] 36))=W2 at *;have IS:=Hh (is_any f k W2);rw [H5.out] at IS;unfold fault flt at IS;refine IS.mono ?_;rintro e w4 ⟨rfl,b4⟩;have S4:=Hh (S2.mono b4);clear b4 IS S2;go_wp2_with fail;have NU:=number_any f k w4 (HGL.below S4.bel);unfold fault flt at NU;refine NU.mono ?_;rintro e w5 ⟨rfl,b5⟩;have S5:=Hh (S4.mono b5);clear b5 S4 NU;obtain ⟨d0,d1,d2,d3,k0,k1,k2,k3⟩:=rf4 S5.res;have R3:=Hh (sto4_row S5.res z4);have B3:=Hh (sto4_below (o:=0) (r:=z4) S5.bel (show w.heap.size<=w.heap.size+2 by omega));clear S5;go_wp2
 (try simp only [Exit.inBlock,Exit.then])
 exact aA (results_rec (p:=6) (r:=7) rfl _ _ (w.heap.size+2) z4 (.int .i64 k) rfl rfl R3) rfl ⟨rfl,B3⟩
theorem do_5 (S:Sto w s F m C d) (o f r:Int) (x:R4) (hg:Glob w) (h0:¬ F 0) (hd:0<=d/\d < 1000000) (hn:goodB o f r=true) (ha:∀ W,Below w.heap.size w W->w.heap.size+3<=W.heap.size->Calls prog 79 #[.pointer (some ⟨s,0,none⟩),Ad.addr o f r,rec4 x] W (AskNo W f 5)) :
 Calls prog 49 #[.pointer (some ⟨s,0,none⟩),Ad.addr o f r,rec4 x] w (DoSPost w s F (d+1) z4 5 (C.map Ent.abs)):=by
 have A0:=ask0_of w o f r x;have S0:=Hh (A0);have HGL:=Hh hg;have SS:=Hh S;have HF0:=Hh h0;have W0:IntKind.i64.wrap (d+1)=d+1:=aR _ (by omega);clear hg S h0 hd;have GA:∀ W,Calls prog 78 #[Ad.addr o f r] W fun e w'=>e = .returned (.bool true)/\Below W.heap.size W w':=fun W=>by have:=Ad.good_any W o f r;rwa [hn] at this
 have HG:=Hh GA;have HA:=Hh ha;clear A0 GA hn ha;unfold rec4 at *;unfold Ad.addr at *
 go_enter func49,ntmps49
 have AC:=S0.out;obtain ⟨a0,a1,a2⟩:=rc3 AC.adr;clear AC;go_wp2_with fail;generalize (((w.alloc (.cells #[.int .i64 o,.int .i64 f,.int .i64 r] 66)).alloc (.cells #[.int .u8 x.1,.int .u8 x.2.1,.int .u8 x.2.2.1,.int .u8 x.2.2.2] 36)).alloc (.cells #[.int .u8 0,.int .u8 0,.int .u8 0,.int .u8 0] 36))=W at *;refine (HG _).mono ?_;rintro e w1 ⟨rfl,b1⟩;have S1:=Hh (S0.mono b1);clear b1 HG S0 a0 a1 a2;obtain ⟨a0,a1,a2⟩:=rc3 S1.adr;obtain ⟨x0,x1,x2,x3⟩:=rc4 S1.arg;go_wp2_with fail;refine (HA w1 S1.bel S1.siz).mono ?_;rintro e w2 ⟨rfl,b2⟩;have B2:=Hh (((aa w2.heap.size w2).alloc (ac _) (.cells #[.int .u8 0,.int .u8 0,.int .u8 0,.int .u8 0] 36)));have S2:=Hh ((S1.mono b2).mono B2);clear b2 S1 a0 a1 a2 x0 x1 x2 x3 HA;unfold rec4 z4 fault flt;go_wp2_with fail;clear B2;generalize (w2.alloc (.cells #[.int .u8 0,.int .u8 0,.int .u8 0,.int .u8 0] 36))=W2 at *;have IS:=Hh (is_any f 5 W2);rw [show decide ((5:Int)=5)=true from rfl] at IS;unfold fault flt at IS;refine IS.mono ?_;rintro e w4 ⟨rfl,b4⟩;have S4:=Hh (S2.mono b4);clear b4 IS S2;have T4:=SS.below S4.bel;have c1:=Fl.rc T4.row 1;have f1:=row_frozen T4.row 1;obtain ⟨t5,t6⟩:=T4.count (d+1);have T5:=Hh t5;have O5:=Hh t6;have GL5:=Hh ((HGL.below S4.bel).only HF0 t6);have N5:Hid (Ask0 w o f r x (w4.setCell ⟨s,1,none⟩ (.int .i64 (d+1))))\/True:=.inr trivial;have hsl:=SS.low s SS.foot;have A5:Hid ((w4.setCell ⟨s,1,none⟩ (.int .i64 (d+1))).heap[w.heap.size+2]? = some (.cells (arr4 z4) 36 (0,0))):=(aH w4 ⟨s,1,none⟩ _ _ (by show w.heap.size+2≠s;omega)).trans S4.out.res;have BB:=Hh ((Only.of_below S4.bel).trans t6 fun _ _ g=>g);clear T4 t5 t6 N5 S4;go_wp2_with fail;clear c1 f1;generalize w4.setCell ⟨s,1,none⟩ (.int .i64 (d+1))=w5 at *;have NU:=number_any f 5 w5 GL5;unfold fault flt at NU;refine NU.mono ?_;rintro e w6 ⟨rfl,b6⟩;have T6:=Hh (T5.below b6);have A6:=Hh (bBl b6 A5);have O6:=Hh (BB.then b6);clear b6 NU T5 A5 BB O5;obtain ⟨d0,d1,d2,d3,k0,k1,k2,k3⟩:=rf4 A6;have R3:=Hh (sto4_row A6 z4);have O7:=O6.trans (o_sto4 w6 (w.heap.size+2) z4) fun k hk e=>by omega
 have FIN:Hid (DoSPost w s F (d+1) z4 5 (C.map Ent.abs) (.returned (.tuple #[rec4 z4,.int .i64 5])) (sto4 w6 (w.heap.size+2) 0 z4)):=⟨rfl,⟨m,C,(T6.only (G:=fun k=>k=w.heap.size+2) (fun k hk e=>by have:=SS.out.low k hk;omega) (o_sto4 w6 (w.heap.size+2) z4)).wide (fun k hk=>.inl hk) (Fx.low SS.out.low O7.size),rfl⟩,O7⟩;clear A6 O6 O7 T6;go_wp2
 (try simp only [Exit.inBlock,Exit.then])
 exact aA (results_rec (p:=6) (r:=7) rfl _ _ (w.heap.size+2) z4 (.int .i64 5) rfl rfl R3) rfl FIN
theorem do_yes (w:World) (s:Nat) (F:Nat->Prop) (d:Int) (A':Abs) (y:R4) (o f r:Int) (x:R4) (hF:∀ k,F k->k < w.heap.size) (hn:goodB o f r=true) (ha:∀ W,Below w.heap.size w W->w.heap.size+3<=W.heap.size->Calls prog 79 #[.pointer (some ⟨s,0,none⟩),Ad.addr o f r,rec4 x] W (AskYes W s F d y A')) :
 Calls prog 49 #[.pointer (some ⟨s,0,none⟩),Ad.addr o f r,rec4 x] w (DoSPost w s F d y 0 A'):=by
 have A0:=ask0_of w o f r x;have S0:=Hh (A0);have HF:=Hh hF;clear hF;have GA:∀ W,Calls prog 78 #[Ad.addr o f r] W fun e w'=>e = .returned (.bool true)/\Below W.heap.size W w':=fun W=>by have:=Ad.good_any W o f r;rwa [hn] at this
 have HG:=Hh GA;have HA:=Hh ha;clear A0 GA hn ha;unfold rec4 at *;unfold Ad.addr at *
 go_enter func49,ntmps49
 have AC:=S0.out;obtain ⟨a0,a1,a2⟩:=rc3 AC.adr;clear AC;go_wp2_with fail;generalize (((w.alloc (.cells #[.int .i64 o,.int .i64 f,.int .i64 r] 66)).alloc (.cells #[.int .u8 x.1,.int .u8 x.2.1,.int .u8 x.2.2.1,.int .u8 x.2.2.2] 36)).alloc (.cells #[.int .u8 0,.int .u8 0,.int .u8 0,.int .u8 0] 36))=W at *;refine (HG _).mono ?_;rintro e w1 ⟨rfl,b1⟩;have S1:=Hh (S0.mono b1);clear b1 HG S0 a0 a1 a2;obtain ⟨a0,a1,a2⟩:=rc3 S1.adr;obtain ⟨x0,x1,x2,x3⟩:=rc4 S1.arg;go_wp2_with fail;refine (HA w1 S1.bel S1.siz).mono ?_;rintro e w2 ⟨rfl,t2,o2⟩;have hwl:=aX S1.siz o2.size;have RW:w2.heap[w.heap.size+2]? = some (.cells (arr4 z4) 36 (0,0)):=(o2.block _ (by have:=S1.out.siz;omega) (fun g=>by have:=HF.out _ g;omega)).trans S1.out.res;obtain ⟨g1,g2,g3⟩:=box_rec w2 y;have B2:=Hh g2;have T2:=Hh (t2.below g2);have A6:=Hh ((g2.block _ (by omega)).trans RW);have Y6:=Hh g1;have hF2:Hid (∀ k,Fx F w1 w2 k->k≠w.heap.size+2/\(F k\/w.heap.size<=k)):=fun k hk=>by
  have:=S1.siz
  rcases hk with hk | ⟨hk,_⟩
  ·have:=HF.out k hk
   exact ⟨by omega,.inl hk⟩
  ·exact ⟨by omega,.inr (by omega)⟩
 have O6:=Hh (((Only.of_below S1.bel).trans o2 fun _ _ g=>g).then g2);clear g1 g2 g3 t2 o2 S1 a0 a1 a2 x0 x1 x2 x3 HA RW B2;unfold rec4;have Y4:Hid (arr4 y=#[.int .u8 y.1,.int .u8 y.2.1,.int .u8 y.2.2.1,.int .u8 y.2.2.2]):=rfl;rw [Y4.out] at T2 A6 Y6 O6;have y0:=Fl.rc Y6 0;go_upto_region 5 with fail;clear y0;generalize (w2.alloc (.cells #[.int .u8 y.1,.int .u8 y.2.1,.int .u8 y.2.2.1,.int .u8 y.2.2.2] 36))=w6 at *;obtain ⟨y0,y1,y2,y3⟩:=rc4 Y6;obtain ⟨d0,d1,d2,d3,k0,k1,k2,k3⟩:=rf4 A6;have R3:=Hh (sto4_row A6 y);have O7:=O6.trans (o_sto4 w6 (w.heap.size+2) y) fun k hk e=>by omega
 have FIN:Hid (DoSPost w s F d y 0 A' (.returned (.tuple #[rec4 y,.int .i64 0])) (sto4 w6 (w.heap.size+2) 0 y)):=by
  have T7:=T2.only (G:=fun k=>k=w.heap.size+2) (fun k hk e=>(hF2 k hk).1 e) (o_sto4 w6 (w.heap.size+2) y);refine ⟨rfl,T7.wide (fun k hk=>?_) (Fx.low HF O7.size),O7⟩
  rcases (hF2.out k hk).2 with h | h
  ·exact .inl h
  ·exact .inr ⟨h,T7.low k hk⟩
 clear A6 O6 O7 T2 hF2;go_wp2
 (try simp only [Exit.inBlock,Exit.then])
 exact aA (results_rec (p:=6) (r:=7) rfl _ _ (w.heap.size+2) y (.int .i64 0) rfl rfl R3) rfl FIN
theorem dos_any {A:Abs} (S:St w s F A d) (hg:Glob w) (h0:¬ F 0) (hd:0<=d/\d < 1000000) (o f r:Int) (x:R4) (hx:okR x) :
 Calls prog 49 #[.pointer (some ⟨s,0,none⟩),Ad.addr o f r,rec4 x] w (DoSPost w s F (dD A o f r d) (dV A o f r x) (dE A o f r) (dA A o f r x)):=by
 obtain ⟨m,C,h,rfl⟩:=S;have no:∀ k e w',dE (C.map Ent.abs) o f r=k->k≠0->k≠5->DoNo w k e w'->DoSPost w s F (dD (C.map Ent.abs) o f r d) (dV (C.map Ent.abs) o f r x) (dE (C.map Ent.abs) o f r) (dA (C.map Ent.abs) o f r x) e w':=fun k e w' hk h0 h5 ⟨he,b⟩=>by
  have e1:dV (C.map Ent.abs) o f r x=z4:=by unfold dV;split;rfl;rw [hk,ah h0]
  have e2:dA (C.map Ent.abs) o f r x=C.map Ent.abs:=by unfold dA;split;rfl;rw [hk,ah h0]
  have e3:dD (C.map Ent.abs) o f r d=d:=by unfold dD;rw [hk,ah h5]
  rw [e1,e2,e3,hk];exact ⟨he,St.fx ⟨m,C,h,rfl⟩ b,Only.of_below b⟩
 cases hn:goodB o f r with
 | false=>exact (do_1 w s o f r x hn).mono fun e w'=>no 1 e w' (by unfold dE;rw [ah (by rw [hn];decide)]) (by decide) (by decide)
 | true =>
   by_cases hz:dE (C.map Ent.abs) o f r=0
   ·have e3:dD (C.map Ent.abs) o f r d=d:=by unfold dD;rw [hz,ah (by decide)]
    rw [e3,hz];refine do_yes w s F d _ _ o f r x h.low hn fun W hb _=>?_
    rcases ask_any (h.below hb) o f r x hx hn with ⟨k,h1,h2,_⟩ | ⟨_,h3⟩
    ·exact absurd (h2.symm.trans hz) h1
    ·exact h3
   ·have ask:∀ W,Below w.heap.size w W->w.heap.size+3<=W.heap.size->Calls prog 79 #[.pointer (some ⟨s,0,none⟩),Ad.addr o f r,rec4 x] W (AskNo W f (dE (C.map Ent.abs) o f r)):=fun W hb _=>by
     rcases ask_any (h.below hb) o f r x hx hn with ⟨k,h1,h2,h3⟩ | ⟨h3,_⟩
     ·rw [h2];exact h3
     ·exact absurd h3 hz
    by_cases h5:dE (C.map Ent.abs) o f r=5
    ·have e1:dV (C.map Ent.abs) o f r x=z4:=by unfold dV;split;rfl;rw [h5,ah (by decide)]
     have e2:dA (C.map Ent.abs) o f r x=C.map Ent.abs:=by unfold dA;split;rfl;rw [h5,ah (by decide)]
     have e3:dD (C.map Ent.abs) o f r d=d+1:=by unfold dD;rw [h5,aj rfl]
     rw [e1,e2,e3];rw [h5] at ask ⊢;exact do_5 h o f r x hg h0 hd hn ask
    ·exact (do_no w s o f r _ x hg h5 hn ask).mono fun e w'=>no _ e w' rfl hz h5
end Fs
namespace Fl
theorem results_file {fn:Func} {p:Tmp} (h:fn.results=#[.cell p 83]) (tmps:Array Value) (w:World) (g:Nat) (q:Int) (v:Value) (hp:tmps.getD p undef = .pointer (some ⟨g,0,none⟩)) (hrow:w.heap[g]? = some (.cells #[.int .i64 q,v] 83 (0,0))) :
 (results fn tmps).run prog w = .ok (file q v) w:=results_cell_row h tmps w g _ #[.int .i64 q,v] _ _ hp hrow underlying83 rfl (by show _=some 2;kernel_rfl)
end Fl
namespace Fs
open Go.Maps
open Fl (results_file ret_bool)
def L0:List R4:=[(3,2,165,164),z4,z4,z4]
def L1:List R4:=[(3,2,165,164),z4,(9,0,0,0),z4]
def A0:Abs:=[(7,2,L0)]
theorem new_st (w:World):St (w.alloc (.cells #[.map none,.int .i64 0] 150)) w.heap.size (fun k=>k=w.heap.size) [] 0 :=
 ⟨.map none,[],⟨am w _,rfl,.inl ⟨rfl,rfl⟩,nofun,nofun,cN,OkA.nil,fun k hk=>by subst hk;simp⟩,rfl⟩
variable {w:World}
theorem get_st {s:Nat} {F:Nat->Prop} {A:Abs} {d:Int} (S:St w s F A d) {n:Int} (hn:Wf n) (r:Int):Calls prog 170 #[.pointer (some ⟨s,0,none⟩),.int .i64 n,.int .i64 r] w (GetPost w (gV A n r) (gB A n r)):=by
 obtain ⟨m,C,h,rfl⟩:=S;exact get_any h hn r
theorem at3 {b off:Nat} {L:List Ent} (h:At E3 w b off L) {i:Nat} {c:Ent} (hc:L[i]? = some c) :
 w.cell? ⟨b,off+i * 3,none⟩=some (.int .i64 c.n)/\w.cell? ⟨b,off+i * 3+1,none⟩=some (.int .i64 c.p)/\w.cell? ⟨b,off+i * 3+2,none⟩=some c.sl:=by
 have hi:=(aM.1 hc).1;have e:L.getD i E3.dft=c:=by rw [af,hc];rfl
 exact ⟨h i hi 0 _ (by rw [e];rfl),h i hi 1 _ (by rw [e];rfl),h i hi 2 _ (by rw [e];rfl)⟩
end Fs
namespace Fl
end Fl
namespace Pa
variable {α:Type} {P:Program} {E T:TypeId} {ops:Array Oper} {o:Oper} {a:Act} {w:World} {Q:Exit->Act->World->Prop} {z:Value} {bytes:Nat}
theorem push_at {K:Kind α} {rest:List Oper} (ht:P.underlying T=some (.slice E))
 (hi:(P.info? E).map (fun i=>(i.zero,i.size,i.bytes))=some (some z,K.n,bytes)) (hz:z.cells.size=K.n) (hby:bytes<=64) (hgd:o.guard=none) (s x:Operand)
 (ho:o.op = .call { callee:=.builtin .append,args:=#[s,x],argTypes:=#[T,T] }) (B:Nat) (v:Value) (l:List α) (hs:a.eval s=v) (hown:Ow K w B E v l)
 (ad:Addr) (c:α) (hx:a.eval x = .slice (some ad) 1 1) (hc:∀ j u,(K.enc c)[j]? = some u->w.cell? (ad.add j)=some u) (hlen:l.length < 2199023255552) (hB:B<=w.heap.size)
 (h:∀ v' w',Ow K w' B E v' (l ++ [c])->w.grownBy w' v.ownBlock->(v'.ownBlock=v.ownBlock\/∃ g,v'.ownBlock=some g/\w.heap.size<=g)->wpList P ops Q rest (a.put o.dst v') w'):wpList P ops Q (o :: rest) a w:=by
 obtain ⟨i0,hi0,hz0,hz1,hz2⟩:=cz hi;have hb:(l.length+1) * bytes<=140737488355328:=aX (cX (show l.length+1<=2199023255552 by omega) hby) (by omega);refine wpList_append_own_at _ hgd s x T ho B E i0 z K.n bytes ht hi0 hz0 hz1 hz2 hz K.pos v l.length (K.flat l) hs hown ad 1 1 (K.enc c) hx (by rw [K.len,Nat.one_mul]) hc (K.one c) (by unfold maxLen;omega) hb hB ?_
 intro v' w' h2 h3 _ h5
 exact h v' w' (Rw.Ow.push h2) h3 (h5.imp id fun e=>⟨_,e,ac _⟩)
theorem wp_push_at {K:Kind α} {KK:Act->World->Prop} (ht:P.underlying T=some (.slice E))
 (hi:(P.info? E).map (fun i=>(i.zero,i.size,i.bytes))=some (some z,K.n,bytes)) (hz:z.cells.size=K.n) (hby:bytes<=64) (s x:Operand)
 (ho:o.op = .call { callee:=.builtin .append,args:=#[s,x],argTypes:=#[T,T] }) (B:Nat) (v:Value) (l:List α) (hs:a.eval s=v) (hown:Ow K w B E v l)
 (ad:Addr) (c:α) (hx:a.eval x = .slice (some ad) 1 1) (hc:∀ j u,(K.enc c)[j]? = some u->w.cell? (ad.add j)=some u) (hlen:l.length < 2199023255552) (hB:B<=w.heap.size)
 (h:∀ v' w',Ow K w' B E v' (l ++ [c])->w.grownBy w' v.ownBlock->(v'.ownBlock=v.ownBlock\/∃ g,v'.ownBlock=some g/\w.heap.size<=g)->KK (a.put o.dst v') w'):o.wp P a w KK Q:=by
 obtain ⟨i0,hi0,hz0,hz1,hz2⟩:=cz hi;have hb:(l.length+1) * bytes<=140737488355328:=aX (cX (show l.length+1<=2199023255552 by omega) hby) (by omega);obtain ⟨v',w',hr,h2,h3,_,h5⟩:=run_append_own_at (P:=P) w B T o.type E i0 z K.n bytes ht hi0 hz0 hz1 hz2 hz K.pos v l.length (K.flat l) hown ad 1 1 (K.enc c) (by rw [K.len,Nat.one_mul]) hc (K.one c) (by unfold maxLen;omega) hb hB;unfold Oper.wp execOp;simp only [ho,resolve,invoke,builtin,Sem.run_bind,Sem.run_pure,Result.andThen_ok,List.map_toArray,dg,List.map_nil,hs,hx,hr];exact h v' w' (Rw.Ow.push h2) h3 (h5.imp id fun e=>⟨_,e,ac _⟩)
variable {C:World->Prop} {K:Act->Prop}
theorem lit1 {r:List Oper} (h:wpQuiet P ops C (fun a'=>Sg.wpL P ops C K r a') [o] a):Sg.wpL P ops C K (o :: r) a:=h
theorem end1 (h:K a):Sg.wpL P ops C K [] a:=h
end Pa
namespace Cu
end Cu
namespace Fs
open Go.Maps
open Fl (ret_bool)
attribute [local irreducible] wpQuiet
instance decR4:DecidableEq R4:=@instDecidableEqProd _ _ _ (@instDecidableEqProd _ _ _ (@instDecidableEqProd _ _ _ _))
instance decFil:DecidableEq Fil:=@instDecidableEqProd _ _ _ (@instDecidableEqProd _ _ _ (@instDecidableEqList _ decR4))
instance decAbs (A B:Abs):Decidable (A=B):=@instDecidableEqList _ decFil A B
variable {w:World} {F F':Nat->Prop} {v v':Value}
theorem same_any {L L':List Ent} (h:Lst F w v L) (h':Lst F' w v' L') (hlen:L.length<=64) :
 Calls prog 17 #[v,v'] w fun e w'=>e = .returned (.bool (decide (L.map Ent.abs=L'.map Ent.abs)))/\Below w.heap.size w w':=by
 obtain ⟨a,cap,rfl,_,_,h3⟩:=h.rd;obtain ⟨a',cap',rfl,_,_,h3'⟩:=h'.rd;have H3:=Hh h3;have H3':=Hh h3';have FL:=Hh h.file;have FL':=Hh h'.file;clear h h' h3 h3'
 by_cases hl:L.length=L'.length
 ·have HL:=Hh hl
  rw [← hl];rw [← hl] at H3';clear hl;generalize hn:L.length=N at *;have HN:=Hh hn;clear hn
  go_enter func17,ntmps17
  go_wp2
  go_loopw [5] (fun i wr=>∃ k:Nat,k<=N/\i = .int .i64 k/\Hid ((L.take k).map Ent.abs=(L'.take k).map Ent.abs)/\Hid (Below w.heap.size w wr)) (fun i _=>N - (intOf i).toNat)
  case atStart=>exact ⟨0,aI _,rfl,rfl,aa _ _⟩
  case round =>
   obtain ⟨k,hk,rfl,E,B⟩:=hrel
   by_cases hlt:k < N
   ·have hkL:k < L.length:=by have:=HN.out;omega
    have hkL':k < L'.length:=by have:=HL.out;have:=HN.out;omega
    obtain ⟨⟨cn,cp,ca,cc,cl⟩,hc⟩:∃ c:Ent,L[k]? = some c:=⟨_,ai hkL⟩;obtain ⟨⟨dn,dp,da,dc,dl⟩,hd⟩:∃ c:Ent,L'[k]? = some c:=⟨_,ai hkL'⟩;obtain ⟨b,off,rfl,hA⟩:=H3 (by omega);obtain ⟨b',off',rfl,hA'⟩:=H3' (by omega);obtain ⟨x0,x1,x2⟩:=at3 (hA.below B) hc;obtain ⟨y0,y1,y2⟩:=at3 (hA'.below B) hd;unfold Ent.sl at x2 y2;simp only at x0 x1 x2 y0 y1 y2;have RC:=Hh (FL _ (bo hc));have RD:=Hh (FL' _ (bo hd));have NO:Hid (¬ (cn=dn/\cp=dp/\cl=dl)->¬ (L.map Ent.abs=L'.map Ent.abs)):=fun hne e=>by
     have e1:=bF (fun l:List Fil=>l[k]?) e;simp only [a9,hc,hd,bS,Ent.abs] at e1;injection e1 with e1;injection e1 with e1 e2;injection e2 with e2 e3;exact hne ⟨e1,e2,e3⟩
    have YES:Hid (cn=dn->cp=dp->cl=dl->(L.take (k+1)).map Ent.abs=(L'.take (k+1)).map Ent.abs):=fun e1 e2 e3=>by
     rw [bG,bG,hc,hd,cA,cA,E.out]
     simp [Ent.abs,e1,e2,e3]
    have SA:=Hh (fun W (hb:Below w.heap.size w W)=>rsame_any W cp dp (.slice ca cl.length cc) (.slice da dl.length dc) cl dl (RC.below hb) (RD.below hb));clear hc hd hA hA' hkL hkL'
    by_cases he:cn=dn
    ·subst he
     cases hs:sameF cp cl dp dl with
     | false =>
       rw [hs] at SA;have RES:Hid (decide (L.map Ent.abs=L'.map Ent.abs)=false):=ak (NO fun ⟨_,e2,e3⟩=>by unfold sameF at hs;rw [an ⟨e2,e3⟩] at hs;cases hs);clear NO YES RC RD hs;generalize cl.length=q at *;generalize dl.length=q' at *;unfold file at SA;go_wp2_with fail;have s0:=Qb.cell_by x0;have s1:=Qb.cell_by x1;have s2:=Qb.cell_by x2;have t0:=Qb.cell_by y0;have t1:=Qb.cell_by y1;have t2:=Qb.cell_by y2;clear x0 x1 x2 y0 y1 y2;have SB:=Hh (fun (P:Qb.By wr)=>SA P.world (B.trans (P.below.mono B.size)));refine Qb.wp_region_by (by kernel_rfl) (by kernel_rfl) ?_
       repeat (quiet_step ((go_at_call 45;exact Qb.of_below (SB _))))
       refine az ?_
       intro _ hw'
       obtain ⟨pp,rfl⟩:=hw';go_wp2
       go_ret
       exact ⟨ret_bool RES.symm,B.trans (pp.below.mono B.size)⟩
     | true =>
       rw [hs] at SA;have ST:Hid ((L.take (k+1)).map Ent.abs=(L'.take (k+1)).map Ent.abs):=by
        have:=of_decide_eq_true hs;exact YES rfl this.1 this.2
       clear NO YES RC RD hs;generalize cl.length=q at *;generalize dl.length=q' at *;unfold file at SA;go_wp2_with fail;have s0:=Qb.cell_by x0;have s1:=Qb.cell_by x1;have s2:=Qb.cell_by x2;have t0:=Qb.cell_by y0;have t1:=Qb.cell_by y1;have t2:=Qb.cell_by y2;clear x0 x1 x2 y0 y1 y2;have SB:=Hh (fun (P:Qb.By wr)=>SA P.world (B.trans (P.below.mono B.size)));refine Qb.wp_region_by (by kernel_rfl) (by kernel_rfl) ?_
       repeat (quiet_step ((go_at_call 45;exact Qb.of_below (SB _))))
       refine az ?_
       intro _ hw'
       obtain ⟨pp,rfl⟩:=hw';clear s0 s1 s2 t0 t1 t2 SB SA;have BP:=Hh (B.trans (pp.below.mono B.size));generalize pp.world=wp at *;go_wp2
       go_roundw
       case rel=>exact ⟨k+1,by omega,by go_num,ST,BP⟩
       case measure=>simp [intOf];omega
    ·have RES:Hid (decide (L.map Ent.abs=L'.map Ent.abs)=false):=ak (NO fun h=>he h.1)
     clear NO YES RC RD SA;generalize cl.length=q at *;generalize dl.length=q' at *;go_wp2_with fail;have s0:=Qb.cell_by x0;have s1:=Qb.cell_by x1;have s2:=Qb.cell_by x2;have t0:=Qb.cell_by y0;have t1:=Qb.cell_by y1;have t2:=Qb.cell_by y2;clear x0 x1 x2 y0 y1 y2;refine Qb.wp_region_by (by kernel_rfl) (by kernel_rfl) ?_
     repeat (quiet_step (fail))
     refine az ?_
     intro _ hw'
     obtain ⟨pp,rfl⟩:=hw';go_wp2
     go_ret
     exact ⟨ret_bool RES.symm,B.trans (pp.below.mono B.size)⟩
   ·obtain rfl:k=N:=by omega
    have RES:Hid (decide (L.map Ent.abs=L'.map Ent.abs)=true):=by
     have e:=E.out;rw [bA (by have:=HN.out;omega),bA (by have:=HN.out;have:=HL.out;omega)] at e;exact an e
    go_wp2
    go_ret
    exact ⟨ret_bool RES.symm,B⟩
 ·have RES:Hid (decide (L.map Ent.abs=L'.map Ent.abs)=false):=ak fun e=>hl (by have:=bF List.length e;rwa [aL,aL] at this)
  have h3:¬ ((L.length:Int)=L'.length):=by omega
  clear hl H3 H3' FL FL';generalize L.length=N at *;generalize L'.length=N' at *
  go_enter func17,ntmps17
  go_wp2
  go_ret
  exact ⟨ret_bool RES.symm,aa _ _⟩
theorem same_is {A:Abs} (h:Ls F w v A) (h':Ls F' w v' A) (hlen:A.length<=64) :
 Calls prog 17 #[v,v'] w fun e w'=>e = .returned (.bool true)/\Below w.heap.size w w':=by
 obtain ⟨L,hL,rfl⟩:=h;obtain ⟨L',hL',e⟩:=h';have:=same_any hL hL' (by rwa [aL] at hlen)
 rwa [an e.symm] at this
end Fs
namespace Ua
def arr (F:Nat->Bool):Array Value:=#[.bool (F 0),.bool (F 1),.bool (F 2),.bool (F 3),.bool (F 4),.bool (F 5),.bool (F 6),.bool (F 7),.bool (F 8),.bool (F 9),.bool (F 10)]
theorem arr_size (F:Nat->Bool):(arr F).size=11:=rfl
theorem arr_one (F:Nat->Bool):(arr F).all (·.oneCell')=true:=by simp [arr,Value.oneCell']
theorem arr_get (F:Nat->Bool) (k:Nat) (h:k < 11):(arr F)[k]? = some (.bool (F k)):=by
 rcases (by omega:k=0\/k=1\/k=2\/k=3\/k=4\/k=5\/k=6\/k=7\/k=8\/k=9\/k=10) with rfl | rfl | rfl | rfl | rfl | rfl | rfl | rfl | rfl | rfl | rfl <;> rfl
theorem arr_set (F:Nat->Bool) (k:Nat) (h:k < 11) (x:Bool):(arr F).setIfInBounds k (.bool x)=arr (upd F k x):=by
 rcases (by omega:k=0\/k=1\/k=2\/k=3\/k=4\/k=5\/k=6\/k=7\/k=8\/k=9\/k=10) with rfl | rfl | rfl | rfl | rfl | rfl | rfl | rfl | rfl | rfl | rfl <;> rfl
theorem arr_congr {F G:Nat->Bool} (h:∀ i,i < 11->F i=G i):arr F=arr G:=by
 unfold arr;rw [h 0 (by omega),h 1 (by omega),h 2 (by omega),h 3 (by omega),h 4 (by omega),h 5 (by omega),h 6 (by omega),h 7 (by omega),h 8 (by omega),h 9 (by omega),h 10 (by omega)]
def Row (w:World) (g:Nat) (F:Nat->Bool):Prop:=w.heap[g]? = some (.cells (arr F) 286 (0,0))
section
variable {w w':World} {g:Nat} {F:Nat->Bool}
theorem Row.lt (h:Row w g F):g < w.heap.size:=ay h
theorem Row.cell (h:Row w g F) (k:Nat) (hk:k < 11):w.cell? ⟨g,k,none⟩=some (.bool (F k)):=by rw [bi w g k _ _ (0,0) h,arr_get F k hk]
theorem Row.frozen (h:Row w g F) (k:Nat):w.frozen? ⟨g,k,none⟩=false:=cU w g k _ _ h
theorem Row.new (w:World) (F:Nat->Bool):Row (w.alloc (.cells (arr F) 286)) w.heap.size F:=am w _
theorem Row.draw (h:Row w g F) (n:Nat):Row (w.drewN n) g F:=h
theorem Row.alloc (h:Row w g F) (o:Obj):Row (w.alloc o) g F:=(aQ w o g h.lt).trans h
theorem Row.set_ (h:Row w g F) (k:Nat) (hk:k < 11) (x:Bool):Row (w.setCell ⟨g,k,none⟩ (.bool x)) g (upd F k x):=by
 unfold Row at h ⊢;rw [heap_setCell_same w g k _ _ _ h,arr_set F k hk x]
theorem Row.far (h:Row w g F) {p:Addr} (hp:g≠p.block) (u:Value):Row (w.setCell p u) g F:=(aH w p u g hp).trans h
theorem Row.row (h:Row w g F) (G:Nat->Bool):Row (w.setRow g (arr G)) g G:=setRow_heap w g _ _ _ _ h
theorem Row.below {B:Nat} (h:Row w g F) (hb:Below B w w') (hg:g < B):Row w' g F:=(hb.block g hg).trans h
theorem Row.to {G:Nat->Bool} (h:Row w g F) (e:∀ i,i < 11->F i=G i):Row w g G:=by unfold Row at *;rw [h,arr_congr e]
theorem Row.load (h:Row w g F):(loadVar 286 ⟨g,0,none⟩).run prog w = .ok (.agg (arr F)) w :=
 ce w g _ _ (arr F) (0,0) _ h underlying286 rfl (by rw [arr_size];kernel_rfl)
end
theorem info:(prog.info? 286).map (·.size)=some 11:=by kernel_rfl
theorem info_of (F:Nat->Bool):(prog.info? 286).map (·.size)=some (arr F).size:=by rw [arr_size];exact info
variable {ops:Array Oper} {rest:List Oper} {o o':Oper} {a:Act} {w:World} {Q:Exit->Act->World->Prop}
theorem load_frame (hgd:o.guard=none) (x:Operand) (ho:o.op = .load 286 x)
 (g:Nat) (F:Nat->Bool) (hx:a.eval x = .pointer (some ⟨g,0,none⟩)) (hrow:Row w g F) (h:wpList prog ops Q rest (a.put o.dst (.agg (arr F))) w):wpList prog ops Q (o :: rest) a w :=
 wpList_load_row hgd _ x ho g hx _ _ _ _ hrow underlying286 rfl (info_of _) h
theorem store_frame (hgd:o.guard=none) (x y:Operand) (ho:o.op = .store 286 x y)
 (g:Nat) (F G:Nat->Bool) (hx:a.eval x = .pointer (some ⟨g,0,none⟩)) (hy:a.eval y = .agg (arr F)) (hrow:Row w g G) (h:wpList prog ops Q rest (a.put o.dst undef) (w.setRow g (arr F))):wpList prog ops Q (o :: rest) a w :=
 wpList_store_row hgd _ x y ho g _ hx hy _ _ hrow (info_of _) rfl (arr_one _) h
theorem store_new (hgd:o.guard=none) (x y:Operand) (ho:o.op = .store 286 x y)
 (F:Nat->Bool) (hx:a.eval x = .pointer (some ⟨w.heap.size,0,none⟩)) (hy:a.eval y = .agg (arr F)) (h:wpList prog ops Q rest (a.put o.dst undef) (w.alloc (.cells (arr F) 286))) :
 wpList prog ops Q (o :: rest) a (w.alloc (.cells #[.bool false,.bool false,.bool false,.bool false,.bool false,.bool false,.bool false,.bool false,.bool false,.bool false,.bool false] 286)) :=
 store_frame hgd x y ho _ F (fun _=>false) hx hy (Row.new w (fun _=>false)) (by rw [World.setRow_alloc_new];exact h)
theorem copy_frame (hg:o.guard=none) (hg':o'.guard=none) (x y:Operand) (d:Tmp) (ho:o.op = .load 286 x) (hd:o.dst=some d) (ho':o'.op = .store 286 y (.tmp d))
 (g g':Nat) (F G:Nat->Bool) (hx:a.eval x = .pointer (some ⟨g,0,none⟩)) (hy:(a.put (some d) (.agg (arr F))).eval y = .pointer (some ⟨g',0,none⟩)) (hz:(a.put (some d) (.agg (arr F))).eval (.tmp d) = .agg (arr F)) (hrow:Row w g F) (hrow':Row w g' G)
 (h:wpList prog ops Q rest ((a.put (some d) (.agg (arr F))).put o'.dst undef) (w.setRow g' (arr F))):wpList prog ops Q (o :: o' :: rest) a w :=
 load_frame hg x ho g F hx hrow (by rw [hd];exact store_frame hg' y (.tmp d) ho' g' F G hy hz hrow' h)
theorem results_frame {fn:Func} {p:Tmp} (h:fn.results=#[.cell p 286]) (tmps:Array Value) (w:World) (g:Nat) (F:Nat->Bool) (hp:tmps.getD p undef = .pointer (some ⟨g,0,none⟩)) (hrow:Row w g F) :
 (results fn tmps).run prog w = .ok (.agg (arr F)) w:=results_cell_row h tmps w g _ _ _ _ hp hrow underlying286 rfl (info_of _)
theorem below_setRow {B:Nat} {a:World} (h:Below B a w) (g:Nat) (cs:Array Value) (hg:B<=g):Below B a (w.setRow g cs) :=
 ⟨h.os,h.tape,h.output,by rw [size_setRow];exact h.size,fun k hk=>(setRow_other w g k cs (by omega)).trans (h.block k hk)⟩
theorem ret_bool {a b:Bool} (h:a=b):Ending.returned (.bool a) = .returned (.bool b):=by rw [h]
theorem ret_int {k:IntKind} {a b:Int} (h:a=b):Ending.returned (.int k a) = .returned (.int k b):=by rw [h]
theorem ret_arr {F G:Nat->Bool} (h:∀ i,i < 11->F i=G i):Ending.returned (.agg (arr F)) = .returned (.agg (arr G)):=by rw [arr_congr h]
end Ua
namespace Ck
abbrev Hd:=Option Addr×Nat×Nat
def zh:Hd:=(none,0,0)
def sl (h:Hd):Value:=.slice h.1 h.2.1 h.2.2
def KS:Rw.Kind Hd:=⟨fun h=>[sl h],1,by decide,fun _=>rfl,fun _ u h=>by simp at h;subst h;rfl,zh⟩
def RdL (w:World) (v:Value) (L:LL):Prop:=∃ a cap,v = .slice a L.length cap/\(L.length<=cap/\(a=none->cap=0))/\cap<=maxLen /\
 (0 < L.length->∃ b off,a=some ⟨b,off,none⟩/\∀ i,i < L.length->∃ u,w.cell? ⟨b,off+i,none⟩=some u/\Rd K5 w u (lat L i))
section
variable {w w':World} {v:Value} {L:LL}
theorem RdL.below (h:RdL w v L) (hb:Below w.heap.size w w'):RdL w' v L:=by
 obtain ⟨a,cap,e,h1,h2,h3⟩:=h;refine ⟨a,cap,e,h1,h2,fun hp=>?_⟩;obtain ⟨b,off,ea,hA⟩:=h3 hp;refine ⟨b,off,ea,fun i hi=>?_⟩;obtain ⟨u,c,r⟩:=hA i hi;exact ⟨u,bCe hb c,r.below hb⟩
theorem RdL.slice (h:RdL w v L):∃ a cap,v = .slice a L.length cap/\cap<=maxLen:=by
 obtain ⟨a,cap,e,_,h2,_⟩:=h;exact ⟨a,cap,e,h2⟩
variable {k b off cap:Nat}
theorem RdL.one (h:RdL w v L) (hk:k < L.length):∃ b off cap a' cap',v = .slice (some ⟨b,off,none⟩) L.length cap/\w.cell? ⟨b,off+k,none⟩=some (.slice a' (lat L k).length cap')/\cap'<=maxLen /\
 (0 < (lat L k).length->∃ b' off',a'=some ⟨b',off',none⟩/\At K5 w b' off' (lat L k)):=by
 obtain ⟨a,cap,e,h1,h2,h3⟩:=h;obtain ⟨b,off,rfl,hA⟩:=h3 (by omega);obtain ⟨u,c,a',cap',rfl,g1,g2,g3⟩:=hA k hk;exact ⟨b,off,cap,a',cap',e,c,g2,g3⟩
theorem RdL.rd (h:RdL w v L) (hk:k < L.length) (e:v = .slice (some ⟨b,off,none⟩) L.length cap) {u:Value} (c:w.cell? ⟨b,off+k,none⟩=some u):Rd K5 w u (lat L k):=by
 obtain ⟨a,cap',e',h1,h2,h3⟩:=h;obtain ⟨b',off',rfl,hA⟩:=h3 (by omega);rw [e] at e';injection e' with e1 _ _;injection e1 with e1;injection e1 with e1 e2 _;subst e1 e2;obtain ⟨u',c',r⟩:=hA k hk;rw [c] at c';injection c' with c';subst c';exact r
theorem RdL.take {a:Option Addr} {n cap:Nat} (h:RdL w (.slice a n cap) L) {k:Nat} (hk:k<=L.length):RdL w (.slice a k cap) (L.take k):=by
 obtain ⟨a',cap',e,h1,h2,h3⟩:=h;injection e with e1 e2 e3;subst e1 e2 e3;have hl:(L.take k).length=k:=by rw [aW];omega
 refine ⟨a,cap,by rw [hl],⟨by omega,h1.2⟩,h2,fun hp=>?_⟩;rw [hl] at hp;obtain ⟨b,off,rfl,hA⟩:=h3 (by omega);refine ⟨b,off,rfl,fun i hi=>?_⟩;rw [hl] at hi;rw [lat_take hi];exact hA i (by omega)
theorem rdl_of {hs:List Hd} (h:Rd KS w v hs) (hl:hs.length=L.length) (each:∀ i,i < L.length->Rd K5 w (sl (hs.getD i zh)) (lat L i)):RdL w v L:=by
 obtain ⟨a,cap,e,h1,h2,h3⟩:=h;rw [hl] at e h1 h3;refine ⟨a,cap,e,h1,h2,fun hp=>?_⟩;obtain ⟨b,off,ea,hA⟩:=h3 hp;refine ⟨b,off,ea,fun i hi=>⟨_,?_,each i hi⟩⟩;have c:=hA i (by rw [hl];exact hi) 0 _ rfl;simp only [KS,Nat.mul_one,Nat.add_zero] at c;exact c
end
def ar (F:Nat->Int):Array Value:=#[.int .i64 (F 0),.int .i64 (F 1),.int .i64 (F 2),.int .i64 (F 3),.int .i64 (F 4),.int .i64 (F 5),.int .i64 (F 6),.int .i64 (F 7),.int .i64 (F 8),.int .i64 (F 9),.int .i64 (F 10),.int .i64 (F 11),.int .i64 (F 12),.int .i64 (F 13),.int .i64 (F 14),.int .i64 (F 15),.int .i64 (F 16)]
def upI (F:Nat->Int) (k:Nat) (x:Int) (i:Nat):Int:=if i=k then x else F i
theorem ar_size (F:Nat->Int):(ar F).size=17:=rfl
theorem ar_one (F:Nat->Int):(ar F).all (·.oneCell')=true:=by simp [ar,Value.oneCell']
theorem lt17 {k:Nat} (h:k < 17):k=0\/k=1\/k=2\/k=3\/k=4\/k=5\/k=6\/k=7\/k=8\/k=9\/k=10\/k=11\/k=12\/k=13\/k=14\/k=15\/k=16:=by omega
theorem ar_get (F:Nat->Int) (k:Nat) (h:k < 17):(ar F)[k]? = some (.int .i64 (F k)):=by
 rcases lt17 h with rfl | rfl | rfl | rfl | rfl | rfl | rfl | rfl | rfl | rfl | rfl | rfl | rfl | rfl | rfl | rfl | rfl <;> rfl
theorem ar_set (F:Nat->Int) (k:Nat) (h:k < 17) (x:Int):(ar F).setIfInBounds k (.int .i64 x)=ar (upI F k x):=by
 rcases lt17 h with rfl | rfl | rfl | rfl | rfl | rfl | rfl | rfl | rfl | rfl | rfl | rfl | rfl | rfl | rfl | rfl | rfl <;> rfl
theorem ar_congr {F G:Nat->Int} (h:∀ i,i < 17->F i=G i):ar F=ar G:=by
 unfold ar;rw [h 0 (by omega),h 1 (by omega),h 2 (by omega),h 3 (by omega),h 4 (by omega),h 5 (by omega),h 6 (by omega),h 7 (by omega),h 8 (by omega),h 9 (by omega),h 10 (by omega),h 11 (by omega),h 12 (by omega),h 13 (by omega),h 14 (by omega),h 15 (by omega),h 16 (by omega)]
def RowI (w:World) (g:Nat) (F:Nat->Int):Prop:=w.heap[g]? = some (.cells (ar F) 311 (0,0))
section
variable {w w':World} {g:Nat} {F:Nat->Int}
theorem RowI.lt (h:RowI w g F):g < w.heap.size:=ay h
theorem RowI.cell (h:RowI w g F) (k:Nat) (hk:k < 17):w.cell? ⟨g,k,none⟩=some (.int .i64 (F k)):=by rw [bi w g k _ _ (0,0) h,ar_get F k hk]
theorem RowI.frozen (h:RowI w g F) (k:Nat):w.frozen? ⟨g,k,none⟩=false:=cU w g k _ _ h
theorem RowI.new (w:World) (F:Nat->Int):RowI (w.alloc (.cells (ar F) 311)) w.heap.size F:=am w _
theorem RowI.set_ (h:RowI w g F) (k:Nat) (hk:k < 17) (x:Int):RowI (w.setCell ⟨g,k,none⟩ (.int .i64 x)) g (upI F k x):=by
 unfold RowI at h ⊢;rw [heap_setCell_same w g k _ _ _ h,ar_set F k hk x]
theorem RowI.far (h:RowI w g F) {p:Addr} (hp:g≠p.block) (u:Value):RowI (w.setCell p u) g F:=(aH w p u g hp).trans h
theorem RowI.row (h:RowI w g F) (G:Nat->Int):RowI (w.setRow g (ar G)) g G:=setRow_heap w g _ _ _ _ h
theorem RowI.below {B:Nat} (h:RowI w g F) (hb:Below B w w') (hg:g < B):RowI w' g F:=(hb.block g hg).trans h
theorem RowI.to {G:Nat->Int} (h:RowI w g F) (e:∀ i,i < 17->F i=G i):RowI w g G:=by unfold RowI at *;rw [h,ar_congr e]
end
theorem infoI (F:Nat->Int):(prog.info? 311).map (·.size)=some (ar F).size:=by rw [ar_size];kernel_rfl
variable {ops:Array Oper} {rest:List Oper} {o:Oper} {a:Act} {w w':World} {Q:Exit->Act->World->Prop}
theorem load_ar (hgd:o.guard=none) (x:Operand) (ho:o.op = .load 311 x)
 (g:Nat) (F:Nat->Int) (hx:a.eval x = .pointer (some ⟨g,0,none⟩)) (hrow:RowI w g F) (h:wpList prog ops Q rest (a.put o.dst (.agg (ar F))) w):wpList prog ops Q (o :: rest) a w :=
 wpList_load_row hgd _ x ho g hx _ _ _ _ hrow underlying311 rfl (infoI _) h
theorem store_ar (hgd:o.guard=none) (x y:Operand) (ho:o.op = .store 311 x y)
 (g:Nat) (F G:Nat->Int) (hx:a.eval x = .pointer (some ⟨g,0,none⟩)) (hy:a.eval y = .agg (ar F)) (hrow:RowI w g G) (h:wpList prog ops Q rest (a.put o.dst undef) (w.setRow g (ar F))):wpList prog ops Q (o :: rest) a w :=
 wpList_store_row hgd _ x y ho g _ hx hy _ _ hrow (infoI _) rfl (ar_one _) h
theorem store_ar_new (hgd:o.guard=none) (x y:Operand) (ho:o.op = .store 311 x y)
 (F:Nat->Int) (hx:a.eval x = .pointer (some ⟨w.heap.size,0,none⟩)) (hy:a.eval y = .agg (ar F)) (h:wpList prog ops Q rest (a.put o.dst undef) (w.alloc (.cells (ar F) 311))) :
 wpList prog ops Q (o :: rest) a (w.alloc (.cells #[.int .i64 0,.int .i64 0,.int .i64 0,.int .i64 0,.int .i64 0,.int .i64 0,.int .i64 0,.int .i64 0,.int .i64 0,.int .i64 0,.int .i64 0,.int .i64 0,.int .i64 0,.int .i64 0,.int .i64 0,.int .i64 0,.int .i64 0] 311)) :=
 store_ar hgd x y ho _ F (fun _=>0) hx hy (RowI.new w (fun _=>0)) (by rw [World.setRow_alloc_new];exact h)
variable {fn:Func} {p r:Tmp}
theorem results_ar (h:fn.results=#[.cell p 311]) (tmps:Array Value) (w:World) (g:Nat) (F:Nat->Int) (hp:tmps.getD p undef = .pointer (some ⟨g,0,none⟩)) (hrow:RowI w g F) :
 (results fn tmps).run prog w = .ok (.agg (ar F)) w:=results_cell_row h tmps w g _ _ _ _ hp hrow underlying311 rfl (infoI _)
def row5 (x:E5):Array Value:=#[.int .i64 x.1,.int .i64 x.2.1,.int .i64 x.2.2.1,.int .i64 x.2.2.2.1,.int .i64 x.2.2.2.2]
def RowE (w:World) (g:Nat) (x:E5):Prop:=w.heap[g]? = some (.cells (row5 x) 244 (0,0))
variable {g B:Nat} {x:E5}
theorem RowE.lt (h:RowE w g x):g < w.heap.size:=ay h
theorem RowE.below (h:RowE w g x) (hb:Below B w w') (hg:g < B):RowE w' g x:=(hb.block g hg).trans h
theorem results_who (h:fn.results=#[.tmp r,.cell p 244]) (tmps:Array Value) (w:World) (g1:Nat) (n:Int) (x:E5)
 (hp:tmps.getD p undef = .pointer (some ⟨g1,0,none⟩)) (hr:tmps.getD r undef = .int .i64 n) (h1:RowE w g1 x) :
 (results fn tmps).run prog w = .ok (.tuple #[.int .i64 n,ent x]) w:=by
 have e1:=ce (P:=prog) w g1 244 244 (row5 x) (0,0) _ h1 underlying244 rfl (by show _=some 5;kernel_rfl);have hp':tmps[p]?.getD undef = .pointer (some ⟨g1,0,none⟩):=by simpa using hp
 have hr':tmps[r]?.getD undef = .int .i64 n:=by simpa using hr
 simp only [results,h]
 simp [Result.andThen,hp',hr',asAddr,e1,ent,row5]
end Ck
namespace Pa
open Go.Maps
open Ck (RdL)
def ptr (s:Nat):Value:=.pointer (some ⟨s,0,none⟩)
def KN:Rw.Kind Nat:=⟨fun s=>[ptr s],1,by decide,fun _=>rfl,fun _ u h=>by simp at h;subst h;rfl,0⟩
def pv (p:Option Nat):Value:=.pointer (p.map fun s=>⟨s,0,none⟩)
def KP:Rw.Kind (Option Nat):=⟨fun p=>[pv p],1,by decide,fun _=>rfl,fun p u h=>by simp at h;subst h;cases p <;> rfl,none⟩
def KB:Rw.Kind Bool:=⟨fun b=>[.bool b],1,by decide,fun _=>rfl,fun _ u h=>by simp at h;subst h;rfl,false⟩
def K2:Rw.Kind S2:=⟨fun x=>[.int .i64 x.1,.int .i64 x.2],2,by decide,fun _=>rfl,fun _ u h=>by simp at h;rcases h with rfl | rfl <;> rfl,z2⟩
section
variable {w:World} {b off:Nat}
variable {l:List Nat} {i:Nat}
theorem atN (h:At KN w b off l) (hi:i < l.length):w.cell? ⟨b,off+i,none⟩=some (ptr (l.getD i 0)):=by
 have c:=h i hi 0 _ rfl
 simpa [KN] using c
theorem atP {l:List (Option Nat)} (h:At KP w b off l) (hi:i < l.length):w.cell? ⟨b,off+i,none⟩=some (pv (l.getD i none)):=by
 have c:=h i hi 0 _ rfl
 simpa [KP] using c
theorem atB {l:List Bool} (h:At KB w b off l) (hi:i < l.length):w.cell? ⟨b,off+i,none⟩=some (.bool (l.getD i false)):=by
 have c:=h i hi 0 _ rfl
 simpa [KB] using c
theorem at2 {l:List S2} (h:At K2 w b off l) (hi:i < l.length):w.cell? ⟨b,off+i * 2,none⟩=some (.int .i64 (pat l i).1)/\w.cell? ⟨b,off+i * 2+1,none⟩=some (.int .i64 (pat l i).2) :=
 ⟨h i hi 0 _ rfl,h i hi 1 _ rfl⟩
theorem rd_some {v:Value} (h:Rd KN w v l):Rd KP w v (l.map some):=by
 obtain ⟨a,cap,e,h1,h2,h3⟩:=h;refine ⟨a,cap,by rw [aL];exact e,by rw [aL];exact h1,h2,fun h0=>?_⟩;rw [aL] at h0;obtain ⟨b,off,ea,hA⟩:=h3 h0;refine ⟨b,off,ea,fun i hi j u hu=>?_⟩;rw [aL] at hi;have:KP.enc ((l.map some).getD i KP.dft)=KN.enc (l.getD i KN.dft):=by
  rw [af,a9,ai hi,af,ai hi]
  rfl
 rw [this] at hu;exact hA i hi j u hu
end
def Has (w:World) (s:Nat) (x:Abs×Int):Prop:=∃ F,St w s F x.1 x.2
def Stl (w:World) (v:Value) (S:Sts):Prop:=∃ ps:List Nat,Rd KN w v ps/\ps.length=S.length/\∀ i,i < S.length->Has w (ps.getD i 0) (sat S i)
section
variable {w w':World} {s:Nat} {x:Abs×Int} {v:Value} {S:Sts}
theorem Has.below (h:Has w s x) (b:Below w.heap.size w w'):Has w' s x:=by obtain ⟨F,h⟩:=h;exact ⟨F,h.below b⟩
theorem Has.okA (h:Has w s x):OkA x.1:=by obtain ⟨F,h⟩:=h;exact h.okA
theorem Stl.below (h:Stl w v S) (b:Below w.heap.size w w'):Stl w' v S:=by obtain ⟨ps,h1,h2,h3⟩:=h;exact ⟨ps,h1.below b,h2,fun i hi=>(h3 i hi).below b⟩
theorem Stl.slice (h:Stl w v S):∃ a cap,v = .slice a S.length cap/\cap<=maxLen:=by obtain ⟨ps,h1,h2,_⟩:=h;rw [← h2];exact h1.slice
theorem Stl.one (h:Stl w v S) {k:Nat} (hk:k < S.length):∃ b off cap s,v = .slice (some ⟨b,off,none⟩) S.length cap/\w.cell? ⟨b,off+k,none⟩=some (ptr s)/\Has w s (sat S k):=by
 obtain ⟨ps,h1,h2,h3⟩:=h;obtain ⟨a,cap,e,_,_,g⟩:=h1;obtain ⟨b,off,rfl,hA⟩:=g (by omega);exact ⟨b,off,cap,_,by rw [← h2];exact e,atN hA (by omega),h3 k hk⟩
end
structure Ns (w:World) (vs vt vl:Value) (S:Sts) (T:LL) (V:List Bool):Prop where
 st:Stl w vs S
 tb:RdL w vt T
 lv:Rd KB w vl V
 lt:T.length=S.length
 ll:V.length=S.length
 ok:tE T=0
section
variable {w w':World} {vs vt vl:Value} {S:Sts} {T:LL} {V:List Bool}
theorem Ns.below (h:Ns w vs vt vl S T V) (b:Below w.heap.size w w'):Ns w' vs vt vl S T V:=⟨h.st.below b,h.tb.below b,h.lv.below b,h.lt,h.ll,h.ok⟩
theorem wf_of {n:Int} (h:0<=n/\n<=1000):Wf n:=by
 have e1:IntKind.i64.min = -9223372036854775808:=rfl;have e2:IntKind.i64.max=9223372036854775807:=rfl
 show (decide (IntKind.i64.min<=n) && decide (n<=IntKind.i64.max))=true
 rw [e1,e2,aG,aZ,aZ]
 omega
theorem not_bad (h:tE T=0):¬ 0<=bI T:=fun g=>by
 have:=(Ck.t_form g).2
 omega
theorem tab_each (h:tE T=0) {k:Nat} (hk:k < T.length):∀ x∈lat T k,okE x/\x.1≠4:=may_each (may_all (not_bad h) k hk)
end
def bv (y:Int):Value:=.int .u8 y
structure HIs (D:DataW Value) (h:Hr):Prop where
 has:∀ n,Wf n->Maps.has D (.int .i64 n)=(h n).isSome
 val:∀ n y,Wf n->h n=some y->∀ z,D.atKey (.int .i64 n) z = .held (bv y)
def HBl (w:World) (b N:Nat) (h:Hr):Prop:=∃ D,w.ownsMap prog 3 Rh b N D/\HIs D h
def HMap (w:World) (v:Value) (h:Hr):Prop:=∃ b N,v = .map (some b)/\HBl w b N h
theorem zeroB (w:World):(zeroValue 5).run prog w = .ok (.int .u8 0) w:=by kernel_rfl
section
variable {w w':World} {v:Value} {h:Hr} {b N:Nat}
theorem HBl.lt (M:HBl w b N h):b < w.heap.size:=by obtain ⟨D,o,_⟩:=M;exact o.lt
theorem HBl.kept (M:HBl w b N h) (e:w'.heap[b]? = w.heap[b]?):HBl w' b N h:=by
 obtain ⟨D,⟨es,clock,hb,F,hs,hD⟩,I⟩:=M;exact ⟨D,⟨es,clock,e.trans hb,F,hs,hD⟩,I⟩
theorem HBl.below (M:HBl w b N h) (hb:Below w.heap.size w w'):HBl w' b N h:=M.kept (hb.block b M.lt)
theorem HMap.below (M:HMap w v h) (hb:Below w.heap.size w w'):HMap w' v h:=by
 obtain ⟨b,N,e,M⟩:=M;exact ⟨b,N,e,M.below hb⟩
theorem HMap.only {G:Nat->Prop} (M:HMap w v h) (ho:Fs.Only G w w') (hn:∀ b,v = .map (some b)->¬ G b):HMap w' v h:=by
 obtain ⟨b,N,e,M⟩:=M;exact ⟨b,N,e,M.kept (ho.block b M.lt (hn b e))⟩
variable {n y:Int}
theorem run_heard (M:HMap w v h) (hn:Wf n):(Instr.lookup 219 v (.int .i64 n) true).run prog w = .ok (.tuple #[bv ((h n).getD 0),.bool (h n).isSome]) w:=by
 obtain ⟨b,N,rfl,D,o,I⟩:=M;obtain ⟨u,ps,hr,hu⟩:=o.look_ok law underlying219 (zeroB w) (zd:=.held (bv 0)) (zp:=[]) rfl (keyI hn);rw [hr,I.has n hn];have:u=bv ((h n).getD 0):=by
  have e:DataW.held u=D.atKey (.int .i64 n) (.held (bv 0)):=by simp [Rh] at hu;exact hu.1
  rcases ey:h n with _ | y
  ·have:=I.has n hn
   rw [ey] at this;rw [atKey_of_not_has this] at e;injection e
  ·rw [I.val n y hn ey] at e
   injection e
 rw [this]
variable {ops:Array Oper} {rest:List Oper} {o:Oper} {a:Act} {Q:Exit->Act->World->Prop}
theorem at_heard (hgd:Region.wanted o (yielded ops a.tmps)=true) (p x:Operand) (hop:o.op = .lookup 219 p x true) (hm:a.eval p=v) (M:HMap w v h) (n:Int) (hx:a.eval x = .int .i64 n) (hn:Wf n) (y:Int) (q:Bool) (hy:(h n).getD 0=y) (hq:(h n).isSome=q)
 (hK:wpList prog ops Q rest (a.put o.dst (.tuple #[.int .u8 y,.bool q])) w):wpList prog ops Q (o :: rest) a w:=by
 refine BigFrame.wpList_want hgd fun K' hK'=>?_;have hr:=run_heard M hn;rw [hy,hq] at hr;unfold Oper.wp
 simp [execOp,hop,hm,hx,hr,Result.andThen]
 exact hK' _ _ (by simpa [bv] using hK)
def hput (h:Hr) (n y:Int):Hr:=fun m=>if m=n then some y else h m
theorem HIs.put {D:DataW Value} (I:HIs D h) (hD:IsMap D) {n y:Int} (hn:Wf n):HIs (D.put (.int .i64 n) (.held (bv y))) (hput h n y) where
 has m hm:=by
  unfold hput
  by_cases e:m=n
  ·subst e
   rw [has_put_same hD (law.key (keyI hn)),aj rfl]
   rfl
  ·rw [has_put_other (fun e2=>e (by injection e2)),ah e]
   exact I.has m hm
 val m z hm hz u:=by
  unfold hput at hz
  by_cases e:m=n
  ·subst e
   rw [aj rfl] at hz;injection hz with hz;subst hz;exact atKey_put_same hD (law.key (keyI hn)) _ _
  ·rw [ah e] at hz
   rw [atKey_put_other (fun e2=>e (by injection e2))];exact I.val m z hm hz u
theorem run_hput (M:HBl w b N h) (hN:N < maxLen) (hn:Wf n):∃ w',(Instr.mapUpdate 219 (.map (some b)) (.int .i64 n) (bv y)).run prog w = .ok () w'/\HBl w' b (N+1) (hput h n y)/\w.grownBy w' (some b):=by
 obtain ⟨D,o,I⟩:=M;obtain ⟨w',hr,h',hg⟩:=o.update law underlying219 hN (keyI hn) (val:=bv y) (d:=.held (bv y)) (ps:=[]) rfl;exact ⟨w',hr,⟨_,h',I.put o.isMap hn⟩,hg⟩
theorem at_hput (hgd:Region.wanted o (yielded ops a.tmps)=true) (p x u:Operand) (hop:o.op = .mapUpdate 219 p x u) (hm:a.eval p = .map (some b)) (M:HBl w b N h) (hN:N < maxLen) (n y:Int) (hx:a.eval x = .int .i64 n) (hu:a.eval u = .int .u8 y) (hn:Wf n)
 (hK:∀ w',HBl w' b (N+1) (hput h n y)->w.grownBy w' (some b)->wpList prog ops Q rest (a.put o.dst undef) w'):wpList prog ops Q (o :: rest) a w:=by
 refine BigFrame.wpList_want hgd fun K' hK'=>?_;obtain ⟨w',hr,h1,h2⟩:=run_hput M hN (y:=y) hn;unfold bv at hr;unfold Oper.wp
 simp [execOp,hop,hm,hx,hu,hr,Result.andThen]
 exact hK' _ _ (hK w' h1 h2)
theorem hbl_new (w:World):HBl (w.alloc (.map #[] 0)) w.heap.size 0 (fun _=>none):=⟨_,World.ownsMap_made _ _ _ _,fun _ _=>rfl,fun _ _ _ h=>by cases h⟩
end
def plc (f r:Int):Value:=.agg #[.int .i64 f,.int .i64 r]
theorem laidOutP:laidOutB prog=true:=by kernel_rfl
theorem lawP:WideMaps.KeyLaw prog 261:=deep_law_laid laidOutP (m:=2) (by omega) (of_decide_eq_true (by kernel_rfl)) (by kernel_rfl) (by kernel_rfl)
theorem keyedP:Keyed prog 261:=Keyed.of_law lawP
theorem cellsP:prog.cellsOf 261=2:=by kernel_rfl
theorem cellsI:prog.cellsOf 3=1:=by kernel_rfl
theorem sizeP:∃ m,prog.types.size=m+1:=by
 have:0 < prog.types.size:=of_decide_eq_true (by kernel_rfl);exact ⟨prog.types.size - 1,(Nat.succ_pred_eq_of_pos this).symm⟩
theorem litsI (d:Nat) (f:Int):prog.keyLits (d+1) 3 [.int .i64 f]=if (Lit.int .i64 f).wf=true then some [.int .i64 f] else none:=by
 unfold Program.keyLits
 simp [underlying3]
variable {f r f' r':Int}
theorem keyP (hf:Wf f) (hr:Wf r):keyOf prog 261 (plc f r)=some (.string (keyBytes [.int .i64 f,.int .i64 r])):=by
 have h1:prog.keyType 261=true:=by kernel_rfl
 have h2:(plc f r).formed prog 261=true:=by simp [plc,Value.formed,underlying261,cellsP]
 obtain ⟨m,hm⟩:=sizeP;have h4:prog.keyLits (prog.types.size+1) 261 (plc f r).cells.toList=some [.int .i64 f,.int .i64 r]:=by
  have e:(plc f r).cells.toList = [.int .i64 f,.int .i64 r]:=rfl;have f1:(Lit.int .i64 f).wf=true:=hf;have f2:(Lit.int .i64 r).wf=true:=hr;have g1:=litsI m f;have g2:=litsI m r;rw [aj f1] at g1;rw [aj f2] at g2;rw [e,hm];unfold Program.keyLits
  simp [underlying261,cellsP,cellsI,g1,g2]
 unfold keyOf;simp only [underlying261,h1,h2,h4,Bool.and_self,if_true,bS]
theorem keyP_inv {v:Value} {kl:Lit} (h:keyOf prog 261 v=some kl):∃ f r,v=plc f r/\Wf f/\Wf r:=by
 unfold keyOf at h;simp only [underlying261] at h
 split at h
 ·rename_i hc
  rw [aG] at hc;obtain ⟨_,hfm⟩:=hc;obtain ⟨xs,rfl,hs⟩:∃ xs,v = .agg xs/\xs.size=2:=by
   cases v <;> simp [Value.formed,underlying261,cellsP] at hfm
   exact ⟨_,rfl,hfm⟩
  obtain ⟨m,hm⟩:=sizeP;obtain ⟨l⟩:=xs
  match l,hs with
  | [a,b],_ =>
    have e:(Value.agg (Array.mk [a,b])).cells.toList = [a,b]:=rfl;rw [e,hm] at h;unfold Program.keyLits at h
    simp [underlying261,cellsP,cellsI] at h
    rcases e1:prog.keyLits (m+1) 3 [a] with _ | x
    ·rw [e1] at h
     simp at h
    ·rcases e2:prog.keyLits (m+1) 3 [b] with _ | y
     ·rw [e1,e2] at h
      simp at h
     ·obtain ⟨n,h5,_⟩:=keyLits_int' underlying3 e1
      obtain ⟨m',h8,_⟩:=keyLits_int' underlying3 e2;obtain rfl:a = .int .i64 n:=by simpa using h5
      obtain rfl:b = .int .i64 m':=by simpa using h8
      refine ⟨n,m',rfl,?_,?_⟩
      ·rw [litsI] at e1
       by_cases g:(Lit.int .i64 n).wf=true
       ·exact g
       ·rw [ah g] at e1;cases e1
      ·rw [litsI] at e2
       by_cases g:(Lit.int .i64 m').wf=true
       ·exact g
       ·rw [ah g] at e2;cases e2
 ·cases h
def pk (f r:Int):Lit:=.string (keyBytes [.int .i64 f,.int .i64 r])
theorem pk_inj (h1:Wf f) (h2:Wf r) (h3:Wf f') (h4:Wf r') (e:pk f r=pk f' r'):f=f'/\r=r':=by
 have k1:=keyP h1 h2;have k2:=keyP h3 h4;rw [show Lit.string (keyBytes [.int .i64 f',.int .i64 r'])=pk f r from e.symm] at k2;have:=keyedP.inj k1 k2;unfold plc at this;injection this with this;have e1:=bF (fun t:Array Value=>t[0]?) this;have e2:=bF (fun t:Array Value=>t[1]?) this
 simp at e1 e2
 exact ⟨e1,e2⟩
structure Gm (w:World) (b N:Nat) (t:List E5) (vs:Int->Int->Value) (D:DataW Value):Prop where
 own:w.ownsMap prog 261 Rh b N D
 has:∀ f r,Wf f->Wf r->Maps.has D (pk f r)=decide (grp t f r≠[])
 val:∀ f r,Wf f->Wf r->grp t f r≠[]->∀ z,D.atKey (pk f r) z = .held (vs f r)
 nil:∀ f r,grp t f r = []->vs f r = .slice none 0 0
 row:∀ f r,Ow K5 w (b+1) 244 (vs f r) (grp t f r)
 far:∀ f r f' r',¬ (f=f'/\r=r')->∀ k,(vs f r).ownBlock=some k->(vs f' r').ownBlock≠some k
theorem zeroS (w:World):(zeroValue 175).run prog w = .ok (.slice none 0 0) w:=by kernel_rfl
section
variable {w w':World} {b N:Nat} {t:List E5} {vs:Int->Int->Value} {D:DataW Value}
theorem grp_nil (f r:Int):grp [] f r = []:=rfl
theorem gm_new (w:World):Gm (w.alloc (.map #[] 0)) w.heap.size 0 [] (fun _ _=>.slice none 0 0) (.map []) :=
 ⟨World.ownsMap_made _ _ _ _,fun _ _ _ _=>by simp [grp_nil,Maps.has],fun _ _ _ _ h=>absurd rfl h,fun _ _ _=>rfl,fun _ _=>Ow.nil _ _ _,fun _ _ _ _ _ k h=>by simp [Value.ownBlock] at h⟩
theorem Gm.below (G:Gm w b N t vs D) (hb:Below w.heap.size w w'):Gm w' b N t vs D :=
 ⟨G.own.kept (Fs.grown_of hb) (fun h=>by cases h),G.has,G.val,G.nil,fun f r=>(G.row f r).keep hb,G.far⟩
theorem grp_snoc (t:List E5) (x:E5) (f r:Int):grp (t ++ [x]) f r=if mt f r x=true then grp t f r ++ [x] else grp t f r:=by
 unfold grp;rw [List.filter_append]
 by_cases h:mt f r x=true
 ·simp [h]
 ·simp [h]
def upP (vs:Int->Int->Value) (f r:Int) (u:Value) (a c:Int):Value:=if a=f/\c=r then u else vs a c
theorem Gm.step (G:Gm w b N t vs D) (hN:N < maxLen) {x:E5} (h2:x.1=2) (hf:Wf x.2.2.1) (hr:Wf x.2.2.2.1) :
 ∃ st w1,(Instr.mapEntry 258 (.map (some b)) (plc x.2.2.1 x.2.2.2.1)).run prog w = .ok (.tuple #[vs x.2.2.1 x.2.2.2.1,.int .i64 ((st:Nat):Int)]) w1/\w.grownBy w1 (some b)/\w1.heap.size=w.heap.size /\
  ∀ w2 u,w1.grownBy w2 (vs x.2.2.1 x.2.2.2.1).ownBlock->Ow K5 w2 (b+1) 244 u (grp t x.2.2.1 x.2.2.2.1 ++ [x])->(u.ownBlock=(vs x.2.2.1 x.2.2.2.1).ownBlock\/∃ g,u.ownBlock=some g/\w1.heap.size<=g) ->
   ∃ w3 D',(Instr.entryStore 258 (.map (some b)) (.int .i64 ((st:Nat):Int)) u).run prog w2 = .ok () w3/\w2.grownBy w3 (some b)/\Gm w3 b (N+1) (t ++ [x]) (upP vs x.2.2.1 x.2.2.2.1 u) D':=by
 obtain ⟨k,s,f,r,y⟩:=x;simp only at h2 hf hr ⊢;subst h2;have hkey:=keyP hf hr;obtain ⟨es,clock,hb,F,hs,hD⟩:=G.own;obtain ⟨v0,st,es1,clock1,hE,hcase,hS⟩:=WideElems.entry_then_store (w:=w) lawP underlying258 zeroS hb F hkey;have hv0:v0=vs f r:=by
  have hl:=Maps.fit_look false keyedP underlying258 (zeroS w) hb F hkey;rw [← hD] at hl
  rcases hl with ⟨_,hno,hat⟩ | ⟨e1,y1,hm1,hk1,_,hR,hat,_⟩
  ·have h1:Maps.has D (pk f r)=false:=has_false_of_atKey hat
   rw [G.has f r hf hr,decide_eq_false_iff_not,Classical.not_not] at h1;rw [G.nil f r h1]
   rcases hcase with ⟨e0,hm0,hk0,_⟩ | ⟨_,hz⟩
   ·exact absurd hk0 (hno e0 hm0)
   ·exact hz
  ·have h1:Maps.has D (pk f r)=true:=has_true_of_atKey hat
   rw [G.has f r hf hr,aZ] at h1;have h3:=(hat .nil).symm.trans (G.val f r hf hr h1 .nil);have h4:y1=(.held e1.val,[]):=by simp [Rh] at hR;exact hR.symm
   rw [h4] at h3;injection h3 with h3
   rcases hcase with ⟨e0,hm0,hk0,hv⟩ | ⟨hno,_⟩
   ·have he:=entry_eq_of_key ((MapKept.stamped_iff es clock).1 F.stamped).2.2 hm0 hm1 (hk0.trans hk1.symm)
    rw [hv,he,h3]
   ·exact absurd hk1 (hno e1 hm1)
 subst hv0;have hg1:w.grownBy (ChangeMaps.setBlock w b (.map es1 clock1)) (some b):=⟨rfl,rfl,rfl,by simp [ChangeMaps.setBlock],fun i _ hi=>ChangeMaps.heap_setBlock_other hb _ (fun e=>hi (by rw [e]))⟩;have hb1:(ChangeMaps.setBlock w b (.map es1 clock1)).heap[b]? = some (.map es1 clock1):=ChangeMaps.heap_setBlock_same hb _;have hz1:(ChangeMaps.setBlock w b (.map es1 clock1)).heap.size=w.heap.size:=by simp [ChangeMaps.setBlock]
 have hbl:b < w.heap.size:=G.own.lt;have ownb:∀ a c,(vs a c).ownBlock≠some b:=fun a c e=>by have:=aU (G.row a c) b e;omega
 refine ⟨st,_,hE,hg1,hz1,fun w2 u hg2 hu hub=>?_⟩;have hb2:w2.heap[b]? = some (.map es1 clock1):=(hg2.block b (by rw [hz1];exact hbl) (fun e=>ownb f r e.symm)).trans hb1;obtain ⟨es',clock',hS1,hS2⟩:=hS w2 u hb2;obtain ⟨w',hU,hO,_⟩:=G.own.update keyedP underlying258 hN hkey (val:=u) (d:=.held u) (ps:=[]) rfl;have hw':w'=ChangeMaps.setBlock w b (.map es' clock'):=by
  rw [hU] at hS2;injection hS2
 subst hw';have hg3:w2.grownBy (ChangeMaps.setBlock w2 b (.map es' clock')) (some b):=⟨rfl,rfl,rfl,by simp [ChangeMaps.setBlock],fun i _ hi=>ChangeMaps.heap_setBlock_other hb2 _ (fun e=>hi (by rw [e]))⟩;have hO3:(ChangeMaps.setBlock w2 b (.map es' clock')).ownsMap prog 261 Rh b (N+1) (D.put (pk f r) (.held u)):=by
  obtain ⟨es3,clock3,q1,q2,q3,q4⟩:=hO;rw [ChangeMaps.heap_setBlock_same hb] at q1;exact ⟨es3,clock3,(ChangeMaps.heap_setBlock_same hb2 _).trans q1,q2,q3,q4⟩
 have hself:mt f r (2,s,f,r,y)=true:=by simp [mt]
 have hoth:∀ a c,¬ (a=f/\c=r)->mt a c (2,s,f,r,y)=false:=fun a c h=>by
  unfold mt;rw [ak];rintro ⟨_,h1,h2⟩;exact h ⟨h1.symm,h2.symm⟩
 have ownu:∀ k,u.ownBlock=some k->b+1<=k/\k < w2.heap.size:=fun k e=>aU hu k e;have hdiff:∀ a c,¬ (a=f/\c=r)->∀ k,(vs a c).ownBlock=some k->u.ownBlock≠some k:=fun a c h k hk e=>by
  rcases hub with e2 | ⟨g,e2,hg⟩
  ·exact G.far a c f r h k hk (e2.symm.trans e)
  ·rw [e2] at e
   injection e with e;have:=(aU (G.row a c) k hk).2
   omega
 refine ⟨_,_,hS1,hg3,hO3,fun a c ha hc=>?_,fun a c ha hc hne z=>?_,fun a c hn=>?_,fun a c=>?_,fun a c a' c' hne k hk=>?_⟩
 ·rw [grp_snoc]
  by_cases e:a=f/\c=r
  ·obtain ⟨rfl,rfl⟩:=e
   rw [show Maps.has (D.put (pk a c) (.held u)) (pk a c)=true from has_put_same G.own.isMap (keyedP.key hkey) _,hself,aj rfl]
   simp
  ·rw [has_put_other (fun e2=>e (pk_inj ha hc hf hr e2)),hoth a c e,ah (by simp)]
   exact G.has a c ha hc
 ·rw [grp_snoc] at hne
  unfold upP
  by_cases e:a=f/\c=r
  ·obtain ⟨rfl,rfl⟩:=e
   rw [aj ⟨rfl,rfl⟩];exact atKey_put_same G.own.isMap (keyedP.key hkey) _ _
  ·rw [hoth a c e,ah (by simp)] at hne
   rw [atKey_put_other (fun e2=>e (pk_inj ha hc hf hr e2)),ah e];exact G.val a c ha hc hne z
 ·rw [grp_snoc] at hn
  unfold upP
  by_cases e:a=f/\c=r
  ·obtain ⟨rfl,rfl⟩:=e
   rw [hself,aj rfl] at hn
   simp at hn
  ·rw [hoth a c e,ah (by simp)] at hn
   rw [ah e];exact G.nil a c hn
 ·rw [grp_snoc]
  unfold upP
  by_cases e:a=f/\c=r
  ·obtain ⟨rfl,rfl⟩:=e
   rw [hself,aj rfl,aj ⟨rfl,rfl⟩];exact de hu hg3 (.inr fun e2=>by have:=(ownu b e2).1;omega)
  ·rw [hoth a c e,ah e,ah bO]
   have r1:=de (G.row a c) hg1 (.inr (ownb a c))
   have r2:=de r1 hg2 (by
    rcases e3:(vs a c).ownBlock with _ | k
    ·exact .inl rfl
    ·exact .inr fun e4=>G.far a c f r e k e3 e4.symm)
   exact de r2 hg3 (.inr (ownb a c))
 ·unfold upP at hk ⊢
  by_cases e:a=f/\c=r
  ·rw [aj e] at hk
   by_cases e':a'=f/\c'=r
   ·exact absurd ⟨e.1.trans e'.1.symm,e.2.trans e'.2.symm⟩ hne
   ·rw [ah e']
    exact fun e4=>hdiff a' c' e' k e4 hk
  ·rw [ah e] at hk
   by_cases e':a'=f/\c'=r
   ·rw [aj e']
    exact hdiff a c e k hk
   ·rw [ah e']
    exact G.far a c a' c' hne k hk
end
theorem push_group {ops:Array Oper} {rest:List Oper} {o:Oper} {a:Act} {w:World} {Q:Exit->Act->World->Prop} (hgd:o.guard=none) (s x:Operand)
 (ho:o.op = .call { callee:=.builtin .append,args:=#[s,x],argTypes:=#[175,175] }) (B:Nat) (v:Value) (l:List E5) (hs:a.eval s=v) (hown:Ow K5 w B 244 v l)
 (ad:Addr) (c:E5) (hx:a.eval x = .slice (some ad) 1 1) (hc:∀ j u,(K5.enc c)[j]? = some u->w.cell? (ad.add j)=some u) (hlen:l.length < 100000) (hB:B<=w.heap.size)
 (h:∀ v' w',Ow K5 w' B 244 v' (l ++ [c])->w.grownBy w' v.ownBlock->(v'.ownBlock=v.ownBlock\/∃ g,v'.ownBlock=some g/\w.heap.size<=g)->wpList prog ops Q rest (a.put o.dst v') w'):wpList prog ops Q (o :: rest) a w:=by
 obtain ⟨i0,hi0,hz0,hz1,hz2⟩:=cz Ro.infoE;refine wpList_append_own_at _ hgd s x 175 ho B 244 i0 _ 5 40 underlying175 hi0 hz0 hz1 hz2 rfl (by omega) v l.length (K5.flat l) hs hown ad 1 1 (K5.enc c) hx (by rw [K5.len];rfl) hc (K5.one c) (by unfold maxLen;omega) (by omega) hB ?_
 intro v' w' h2 h3 _ h5
 exact h v' w' (Rw.Ow.push h2) h3 (h5.imp id fun e=>⟨_,e,ac _⟩)
end Pa
namespace Ro
open Fl (ret_bool)
attribute [local irreducible] wpQuiet
def row5 (x:E5):Array Value:=#[.int .i64 x.1,.int .i64 x.2.1,.int .i64 x.2.2.1,.int .i64 x.2.2.2.1,.int .i64 x.2.2.2.2]
theorem end_any (w:World):Calls prog 184 #[] w fun e w'=>e = .returned (ent endE)/\Below w.heap.size w w':=by
 go_enter func184,ntmps184
 go_wp2
 (try simp only [Exit.inBlock,Exit.then])
 refine aA (v:=ent endE) ?_ rfl ⟨rfl,?_⟩
 ·exact results_cell_row (p:=0) rfl _ _ w.heap.size 244 _ (0,0) _ rfl (am w _) underlying244 rfl (by show _=some 5;kernel_rfl)
 ·exact (aa w.heap.size w).alloc (ac _) _
theorem place_any (w:World) (k s f r b:Int):Calls prog 183 #[.agg #[.int .i64 k,.int .i64 s,.int .i64 f,.int .i64 r,.int .i64 b]] w fun e w'=>e = .returned (.bool (placeB s f r))/\Below w.heap.size w w':=by
 have B0:=Hh ((aa w.heap.size w).alloc (ac _) (.cells #[.int .i64 k,.int .i64 s,.int .i64 f,.int .i64 r,.int .i64 b] 244))
 by_cases h1:1<=s
 ·by_cases h2:s<=16
  ·by_cases h3:0<=f
   ·by_cases h4:f < 64
    ·by_cases h5:1<=r
     ·by_cases h6:r < 256
      ·have E:=Hh (an (show place s f r by unfold place;omega)).symm
       go_enter func183,ntmps183
       go_wp2
       go_ret
       exact ⟨ret_bool E,B0⟩
      ·have E:=Hh (ak (show ¬ place s f r by unfold place;omega)).symm
       go_enter func183,ntmps183
       go_wp2
       go_ret
       exact ⟨ret_bool E,B0⟩
     ·have E:=Hh (ak (show ¬ place s f r by unfold place;omega)).symm
      go_enter func183,ntmps183
      go_wp2
      go_ret
      exact ⟨ret_bool E,B0⟩
    ·have E:=Hh (ak (show ¬ place s f r by unfold place;omega)).symm
     go_enter func183,ntmps183
     go_wp2
     go_ret
     exact ⟨ret_bool E,B0⟩
   ·have E:=Hh (ak (show ¬ place s f r by unfold place;omega)).symm
    go_enter func183,ntmps183
    go_wp2
    go_ret
    exact ⟨ret_bool E,B0⟩
  ·have E:=Hh (ak (show ¬ place s f r by unfold place;omega)).symm
   go_enter func183,ntmps183
   go_wp2
   go_ret
   exact ⟨ret_bool E,B0⟩
 ·have E:=Hh (ak (show ¬ place s f r by unfold place;omega)).symm
  go_enter func183,ntmps183
  go_wp2
  go_ret
  exact ⟨ret_bool E,B0⟩
theorem good_act (w:World) (k s f r b L:Int) (hk:(k=1\/k=2)/\L=3\/k=3/\L=0):Calls prog 161 #[.agg #[.int .i64 k,.int .i64 s,.int .i64 f,.int .i64 r,.int .i64 b]] w fun e w'=>e = .returned (.bool (okB (k,s,f,r,b)))/\Below w.heap.size w w':=by
 have B0:=Hh ((aa w.heap.size w).alloc (ac _) (.cells #[.int .i64 k,.int .i64 s,.int .i64 f,.int .i64 r,.int .i64 b] 244))
 have EQ:Hid (okE (k,s,f,r,b)↔place s f r/\0<=b/\b<=L):=Hh (by
  unfold okE place;simp only
  omega)
 have PA:=Hh (fun w=>place_any w k s f r b)
 by_cases hp:place s f r
 ·have PP:=Hh (an hp)
  unfold placeB at PA;rw [PP.out] at PA;have HP:=Hh hp;clear hp PP
  by_cases h1:0<=b
  ·have E:Hid (decide (b<=L)=okB (k,s,f,r,b)):=Hh (bf.2 ⟨fun h=>EQ.out.2 ⟨HP,h1,h⟩,fun h=>(EQ.out.1 h).2.2⟩)
   clear EQ HP
   rcases hk with ⟨rfl | rfl,rfl⟩ | ⟨rfl,rfl⟩
   all_goals
    go_enter func161,ntmps161
    go_wp2_with fail;refine (PA _).mono ?_;rintro e w1 ⟨rfl,b1⟩;have c4:w1.cell? ⟨w.heap.size,4,none⟩=some (.int .i64 b):=(b1.cell (by simp)).trans (by go_simp);have B1:=bTr B0 b1;clear b1;go_wp2
    go_ret
    exact ⟨ret_bool E,B1⟩
  ·have E:=Hh (ak (fun h=>h1 (EQ.out.1 h).2.1)).symm
   clear EQ HP
   rcases hk with ⟨rfl | rfl,rfl⟩ | ⟨rfl,rfl⟩
   all_goals
    go_enter func161,ntmps161
    go_wp2_with fail;refine (PA _).mono ?_;rintro e w1 ⟨rfl,b1⟩;have c4:w1.cell? ⟨w.heap.size,4,none⟩=some (.int .i64 b):=(b1.cell (by simp)).trans (by go_simp);have B1:=bTr B0 b1;clear b1;go_wp2
    go_ret
    exact ⟨ret_bool E,B1⟩
 ·have E:=Hh (ak (fun h=>hp (EQ.out.1 h).1)).symm
  have PP:=Hh (ak hp);unfold placeB at PA;rw [PP.out] at PA;clear hp PP EQ
  rcases hk with ⟨rfl | rfl,rfl⟩ | ⟨rfl,rfl⟩
  all_goals
   go_enter func161,ntmps161
   go_wp2_with fail;refine (PA _).mono ?_;rintro e w1 ⟨rfl,b1⟩;have c4:w1.cell? ⟨w.heap.size,4,none⟩=some (.int .i64 b):=(b1.cell (by simp)).trans (by go_simp);have B1:=bTr B0 b1;clear b1;go_wp2
   go_ret
   exact ⟨ret_bool E,B1⟩
theorem good_end (w:World) (s f r b:Int):Calls prog 161 #[.agg #[.int .i64 4,.int .i64 s,.int .i64 f,.int .i64 r,.int .i64 b]] w fun e w'=>e = .returned (.bool (okB (4,s,f,r,b)))/\Below w.heap.size w w':=by
 have B0:=Hh ((aa w.heap.size w).alloc (ac _) (.cells #[.int .i64 4,.int .i64 s,.int .i64 f,.int .i64 r,.int .i64 b] 244))
 have EQ:okE (4,s,f,r,b)↔(s=0/\f=0/\r=0/\b=0):=⟨fun h=>by
  rcases h with h | h
  ·exact absurd h.2.1 (show ¬ (4:Int)<=3 by decide)
  ·exact h.2,fun h=>.inr ⟨rfl,h⟩⟩
 have E:Hid ((decide (s=0) && (decide (f=0) && (decide (r=0) && decide (b=0))))=okB (4,s,f,r,b)):=Hh (by
  rw [show okB (4,s,f,r,b)=decide (s=0/\f=0/\r=0/\b=0) from bf.2 EQ]
  simp only [Bool.decide_and])
 clear EQ;have es:=eq_ent ((4:Int),s,f,r,b) endE;simp only [endE] at es;have EE:=Hh (fun w=>end_any w);unfold ent at EE;simp only [endE] at EE;have k0:=Qb.cell_by (show (w.alloc (.cells #[.int .i64 4,.int .i64 s,.int .i64 f,.int .i64 r,.int .i64 b] 244)).cell? ⟨w.heap.size,0,none⟩=some (.int .i64 4) by go_simp);have k1:=Qb.cell_by (show (w.alloc (.cells #[.int .i64 4,.int .i64 s,.int .i64 f,.int .i64 r,.int .i64 b] 244)).cell? ⟨w.heap.size,1,none⟩=some (.int .i64 s) by go_simp);have k2:=Qb.cell_by (show (w.alloc (.cells #[.int .i64 4,.int .i64 s,.int .i64 f,.int .i64 r,.int .i64 b] 244)).cell? ⟨w.heap.size,2,none⟩=some (.int .i64 f) by go_simp);have k3:=Qb.cell_by (show (w.alloc (.cells #[.int .i64 4,.int .i64 s,.int .i64 f,.int .i64 r,.int .i64 b] 244)).cell? ⟨w.heap.size,3,none⟩=some (.int .i64 r) by go_simp);have k4:=Qb.cell_by (show (w.alloc (.cells #[.int .i64 4,.int .i64 s,.int .i64 f,.int .i64 r,.int .i64 b] 244)).cell? ⟨w.heap.size,4,none⟩=some (.int .i64 b) by go_simp)
 go_enter func161,ntmps161
 go_wp2_with fail;refine Qb.wp_region_by (by kernel_rfl) (by kernel_rfl) ?_
 repeat (quiet_step ((go_at_call 184;with_reducible exact Qb.of_below (EE.out _))))
 refine az ?_
 intro _ hw'
 obtain ⟨pp,rfl⟩:=hw';go_wp2
 go_ret
 exact ⟨ret_bool E,B0.trans (pp.below.mono B0.size)⟩
theorem good_else (w:World) (k s f r b:Int) (h1:k≠1) (h2:k≠2) (h3:k≠3) (h4:k≠4):Calls prog 161 #[.agg #[.int .i64 k,.int .i64 s,.int .i64 f,.int .i64 r,.int .i64 b]] w fun e w'=>e = .returned (.bool (okB (k,s,f,r,b)))/\Below w.heap.size w w':=by
 have B0:=Hh ((aa w.heap.size w).alloc (ac _) (.cells #[.int .i64 k,.int .i64 s,.int .i64 f,.int .i64 r,.int .i64 b] 244));have E:=Hh (ak (show ¬ okE (k,s,f,r,b) by unfold okE;simp only;omega)).symm
 go_enter func161,ntmps161
 go_wp2
 go_ret
 exact ⟨ret_bool E,B0⟩
theorem good_any (w:World) (x:E5):Calls prog 161 #[ent x] w fun e w'=>e = .returned (.bool (okB x))/\Below w.heap.size w w':=by
 obtain ⟨k,s,f,r,b⟩:=x
 show Calls prog 161 #[.agg #[.int .i64 k,.int .i64 s,.int .i64 f,.int .i64 r,.int .i64 b]] w _
 by_cases h1:k=1
 ·exact good_act w k s f r b 3 (.inl ⟨.inl h1,rfl⟩)
 ·by_cases h2:k=2
  ·exact good_act w k s f r b 3 (.inl ⟨.inr h2,rfl⟩)
  ·by_cases h3:k=3
   ·exact good_act w k s f r b 0 (.inr ⟨h3,rfl⟩)
   ·by_cases h4:k=4
    ·subst h4;exact good_end w s f r b
    ·exact good_else w k s f r b h1 h2 h3 h4
end Ro
namespace Pa
open Go.Maps
open Ro (good_any)
attribute [local irreducible] Sd.wpSd wpQuiet
structure RcI (w:World) (t:List E5) (k:Nat) (N:Nat) (vs:Int->Int->Value) (D:DataW Value) (wr:World):Prop where
 gm:Gm wr w.heap.size N (t.take k) vs D
 le:N<=k
 bel:Below w.heap.size w wr
theorem RcI.below {w:World} {t:List E5} {k N:Nat} {vs:Int->Int->Value} {D:DataW Value} {wr wr':World} (h:Hid (RcI w t k N vs D wr)) (b:Below wr.heap.size wr wr'):Hid (RcI w t k N vs D wr'):=⟨h.out.gm.below b,h.out.le,h.out.bel.trans (b.mono h.out.bel.size)⟩
def RecdPost (w:World) (t:List E5) (e:Ending) (w':World):Prop:=∃ b N vs D,e = .returned (.map (some b))/\Gm w' b N t vs D/\w.heap.size<=b/\N<=t.length/\Below w.heap.size w w'
theorem Gm.to {w:World} {b N:Nat} {t t':List E5} {vs:Int->Int->Value} {D:DataW Value} (h:Gm w b N t vs D) (e:∀ f r,grp t f r=grp t' f r):Gm w b N t' vs D :=
 ⟨h.own,fun f r hf hr=>by rw [← e f r];exact h.has f r hf hr,fun f r hf hr hg=>h.val f r hf hr (by rw [e f r];exact hg),fun f r hg=>h.nil f r (by rw [e f r];exact hg),fun f r=>by rw [← e f r];exact h.row f r,h.far⟩
theorem received_any (w:World) (v:Value) (t:List E5) (R:Rd K5 w v t) (ok:∀ x∈t,okE x) (hl:t.length<=1000):Calls prog 142 #[v] w (RecdPost w t):=by
 have OK:Hid (∀ k,k < t.length->okE (eat t k)):=fun k hk=>ok _ (Ro.eat_mem hk);have hmm:=@run_makeMap prog;have G0:Hid (RcI w t 0 0 (fun _ _=>.slice none 0 0) (.map []) (w.alloc (.map #[] 0))):=⟨gm_new w,ac _,(aa w.heap.size w).alloc (ac _) _⟩;obtain ⟨a,cap,rfl,_,hm,hA⟩:=R;have HA:=Hh hA;clear hA ok;generalize hn:t.length=n at *;have HN:=Hh hn;clear hn
 go_enter func142,ntmps142
 go_wp2;clear hmm
 go_loopw [10] (fun i wr=>∃ (k:Nat) (N:Nat) (vs:Int->Int->Value) (D:DataW Value),k<=n/\i = .int .i64 k/\Hid (RcI w t k N vs D wr)) (fun i _=>n - (intOf i).toNat)
 case atStart=>exact ⟨0,0,_,_,aI _,rfl,G0⟩
 case round =>
  obtain ⟨k,N,vs,D,hk,rfl,I⟩:=hrel;clear G0
  by_cases hlt:k < n
  ·obtain ⟨b,off,rfl,A⟩:=HA (by omega)
   obtain ⟨c0,c1,c2,c3,c4⟩:=at5 (A.below I.bel) k (by have:=HN.out;omega);rw [show t.getD k z5=eat t k from rfl] at c0 c1 c2 c3 c4;have oke:=OK.out k (by have:=HN.out;omega);have TK:=Hh (take_eat (t:=t) (j:=k) (by have:=HN.out;omega));have NO:Hid ((eat t k).1≠2->Hid (RcI w t (k+1) N vs D wr)):=fun h=>⟨I.gm.to (fun f r=>by rw [TK.out,grp_snoc,ah];simp [mt,h]),by have:=I.out.le;omega,I.out.bel⟩;clear A OK;generalize eat t k=x at *;obtain ⟨q,s,f,r,y⟩:=x;simp only at c0 c1 c2 c3 c4 NO;have GA:=Hh (fun w=>good_any w (q,s,f,r,y));rw [ok_yes oke] at GA;unfold ent at GA;simp only at GA;have OKE:=Hh oke;clear oke
   by_cases h2:q=2
   ·clear NO
    subst h2;obtain ⟨_,_,⟨f0,f1⟩,⟨r0,r1⟩,_⟩:=okE_bounds OKE;simp only at f0 f1 r0 r1;have WF:=Hh (wf_of (n:=f) ⟨f0,by omega⟩);have WR:=Hh (wf_of (n:=r) ⟨r0,by omega⟩);clear f0 f1 r0 r1;go_wp2_with fail;refine (GA _).mono ?_;rintro e w1 ⟨rfl,b1⟩;have X1:=Hh ((b1.block _ (by simp)).trans (am wr _));have B1:=Hh (((aa wr.heap.size wr).alloc (ac _) _).trans (b1.mono (by simp)));have x2:=Fl.rc X1 2;have x3:=Fl.rc X1 3;clear b1 c0 c1 c2 c3 c4 GA;go_upto_region 7 with fail;have P2:Hid ((w1.alloc (.cells #[.int .i64 f,.int .i64 r] 261)).heap[w1.heap.size]? = some (.cells #[.int .i64 f,.int .i64 r] 261 (0,0))):=Hh (am w1 _);have B2:Hid (Below w1.heap.size w1 (w1.alloc (.cells #[.int .i64 f,.int .i64 r] 261))):=Hh ((aa w1.heap.size w1).alloc (ac _) _);clear x2 x3;generalize (w1.alloc (.cells #[.int .i64 f,.int .i64 r] 261))=W at *;have X2:=Hh (bBl B2 X1);have GB:=bTr B1 B2;have hgw:=ay P2;generalize w1.heap.size=g2 at *;clear B1 B2 X1;obtain ⟨p0,p1⟩:=rc2 P2;have x0:=Fl.rc X2 0;have x1:=Fl.rc X2 1;have x2:=Fl.rc X2 2;have x3:=Fl.rc X2 3;have x4:=Fl.rc X2 4;have bL:=(aa W.heap.size W).alloc (ac _) (.cells #[.int .i64 2,.int .i64 s,.int .i64 f,.int .i64 r,.int .i64 y] 244);have GM:=(I.gm.below (GB.trans (bL.mono (GB.size)))).step (x:=(2,s,f,r,y)) (by have:=I.out.le;unfold maxLen;omega) rfl WF.out WR.out;obtain ⟨st,w2,hE,hg2,hz2,hS⟩:=GM;simp only at hE hS;have hwb:=I.gm.own.lt;have hr2:=de (cB ((I.gm.row f r).keep GB) (.cells #[.int .i64 2,.int .i64 s,.int .i64 f,.int .i64 r,.int .i64 y] 244)) hg2 (.inr fun e=>by have:=aU (I.out.gm.row f r) _ e;omega);have L2:=Hh ((hg2.block _ (by simp) (fun e=>by have:=bh e;have:=GB.out.size;omega)).trans (am W _));have hz3:W.heap.size+1=w2.heap.size:=by rw [hz2];simp
    have BW:=Hh (((I.bel.trans (GB.mono I.bel.size)).alloc (by have:=GB.out.size;omega) (.cells #[.int .i64 2,.int .i64 s,.int .i64 f,.int .i64 r,.int .i64 y] 244)).grown hg2 (by have:=GB.out.size;simp;omega) (fun k e=>by injection e with e;omega));have O2:Hid (Ow K5 w2 (w.heap.size+1) 244 (vs f r) (grp (t.take k) f r)):=Hh hr2;have gw:=GB.size;have HX:=Hh (bT hwb (bT hz3 gw));have GX:=Hh hS;obtain ⟨av,cv,ev,_⟩:=O2.slice;generalize hgl:(grp (t.take k) f r).length=gl at ev;have HGL:=Hh hgl;have EV:=Hh ev;unfold plc at hE;rw [ev] at hE O2;clear hg2 hz2 hS bL hr2 hwb hz3 gw ev hgl
    go_wp2_with (at_builtin;refine push_group rfl _ _ rfl (w.heap.size+1) _ _ rfl O2 _ ((2,s,f,r,y):E5) rfl ?d1 ?d2 ?d3 ?_)
    case d1 =>
     intro j u hu
     match j,hu with
     | 0,hu=>simp [K5] at hu;subst hu;exact row_cell L2.out 0
     | 1,hu=>simp [K5] at hu;subst hu;exact row_cell L2.out 1
     | 2,hu=>simp [K5] at hu;subst hu;exact row_cell L2.out 2
     | 3,hu=>simp [K5] at hu;subst hu;exact row_cell L2.out 3
     | 4,hu=>simp [K5] at hu;subst hu;exact row_cell L2.out 4
     | j+5,hu=>simp [K5] at hu
    case d2 =>
     have:=List.length_filter_le (mt f r) (t.take k);have h2:(t.take k).length<=1000:=by rw [aW];have:=HN.out;omega
     unfold grp
     omega
    case d3=>have:=HX.out;omega
    intro v' w3 o3 g3 h3
    have hS:=GX.out;rw [EV.out] at hS;obtain ⟨w4,D',hS4,g4,G4⟩:=hS w3 v' g3 o3 (h3.imp id fun ⟨g,e,h⟩=>⟨g,e,h⟩);obtain ⟨av',cv',ev',_⟩:=o3.slice;generalize (grp (t.take k) f r ++ [((2,s,f,r,y):E5)]).length=gl' at ev';subst ev';have NEW:Hid (RcI w t (k+1) (N+1) (upP vs f r (.slice av' gl' cv')) D' w4):=Hh ⟨by rw [TK.out];exact G4,by have:=I.out.le;omega,(BW.out.grown g3 (by have:=HX.out;omega) (fun k e=>by have:=aU O2.out k e;omega)).grown g4 (by have:=HX.out;have:=g3.size;omega) (fun k e=>by injection e with e;omega)⟩;clear hS o3 g3 h3 g4 G4 hE;go_wp2
    go_roundw
    case rel=>exact ⟨k+1,N+1,_,D',by omega,by go_num,NEW⟩
    case measure=>simp [intOf];omega
   ·have NN:=NO.out h2
    clear NO;have d2:(q == 2)=false:=by simpa using h2
    clear h2;go_wp2
    go_roundw
    case rel=>exact ⟨k+1,N,vs,D,by omega,by go_num,RcI.below NN ((aa wr.heap.size wr).alloc (ac _) _)⟩
    case measure=>simp [intOf];omega
  ·obtain rfl:k=n:=by omega
   have E:Hid (RecdPost w t (.returned (.map (some w.heap.size))) wr):=⟨_,N,vs,D,rfl,by have h:=I.out.gm;rw [← HN.out,br] at h;exact h,ac _,by have:=I.out.le;have:=HN.out;omega,I.out.bel⟩;go_wp2
   go_ret
   exact E
open Fs (get_st)
variable {j gv k s:Nat}
theorem arr4_set (v:R4) (x:Int) (hj:j < 4):(arr4 v).setIfInBounds j (.int .u8 x)=arr4 (rs v j x):=by
 obtain rfl | rfl | rfl | rfl:j=0\/j=1\/j=2\/j=3:=by omega
 all_goals rfl
theorem arr4_get (v:R4) (hj:j < 4):(arr4 v)[j]? = some (.int .u8 (rb v j)):=by
 obtain rfl | rfl | rfl | rfl:j=0\/j=1\/j=2\/j=3:=by omega
 all_goals rfl
structure RvI (w:World) (f r:Int) (gv:Nat) (v:R4) (wr:World):Prop where
 bel:Below w.heap.size w wr
 box:wr.heap[w.heap.size]? = some (.cells #[.int .i64 f,.int .i64 r] 261 (0,0))
 cel:wr.heap[gv]? = some (.cells (arr4 v) 36 (0,0))
 gt:w.heap.size < gv
variable {w wr wr':World} {f r d:Int} {v:R4}
theorem RvI.below (h:RvI w f r gv v wr) (b:Below wr.heap.size wr wr'):RvI w f r gv v wr' :=
 ⟨h.bel.trans (b.mono h.bel.size),bBl b h.box,bBl b h.cel,h.gt⟩
theorem RvI.put (h:RvI w f r gv v wr) (hj:j < 4) (x:Int):RvI w f r gv (rs v j x) (wr.setCell ⟨gv,j,none⟩ (.int .u8 x)) :=
 ⟨h.bel.setCell (by have:=h.gt;simp;omega) _,(aH _ _ _ _ (by have:=h.gt;simp;omega)).trans h.box,by rw [Rw.heap_setCell_same h.cel,arr4_set v x hj],h.gt⟩
def RcvPost (w:World) (s:Nat) (F:Nat->Prop) (d:Int) (A':Abs) (e:Ending) (w':World):Prop:=e = .returned (.tuple #[])/\St w' s (Fx F w w') A' d/\Only F w w'
variable {h:Hr} {l:List E5}
theorem mix_next (hk:k < l.length) (v:R4):mix h (l.take (k+1)) v=rs (mix h (l.take k) v) (eat l k).2.2.2.2 ((h (eat l k).2.1).getD 0):=by
 unfold mix;rw [take_eat hk,List.foldl_append]
 rfl
theorem receive_any {F:Nat->Prop} {A:Abs} (S:St w s F A d) (hf:Wf f) {v hv:Value} (R:Rd K5 w v l) (M:HMap w hv h) (hh:okH h) (hl:∀ x∈l,Wf x.2.1/\0<=x.2.2.2.2/\x.2.2.2.2<=3) :
 Calls prog 143 #[.pointer (some ⟨s,0,none⟩),.agg #[.int .i64 f,.int .i64 r],v,hv] w (RcvPost w s F d (rcv1 h l f r A)):=by
 have HL:Hid (∀ k,k < l.length->Wf (eat l k).2.1/\0<=(eat l k).2.2.2.2/\(eat l k).2.2.2.2<=3):=fun k hk=>hl _ (Ro.eat_mem hk);have G1:=Hh (fun W (b:Below w.heap.size w W)=>get_st (S.below b) hf r);have ok0:okR (gV A f r):=by
  have hA:=S.okA;unfold gV
  split
  ·exact Fl.okR_z
  ·rename_i e he
   split
   ·exact Fl.okR_at (hA.find he).2.2.1 _
   ·exact Fl.okR_z
 have FIN:Hid (gB A f r=true->(∀ k,k < l.length->(h (eat l k).2.1).isSome=true)->rcv1 h l f r A=sA A f r (mix h l (gV A f r))):=fun hg ha=>by
  unfold rcv1;rw [aj];rw [hg,Bool.true_and];unfold allH;rw [bQ]
  intro x hx
  obtain ⟨k,hk,e⟩:=bK hx;have e':eat l k=x:=by rw [← e];unfold eat;rw [af,ai hk];rfl
  rw [← e'];exact ha k hk
 have NOG:Hid (gB A f r=false->rcv1 h l f r A=A):=fun hg=>by unfold rcv1;rw [ah (by simp [hg])]
 have NOH:Hid (∀ k,k < l.length->h (eat l k).2.1=none->rcv1 h l f r A=A):=fun k hk e=>by
  unfold rcv1;rw [ah]
  intro ha
  rw [aG] at ha;have:=bQ.1 ha.2 _ (Ro.eat_mem hk);rw [e] at this
  cases this
 have SET:=Hh (fun W (b:Below w.heap.size w W)=>set_any (S.below b) hf r (mix h l (gV A f r)) (mix_ok hh l ok0));have SAME:Hid (∀ W,Below w.heap.size w W->rcv1 h l f r A=A->RcvPost w s F d (rcv1 h l f r A) (.returned (.tuple #[])) W):=fun W b e=>⟨rfl,by rw [e];exact S.fx b,Only.of_below b⟩;have END:Hid (∀ W W' x b,Below w.heap.size w W->rcv1 h l f r A=sA A f r x->SetPost W s F d b (sA A f r x) (.returned (.bool b)) W'->RcvPost w s F d (rcv1 h l f r A) (.returned (.tuple #[])) W'):=fun W W' x b hb e ⟨_,q1,q2⟩=>by
  have o:=(Only.of_below (G:=F) hb).trans q2 fun _ _ g=>g
  exact ⟨rfl,by rw [e];exact q1.wide (fun k hk=>by
   rcases hk with hk | ⟨hk,hk2⟩
   ·exact .inl hk
   ·exact .inr ⟨aX hb.size hk,hk2⟩) (Fx.low S.low o.size),o⟩
 have MM:=Hh M;obtain ⟨a,cap,rfl,_,hm,hA⟩:=R;have HA:=Hh hA;unfold maxLen at hm;clear hA hl S M hh ok0;generalize hn:l.length=n at *;have HN:=Hh hn;clear hn;generalize gV A f r=v0 at *;have P0:Hid ((w.alloc (.cells #[.int .i64 f,.int .i64 r] 261)).heap[w.heap.size]? = some (.cells #[.int .i64 f,.int .i64 r] 261 (0,0))):=am w _;have B0:Hid (Below w.heap.size w (w.alloc (.cells #[.int .i64 f,.int .i64 r] 261))):=(aa w.heap.size w).alloc (ac _) _
 go_enter func143,ntmps143
 go_wp2_with fail;generalize (w.alloc (.cells #[.int .i64 f,.int .i64 r] 261))=W at *;unfold GetPost at G1;unfold rec4 at G1;refine (G1.out W B0.out).mono ?_;rintro e w1 ⟨rfl,b1⟩;have I0:Hid (RvI w f r w1.heap.size v0 (w1.alloc (.cells #[.int .u8 v0.1,.int .u8 v0.2.1,.int .u8 v0.2.2.1,.int .u8 v0.2.2.2] 36))):=by
  have b2:=B0.out.trans (b1.mono B0.out.size);have p1:=(b1.block _ (ay P0.out)).trans P0.out;exact ⟨b2.alloc b2.size _,((aa w1.heap.size w1).alloc (ac _) _ |>.block _ (ay p1)).trans p1,am w1 _,ay p1⟩
 clear P0 B0 b1 G1
 cases hg:gB A f r with
 | false =>
   have RES:=Hh (fun W b=>SAME.out W b (NOG.out hg));clear SAME NOG FIN NOH END SET hg;go_wp2;refine aA (results_none rfl _ _ _) rfl ?_;exact RES.out _ I0.out.bel
 | true =>
   have FN:=Hh (FIN.out hg);clear NOG FIN hg;go_upto_region 3 with fail;have hgv:=I0.out.gt;generalize (w1.alloc (.cells #[.int .u8 v0.1,.int .u8 v0.2.1,.int .u8 v0.2.2.1,.int .u8 v0.2.2.2] 36))=W0 at *;generalize w1.heap.size=gv at *;go_wp2
   go_loopw [27] (fun i wr=>∃ k:Nat,k<=n/\i = .int .i64 k/\Hid (RvI w f r gv (mix h (l.take k) v0) wr)/\Hid (∀ j,j < k->(h (eat l j).2.1).isSome=true)) (fun i _=>n - (intOf i).toNat)
   case atStart=>exact ⟨0,aI _,rfl,I0,fun j hj=>by omega⟩
   case round =>
    obtain ⟨k,hk,rfl,I,HS⟩:=hrel;clear I0
    by_cases hlt:k < n
    ·obtain ⟨b,off,rfl,A1⟩:=HA.out (by omega)
     obtain ⟨c0,c1,c2,c3,c4⟩:=at5 (A1.below I.out.bel) k (by have:=HN.out;omega);rw [show l.getD k z5=eat l k from rfl] at c0 c1 c2 c3 c4;obtain ⟨ws,y0,y3⟩:=HL.out k (by have:=HN.out;omega);have MX:=Hh (mix_next (h:=h) (l:=l) (k:=k) (by have:=HN.out;omega) v0);have NH:Hid (h (eat l k).2.1=none->rcv1 h l f r A=A):=fun e=>NOH.out k (by have:=HN.out;omega) e;have SN:Hid ((h (eat l k).2.1).isSome=true->∀ j,j < k+1->(h (eat l j).2.1).isSome=true):=fun g j hj=>by
      by_cases e:j=k
      ·rw [e];exact g
      ·exact HS.out j (by omega)
     clear A1 HS;generalize eat l k=x at *;obtain ⟨q,s',f',r',y⟩:=x;simp only at c0 c1 c2 c3 c4 ws y0 y3 MX NH SN;obtain ⟨j,rfl⟩:∃ j:Nat,y=j:=⟨y.toNat,by omega⟩;have hj:j < 4:=by omega
     have WS:=Hh ws;generalize mix h (l.take k) v0=vv at *;have I1:Hid (RvI w f r gv vv (wr.alloc (.cells #[.int .i64 q,.int .i64 s',.int .i64 f',.int .i64 r',.int .i64 (j:Int)] 244))):=I.out.below ((aa wr.heap.size wr).alloc (ac _) _);have M1:=Hh (MM.out.below I1.out.bel);have hfz:=row_frozen I1.out.cel j;have hcj:=(row_cell I1.out.cel j).trans (arr4_get vv hj);clear ws y0 y3
     cases hs:h s' with
     | none =>
       have RES:=Hh (SAME.out _ I1.out.bel (NH.out hs));clear SAME NH NOH SN MX FN SET END
       go_wp2_with (at_lookup;refine at_heard rfl _ _ rfl rfl M1.out s' rfl WS.out 0 false (by rw [hs];rfl) (by rw [hs];rfl) ?_)
       refine aA (results_none rfl _ _ _) rfl ?_;exact RES.out
     | some y =>
       have SS:=Hh (SN.out (by rw [hs];rfl));have MY:Hid (mix h (l.take (k+1)) v0=rs vv j y):=by rw [MX.out,hs];exact Hh rfl
       have I2:=Hh (I1.out.put hj y);clear NH NOH SN MX
       go_wp2_with (at_lookup;refine at_heard rfl _ _ rfl rfl M1.out s' rfl WS.out y true (by rw [hs];rfl) (by rw [hs];rfl) ?_)
       go_roundw
       case rel=>exact ⟨k+1,by omega,by go_num,by rw [MY.out];exact I2,SS⟩
       case measure=>simp [intOf];omega
    ·obtain rfl:k=n:=by omega
     have TK:l.take k=l:=by rw [← HN.out,br]
     rw [TK] at I;have EQ:=Hh (FN.out (fun j hj=>HS.out j (by have:=HN.out;omega)));have ED:=Hh (fun W' b q=>END.out wr W' (mix h l v0) b I.out.bel EQ.out q);have ST:=Hh (SET.out wr I.out.bel);have p0:=Fl.rc I.out.box 0;have p1:=Fl.rc I.out.box 1;have q0:=row_cell I.out.cel 0;have q1:=row_cell I.out.cel 1;have q2:=row_cell I.out.cel 2;have q3:=row_cell I.out.cel 3;unfold arr4 at q0 q1 q2 q3;unfold rec4 at ST;clear HS FN NOH SAME SET END EQ TK;generalize mix h l v0=vv at *;go_wp2_with fail;refine ST.out.mono ?_;rintro e w2 ⟨rfl,q1,q2⟩;have RES:=Hh (ED.out w2 false ⟨rfl,q1,q2⟩);clear q1 q2 ED;go_wp2
     go_end0
     exact RES.out
end Pa
