import Derived.Test.YtdbdacceecnpmaaGreatDoorQr8
import Derived.Test.YtdbdacceecnpmaaGreatDoorShelf
import Derived.Shelf.SlSortCmp.NoneTotal
import Derived.StillTailTactics
set_option maxRecDepth 100000
set_option maxHeartbeats 2000000
namespace Go.Proofs.YtdbdacceecnpmaaGreatDoor
open Go.Proofs.Tryz Go.RowKit
open Ck (Hd KS sl zh)
open Fl (row_cell row_frozen)
open Pa (Sts wp_push_at)
open Rw (At Ow Rd)
open Se (lows)
open Tk (goodB goodB_no goodB_true)
open Ua (Row Two arr below_setRow copy_frame info_of load_frame results_frame ret_arr ret_three store_new take_any tb te two_new upd)
open Wi (FallV Low Made Plain PlainOf lowB low_append low_cons low_nil push_step)
namespace Cu
open Go.Maps
open Fl (R4 K4 okL okR z4 rec4 arr4)
open Fs (Abs St OkA Only Fx ow_only Wf Glob sA sB dA dE dV dD SetPost set_any DoSPost dos_any)
open Pa (S2 sat vat KN KB K2 ptr)
attribute [local irreducible] Sd.wpSd wpQuiet Sz.wpSz
section
variable {s t p:Nat} {F G:Nat->Prop} {c:Cs} {vn vq:Value} {L:List Nd} {Fs:Nat->Nat->Prop} {w w1 w':World}
theorem cwrite_no (w:World) (g o:Nat) (f r:Int) (x:R4) (c1:w.cell? ⟨g,o+1,none⟩=some (.bool false)):Calls prog 33 #[.pointer (some ⟨g,o,none⟩),.int .i64 f,.int .i64 r,rec4 x] w fun e w'=>e = .returned (.int .i64 10)/\Below w.heap.size w w':=by
 have B0:=Hh ((aa w.heap.size w).alloc (ac _) (.cells (arr4 x) 36));have k1:=bCe B0 c1;clear c1;unfold rec4;unfold arr4 at *
 go_enter func33,ntmps33
 go_wp2
 go_ret
 exact ⟨rfl,B0⟩
def WrC (w:World) (q:Nat) (H:Nat->Prop) (A:Abs) (d:Int) (f r:Int) (x:R4) (e:Ending) (w':World):Prop:=e = .returned (.int .i64 (if sB A f r=true then 0 else 3))/\St w' q (Fx H w w') (sA A f r x) d/\Only H w w'
variable {q:Nat} {H:Nat->Prop} {A:Abs} {d f:Int}
theorem st_pre (h:St w' q (Fx H w1 w') A d) (z1:w.heap.size<=w1.heap.size) (z2:w1.heap.size<=w'.heap.size) (low:∀ k,H k->k < w.heap.size):St w' q (Fx H w w') A d:=h.wide (fun k g=>by
 rcases g with g | g
 ·exact .inl g
 ·exact .inr ⟨by omega,g.2⟩) (Fx.low low (aX z1 z2))
theorem cwrite_yes (S:St w q H A d) (g o:Nat) (c0:w.cell? ⟨g,o,none⟩=some (ptr q)) (c1:w.cell? ⟨g,o+1,none⟩=some (.bool true)) (hg:¬ H g) (hf:Wf f) (r:Int) (x:R4) (hx:okR x):Calls prog 33 #[.pointer (some ⟨g,o,none⟩),.int .i64 f,.int .i64 r,rec4 x] w (WrC w q H A d f r x):=by
 have B0:=Hh ((aa w.heap.size w).alloc (ac _) (.cells (arr4 x) 36));have X0:=Hh (am w (.cells (arr4 x) 36));have k0:=Hh (bCe B0 c0);have k1:=bCe B0 c1;have LOW:=Hh S.low;have S0:=Hh (S.below B0);have HG:=Hh hg;have HX:Hid (¬ H w.heap.size):=Hh (fun e=>by have:=S.low _ e;omega);have FIN:Hid (∀ w1 w',Below w.heap.size w w1->SetPost w1 q H d (sB A f r) (sA A f r x) (.returned (.bool (sB A f r))) w'->WrC w q H A d f r x (.returned (.int .i64 (if sB A f r=true then 0 else 3))) w'):=Hh (fun w1 w' b h=>⟨rfl,st_pre h.2.1 b.size h.2.2.size LOW,(Only.of_below b).trans h.2.2 fun _ _ g=>g⟩);clear c0 c1 S hg;unfold rec4 ptr at *;unfold arr4 at *
 go_enter func33,ntmps33
 go_upto_region 3 with fail;clear k1;generalize (w.alloc (.cells #[.int .u8 x.1,.int .u8 x.2.1,.int .u8 x.2.2.1,.int .u8 x.2.2.2] 36))=W at *;have BD:=Hh (B0.trans ((aa W.heap.size W).drew.mono B0.size));have OD:Hid (Only H W W.drew):=Hh (Only.of_below (aa W.heap.size W).drew);have CS:=Hh (set_any (S0.below ((aa W.heap.size W).drew)) hf r x hx);unfold SetPost rec4 at CS;generalize w.heap.size=gx at *;have lx:=ay X0;have s0:=Sc.cell_in (C:=fun W'=>Only H W W') (a:=⟨g,o,none⟩) (fun W' oo=>oo.cell k0 (fun e=>HG e));have x0:=Sc.cell_in (C:=fun W'=>Only H W W') (a:=⟨gx,0,none⟩) (fun W' oo=>oo.cell (row_cell X0 0) (fun e=>HX e));have x1:=Sc.cell_in (C:=fun W'=>Only H W W') (a:=⟨gx,1,none⟩) (fun W' oo=>oo.cell (row_cell X0 1) (fun e=>HX e));have x2:=Sc.cell_in (C:=fun W'=>Only H W W') (a:=⟨gx,2,none⟩) (fun W' oo=>oo.cell (row_cell X0 2) (fun e=>HX e));have x3:=Sc.cell_in (C:=fun W'=>Only H W W') (a:=⟨gx,3,none⟩) (fun W' oo=>oo.cell (row_cell X0 3) (fun e=>HX e));have ne:Nonempty (Sc.In (fun W'=>Only H W W')):=⟨⟨_,OD⟩⟩;clear k0 S0;refine Sc.start (fun W'=>Only H W W') [(false,0),(false,1),(false,2),(false,3),(false,4),(false,5),(false,6),(true,7),(false,8)] (by kernel_rfl) (by kernel_rfl) (by kernel_rfl) OD ?_;dsimp only [Sd.picks,List.getElem?_cons_succ,List.getElem?_cons_zero]
 iterate 7 (refine Sd.lit ?_;quiet_step (fail);refine az ?_)
 clear s0 x0 x1 x2 x3;refine Sd.call (by rfl) (fun K hK=>?_);go_simp;refine CS.mono ?_;rintro e w5 ⟨rfl,s5,o5⟩;have E:=Hh (FIN W.drew w5 BD ⟨rfl,s5,o5⟩);refine hK _ _ (Sc.Cl.of (OD.trans o5 fun k _ g=>g)) ?_;clear hK K s5 o5 CS FIN;generalize sB A f r=bq at *
 iterate 1 (refine Sd.lit ?_;quiet_step (fail);refine az ?_)
 refine Sd.done ?_
 cases bq with
 | true =>
   go_wp2
   go_ret
   exact E
 | false =>
   go_wp2
   go_ret
   exact E
theorem infoS2:(prog.info? 96).map (fun i=>(i.zero,i.size,i.bytes))=some (some (.agg #[.int .i64 0,.int .i64 0]),2,16):=by kernel_rfl
theorem cspoil_full (h:Cl w s F c t vn L p vq Fs) (x:S2) (hq:c.Q.length=32):Calls prog 31 #[ptr s,.agg #[.int .i64 x.1,.int .i64 x.2]] w (DoC w s F c t 11):=by
 have B0:=Hh ((aa w.heap.size w).alloc (ac _) (.cells #[.int .i64 x.1,.int .i64 x.2] 96));have k3:=(h.below B0).cells.2.2.2;have E:=Hh (doc_below h B0 11);obtain ⟨qa,qc,rfl,_⟩:=h.sp.slice;rw [hq] at k3;clear h hq;unfold ptr at *
 go_enter func31,ntmps31
 go_wp2
 go_ret
 exact E
theorem cspoil_any (h:Cl w s F c t vn L p vq Fs) (x:S2) (hq:c.Q.length < 32):Calls prog 31 #[ptr s,.agg #[.int .i64 x.1,.int .i64 x.2]] w (DoC w s F { c with Q:=c.Q ++ [x] } t 0):=by
 have B0:=Hh ((aa w.heap.size w).alloc (ac _) (.cells #[.int .i64 x.1,.int .i64 x.2] 96));have X0:=Hh (am w (.cells #[.int .i64 x.1,.int .i64 x.2] 96));have H:=Hh (h.below B0)
 have FIN:Hid (∀ w1 w' v,Below w.heap.size w w1->Ow K2 w' 0 96 v (c.Q ++ [x])->w1.grownBy w' vq.ownBlock->(v.ownBlock=vq.ownBlock\/∃ g,v.ownBlock=some g/\w1.heap.size<=g)->DoC w s F { c with Q:=c.Q ++ [x] } t 0 (.returned (.int .i64 0)) (w'.setCell ⟨s,3,none⟩ v)):=Hh (fun w1 w' v b ow gr hv=>by
  have h1:=h.below b;have o1:=(Pa.only_grown gr).mono fun k _ e=>h.fv k (.inr e);have oq:=Pa.only_grown gr;have lv:∀ k,v.ownBlock=some k->k < w'.heap.size:=fun k e=>(aU ow k e).2;have z1:=b.size;have z2:=gr.size;have h2:Cl w' s (Fx F w w') { c with Q:=c.Q } t vn L p vq Fs\/True:=.inr trivial;have sp_old:∀ i,i < L.length->St w' (nda L i).s (Fs i) (sat c.S i).1 (sat c.S i).2:=fun i hi=>(h1.st i hi).only (fun k g e=>(h1.off i hi k g).2.2.2 e) oq;have vF:∀ k,v.ownBlock=some k->Fx F w w' k:=fun k e=>by
   rcases hv with q | ⟨g,q,hg⟩
   ·exact .inl (h.fv k (.inr (by rw [← q];exact e)))
   ·rw [q] at e
    injection e with e;subst e;exact .inr ⟨by omega,lv _ q⟩
  have nF:∀ i,i < L.length->∀ k,Fs i k->v.ownBlock≠some k:=fun i hi k g e=>by
   rcases hv with q | ⟨j,q,hj⟩
   ·exact (h.off i hi k g).2.2.2 (by rw [← q];exact e)
   ·rw [q] at e
    injection e with e;have:=h.low k (h.ff i hi k g)
    omega
  have o3:Only (fun k=>k=s) w' (w'.setCell ⟨s,3,none⟩ v):=Only.set (fun k=>k=s) w' (a:=⟨s,3,none⟩) rfl _;have ow3:Only F w (w'.setCell ⟨s,3,none⟩ v):=((Only.of_below b).trans o1 fun _ _ g=>g).trans o3 fun k _ e=>by rw [e];exact h.fs
  have sne:=h.vs.2;have row1:=(oq.block s h1.slt (fun e=>sne e)).trans h1.row;have row2:(w'.setCell ⟨s,3,none⟩ v).heap[s]? = some (.cells #[vn,ptr p,.int .i64 c.pl,v] 73 (0,0)):=Rw.heap_setCell_same (j:=3) row1 _;have hzz:(w'.setCell ⟨s,3,none⟩ v).heap.size=w'.heap.size:=by simp [World.setCell]
  refine ⟨rfl,⟨vn,L,p,v,Fs,?_⟩,ow3⟩;refine ⟨row2,ow_only (ow_only h1.no (fun k e q=>h1.vv k e q) oq) (fun k e q=>h1.vs.1 (by rw [e,q])) o3,h.len,fun i hi=>(sp_old i hi).only (fun k g e=>(h.off i hi k g).1 e) o3,h.lv,h.rt,?_,ow_only ow (fun k e q=>ow.apart row1 (by decide) (by rw [e,q])) o3,.inl h.fs,.inl h.fp,fun k q=>?_,fun i hi k g=>.inl (h.ff i hi k g),h.dis,fun i hi k g=>?_,Fx.low h.low ow3.size⟩
  ·exact (h1.pr.only oq (fun e=>h1.vp.2 e)).only o3 (fun e=>h1.sp_ne e.symm)
  ·rcases q with q | q
   ·exact .inl (h.fv k (.inl q))
   ·rcases vF k q with g | g
    ·exact .inl g
    ·exact .inr ⟨g.1,by rw [hzz];exact g.2⟩
  ·have:=h.off i hi k g
   exact ⟨this.1,this.2.1,this.2.2.1,nF i hi k g⟩)
 obtain ⟨qa,qc,rfl,_⟩:=h.sp.slice;have HQ:=Hh hq;have QL:Hid (∀ k,(Value.slice qa c.Q.length qc).ownBlock=some k->k≠w.heap.size):=Hh (fun k e=>by have:=h.low k (h.fv k (.inr e));omega);have k3:=H.cells.2.2.2;have p6:decide ((32:Int)<=(c.Q.length:Int))=false:=ak (by omega);have p7:decide (32<=c.Q.length)=false:=ak (by omega);clear h hq;generalize hln:c.Q.length=ln at *;have HLN:=Hh hln;clear hln;unfold ptr at *
 go_enter func31,ntmps31
 go_upto_region 3 with fail;clear k3 p6 p7;generalize (w.alloc (.cells #[.int .i64 x.1,.int .i64 x.2] 96))=W at *;generalize w.heap.size=gx at X0 QL ⊢;have BD:=Hh (aa W.heap.size W).drew;have NQ:Hid (∀ k,(Value.slice qa ln qc).ownBlock=some k->k≠gx/\k≠s):=Hh (fun k e=>⟨QL k e,fun g=>H.vs.2 (by rw [e,g])⟩);have OD:Hid (Only (fun k=>(Value.slice qa ln qc).ownBlock=some k) W W.drew):=Hh (Only.of_below BD);have x0:=Sc.cell_in (C:=fun W'=>Only (fun k=>(Value.slice qa ln qc).ownBlock=some k) W W') (a:=⟨gx,0,none⟩) (fun W' oo=>oo.cell (row_cell X0 0) (fun e=>(NQ _ e).1 rfl));have x1:=Sc.cell_in (C:=fun W'=>Only (fun k=>(Value.slice qa ln qc).ownBlock=some k) W W') (a:=⟨gx,1,none⟩) (fun W' oo=>oo.cell (row_cell X0 1) (fun e=>(NQ _ e).1 rfl));have s3:=Sc.cell_in (C:=fun W'=>Only (fun k=>(Value.slice qa ln qc).ownBlock=some k) W W') (a:=⟨s,3,none⟩) (fun W' oo=>oo.cell H.cells.2.2.2 (fun e=>(NQ _ e).2 rfl));have ne:Nonempty (Sc.In (fun W'=>Only (fun k=>(Value.slice qa ln qc).ownBlock=some k) W W')):=⟨⟨_,OD⟩⟩;refine Sz.start (fun W'=>Only (fun k=>(Value.slice qa ln qc).ownBlock=some k) W W') [(false,0),(false,1),(false,2),(false,3),(false,4),(false,5),(true,6),(true,7),(false,8),(false,9)] 10 (by kernel_rfl) (by kernel_rfl) (by kernel_rfl) rfl rfl OD ?_;dsimp only [Sd.picks,List.getElem?_cons_succ,List.getElem?_cons_zero]
 repeat (refine Sz.lit ?_;quiet_step (fail);refine az ?_)
 clear x0 x1 s3;have HD:=Hh (H.below BD);generalize W.drew=w4 at *;refine Sz.call (by rfl) (fun K hK=>?_);go_simp;have B5:=Hh (Below.alloc (aa w4.heap.size w4) (ac _) (.cells #[.int .i64 x.1,.int .i64 x.2] 96));have Y5:=Hh (am w4 (.cells #[.int .i64 x.1,.int .i64 x.2] 96));have H5:=Hh (HD.below B5);have BW:=Hh ((bTr B0 BD).trans (B5.mono (aX B0.size BD.size)));have O5:=Hh (OD.trans (Only.of_below (G:=fun k=>(Value.slice qa ln qc).ownBlock=some k) B5) fun _ _ g=>g);refine hK _ _ (Sc.Cl.of O5) ?_;clear hK K HD B5;generalize (w4.alloc (.cells #[.int .i64 x.1,.int .i64 x.2] 96))=w5 at *;generalize w4.heap.size=g4 at *;refine Sz.call (by rfl) (fun K hK=>?_);refine wp_push_at (K:=K2) underlying71 infoS2 rfl (by omega) _ _ rfl 0 _ _ rfl H5.out.sp ⟨g4,0,none⟩ x rfl ?a1 ?a2 (aI _) ?_
 case a1 =>
  intro j u hu
  have c:=row_cell Y5 j
  match j,hu with
  | 0,hu=>simp [K2] at hu;subst hu;exact c
  | 1,hu=>simp [K2] at hu;subst hu;exact c
  | j+2,hu=>simp [K2] at hu
 case a2=>have:=HLN.out;have:=HQ.out;omega
 intro v6 w6 o6 g6 h6
 have O6:=O5.trans (Pa.only_grown g6) fun _ _ g=>g;have c6:=O6.cell H.cells.2.2.2 (fun e=>(NQ _ e).2 rfl);have e6:=row_frozen (((Pa.only_grown g6).block s H5.slt (fun e=>(NQ _ e).2 rfl)).trans H5.row) 3;have E:=Hh (FIN w5 w6 v6 BW o6 g6 h6);obtain ⟨v6a,v6c,n6,rfl⟩:∃ a c n,v6 = .slice a n c:=by obtain ⟨a,c,e,_⟩:=o6.slice;exact ⟨a,c,_,e⟩
 refine hK _ _ (Sc.Cl.of O6) ?_;clear hK K o6 g6 h6 FIN O6 H5 Y5 O5 BW
 repeat (refine Sz.lit ?_;quiet_step (fail);refine az ?_)
 refine Sz.done ?_;go_simp;clear c6 e6;generalize (w6.setCell ⟨s,3,none⟩ (.slice v6a n6 v6c))=w8 at *;refine NoPanic.normal ?_;go_wp2
 go_ret
 exact E
theorem act_spoil {x:Ac} (hk:x.k=3):(c.Q.length=32->actE x c=11/\actC x c=c)/\(c.Q.length≠32->actE x c=0/\actC x c = { c with Q:=c.Q ++ [(x.s,x.m)] }):=by
 have he:actE x c=if c.Q.length=32 then 11 else 0:=by
  unfold actE;rw [ah (by omega),aj hk]
 refine ⟨fun hq=>?_,fun hq=>?_⟩
 ·rw [aj hq] at he
  refine ⟨he,?_⟩;unfold actC;rw [ah (by omega),aj (by rw [he];decide)]
 ·rw [ah hq] at he
  refine ⟨he,?_⟩;unfold actC;rw [ah (by omega),ah (by rw [he];simp),aj hk]
theorem cdo_spoil (h:Cl w s F c t vn L p vq Fs) (ok:OkC c t) (x:Ac) (hk:x.k=3):Calls prog 10 #[ptr s,actV x] w (DoC w s F (actC x c) (t+1) (actE x c)):=by
 have B0:=Hh ((aa w.heap.size w).alloc (ac _) (.cells (actA x) 38));have C2:Hid (Calls prog 31 #[ptr s,.agg #[.int .i64 x.s,.int .i64 x.m]] (w.alloc (.cells (actA x) 38)) (DoC (w.alloc (.cells (actA x) 38)) s F (actC x c) t (actE x c))):=by
  obtain ⟨a1,a2⟩:=act_spoil (c:=c) hk
  by_cases hq:c.Q.length=32
  ·rw [(a1 hq).1,(a1 hq).2]
   exact cspoil_full (h.below B0) (x.s,x.m) hq
  ·rw [(a2 hq).1,(a2 hq).2]
   exact cspoil_any (h.below B0) (x.s,x.m) (by have:=ok.few;omega)
 have E:=Hh (fun e w' (d:DoC (w.alloc (.cells (actA x) 38)) s F (actC x c) t (actE x c) e w')=>(d.pre B0 h.low).late);clear h ok;generalize actC x c=c' at *;generalize actE x c=ae at *;unfold actV actA at *;unfold ptr at *;obtain ⟨k,n,f,rr,v,s',m,tt⟩:=x;simp only at hk B0 C2 E ⊢;subst hk
 go_enter func10,ntmps10
 go_wp2_with fail;refine C2.mono ?_;rintro e w2 d;have G:=Hh (E e w2 d);obtain ⟨rfl,_,_⟩:=d;clear E C2;go_wp2
 go_ret
 exact G
end
end Cu
namespace Tk
def prev (A:Nat->Int):Nat->Int
 | 0=>-1
 | k+1=>A k
structure GoodTo (A R:Nat->Int) (k:Nat):Prop where
 at_:∀ i,i < k->0<=A i/\A i<=4294967296
 rate:∀ i,i < k->-20000<=R i/\R i<=20000
 up:∀ i,i+1 < k->A i < A (i+1)
theorem GoodTo.zero (A R:Nat->Int):GoodTo A R 0:=⟨fun i h=>by omega,fun i h=>by omega,fun i h=>by omega⟩
variable {A R:Nat->Int} {k n:Nat}
theorem GoodTo.lo (g:GoodTo A R k) : -1<=prev A k:=by
 cases k with
 | zero=>exact cP _
 | succ k=>have:=(g.at_ k (by omega)).1;show -1<=A k;omega
theorem GoodTo.step (g:GoodTo A R k) (h1:¬ A k<=prev A k) (h2:¬ 4294967296 < A k) (h3:¬ R k < -20000) (h4:¬ 20000 < R k):GoodTo A R (k+1):=by
 have l:=g.lo;refine ⟨fun i hi=>?_,fun i hi=>?_,fun i hi=>?_⟩
 ·by_cases e:i=k
  ·subst e;omega
  ·exact g.at_ i (by omega)
 ·by_cases e:i=k
  ·subst e;omega
  ·exact g.rate i (by omega)
 ·by_cases e:i+1=k
  ·subst e;have:prev A (i+1)=A i:=rfl;omega
  ·exact g.up i (by omega)
theorem GoodTo.all (g:GoodTo A R n) (h:n<=64):GoodP n A R:=⟨h,g.at_,g.rate,g.up⟩
theorem bad (hk:k < n) (h:A k<=prev A k\/4294967296 < A k\/R k < -20000\/20000 < R k):goodB n A R=false:=by
 refine goodB_no fun g=>?_;have a:=g.at_ k hk;have r:=g.rate k hk
 rcases h with h | h | h | h
 ·cases k with
  | zero=>have:prev A 0 = -1:=rfl;omega
  | succ k=>have:=g.up k hk;have:prev A (k+1)=A k:=rfl;omega
 ·omega
 ·omega
 ·omega
theorem ret_bool {a b:Bool} (h:a=b):Ending.returned (.bool a) = .returned (.bool b):=by rw [h]
theorem ret_int {a b:Int} (h:a=b):Ending.returned (.int .i64 a) = .returned (.int .i64 b):=by rw [h]
theorem good_none (w:World) (a:Option Addr) (cap:Nat) (A R:Nat->Int):Calls prog 137 #[.slice a 0 cap] w fun e w'=>e = .returned (.bool (goodB 0 A R))/\Below w.heap.size w w':=by
 rw [goodB_yes (⟨by omega,fun i h=>by omega,fun i h=>by omega,fun i h=>by omega⟩:GoodP 0 A R)]
 go_enter func137,ntmps137
 go_wp2
 go_loopw [3,11] (fun _ i wr=>i = .int .i64 0/\Below w.heap.size w wr) (fun _ _ _=>0)
 case atStart=>exact ⟨rfl,aa _ _⟩
 case round =>
  obtain ⟨rfl,hb⟩:=hrel;go_wp2
  go_ret
  exact ⟨rfl,hb⟩
theorem good_long (w:World) (a:Option Addr) (n cap:Nat) (h:64 < n) (A R:Nat->Int):Calls prog 137 #[.slice a n cap] w fun e w'=>e = .returned (.bool (goodB n A R))/\Below w.heap.size w w':=by
 rw [goodB_no (fun g:GoodP n A R=>by have:=g.len;omega)]
 go_enter func137,ntmps137
 go_wp2
 go_ret
 exact ⟨rfl,aa _ _⟩
theorem good_some (w:World) (b off n cap:Nat) (h:n<=64) (A R:Nat->Int)
 (hc:∀ i,i < n->w.cell? ⟨b,off+i * 2,none⟩=some (.int .i64 (A i))/\w.cell? ⟨b,off+i * 2+1,none⟩=some (.int .i64 (R i))) :
 Calls prog 137 #[.slice (some ⟨b,off,none⟩) n cap] w fun e w'=>e = .returned (.bool (goodB n A R))/\Below w.heap.size w w':=by
 have HC:=Hh hc;clear hc
 go_enter func137,ntmps137
 go_wp2
 go_loopw [3,11] (fun a i wr=>∃ k:Nat,k<=n/\i = .int .i64 k/\a = .int .i64 (prev A k)/\GoodTo A R k/\Below w.heap.size w wr) (fun _ i _=>n - (intOf i).toNat)
 case atStart=>exact ⟨0,aI _,rfl,rfl,GoodTo.zero A R,aa _ _⟩
 case round =>
  obtain ⟨k,hk,rfl,rfl,hg,hb⟩:=hrel
  by_cases hlt:k < n
  ·obtain ⟨c1,c2⟩:=HC k hlt
   have d1:=bCe hb c1;have d2:=bCe hb c2;clear c1 c2
   by_cases h1:A k<=prev A k
   ·go_wp2
    go_ret
    exact ⟨ret_bool (bad hlt (.inl h1)).symm,hb.alloc hb.size _⟩
   ·by_cases h2:4294967296 < A k
    ·go_wp2
     go_ret
     exact ⟨ret_bool (bad hlt (.inr (.inl h2))).symm,hb.alloc hb.size _⟩
    ·by_cases h3:R k < -20000
     ·go_wp2
      go_ret
      exact ⟨ret_bool (bad hlt (.inr (.inr (.inl h3)))).symm,hb.alloc hb.size _⟩
     ·by_cases h4:20000 < R k
      ·go_wp2
       go_ret
       exact ⟨ret_bool (bad hlt (.inr (.inr (.inr h4)))).symm,hb.alloc hb.size _⟩
      ·go_wp2
       go_roundw
       case rel=>exact ⟨k+1,by omega,by go_num,rfl,hg.step h1 h2 h3 h4,hb.alloc hb.size _⟩
       case measure=>simp [intOf];omega
  ·obtain rfl:k=n:=by omega
   go_wp2
   go_ret
   exact ⟨ret_bool (goodB_yes (hg.all h)).symm,hb⟩
theorem good_any (w:World) (v:Value) (n:Nat) (A R:Nat->Int) (h:Steps w v n A R):Calls prog 137 #[v] w fun e w'=>e = .returned (.bool (goodB n A R))/\Below w.heap.size w w':=by
 rcases h with ⟨a,cap,rfl,_,rfl⟩ | ⟨b,off,cap,rfl,_,_,hc⟩
 ·exact good_none w a cap A R
 ·by_cases hn:n<=64
  ·exact good_some w b off n cap hn A R hc
  ·exact good_long w _ n cap (by omega) A R
end Tk
namespace Bu
open Tk (GoodP good_any)
def anyN (p:Nat->Bool) (n:Nat):Bool:=(List.range n).any p
variable {p:Nat->Bool} {n k:Nat}
theorem anyN_yes (hk:k < n) (h:p k=true):anyN p n=true:=bP.2 ⟨k,List.mem_range.2 hk,h⟩
theorem anyN_no (h:∀ j,j < n->p j=false):anyN p n=false:=List.any_eq_false.2 fun j hj=>by rw [h j (List.mem_range.1 hj)];exact bO
def IdxPost (w:World) (b:Bool) (e:Ending) (w':World):Prop:=∃ r:Int,e = .returned (.int .i64 r)/\decide (0<=r)=b/\Below w.heap.size w w'
variable {w w':World} {b:Bool}
theorem idx_yes (h:b=true) (hb:Below w.heap.size w w'):IdxPost w b (.returned (.int .i64 k)) w':=⟨k,rfl,by rw [h];simp,hb⟩
theorem idx_no (h:b=false) (hb:Below w.heap.size w w'):IdxPost w b (.returned (.int .i64 (-1))) w':=⟨-1,rfl,by rw [h];decide,hb⟩
theorem sindex_any (w:World) (v:Value) (n:Nat) (A R:Nat->Int) (S:Tk.Steps w v n A R) (g:Nat) (p:Nat->Bool) (eg:∀ args w,(callFunc g args).run prog w = .ok (.enter g args) w)
 (hp:∀ W i,i < n->Calls prog g #[.agg #[.int .i64 (A i),.int .i64 (R i)]] W fun e w'=>e = .returned (.bool (p i))/\Below W.heap.size W w') :
 Calls prog 166 #[v,.func (.func g) #[] #[]] w (IdxPost w (anyN p n)):=by
 obtain ⟨a,cap,rfl,hm1,hm⟩:=steps_form S;have ST:=Hh (fun hp=>(steps_at S hp).2);have HP:=Hh hp;have YES:Hid (∀ k,k < n->p k=true->anyN p n=true):=Hh (fun k hk h=>anyN_yes hk h);have NO:Hid ((∀ j,j < n->p j=false)->anyN p n=false):=Hh (fun h=>anyN_no h);clear S hp;generalize anyN p n=q at *;unfold maxLen at hm
 go_enter func166,ntmps166
 go_wp2
 go_loopw [8] (fun i wr=>∃ k:Nat,k<=n/\i = .int .i64 k/\Hid (∀ j,j < k->p j=false)/\Hid (Below w.heap.size w wr)) (fun i _=>n - (intOf i).toNat)
 case atStart=>exact ⟨0,aI _,rfl,fun j hj=>by omega,aa _ _⟩
 case round =>
  obtain ⟨k,hk,rfl,hs,hb⟩:=hrel
  by_cases hlt:k < n
  ·obtain ⟨b,off,rfl,hA⟩:=ST (by omega)
   obtain ⟨c1,c2⟩:=hA k hlt;have HA:=Hh hA;clear hA;have d1:=bCe hb c1;have d2:=bCe hb c2;clear c1 c2;have hc:=HP.out wr k hlt
   cases hq:p k with
   | true =>
     rw [hq] at hc;have C:=Hh hc;have HR:=Hh (YES k hlt hq);clear hc hq;go_wp2_with fail;refine C.mono ?_;rintro e w1 ⟨rfl,b1⟩;have B1:=bTr hb b1;clear b1;go_wp2
     go_ret
     exact idx_yes HR B1
   | false =>
     rw [hq] at hc;have C:=Hh hc;have ST:Hid (∀ j,j < k+1->p j=false):=fun j hj=>by
      by_cases e:j=k
      ·rw [e];exact hq
      ·exact hs j (by omega)
     clear hc hq;go_wp2_with fail;refine C.mono ?_;rintro e w1 ⟨rfl,b1⟩;have B1:=bTr hb b1;clear b1;go_wp2
     go_roundw
     case rel=>exact ⟨k+1,by omega,by go_num,ST,B1⟩
     case measure=>simp [intOf];omega
  ·obtain rfl:k=n:=by omega
   have HR:=Hh (NO hs);go_wp2
   go_ret
   exact idx_no HR hb
theorem scontains_any (w:World) (v:Value) (n:Nat) (A R:Nat->Int) (S:Tk.Steps w v n A R) (g:Nat) (p:Nat->Bool) (eg:∀ args w,(callFunc g args).run prog w = .ok (.enter g args) w)
 (hp:∀ W i,i < n->Calls prog g #[.agg #[.int .i64 (A i),.int .i64 (R i)]] W fun e w'=>e = .returned (.bool (p i))/\Below W.heap.size W w') :
 Calls prog 138 #[v,.func (.func g) #[] #[]] w fun e w'=>e = .returned (.bool (anyN p n))/\Below w.heap.size w w':=by
 have C:=Hh (sindex_any w v n A R S g p eg hp);clear eg hp S;generalize anyN p n=q at *
 go_enter func138,ntmps138
 go_wp2_with fail;refine C.mono ?_;rintro e w1 ⟨r,rfl,hr,b1⟩;have HR:=Hh hr;clear hr;go_wp2
 go_ret
 exact ⟨Tk.ret_bool HR,b1⟩
theorem lindex_any (w:World) (v:Value) (O:List Osc) (S:OsL w v O) (g:Nat) (lb:Array Value) (p:Nat->Bool) (eg:∀ args w,(callFunc g args).run prog w = .ok (.enter g args) w)
 (hp:∀ W i,i < O.length->Below w.heap.size w W->∀ u,Tk.Steps W u (osc O i).n (osc O i).A (osc O i).R->Calls prog g (#[u] ++ lb) W fun e w'=>e = .returned (.bool (p i))/\Below W.heap.size W w') :
 Calls prog 167 #[v,.func (.func g) #[] lb] w (IdxPost w (anyN p O.length)):=by
 have S0:=Hh S;obtain ⟨a,cap,rfl,hm1,hm⟩:=S.slice;have HP:=Hh hp;have YES:Hid (∀ k,k < O.length->p k=true->anyN p O.length=true):=Hh (fun k hk h=>anyN_yes hk h);have NO:Hid ((∀ j,j < O.length->p j=false)->anyN p O.length=false):=Hh (fun h=>anyN_no h);clear S hp;generalize anyN p O.length=q at *;unfold maxLen at hm;generalize hn:O.length=n at *;have HN:=Hh hn;clear hn
 go_enter func167,ntmps167
 go_wp2
 go_loopw [8] (fun i wr=>∃ k:Nat,k<=n/\i = .int .i64 k/\Hid (∀ j,j < k->p j=false)/\Hid (Below w.heap.size w wr)) (fun i _=>n - (intOf i).toNat)
 case atStart=>exact ⟨0,aI _,rfl,fun j hj=>by omega,aa _ _⟩
 case round =>
  obtain ⟨k,hk,rfl,hs,hb⟩:=hrel
  by_cases hlt:k < n
  ·obtain ⟨b,off,cp,a',cap',e1,c1,_,st⟩:=S0.one (k:=k) (by have:=HN.out;omega)
   rw [HN.out] at e1;injection e1 with e1 _ e2;subst e1 e2;have d1:=bCe hb c1;have hc:=HP.out wr k hlt hb _ (st.below hb);clear c1 st;generalize (osc O k).n=m at *
   cases hq:p k with
   | true =>
     rw [hq] at hc;have C:=Hh hc;have HR:=Hh (YES k hlt hq);clear hc hq;go_wp2_with fail;refine C.mono ?_;rintro e w1 ⟨rfl,b1⟩;have B1:=bTr hb b1;clear b1;go_wp2
     go_ret
     exact idx_yes HR B1
   | false =>
     rw [hq] at hc;have C:=Hh hc;have ST:Hid (∀ j,j < k+1->p j=false):=fun j hj=>by
      by_cases e:j=k
      ·rw [e];exact hq
      ·exact hs j (by omega)
     clear hc hq;go_wp2_with fail;refine C.mono ?_;rintro e w1 ⟨rfl,b1⟩;have B1:=bTr hb b1;clear b1;go_wp2
     go_roundw
     case rel=>exact ⟨k+1,by omega,by go_num,ST,B1⟩
     case measure=>simp [intOf];omega
  ·obtain rfl:k=n:=by omega
   have HR:=Hh (NO hs);go_wp2
   go_ret
   exact idx_no HR hb
theorem lcontains_any (w:World) (v:Value) (O:List Osc) (S:OsL w v O) (g:Nat) (lb:Array Value) (p:Nat->Bool) (eg:∀ args w,(callFunc g args).run prog w = .ok (.enter g args) w)
 (hp:∀ W i,i < O.length->Below w.heap.size w W->∀ u,Tk.Steps W u (osc O i).n (osc O i).A (osc O i).R->Calls prog g (#[u] ++ lb) W fun e w'=>e = .returned (.bool (p i))/\Below W.heap.size W w') :
 Calls prog 139 #[v,.func (.func g) #[] lb] w fun e w'=>e = .returned (.bool (anyN p O.length))/\Below w.heap.size w w':=by
 have C:=Hh (lindex_any w v O S g lb p eg hp);clear eg hp S;generalize anyN p O.length=q at *
 go_enter func139,ntmps139
 go_wp2_with fail;refine C.mono ?_;rintro e w1 ⟨r,rfl,hr,b1⟩;have HR:=Hh hr;clear hr;go_wp2
 go_ret
 exact ⟨Tk.ret_bool HR,b1⟩
def wildB (r:Int):Bool:=decide (r < -2000) || decide (2000 < r)
theorem wild_any (w:World) (a r:Int):Calls prog 135 #[.agg #[.int .i64 a,.int .i64 r]] w fun e w'=>e = .returned (.bool (wildB r))/\Below w.heap.size w w':=by
 have HB:=Hh ((aa w.heap.size w).alloc (ac _) (.cells #[.int .i64 a,.int .i64 r] 178))
 by_cases h1:r < -2000
 ·have e:Hid (wildB r=true):=Hh (by unfold wildB;rw [an h1];rfl)
  rw [e.out]
  go_enter func135,ntmps135
  go_wp2
  go_ret
  exact ⟨rfl,HB⟩
 ·have e:Hid (wildB r=decide (2000 < r)):=Hh (by unfold wildB;rw [ak h1];rfl)
  rw [e.out]
  go_enter func135,ntmps135
  go_wp2
  go_ret
  exact ⟨rfl,HB⟩
variable {o:Osc}
theorem calm_by (h:goodB o.n o.A o.R=true):(!calmB o)=anyN (fun i=>wildB (o.R i)) o.n:=by
 cases c:calmB o with
 | true =>
   have g:=of_calmB c;rw [anyN_no fun j hj=>?_]
   ·rfl
   ·have:=g.bd j hj
    unfold wildB;rw [ak (by omega),ak (by omega)]
    rfl
 | false =>
   cases q:anyN (fun i=>wildB (o.R i)) o.n with
   | true=>rfl
   | false =>
     exfalso
     have:calmB o=true:=calmB_yes ⟨goodB_true.1 h,by omega,fun i hi=>by
      have:=List.any_eq_false.1 q i (List.mem_range.2 hi);unfold wildB at this;simp only [Bool.or_eq_true,aZ,not_or] at this
      omega⟩
     rw [c] at this
     cases this
theorem calm_bad (h:goodB o.n o.A o.R=false):(!calmB o)=true:=by
 rw [calmB_no fun g=>by rw [Tk.goodB_yes g.good] at h;cases h]
 rfl
theorem unfit_any (w:World) (B:Nat) (hc:w.cell? ⟨B,0,none⟩=some (.func (.func 135) #[] #[])) (u:Value) (o:Osc) (S:Tk.Steps w u o.n o.A o.R) :
 Calls prog 136 #[u,.pointer (some ⟨B,0,none⟩)] w fun e w'=>e = .returned (.bool (!calmB o))/\Below w.heap.size w w':=by
 have eg:=enters_of func135 (by kernel_rfl) rfl;have GA:=Hh (good_any w u o.n o.A o.R S);have CA:=Hh (fun W b=>scontains_any W u o.n o.A o.R (S.below (w':=W) b) 135 (fun i=>wildB (o.R i)) eg fun W i _=>wild_any W (o.A i) (o.R i));obtain ⟨a,cap,rfl,_⟩:=steps_form S;clear S eg;have YES:=fun h=>calm_by (o:=o) h;have NO:=fun h=>calm_bad (o:=o) h;generalize goodB o.n o.A o.R=g at *;generalize anyN (fun i=>wildB (o.R i)) o.n=q at *;generalize (!calmB o)=r at *
 cases g with
 | true =>
   have E:=Hh (YES rfl);clear YES NO
   go_enter func136,ntmps136
   go_wp2_with fail;refine GA.mono ?_;rintro e w1 ⟨rfl,b1⟩;have c1:=bCe b1 hc;have C1:=Hh (CA w1 b1);have B1:=Hh b1;clear b1 CA GA hc;go_wp2_with fail;refine C1.mono ?_;rintro e w2 ⟨rfl,b2⟩;have B2:=bTr B1 b2;clear b2;go_wp2
   go_ret
   exact ⟨Tk.ret_bool E.symm,B2⟩
 | false =>
   have E:=Hh (NO rfl);clear YES NO
   go_enter func136,ntmps136
   go_wp2_with fail;refine GA.mono ?_;rintro e w1 ⟨rfl,b1⟩;have B1:=Hh b1;clear b1 CA GA hc;go_wp2
   go_ret
   exact ⟨Tk.ret_bool E.symm,B1⟩
theorem calmLB_by (O:List Osc):(!anyN (fun i=>!calmB (osc O i)) O.length)=calmLB O:=by
 cases c:calmLB O with
 | true =>
   rw [anyN_no fun j hj=>?_]
   ·rfl
   ·rw [calmB_yes (of_calmLB c _ (osc_mem hj))];rfl
 | false =>
   obtain ⟨o,ho,hc⟩:=List.all_eq_false.1 c;obtain ⟨i,hi,rfl⟩:=bK ho;have e:osc O (i:Int)=O[i]:=by unfold osc;rw [a7,af,ai hi];rfl
   rw [anyN_yes (k:=i) hi (by rw [e];simpa using hc)]
   rfl
theorem cell_fn (w:World) (f:Nat) (t:TypeId):(w.alloc (.cells #[.func (.func f) #[] #[]] t)).cell? ⟨w.heap.size,0,none⟩=some (.func (.func f) #[] #[]):=by go_simp
theorem calm_any (w:World) (v:Value) (O:List Osc) (S:OsL w v O):Calls prog 114 #[v] w fun e w'=>e = .returned (.bool (calmLB O))/\Below w.heap.size w w':=by
 have eg:=enters_of func136 (by kernel_rfl) rfl;have b0:=(aa w.heap.size w).alloc (ac _) (.cells #[.func (.func 135) #[] #[]] 251);have c0:=cell_fn w 135 251;have CA:=Hh (lcontains_any _ v O (S.below b0) 136 #[.pointer (some ⟨w.heap.size,0,none⟩)] (fun i=>!calmB (osc O i)) eg fun W i _ hb u hu=>unfit_any W w.heap.size (bCe hb c0) u (osc O i) hu);have B0:=Hh b0;obtain ⟨a,cap,rfl,_⟩:=S.slice;have E:=Hh (calmLB_by O);clear b0 c0 eg S;generalize O.length=n at *;generalize anyN (fun i=>!calmB (osc O i)) n=q at *;have hst:∀ (W:World) (p:Addr),(store p (Value.func (Fn.func 135) #[] #[])).run prog W=stored prog W p (Value.func (Fn.func 135) #[] #[]) .plain:=fun W p=>run_store _ W p _ _ rfl
 go_enter func114,ntmps114
 go_wp2_with fail;refine CA.mono ?_;rintro e w1 ⟨rfl,b1⟩;have B1:=bTr B0 b1;clear b1 CA;go_wp2
 go_ret
 exact ⟨Tk.ret_bool E,B1⟩
end Bu
namespace Wi
open Go.Shelf Go.Lib Go.Sort Go.Proofs.YtdbdacceecnpmaaGreatDoor.Sp
def enc (x:S2):List Value:=[.int .i64 x.1,.int .i64 x.2]
def cf (x y:S2):Int:=cmpI x.1 y.1
theorem lt_cf (x y:S2):ltOf cf x y=decide (x.1 < y.1):=by
 unfold ltOf cf cmpI
 by_cases h1:x.1 < y.1
 ·simp [h1]
 ·by_cases h2:y.1 < x.1 <;> simp [h1,h2]
theorem swo:SWO (ltOf cf) where
 irrefl x:=by rw [lt_cf];simp
 trans x y z h1 h2:=by rw [lt_cf] at *;simp at *;omega
 ntrans x y z h1 h2:=by rw [lt_cf] at *;simp at *;omega
theorem clos_any (x y:S2) (W:World):Calls prog 200 #[.agg #[.int .i64 x.1,.int .i64 x.2],.agg #[.int .i64 y.1,.int .i64 y.2]] W fun e w'=>e = .returned (.int .i64 (cf x y))/\∃ q os',w'=grow (W.drewN q) os':=by
 have hcon:=fun W'=>compare_any W' x.1 y.1;have HC:=Hh hcon;clear hcon;unfold cf;generalize cmpI x.1 y.1=r at HC ⊢
 go_enter func200,ntmps200
 go_wp2_with (go_at_call 201;refine (HC _).mono ?_;rintro e w' ⟨rfl,rfl⟩)
 go_ret
 exact ⟨rfl,0,_,by rw [alloc_eq_grow,alloc_eq_grow,grow_grow];rfl⟩
theorem lays (blk off size:Nat) (w:World):CmpLays prog 200 #[] enc 2 cf blk off size w:=fun _ _ _ _ x y=>clos_any x y _
theorem get_fr (l:List S2) (i:Nat):l.toArray[i]! = (fr l i,tp l i):=by
 by_cases h:i < l.length
 ·rw [getElem!_pos l.toArray i (by simpa using h)]
  simp [fr,tp,h]
 ·rw [getElem!_neg l.toArray i (by simpa using h)]
  simp [fr,tp,h]
  rfl
variable {w W:World} {g B m cap i j k B' E:Nat} {l x y x':List S2}
theorem holds_of (h:∀ i,i < l.length->w.cell? ⟨g,i * 2,none⟩=some (.int .i64 (fr l i))/\w.cell? ⟨g,i * 2+1,none⟩=some (.int .i64 (tp l i))/\w.frozen? ⟨g,i * 2,none⟩=false/\w.frozen? ⟨g,i * 2+1,none⟩=false) :
 HoldsK enc 2 w g 0 l.toArray:=by
 intro j hj
 have hj':j < l.length * 2:=by simpa using hj
 obtain ⟨c0,c1,f0,f1⟩:=h (j / 2) (by omega);rw [get_flatK enc 2 l.toArray j (by simpa using hj'),get_fr]
 rcases (by omega:j % 2=0\/j % 2=1) with e | e
 ·have ej:0+j=j / 2 * 2:=by omega
  rw [ej,e];exact ⟨c0,f0⟩
 ·have ej:0+j=j / 2 * 2+1:=by omega
  rw [ej,e];exact ⟨c1,f1⟩
def SortedTo (W:World) (B:Nat) (v:Value) (x:List S2) (w':World):Prop :=
 ∃ x',Sp w' v x'/\x'.length=x.length/\(∀ s,s∈x'↔s∈x)/\(∀ i j,i<=j->j < x'.length->fr x' i<=fr x' j)/\Below B W w'
theorem below_world (hB:B<=g) (hg:g < W.heap.size) (d:Array S2) (os:Array Obj):Below B W (sortWorldK enc 2 W g 0 m d os):=by
 refine ⟨rfl,rfl,rfl,?_,fun k hk=>?_⟩
 ·show W.heap.size<=((W.heap.modify g _) ++ os).size
  simp
 ·show ((W.heap.modify g _) ++ os)[k]? = _
  rw [Array.getElem?_append_left (by simp;omega),Array.getElem?_modify,ah (by omega)]
theorem sorted_to {d':Array S2} {os:Array Obj} (hB:B<=g) (hg:g < W.heap.size) (h1:x.length<=cap) (h2:cap<=maxLen) (hH:HoldsK enc 2 W g 0 x.toArray)
 (hp:PermIn 0 x.toArray.size x.toArray d') (hs:SortedIn (ltOf cf) 0 x.toArray.size d'):SortedTo W B (.slice (some ⟨g,0,none⟩) x.length cap) x (sortWorldK enc 2 W g 0 m d' os):=by
 obtain ⟨hsz,_,hperm⟩:=hp;have hlen:d'.toList.length=x.length:=by simpa using hsz
 have hperm':d'.toList.Perm x:=by
  have e1:d'.extract 0 x.toArray.size=d':=by rw [← hsz];simp
  have e2:x.toArray.extract 0 x.toArray.size=x.toArray:=by simp
  rw [e1,e2] at hperm
  simpa using hperm
 have hH':HoldsK enc 2 (sortWorldK enc 2 W g 0 m d' os) g 0 d':=by
  unfold sortWorldK;refine holdsK_grow _ _ _ _ _ _ _ (by show g < (putRowK enc 2 (Sort.ahead W m) g 0 d').heap.size;rw [size_putRowK];exact hg) ?_;exact holdsK_putRowK enc 2 (Sort.ahead W m) g 0 x.toArray d' hH hsz
 have hsz':d'.size=x.length:=by simpa using hsz
 have hget:∀ i,i < x.length->d'[i]! = (fr d'.toList i,tp d'.toList i):=fun i hi=>by
  have:=get_fr d'.toList i
  simpa using this
 refine ⟨d'.toList,⟨some ⟨g,0,none⟩,cap,by rw [hlen],by rw [hlen];exact h1,h2,fun _=>⟨g,0,rfl,fun i hi=>?_⟩⟩,hlen,fun s=>hperm'.mem_iff,fun i j hij hj=>?_,below_world hB hg _ _⟩
 ·rw [hlen] at hi
  have c0:=(hH'.cell (i:=i) (c:=0) (by omega) (by omega)).1;have c1:=(hH'.cell (i:=i) (c:=1) (by omega) (by omega)).1;rw [hget i hi] at c0 c1;exact ⟨c0,c1⟩
 ·rw [hlen] at hj
  rcases cM i j with c | c
  ·have:=hs i j (by omega) c (by simpa using hj)
   rw [lt_cf,hget i (by omega),hget j hj] at this
   simp at this
   exact this
  ·rw [show i=j by omega]
   exact cP _
theorem sort_some (W:World) (B:Nat) (v:Value) (x:List S2) (hown:Sp.Own W B 295 v x) (h0:0 < x.length) (hlen:x.length < 1099511627776) :
 Calls prog 199 #[v,.func (.func 200) #[] #[]] W fun e w'=>e = .returned (.tuple #[])/\SortedTo W B v x w':=by
 obtain ⟨g,cap,rfl,hB,hg,h1,h2,_,hc⟩:=hown.form h0;have eg:=enters_of func200 (by kernel_rfl) rfl;have hH:=holds_of hc;have hcon:=AnyQ.slices_SortFunc Wi.sortFunc 2 isAgg295 sizeOf295 enc (fun _=>rfl) (fun x v hv=>by simp [enc] at hv;rcases hv with rfl | rfl <;> rfl) cf swo 200 #[] g 0 cap x.toArray W eg (lays g 0 x.toArray.size W) hH hg (by simp;omega)
 change Calls prog 199 _ _ _ at hcon
 refine hcon.mono ?_;rintro e w' ⟨rfl,d',n,os,hp,hs,rfl⟩;exact ⟨rfl,sorted_to hB hg h1 h2 hH hp hs⟩
theorem sort_any (W:World) (B:Nat) (v:Value) (x:List S2) (hown:Sp.Own W B 295 v x) (hlen:x.length < 1099511627776) :
 Calls prog 199 #[v,.func (.func 200) #[] #[]] W fun e w'=>e = .returned (.tuple #[])/\SortedTo W B v x w':=by
 rcases Nat.eq_zero_or_pos x.length with z | z
 ·have hsp:=hown.sp
  obtain ⟨a,cap,rfl,_⟩:=hown.slice;have hcon:=AnyF.slices_SortFunc_none (ρ:=Wi.sortFunc_ren) Wi.sortFunc a cap (.func (.func 200) #[] #[]) W
  change Calls prog 199 _ _ _ at hcon
  rw [z];refine hcon.mono ?_;rintro e w' ⟨rfl,rfl⟩;have e:=bt.1 z;subst e;exact ⟨rfl,[],hsp,rfl,fun s=>Iff.rfl,fun i j _ h=>by simp at h,aa _ _⟩
 ·exact sort_some W B v x hown z hlen
def Rows (w:World) (v:Value) (ls:List (List S2)):Prop:=∃ a cap,v = .slice a ls.length cap/\ls.length<=cap/\cap<=maxLen/\(0 < ls.length->∃ b off,a=some ⟨b,off,none⟩/\∀ i,i < ls.length->∃ u,w.cell? ⟨b,off+i,none⟩=some u/\Sp w u (ls.getD i []))
def tot (ls:List (List S2)):Nat->Nat
 | 0=>0
 | k+1=>tot ls k+(ls.getD k []).length
theorem tot_mono (ls:List (List S2)) (h:i<=j):tot ls i<=tot ls j:=by
 induction j with
 | zero=>rw [show i=0 by omega];exact ac _
 | succ j ih =>
   by_cases e:i=j+1
   ·rw [e];exact ac _
   ·have:=ih (by omega)
    show tot ls i<=tot ls j+_
    omega
structure Acc (ls:List (List S2)) (k j:Nat) (x:List S2):Prop where
 ticks:∀ s∈x,s.1 < s.2
 low:∀ t,Low x t↔(∃ i,i < k/\Low (ls.getD i []) t)\/Low ((ls.getD k []).take j) t
 len:x.length<=tot ls k+j
theorem Acc.zero (ls:List (List S2)):Acc ls 0 0 []:=⟨fun s h=>by simp at h,fun t=>by
 constructor
 ·exact fun h=>absurd h low_nil
 ·rintro (⟨i,h,_⟩ | h)
  ·omega
  ·simp at h;exact h,by simp⟩
variable {ls:List (List S2)}
theorem Acc.push (h:Acc ls k j x) (hj:j < (ls.getD k []).length) (ht:fr (ls.getD k []) j < tp (ls.getD k []) j):Acc ls k (j+1) (x ++ [(fr (ls.getD k []) j,tp (ls.getD k []) j)]):=by
 refine ⟨fun s hs=>?_,fun t=>?_,by have:=h.len;simp;omega⟩
 ·rcases bM.1 hs with c | c
  ·exact h.ticks s c
  ·simp at c;subst c;exact ht
 ·rw [low_append,h.low,take_snoc hj,low_append,or_assoc]
theorem Acc.skip (h:Acc ls k j x) (hj:j < (ls.getD k []).length) (ht:¬ fr (ls.getD k []) j < tp (ls.getD k []) j):Acc ls k (j+1) x:=by
 refine ⟨h.ticks,fun t=>?_,by have:=h.len;omega⟩;rw [h.low,take_snoc hj,low_append,low_one]
 constructor
 ·rintro (c | c)
  ·exact .inl c
  ·exact .inr (.inl c)
 ·rintro (c | c | c)
  ·exact .inl c
  ·exact .inr c
  ·have c1:=c.1;have c2:=c.2;simp at c1 c2;omega
theorem Acc.next (h:Acc ls k (ls.getD k []).length x):Acc ls (k+1) 0 x:=by
 refine ⟨h.ticks,fun t=>?_,by have:=h.len;show x.length<=tot ls k+_+0;omega⟩;rw [h.low,br]
 constructor
 ·rintro (⟨i,hi,c⟩ | c)
  ·exact .inl ⟨i,by omega,c⟩
  ·exact .inl ⟨k,by omega,c⟩
 ·rintro (⟨i,hi,c⟩ | c)
  ·by_cases e:i=k
   ·subst e;exact .inr c
   ·exact .inl ⟨i,by omega,c⟩
  ·simp at c;exact absurd c low_nil
structure SortOf (ls:List (List S2)) (x:List S2):Prop where
 srt:Srt x
 low:∀ t,Low x t↔∃ i,i < ls.length/\Low (ls.getD i []) t
 len:x.length<=tot ls ls.length
theorem low_mem (h:∀ s,s∈x↔s∈y) (t:Int):Low x t↔Low y t:=⟨fun ⟨s,a,b⟩=>⟨s,(h s).1 a,b⟩,fun ⟨s,a,b⟩=>⟨s,(h s).2 a,b⟩⟩
theorem SortOf.of (h:Acc ls ls.length 0 x) (hl:x'.length=x.length) (hm:∀ s,s∈x'↔s∈x) (hu:∀ i j,i<=j->j < x'.length->fr x' i<=fr x' j):SortOf ls x':=by
 refine ⟨⟨fun i hi=>h.ticks _ ((hm _).1 (mem_fr hi)),hu⟩,fun t=>?_,by have:=h.len;omega⟩;rw [low_mem hm,h.low]
 constructor
 ·rintro (c | c)
  ·exact c
  ·simp at c;exact absurd c low_nil
 ·exact .inl
def Gives (w:World) (P:List S2->Prop) (e:Ending) (w':World):Prop:=∃ v x,e = .returned v/\Sp w' v x/\P x/\Below w.heap.size w w'
def SRel (w:World) (ls:List (List S2)) (v:Value) (k j:Nat) (wr:World):Prop:=∃ x,Sp.Own wr w.heap.size 295 v x/\Acc ls k j x/\Below w.heap.size w wr
theorem sorted_any (w:World) (v:Value) (ls:List (List S2)) (h:Rows w v ls) (hlen:tot ls ls.length < 1099511627776):Calls prog 169 #[v] w (Gives w (SortOf ls)):=by
 obtain ⟨a,cap,rfl,h1,h2,h3⟩:=h;have H3:=Hh h3;have HT:=Hh hlen;clear h3 hlen;generalize hn:ls.length=n at *;have HN:=Hh hn;clear hn;unfold maxLen at h2
 go_enter func169,ntmps169
 go_wp2
 go_loopw [3,10] (fun v i wr=>∃ k:Nat,k<=n/\i = .int .i64 k/\SRel w ls v k 0 wr) (fun _ i _=>n - (intOf i).toNat)
 case atStart=>exact ⟨0,aI _,rfl,[],Sp.Own.nil _ _ _,Acc.zero ls,aa _ _⟩
 case round =>
  obtain ⟨k,hk,rfl,x,hown,hacc,hb⟩:=hrel;have HA:=Hh hacc;clear hacc
  by_cases hlt:k < n
  ·obtain ⟨b,off,rfl,hrows⟩:=H3 (by omega)
   obtain ⟨u,c1,hu⟩:=hrows k (by have:=HN.out;omega);have HR:=Hh hrows;clear hrows;have d1:=bCe hb c1;clear c1;obtain ⟨ra,rcap,rfl,r1,r2,r3⟩:=hu;have R3:=Hh r3;clear r3;generalize hm:(ls.getD k []).length=m at *;have HM:=Hh hm;clear hm;unfold maxLen at r2;obtain ⟨wo,rfl⟩:∃ wo:World,wo=wr:=⟨_,rfl⟩;have hw:SRel w ls _ k 0 wo:=⟨x,hown,HA,hb⟩;have HW:=Hh hw;clear hw hown hb;have TB:Hid (tot ls k+m<=1099511627775):=by
    have e:=tot_mono ls (show k+1<=ls.length by have:=HN.out;omega);have e2:tot ls (k+1)=tot ls k+(ls.getD k []).length:=rfl;have:=HT.out;have:=HM.out;have:=HN.out
    show tot ls k+m<=1099511627775
    subst n
    omega
   go_wp2
   go_loopw [3,16] (fun v i wr=>∃ j:Nat,j<=m/\i = .int .i64 j/\SRel w ls v k j wr) (fun _ i _=>m - (intOf i).toNat)
   case atStart=>exact ⟨0,aI _,rfl,HW⟩
   case round =>
    obtain ⟨j,hj,rfl,y,hown,hacc,hb⟩:=hrel;have hB:=hb.size;have hyl:=hacc.len;have HAY:=Hh hacc;clear hacc
    by_cases hltj:j < m
    ·obtain ⟨b',off',rfl,hA⟩:=R3 (by omega)
     obtain ⟨c1,c2⟩:=hA j (by have:=HM.out;omega);have HAt:=Hh hA;clear hA;have e1:=bCe hb c1;have e2:=bCe hb c2;clear c1 c2
     by_cases ht:fr (ls.getD k []) j < tp (ls.getD k []) j
     ·have PU:=Hh (HAY.push (by have:=HM.out;omega) ht)
      generalize fr (ls.getD k []) j=p at *;generalize tp (ls.getD k []) j=q at *;have HT:=Hh ht;clear ht;go_wp2_with fail;refine (at_bool (an HT.out) (ticks_any _ _ _)).mono ?_;rintro e w1 ⟨rfl,b1⟩;have f1:w1.cell? ⟨wr.heap.size,0,none⟩=some (.int .i64 p):=(b1.cell (by simp)).trans (by go_simp);have f2:w1.cell? ⟨wr.heap.size,1,none⟩=some (.int .i64 q):=(b1.cell (by simp)).trans (by go_simp);have z1:=b1.size
      simp at z1
      have hown1:=(hown.alloc (.cells #[.int .i64 p,.int .i64 q] 295)).keep b1;have hb1:=(hb.alloc hB (.cells #[.int .i64 p,.int .i64 q] 295)).trans (b1.mono (B':=w.heap.size) (by simp;omega));clear hown hb b1
      go_wp2_with (at_builtin;refine push_step rfl _ _ rfl w.heap.size _ _ rfl (hown1.alloc _) _ p q rfl ?c1 ?c2 ?c3 ?c4 ?_)
      case c1=>go_simp
      case c2=>go_simp
      case c3=>have:=TB.out;omega
      case c4=>simp;omega
      intro v' w2 hown2 hb2
      have R:SRel w ls v' k (j+1) w2:=⟨_,hown2,PU,(hb1.alloc (by omega) _).trans hb2⟩;clear hown2 hb2 hown1 hb1 f1 f2;go_wp2
      go_roundw
      case rel=>exact ⟨j+1,by omega,by go_num,R⟩
      case measure=>simp [intOf];omega
     ·have PU:=Hh (HAY.skip (by have:=HM.out;omega) ht)
      generalize fr (ls.getD k []) j=p at *;generalize tp (ls.getD k []) j=q at *;have HT:=Hh ht;clear ht;go_wp2_with fail;refine (at_bool (ak (show ¬ p < q by have:=HT.out;omega)) (ticks_any _ _ _)).mono ?_;rintro e w1 ⟨rfl,b1⟩;have R:SRel w ls _ k (j+1) w1:=⟨_,(hown.alloc (.cells #[.int .i64 p,.int .i64 q] 295)).keep b1,PU,(hb.alloc hB (.cells #[.int .i64 p,.int .i64 q] 295)).trans (b1.mono (B':=w.heap.size) (by simp;omega))⟩;clear hown hb b1;go_wp2
      go_roundw
      case rel=>exact ⟨j+1,by omega,by go_num,R⟩
      case measure=>simp [intOf];omega
    ·obtain rfl:j=m:=by omega
     have R:SRel w ls _ (k+1) 0 wr:=⟨_,hown,(by have:=HAY.out;rw [← HM.out] at this;exact this.next),hb⟩;clear hown hb;go_wp2
     go_roundw
     case rel=>exact ⟨k+1,by omega,by go_num,R⟩
     case measure=>simp [intOf];omega
  ·obtain rfl:k=n:=by omega
   have hxl:x.length < 1099511627776:=by have:=HA.out.len;have:=HT.out;omega
   have hs:=sort_any wr w.heap.size _ x hown hxl;have HS:=Hh hs;clear hs;go_wp2_with fail;refine HS.mono ?_;rintro e w1 ⟨rfl,hst⟩;have ST:=Hh hst;clear hst;go_wp2
   go_ret
   obtain ⟨x',s1,s2,s3,s4,s5⟩:=ST;exact ⟨_,x',rfl,s1,SortOf.of (by rw [HN.out];exact HA.out) s2 s3 s4,hb.trans s5⟩
structure JoinOf (ls:List (List S2)) (l:List S2):Prop where
 plain:Plain l
 low:∀ t,Low l t↔∃ i,i < ls.length/\Low (ls.getD i []) t
 len:l.length<=tot ls ls.length
structure JRel (w w1:World) (S:List S2) (v:Value) (k:Nat) (l:List S2) (wr:World):Prop where
 own:Sp.Own wr w1.heap.size 295 v l
 inv:JoinInv S k l
 len:l.length<=k
 bel1:Below w1.heap.size w1 wr
 bel:Below w.heap.size w w1
theorem own_low {v:Value} (h:Sp.Own w B E v l) (hB:B'<=B):Sp.Own w B' E v l:=by
 obtain ⟨h1,h2⟩:=h;refine ⟨h1,?_⟩
 rcases h2 with h2 | ⟨g,cap,cur,e,hg,r⟩
 ·exact .inl h2
 ·exact .inr ⟨g,cap,cur,e,by omega,r⟩
theorem snoc_of (h:l.length=m+1):l=l.take m ++ [(fr l m,tp l m)]:=by
 have e:=take_snoc (S:=l) (k:=m) (by omega);rw [← e,← h,br]
theorem set_last (h:l.length=m+1) (x:Int):l.set m (fr l m,x)=l.take m ++ [(fr l m,x)]:=by
 have e:=snoc_of h;have hm:(l.take m).length=m:=by simp;omega
 generalize fr l m=p at *;generalize tp l m=q at *;generalize l.take m=t at *;subst e;rw [cH _ _ (by omega),hm]
 simp
theorem JRel.push {w w1 wr w2:World} {S l:List S2} {v v':Value} {k:Nat} (h:JRel w w1 S v k l wr) (hS:Srt S) (hk:k < S.length) (hl:l = []\/lastc l < fr S k) (hown:Sp.Own w2 w1.heap.size 295 v' (l ++ [(fr S k,tp S k)])) (hb:Below w1.heap.size w1 w2):JRel w w1 S v' (k+1) (l ++ [(fr S k,tp S k)]) w2:=by
 refine ⟨hown,h.inv.push hS hk fun x hx=>?_,by have:=h.len;simp;omega,hb,h.bel⟩
 rcases hl with e | e
 ·rw [e] at hx;simp at hx
 ·have:=lastc_le h.inv.plain x hx;omega
theorem JRel.grow {w w1 wr w2:World} {S l:List S2} {v:Value} {k m:Nat} (h:JRel w w1 S v k l wr) (hk:k < S.length) (hm:l.length=m+1) (hl:fr S k<=tp l m) (hown:Sp.Own w2 w1.heap.size 295 v (l.set m (fr l m,max (tp l m) (tp S k)))) (hb:Below w1.heap.size w1 w2):JRel w w1 S v (k+1) (l.set m (fr l m,max (tp l m) (tp S k))) w2:=by
 refine ⟨hown,?_,by have:=h.len;simp;omega,hb,h.bel⟩;have e:=snoc_of hm;have inv:=h.inv;rw [e] at inv;have g:=inv.grow hk hl (max (tp l m) (tp S k)) (by omega);rw [set_last hm];exact g
theorem join_any (w:World) (v:Value) (ls:List (List S2)) (h:Rows w v ls) (hlen:tot ls ls.length < 1099511627776):Calls prog 141 #[v] w (Made w (JoinOf ls)):=by
 have hs:=sorted_any w v ls h hlen;have HS:=Hh hs;obtain ⟨a,cap,rfl,_,_,_⟩:=h;have HT:=Hh hlen;clear hs hlen;generalize hn:ls.length=n at *;have HN:=Hh hn;clear hn
 go_enter func141,ntmps141
 go_wp2_with fail;refine HS.mono ?_;rintro e w1 ⟨v1,S,rfl,hSp,hSo,hb0⟩;obtain ⟨a1,cap1,rfl,r1,r2,r3⟩:=hSp;have R3:=Hh r3;have SO:=Hh hSo;clear r3 hSo;generalize hm:S.length=n1 at *;have HM:=Hh hm;clear hm;unfold maxLen at r2;have hz0:=hb0.size;go_wp2
 go_loopw [3,10] (fun v i wr=>∃ (k:Nat) (l:List S2),k<=n1/\i = .int .i64 k/\JRel w w1 S v k l wr) (fun _ i _=>n1 - (intOf i).toNat)
 case atStart=>exact ⟨0,[],aI _,rfl,Sp.Own.nil _ _ _,JoinInv.zero S,by simp,aa _ _,hb0⟩
 case round =>
  obtain ⟨k,l,hk,rfl,hR⟩:=hrel;have HR:=Hh hR;have hb:=hR.bel1;have hB:=hb.size;have hlk:=hR.len;clear hR
  by_cases hlt:k < n1
  ·obtain ⟨b,off,rfl,hA⟩:=R3 (by omega)
   obtain ⟨c1,c2⟩:=hA k (by have:=HM.out;omega);have HA:=Hh hA;clear hA;have d1:=bCe hb c1;have d2:=bCe hb c2;clear c1 c2;have TB:Hid (l.length < 1099511627776):=by
    have:=SO.len;have:=HT.out;have:=HM.out;have:=HN.out
    show l.length < 1099511627776
    subst n
    omega
   rcases Nat.eq_zero_or_pos l.length with z | z
   ·have NX:=fun v' w2 (h1:Sp.Own w2 w1.heap.size 295 v' (l ++ [(fr S k,tp S k)])) (h2:Below w1.heap.size w1 w2)=>HR.push SO.srt (by have:=HM.out;omega) (.inl (bt.1 z)) h1 h2
    have NX:=Hh NX;obtain ⟨a3,cap3,rfl,_,_⟩:=HR.own.slice;generalize hl:l.length=len at *;have HL:=Hh hl;clear hl;subst z;generalize hp:fr S k=p at *;generalize hq:tp S k=q at *;go_wp2
    go_quiet (fail)
    have hown:=((HR.own.alloc (.cells #[.int .i64 p,.int .i64 q] 295)).draw nq)
    go_wp2_with (at_builtin;refine push_step rfl _ _ rfl w1.heap.size _ _ rfl (hown.alloc _) _ p q rfl ?c1 ?c2 ?c3 ?c4 ?_)
    case c1=>go_simp
    case c2=>go_simp
    case c3=>have:=HL.out;omega
    case c4=>simp;omega
    intro v' w2 hown2 hb2
    have R:=NX.out v' w2 hown2 ((cL (hb.alloc hB _) nq).alloc (by simp;omega) _ |>.trans hb2);clear hown2 hb2 hown;go_wp2
    go_roundw
    case rel=>exact ⟨k+1,_,by omega,by go_num,R⟩
    case measure=>simp [intOf];omega
   ·obtain ⟨m,hm1⟩:∃ m,l.length=m+1:=⟨l.length - 1,by omega⟩
    obtain ⟨g,cap3,rfl,g1,g2,_,_,_,hcells⟩:=HR.own.form z;obtain ⟨e0,e1,_,f1⟩:=hcells m (by omega);clear hcells z;have hlc:lastc l=tp l m:=by rw [lastc_tp l (by omega),hm1];rfl
    by_cases hle:fr S k<=tp l m
    ·have NX:=fun w2 h1 h2=>HR.grow (w2:=w2) (by have:=HM.out;omega) hm1 hle h1 h2
     have NX:=Hh NX;have OW:=Hh HR.own;have ST:=Hh (fun (W:World) (h:Sp.Own W w1.heap.size 295 (.slice (some ⟨g,0,none⟩) l.length cap3) l)=>h.set m (by omega) (max (tp l m) (tp S k)));generalize hl:l.length=len at *;have HL:=Hh hl;clear hl;subst hm1;clear hlc;generalize hp:fr S k=p at *;generalize hq:tp S k=q at *;generalize hp':fr l m=p' at *;generalize hq':tp l m=q' at *;go_wp2
     go_quiet (fail)
     go_wp2;have x0:((wr.alloc (.cells #[.int .i64 p,.int .i64 q] 295)).drewN nq).cell? ⟨wr.heap.size,1,none⟩=some (.int .i64 q):=by go_simp
     have x1:((wr.alloc (.cells #[.int .i64 p,.int .i64 q] 295)).drewN nq).cell? ⟨g,m * 2+1,none⟩=some (.int .i64 q'):=by go_simp
     have x2:((wr.alloc (.cells #[.int .i64 p,.int .i64 q] 295)).drewN nq).frozen? ⟨g,m * 2+1,none⟩=false:=by go_simp
     generalize hwq:(wr.alloc (.cells #[.int .i64 p,.int .i64 q] 295)).drewN nq=wq at x0 x1 x2 ⊢;have HWQ:=Hh hwq;clear hwq
     go_region
     have OQ:Hid (Sp.Own wq w1.heap.size 295 (.slice (some ⟨g,0,none⟩) (m+1) cap3) l):=by
      rw [← HWQ.out];exact (OW.alloc _).draw nq
     have BQ:Hid (Below w1.heap.size w1 wq):=by
      rw [← HWQ.out];exact cL (hb.alloc hB _) nq
     have R:=NX.out _ (show Sp.Own ((wq.setCell ⟨g,m * 2+1,none⟩ (.int .i64 (max q' q))).drew) _ _ _ _ from ST wq OQ) ((BQ.setCell (p:=⟨g,m * 2+1,none⟩) g1 _).drew);have R':=Hh R;clear R x0 x1 x2;go_wp2
     go_roundw
     case rel=>exact ⟨k+1,_,by omega,by go_num,R'.out⟩
     case measure=>simp [intOf];omega
    ·have NX:=fun v' w2 (h1:Sp.Own w2 w1.heap.size 295 v' (l ++ [(fr S k,tp S k)])) (h2:Below w1.heap.size w1 w2)=>HR.push SO.srt (by have:=HM.out;omega) (.inr (by omega)) h1 h2
     have NX:=Hh NX;have OW:=Hh HR.own;generalize hl:l.length=len at *;have HL:=Hh hl;clear hl;subst hm1;clear hlc;generalize hp:fr S k=p at *;generalize hq:tp S k=q at *;generalize hq':tp l m=q' at *;go_wp2
     go_quiet (fail)
     have hown:=((OW.alloc (.cells #[.int .i64 p,.int .i64 q] 295)).draw nq)
     go_wp2_with (at_builtin;refine push_step rfl _ _ rfl w1.heap.size _ _ rfl (hown.alloc _) _ p q rfl ?c1 ?c2 ?c3 ?c4 ?_)
     case c1=>go_simp
     case c2=>go_simp
     case c3=>have:=HL.out;have:=TB.out;omega
     case c4=>simp;omega
     intro v' w2 hown2 hb2
     have R:=NX.out v' w2 hown2 ((cL (hb.alloc hB _) nq).alloc (by simp;omega) _ |>.trans hb2);clear hown2 hb2 hown;go_wp2
     go_roundw
     case rel=>exact ⟨k+1,_,by omega,by go_num,R⟩
     case measure=>simp [intOf];omega
  ·obtain rfl:k=n1:=by omega
   have inv:=HR.inv;rw [← HM.out] at inv;have al:=inv.all;have J:JoinOf ls l:=⟨al.1,fun t=>(al.2 t).trans (SO.low t),by have:=SO.out.len;have:=HM.out;omega⟩;have JJ:=Hh J;have OW:=Hh (own_low HR.own hz0);have BB:=Hh (HR.bel.trans (hb.mono hz0));clear inv al J;go_wp2
   go_ret
   exact ⟨_,l,rfl,OW,JJ,BB⟩
end Wi
namespace Bu
open Sp (S2 fr tp Sp)
open Wi (Rows tot JoinOf)
structure HdI (w:World) (v:Value) (hs:List Hd) (ls:List (List S2)) (Q:Int->Prop) (k:Nat) (wr:World):Prop where
 own:Ow KS wr w.heap.size 216 v hs
 el:∀ i,i < hs.length->Sp.Own wr w.heap.size 295 (sl (hs.getD i zh)) (ls.getD i [])
 ll:ls.length=hs.length
 few:∀ i,i < ls.length->(ls.getD i []).length<=4294967297
 low:∀ u,(∃ i,i < ls.length/\Low (ls.getD i []) u)↔Q u
 len:hs.length<=k
 bel:Below w.heap.size w wr
section
variable {w wr w':World} {v v':Value} {hs:List Hd} {ls:List (List S2)} {Q Q':Int->Prop} {k:Nat}
theorem HdI.start (w:World) (b:Below w.heap.size w wr) (hQ:∀ u,¬ Q u):HdI w (.slice none 0 0) [] [] Q 0 wr :=
 ⟨Ow.nil _ _ _,fun _ hi=>absurd hi (ci _),rfl,fun _ hi=>absurd hi (ci _),fun u=>⟨fun ⟨_,hi,_⟩=>absurd hi (ci _),fun h=>absurd h (hQ u)⟩,ac _,b⟩
theorem HdI.below (h:HdI w v hs ls Q k wr) (b:Below wr.heap.size wr w'):HdI w v hs ls Q k w':=⟨h.own.keep b,fun i hi=>(h.el i hi).keep b,h.ll,h.few,h.low,h.len,h.bel.trans (b.mono h.bel.size)⟩
theorem HdI.to (h:HdI w v hs ls Q k wr) (e:∀ u,Q' u↔Q u):HdI w v hs ls Q' (k+1) wr:=⟨h.own,h.el,h.ll,h.few,fun u=>(h.low u).trans (e u).symm,Nat.le_succ_of_le h.len,h.bel⟩
variable {l x:List S2}
theorem own_grown {B E B' E' n m:Nat} {f:List Value} (h:Sp.Own wr B E v l) (h':wr.ownsRow B' E' n v' m f) (hE:E≠E') (gr:wr.grownBy w' v'.ownBlock):Sp.Own w' B E v l:=by
 obtain ⟨h1,h2⟩:=h;refine ⟨h1,?_⟩
 rcases h2 with h2 | ⟨g,cap,cur,e,hB,hh,r⟩
 ·exact .inl h2
 ·refine .inr ⟨g,cap,cur,e,hB,(gr.block g (ay hh) fun q=>?_).trans hh,r⟩
  obtain ⟨_,h'⟩:=h'
  rcases h' with ⟨rfl,_⟩ | ⟨g',cap',cur',rfl,_,hh',_⟩
  ·cases q
  ·simp only [Value.ownBlock,bY] at q
   subst q;rw [hh] at hh';simp only [bY,Obj.cells.injEq] at hh';exact hE hh'.2.1
theorem getD_snoc {α:Type} (l:List α) (x d:α) (i:Nat):(l ++ [x]).getD i d=if i < l.length then l.getD i d else if i=l.length then x else d:=by
 rw [af,List.getElem?_append]
 split
 ·rw [af]
 ·split
  ·rename_i h;subst h;simp
  ·rw [cI (by simp;omega)];rfl
theorem HdI.push {h:Hd} (I:HdI w v hs ls Q k wr) (o:Sp.Own wr w.heap.size 295 (sl h) l) (hf:l.length<=4294967297) (own:Ow KS w' w.heap.size 216 v' (hs ++ [h])) (gr:wr.grownBy w' v.ownBlock) (hQ:∀ u,Q' u↔Q u\/Low l u) :
 HdI w v' (hs ++ [h]) (ls ++ [l]) Q' (k+1) w':=by
 refine ⟨own,fun i hi=>?_,by simp [I.ll],fun i hi=>?_,fun u=>?_,by simp;exact I.len,I.bel.grown gr I.bel.size fun j e=>(aU I.own j e).1⟩
 ·rw [getD_snoc,getD_snoc,I.ll]
  simp only [bj,List.length_singleton] at hi
  split
  ·rename_i q;exact own_grown (I.el i q) I.own (by decide) gr
  ·rw [aj (by omega),aj (by omega)]
   exact own_grown o I.own (by decide) gr
 ·rw [getD_snoc]
  split
  ·rename_i q;exact I.few i q
  ·split
   ·exact hf
   ·exact aI _
 ·rw [hQ u,← I.low u]
  constructor
  ·rintro ⟨i,hi,c⟩
   rw [getD_snoc] at c
   split at c
   ·rename_i q;exact .inl ⟨i,q,c⟩
   ·split at c
    ·exact .inr c
    ·exact absurd c low_nil
  ·rintro (⟨i,hi,c⟩ | c)
   ·exact ⟨i,by simp;omega,by rw [getD_snoc,aj hi];exact c⟩
   ·exact ⟨ls.length,by simp,by rw [getD_snoc,if_neg (Nat.lt_irrefl _),if_pos rfl];exact c⟩
theorem HdI.rows (I:HdI w v hs ls Q k wr):Wi.Rows wr v ls:=by
 obtain ⟨a,cap,e,h1,h2,h3⟩:=I.own.rd;rw [← I.ll] at e h1 h3;refine ⟨a,cap,e,h1.1,h2,fun hp=>?_⟩;obtain ⟨b,off,ea,hA⟩:=h3 hp;refine ⟨b,off,ea,fun i hi=>⟨_,?_,(I.el i (by rw [← I.ll];exact hi)).sp⟩⟩;have c:=hA i (by rw [← I.ll];exact hi) 0 _ rfl;simp only [KS,Nat.mul_one,Nat.add_zero] at c;exact c
theorem tot_few (ls:List (List S2)) (h:∀ i,i < ls.length->(ls.getD i []).length<=4294967297):∀ n,n<=ls.length->tot ls n<=n * 4294967297
 | 0,_=>ac _
 | n+1,hn=>by
   have:=tot_few ls h n (by omega);have:=h n (by omega)
   show tot ls n+_<=_
   omega
theorem HdI.tot (I:HdI w v hs ls Q k wr) (hk:k<=100):tot ls ls.length < 1099511627776:=by
 have:=tot_few ls I.few ls.length (ac _);have:=I.ll;have:=I.len
 omega
theorem HdI.join (I:HdI w v hs ls Q k wr) (j:JoinOf ls x):Plain x/\∀ u,Low x u↔Q u:=⟨j.plain,fun u=>(j.low u).trans (I.low u)⟩
theorem HdI.slice (I:HdI w v hs ls Q k wr):∃ a cap,v = .slice a hs.length cap/\cap<=maxLen:=by
 obtain ⟨a,cap,e,_,h⟩:=I.own.slice;exact ⟨a,cap,e,h⟩
end
theorem infoP:(prog.info? 216).map (fun i=>(i.zero,i.size,i.bytes))=some (some (.slice none 0 0),1,24):=by kernel_rfl
section
end
end Bu
namespace Tk
structure Bd (A R:Nat->Int) (n k:Nat):Prop where
 f0:0<=fr A k
 f1:fr A k<=4294967296
 r0 : -20000<=rt R k
 r1:rt R k<=20000
 s0:0<=sm A R k
 s1:sm A R k<=4380866641920
variable {A R:Nat->Int} {n:Nat}
theorem Bd.of (g:GoodP n A R) (k:Nat) (h:k<=n):0<=sm A R k/\sm A R k<=4380866641920000:=by
 have f:=fr_bd g k h;have s:=sm_bd g k h
 omega
theorem mul_rt (g:GoodP n A R) (k:Nat) (h:k<=n) (d:Int) (h0:0<=d) (h1:d<=4294967296):0<=d * (1000000+rt R k)/\d * (1000000+rt R k)<=4380866641920000:=by
 have b:=rt_bd g k h;have m:=mul_bd (d:=d) (c:=1000000+rt R k) h0 (by omega) (by omega)
 omega
theorem parts_none (w:World) (a:Option Addr) (cap:Nat) (t:Int) (h0:0<=t) (h1:t<=4294967296) (A R:Nat->Int):Calls prog 202 #[.slice a 0 cap,.int .i64 t] w fun e w'=>e = .returned (.int .i64 (PP A R 0 t))/\Below w.heap.size w w':=by
 have e:PP A R 0 t=t * 1000000:=by
  rw [PP_eq (⟨ac _,fun i h=>by omega,fun h=>by omega⟩:AtStop A 0 t 0)]
  show 0+(t - 0) * (1000000+0)=_
  omega
 rw [e]
 go_enter func202,ntmps202
 go_wp2
 go_loopw [5,6,7,12] (fun s f r i wr=>i = .int .i64 0/\s = .int .i64 0/\f = .int .i64 0/\r = .int .i64 0/\Below w.heap.size w wr) (fun _ _ _ _ _=>0)
 case atStart=>exact ⟨rfl,rfl,rfl,rfl,aa _ _⟩
 case round =>
  obtain ⟨rfl,rfl,rfl,rfl,hb⟩:=hrel;go_wp2
  go_ret
  exact ⟨ret_int (by omega),hb⟩
theorem parts_some (w:World) (b off n cap:Nat) (A R:Nat->Int) (g:GoodP n A R) (t:Int) (h0:0<=t) (h1:t<=4294967296)
 (hc:∀ i,i < n->w.cell? ⟨b,off+i * 2,none⟩=some (.int .i64 (A i))/\w.cell? ⟨b,off+i * 2+1,none⟩=some (.int .i64 (R i))) :
 Calls prog 202 #[.slice (some ⟨b,off,none⟩) n cap,.int .i64 t] w fun e w'=>e = .returned (.int .i64 (PP A R n t))/\Below w.heap.size w w':=by
 have HC:=Hh hc;clear hc;have G:=Hh g;clear g;have hn:=G.len
 go_enter func202,ntmps202
 go_wp2
 go_loopw [5,6,7,12] (fun s f r i wr=>∃ k:Nat,k<=n/\i = .int .i64 k/\s = .int .i64 (sm A R k)/\f = .int .i64 (fr A k)/\r = .int .i64 (rt R k)/\Hid (∀ i,i < k->A i < t)/\Below w.heap.size w wr) (fun _ _ _ i _=>n - (intOf i).toNat)
 case atStart=>exact ⟨0,aI _,rfl,rfl,rfl,rfl,fun i h=>by omega,aa _ _⟩
 case round =>
  obtain ⟨k,hk,rfl,rfl,rfl,rfl,hs,hb⟩:=hrel;have fb:=fr_bd G k hk;have rb:=rt_bd G k hk;have sb:=Bd.of G k hk
  by_cases hlt:k < n
  ·obtain ⟨c1,c2⟩:=HC k hlt
   have d1:=bCe hb c1;have d2:=bCe hb c2;clear c1 c2;have ab:=G.at_ k hlt;have fa:=fr_le G k hlt;have mb:=mul_rt G k hk (A k - fr A k) (by omega) (by omega)
   by_cases ht:t<=A k
   ·have hst:AtStop A n t k:=⟨hk,hs,fun _=>ht⟩
    have ft:=stop_fr h0 hst;have mc:=mul_rt G k hk (t - fr A k) (by omega) (by omega);have HP:=Hh (PP_eq (R:=R) hst);clear hst;go_wp2
    go_ret
    exact ⟨ret_int (by rw [HP.out];rfl),hb.alloc hb.size _⟩
   ·go_wp2
    go_quiet (fail)
    go_wp2
    go_roundw
    case rel=>exact ⟨k+1,by omega,by go_num,rfl,rfl,rfl,(fun i hi=>by
     by_cases e:i=k
     ·subst e;omega
     ·exact hs i (by omega)),cL (hb.alloc hb.size _) _⟩
    case measure=>simp [intOf];omega
  ·obtain rfl:k=n:=by omega
   have hst:AtStop A k t k:=⟨hk,hs,fun h=>by omega⟩;have ft:=stop_fr h0 hst;have mc:=mul_rt G k hk (t - fr A k) (by omega) (by omega);have HP:=Hh (PP_eq (R:=R) hst);clear hst;go_wp2
   go_ret
   exact ⟨ret_int (by rw [HP.out];rfl),hb⟩
theorem parts_any (w:World) (v:Value) (n:Nat) (A R:Nat->Int) (h:Steps w v n A R) (g:GoodP n A R) (t:Int) (h0:0<=t) (h1:t<=4294967296) :
 Calls prog 202 #[v,.int .i64 t] w fun e w'=>e = .returned (.int .i64 (PP A R n t))/\Below w.heap.size w w':=by
 rcases h with ⟨a,cap,rfl,_,rfl⟩ | ⟨b,off,cap,rfl,_,_,hc⟩
 ·exact parts_none w a cap t h0 h1 A R
 ·exact parts_some w b off n cap A R g t h0 h1 hc
theorem local_any (w:World) (v:Value) (n:Nat) (A R:Nat->Int) (h:Steps w v n A R) (g:GoodP n A R) (t:Int) :
 Calls prog 173 #[v,.int .i64 t] w fun e w'=>e = .returned (.int .i64 (Loc A R n t))/\Below w.heap.size w w':=by
 have G:=Hh g;clear g;have S:=Hh h;clear h
 by_cases ht:t<=0
 ·have e:Loc A R n t=0:=by
   have c:clamp t=0:=by unfold clamp;split <;> (try split) <;> omega
   rw [Loc,c,PP_zero G.out];rfl
  have E:=Hh e;clear e
  go_enter func173,ntmps173
  go_wp2
  go_ret
  exact ⟨ret_int E.symm,aa _ _⟩
 ·by_cases hm:t<=4294967296
  ·have p:=parts_any w v n A R S G t (by omega) hm
   have mn:=Int.min_eq_left hm;have pb:=PP_bd G t (by omega);have P:=Hh p;clear p;have e:Loc A R n t=PP A R n t / 1000000:=by rw [Loc,clamp_id (by omega) hm]
   have E:=Hh e;clear e
   go_enter func173,ntmps173
   go_wp2_with fail;refine P.mono ?_;rintro e w' ⟨rfl,hb⟩;go_wp2
   go_ret
   exact ⟨ret_int E.symm,hb⟩
  ·have p:=parts_any w v n A R S G 4294967296 (by omega) (by omega)
   have mn:min t 4294967296=4294967296:=by omega
   have pb:=PP_bd G 4294967296 (by omega);have P:=Hh p;clear p;have e:Loc A R n t=PP A R n 4294967296 / 1000000:=by
    have c:clamp t=4294967296:=by unfold clamp;split <;> (try split) <;> omega
    rw [Loc,c]
   have E:=Hh e;clear e
   go_enter func173,ntmps173
   go_wp2_with fail;refine P.mono ?_;rintro e w' ⟨rfl,hb⟩;go_wp2
   go_ret
   exact ⟨ret_int E.symm,hb⟩
theorem Steps.drew {w:World} {v:Value} {n:Nat} {A R:Nat->Int} (h:Steps w v n A R):Steps w.drew v n A R:=h.below (aa _ _).drew
theorem clos_any (w:World) (bl bn:Nat) (v:Value) (n:Nat) (A R:Nat->Int) (m t:Int) (S:Steps w v n A R) (g:GoodP n A R)
 (hl:w.cell? ⟨bl,0,none⟩=some v) (hn:w.cell? ⟨bn,0,none⟩=some (.int .i64 m)) :
 Calls prog 172 (#[.int .i64 t] ++ #[.pointer (some ⟨bl,0,none⟩),.pointer (some ⟨bn,0,none⟩)]) w fun e w'=>e = .returned (.bool (decide (m<=Loc A R n t)))/\Below w.heap.size w w':=by
 have LC:Hid (∀ W,Below w.heap.size w W->Calls prog 173 #[v,.int .i64 t] W fun e w'=>e = .returned (.int .i64 (Loc A R n t))/\Below W.heap.size W w'):=fun W hW=>local_any W v n A R (S.below hW) g t;have hlt:=aC _ _ hn;clear S g
 go_enter func172,ntmps172
 go_wp2_with fail
 go_region_with (go_at_call 173;refine (LC _ ?_).mono ?_;exact (aa _ _).drew;rintro e w1 ⟨rfl,hb⟩;have hn1:=(hb.cell hlt).trans hn)
 all_goals go_wp2
 all_goals go_ret
 all_goals exact ⟨rfl,(aa _ _).drew.trans hb⟩
theorem mid_lo {m lo hi:Int} (g:GoodP n A R) (h:¬ m<=Loc A R n ((lo+hi) / 2)):∀ t,0<=t->t < (lo+hi) / 2+1->Loc A R n t < m:=fun t _ h1=>by
 have:=Loc_mono g (show t<=(lo+hi) / 2 by omega)
 omega
theorem search_any (w:World) (bl bn:Nat) (v:Value) (n:Nat) (A R:Nat->Int) (m:Int) (S:Steps w v n A R) (g:GoodP n A R)
 (hl:w.cell? ⟨bl,0,none⟩=some v) (hn:w.cell? ⟨bn,0,none⟩=some (.int .i64 m)) :
 Calls prog 171 #[.int .i64 4294967296,.func (.func 172) #[] #[.pointer (some ⟨bl,0,none⟩),.pointer (some ⟨bn,0,none⟩)]] w fun e w'=>e = .returned (.int .i64 (Glo A R n m))/\Below w.heap.size w w':=by
 have CC:Hid (∀ W t,Below w.heap.size w W->Calls prog 172 (#[.int .i64 t] ++ #[.pointer (some ⟨bl,0,none⟩),.pointer (some ⟨bn,0,none⟩)]) W fun e w'=>e = .returned (.bool (decide (m<=Loc A R n t)))/\Below w.heap.size W w'):=fun W t hW =>
  (clos_any W bl bn v n A R m t (S.below hW) g (bCe hW hl) (bCe hW hn)).mono fun e w' ⟨h1,h2⟩=>⟨h1,h2.mono hW.size⟩
 have G:=Hh g;clear S g hl hn
 go_enter func171,ntmps171
 go_wp2
 go_loopw [5,6] (fun i j wr=>∃ lo hi:Int,0<=lo/\lo<=hi/\hi<=4294967296/\i = .int .i64 lo/\j = .int .i64 hi/\Hid (∀ t,0<=t->t < lo->Loc A R n t < m)/\Hid (hi < 4294967296->m<=Loc A R n hi)/\Below w.heap.size w wr) (fun i j _=>(intOf j - intOf i).toNat)
 case atStart=>exact ⟨0,4294967296,by omega,by omega,by omega,rfl,rfl,fun t a b=>by omega,fun h=>by omega,aa _ _⟩
 case round =>
  obtain ⟨lo,hi,h0,h1,h2,rfl,rfl,il,ih,hb⟩:=hrel
  by_cases hlt:lo < hi
  ·by_cases hm:m<=Loc A R n ((lo+hi) / 2)
   ·have HM:=Hh hm
    have hd:decide (m<=Loc A R n ((lo+hi) / 2))=true:=an hm;have c:=CC.out wr ((lo+hi) / 2) hb;rw [hd] at c;have C:=Hh c;clear c hd hm;go_wp2_with fail;refine C.mono ?_;rintro e w1 ⟨rfl,hb1⟩;go_wp2
    go_roundw
    case rel=>exact ⟨lo,(lo+hi) / 2,h0,by omega,by omega,rfl,rfl,il,fun _=>HM.out,hb.trans hb1⟩
    case measure=>simp [intOf];omega
   ·have HM:=Hh hm
    have hd:decide (m<=Loc A R n ((lo+hi) / 2))=false:=ak hm;have c:=CC.out wr ((lo+hi) / 2) hb;rw [hd] at c;have C:=Hh c;clear c hd hm;go_wp2_with fail;refine C.mono ?_;rintro e w1 ⟨rfl,hb1⟩;go_wp2
    go_roundw
    case rel=>exact ⟨(lo+hi) / 2+1,hi,by omega,by omega,by omega,rfl,rfl,mid_lo G.out (by have:=HM.out;omega),ih,hb.trans hb1⟩
    case measure=>simp [intOf];omega
  ·obtain rfl:lo=hi:=by omega
   go_wp2
   go_ret
   exact ⟨ret_int (Glo_eq (IsG.of_meet h0 h2 il ih)).symm,hb⟩
theorem Steps.slice {w:World} {v:Value} {n:Nat} {A R:Nat->Int} (S:Steps w v n A R):∃ a l cap,v = .slice a l cap:=by
 rcases S with ⟨a,cap,rfl,_⟩ | ⟨b,off,cap,rfl,_⟩
 ·exact ⟨_,_,_,rfl⟩
 ·exact ⟨_,_,_,rfl⟩
theorem global_any (w:World) (v:Value) (n:Nat) (A R:Nat->Int) (m:Int) (S:Steps w v n A R) (g:GoodP n A R) :
 Calls prog 144 #[v,.int .i64 m] w fun e w'=>e = .returned (.int .i64 (Glo A R n m))/\Below w.heap.size w w':=by
 obtain ⟨a,l,cap,rfl⟩:=S.slice;have hb:Below w.heap.size w ((w.alloc (.cells #[.slice a l cap] 179)).alloc (.cells #[.int .i64 m] 3)):=((aa _ _).alloc (ac _) _).alloc (by simp) _;have c:=search_any ((w.alloc (.cells #[.slice a l cap] 179)).alloc (.cells #[.int .i64 m] 3)) w.heap.size (w.heap.size+1) (.slice a l cap) n A R m (S.below hb) g (by go_simp) (by go_simp);have C:=Hh c;have HB:=Hh hb;clear c hb S g;have hmf:∀ (fn:Fn) (first cap:Array Value) (w:World),(Instr.makeFunc fn first cap).run prog w = .ok (.func fn first cap) w:=fun _ _ _ _=>rfl
 go_enter func144,ntmps144
 go_wp2_with fail;refine C.mono ?_;rintro e w1 ⟨rfl,hb1⟩;go_wp2
 go_ret
 exact ⟨rfl,HB.trans (hb1.mono (by simp;omega))⟩
end Tk
namespace Se
open Go.Proofs.YtdbdacceecnpmaaGreatDoor.Tk
theorem during_any (w:World) (v:Value) (n:Nat) (A R:Nat->Int) (S:Tk.Steps w v n A R) (g:GoodP n A R) (m d:Int) (m0:0<=m) (m1:m<=4294967296) (d0:0<=d) (d1:d<=4294967296) :
 Calls prog 197 #[v,.int .i64 m,.int .i64 d] w fun e w'=>e = .returned (.agg #[.int .i64 (Glo A R n m),.int .i64 (Glo A R n (m+d))])/\Below w.heap.size w w':=by
 have hb0:Below w.heap.size w (w.alloc (.cells #[.int .i64 0,.int .i64 0] 295)):=(aa _ _).alloc (ac _) _;have S0:=Hh (S.below hb0);have G:=Hh g;have HB:=Hh hb0;clear S g hb0
 go_enter func197,ntmps197
 go_wp2_with fail;refine (global_any _ _ _ _ _ _ S0 G).mono ?_;rintro e w1 ⟨rfl,b1⟩;have S1:=Hh (S0.below b1);have c0:w1.cell? ⟨w.heap.size,0,none⟩=some (.int .i64 0):=(b1.cell (by simp)).trans (by go_simp);have c1:w1.cell? ⟨w.heap.size,1,none⟩=some (.int .i64 0):=(b1.cell (by simp)).trans (by go_simp);have f0:w1.frozen? ⟨w.heap.size,0,none⟩=false:=(b1.frozen (by simp)).trans (by go_simp);have f1:w1.frozen? ⟨w.heap.size,1,none⟩=false:=(b1.frozen (by simp)).trans (by go_simp);have z1:=b1.size
 simp at z1
 have B1:=Hh (HB.trans (b1.mono (B':=w.heap.size) (by simp)));clear b1;have F0:=Hh f0;have F1:=Hh f1;have C0:=Hh c0;have C1:=Hh c1;clear c0 c1 f0 f1;go_wp2_with fail;refine (global_any _ _ _ _ _ _ S1 G).mono ?_;rintro e w2 ⟨rfl,b2⟩;have c0:w2.cell? ⟨w.heap.size,0,none⟩=some (.int .i64 0):=(b2.cell (by show w.heap.size < w1.heap.size;omega)).trans C0.out;have c1:w2.cell? ⟨w.heap.size,1,none⟩=some (.int .i64 0):=(b2.cell (by show w.heap.size < w1.heap.size;omega)).trans C1.out;have f0:w2.frozen? ⟨w.heap.size,0,none⟩=false:=(b2.frozen (by show w.heap.size < w1.heap.size;omega)).trans F0.out;have f1:w2.frozen? ⟨w.heap.size,1,none⟩=false:=(b2.frozen (by show w.heap.size < w1.heap.size;omega)).trans F1.out;have z2:=b2.size;have B2:=Hh (B1.trans (b2.mono (B':=w.heap.size) (by omega)));clear b2;go_wp2;refine aA (v:=.agg #[.int .i64 (Glo A R n m),.int .i64 (Glo A R n (m+d))]) (by simp [results,results197,go_sem,c0,c1]) rfl ⟨rfl,?_⟩;exact (B2.setCell (by simp) _).setCell (by simp) _
end Se
namespace Ua
theorem run_index_arr (F:Nat->Bool) (k:Nat) (h:k < 11) (w:World):(Instr.index 286 (.agg (arr F)) (.int .i64 k)).run prog w = .ok (.bool (F k)) w:=by
 have hg:=arr_get F k h;have hk:¬ 11<=k:=by omega
 simp [Instr.index,asIntOf,run_underlying underlying286,go_sem,part,hg,hk]
end Ua
namespace Wi
open Go.Proofs.YtdbdacceecnpmaaGreatDoor.Sp
theorem idx_low (t:Int) (l:List S2):decide (0<=idx (inB t) l)=lowB l t:=by
 rcases idx_cases (inB t) l with ⟨i,hi,hp,_,e⟩ | ⟨hn,e⟩
 ·rw [e]
  have:=lowB_iff.2 (low_iff.2 ⟨i,hi,by simpa [inB] using hp⟩);rw [this];simp
 ·rw [e]
  have:lowB l t=false:=lowB_false.2 fun h=>by
   obtain ⟨i,hi,h1,h2⟩:=low_iff.1 h;have:=hn i hi
   simp [inB,h1] at this
   omega
  rw [this];simp
def PredS (g:Nat) (lb:Array Value) (p:S2->Bool) (w:World):Prop :=
 ∀ (W:World) (a b:Int),Below w.heap.size w W->Calls prog g (#[.agg #[.int .i64 a,.int .i64 b]] ++ lb) W fun e w'=>e = .returned (.bool (p (a,b)))/\Below w.heap.size w w'
theorem index_any (w:World) (v:Value) (l:List S2) (g:Nat) (lb:Array Value) (p:S2->Bool) (eg:∀ args w,(callFunc g args).run prog w = .ok (.enter g args) w) (h:Sp w v l) (hp:PredS g lb p w) :
 Calls prog 203 #[v,.func (.func g) #[] lb] w fun e w'=>e = .returned (.int .i64 (idx p l))/\Below w.heap.size w w':=by
 obtain ⟨a,cap,rfl,h1,h2,h3⟩:=h;have H3:=Hh h3;have HP:=Hh hp;have hhit:∀ i,i < l.length->p (fr l i,tp l i)=true->(∀ j,j < i->p (fr l j,tp l j)=false)->idx p l=i:=fun i=>idx_hit;have hmiss:(∀ j,j < l.length->p (fr l j,tp l j)=false)->idx p l = -1:=idx_miss;have HH:=Hh hhit;have HM:=Hh hmiss;clear h3 hp hhit hmiss;generalize hr:idx p l=r at *;clear hr;generalize hn:l.length=n at *;have HN:=Hh hn;clear hn;unfold maxLen at h2
 go_enter func203,ntmps203
 go_wp2
 go_loopw [8] (fun i wr=>∃ k:Nat,k<=n/\i = .int .i64 k/\Hid (∀ j,j < k->p (fr l j,tp l j)=false)/\Hid (Below w.heap.size w wr)) (fun i _=>n - (intOf i).toNat)
 case atStart=>exact ⟨0,aI _,rfl,fun j hj=>by omega,aa _ _⟩
 case round =>
  obtain ⟨k,hk,rfl,hs,hb⟩:=hrel
  by_cases hlt:k < n
  ·obtain ⟨b,off,rfl,hA⟩:=H3 (by omega)
   obtain ⟨c1,c2⟩:=hA k (by have:=HN.out;omega);have HA:=Hh hA;clear hA;have d1:=bCe hb c1;have d2:=bCe hb c2;clear c1 c2;have hc:=HP.out wr (fr l k) (tp l k) hb
   cases hq:p (fr l k,tp l k) with
   | true =>
     rw [hq] at hc;have C:=Hh hc;have HR:=Hh (HH k hlt hq hs);clear hc hq;go_wp2_with fail;refine C.mono ?_;rintro e w1 ⟨rfl,b1⟩;go_wp2
     go_ret
     exact ⟨ret_int HR.symm,b1⟩
   | false =>
     rw [hq] at hc;have C:=Hh hc;have ST:Hid (∀ j,j < k+1->p (fr l j,tp l j)=false):=fun j hj=>by
      by_cases e:j=k
      ·rw [e];exact hq
      ·exact hs j (by omega)
     clear hc hq;go_wp2_with fail;refine C.mono ?_;rintro e w1 ⟨rfl,b1⟩;have B1:=Hh b1;clear b1;go_wp2
     go_roundw
     case rel=>exact ⟨k+1,by omega,by go_num,ST,B1⟩
     case measure=>simp [intOf];omega
  ·obtain rfl:k=n:=by omega
   have HR:=Hh (HM hs);go_wp2
   go_ret
   exact ⟨ret_int HR.symm,hb⟩
theorem contains_any (w:World) (v:Value) (l:List S2) (g:Nat) (lb:Array Value) (p:S2->Bool) (eg:∀ args w,(callFunc g args).run prog w = .ok (.enter g args) w) (h:Sp w v l) (hp:PredS g lb p w) :
 Calls prog 223 #[v,.func (.func g) #[] lb] w fun e w'=>e = .returned (.bool (decide (0<=idx p l)))/\Below w.heap.size w w':=by
 have C:=Hh (index_any w v l g lb p eg h hp);clear eg h hp;generalize idx p l=r at *
 go_enter func223,ntmps223
 go_wp2_with fail;refine C.mono ?_;rintro e w1 ⟨rfl,b1⟩;go_wp2
 go_ret
 exact ⟨rfl,b1⟩
theorem hclos_any (w:World) (B:Nat) (t:Int) (hc:w.cell? ⟨B,0,none⟩=some (.int .i64 t)):PredS 224 #[.pointer (some ⟨B,0,none⟩)] (inB t) w:=fun W a b hb=>by
 have hlt:=aC _ _ hc;have d:=(hb.cell hlt).trans hc;have hz:=hb.size;have hBW:=aV hlt hz;clear hc hlt
 show Calls prog 224 #[.agg #[.int .i64 a,.int .i64 b],.pointer (some ⟨B,0,none⟩)] W _
 by_cases h1:a<=t
 ·by_cases h2:t < b
  ·have e:inB t (a,b)=true:=by simp [inB,h1,h2]
   rw [e];clear e;have HB:=Hh (hb.alloc hz (.cells #[.int .i64 a,.int .i64 b] 295));clear hb
   go_enter func224,ntmps224
   go_wp2
   go_ret
   exact ⟨rfl,HB⟩
  ·have e:inB t (a,b)=false:=by simp [inB,h2]
   rw [e];clear e;have HB:=Hh (hb.alloc hz (.cells #[.int .i64 a,.int .i64 b] 295));clear hb
   go_enter func224,ntmps224
   go_wp2
   go_ret
   exact ⟨rfl,HB⟩
 ·have e:inB t (a,b)=false:=by simp [inB,h1]
  rw [e];clear e;have HB:=Hh (hb.alloc hz (.cells #[.int .i64 a,.int .i64 b] 295));clear hb
  go_enter func224,ntmps224
  go_wp2
  go_ret
  exact ⟨rfl,HB⟩
theorem high_any (w:World) (v:Value) (l:List S2) (h:Sp w v l) (t:Int):Calls prog 212 #[v,.int .i64 t] w fun e w'=>e = .returned (.bool (!lowB l t))/\Below w.heap.size w w':=by
 have eg:=enters_of func224 (by kernel_rfl) rfl;have hb:Below w.heap.size w (w.alloc (.cells #[.int .i64 t] 3)):=(aa _ _).alloc (ac _) _;have c:=contains_any (w.alloc (.cells #[.int .i64 t] 3)) v l 224 #[.pointer (some ⟨w.heap.size,0,none⟩)] (inB t) eg (h.below hb) (hclos_any _ _ _ (by go_simp));rw [idx_low] at c;have C:=Hh c;have HB:=Hh hb;obtain ⟨a,cap,rfl,_⟩:=h.slice;clear c hb h eg;have hmf:∀ (fn:Fn) (first cap:Array Value) (w:World),(Instr.makeFunc fn first cap).run prog w = .ok (.func fn first cap) w:=fun _ _ _ _=>rfl;generalize lowB l t=r at *
 go_enter func212,ntmps212
 go_wp2_with fail;refine C.mono ?_;rintro e w1 ⟨rfl,b1⟩;go_wp2
 go_ret
 exact ⟨rfl,HB.trans (b1.mono (by simp))⟩
theorem ret_pair {v:Int×Bool} {a:Int} {b:Bool} (h:v=(a,b)):Ending.returned (.tuple #[.int .i64 a,.bool b]) = .returned (.tuple #[.int .i64 v.1,.bool v.2]):=by subst h;rfl
def FallPost (w:World) (l:List S2) (f t:Int) (e:Ending) (w':World):Prop:=∃ x,PlainOf l x/\e = .returned (.tuple #[.int .i64 (FallV x f t).1,.bool (FallV x f t).2])/\Below w.heap.size w w'
theorem fclos_any (w:World) (B C:Nat) (f t:Int) (hf:w.cell? ⟨B,0,none⟩=some (.int .i64 f)) (ht:w.cell? ⟨C,0,none⟩=some (.int .i64 t)):PredS 204 #[.pointer (some ⟨B,0,none⟩),.pointer (some ⟨C,0,none⟩)] (fallP f t) w:=fun W a b hb=>by
 have hltB:=aC _ _ hf;have hltC:=aC _ _ ht;have d:=(hb.cell hltB).trans hf;have d':=(hb.cell hltC).trans ht;have hz:=hb.size;have hBW:B < W.heap.size:=aV hltB hz;have hCW:C < W.heap.size:=aV hltC hz;have HB:=Hh (hb.alloc hz (.cells #[.int .i64 a,.int .i64 b] 295));clear hf ht hltB hltC hb
 show Calls prog 204 #[.agg #[.int .i64 a,.int .i64 b],.pointer (some ⟨B,0,none⟩),.pointer (some ⟨C,0,none⟩)] W _
 by_cases h1:f<=a
 ·by_cases h2:a < t
  ·have e:fallP f t (a,b)=true:=by simp [fallP,h1,h2]
   rw [e];clear e
   go_enter func204,ntmps204
   go_wp2
   go_ret
   exact ⟨rfl,HB⟩
  ·have e:fallP f t (a,b)=false:=by simp [fallP,h2]
   rw [e];clear e
   go_enter func204,ntmps204
   go_wp2
   go_ret
   exact ⟨rfl,HB⟩
 ·have e:fallP f t (a,b)=false:=by simp [fallP,h1]
  rw [e];clear e
  go_enter func204,ntmps204
  go_wp2
  go_ret
  exact ⟨rfl,HB⟩
variable {l x:List S2}
theorem rows_one {W:World} {v:Value} (h:Sp W v l):Rows (W.alloc (.cells #[v] 216)) (.slice (some ⟨W.heap.size,0,none⟩) 1 1) [l] :=
 ⟨_,1,rfl,ac _,by unfold maxLen;omega,fun _=>⟨_,_,rfl,fun i hi=>by
  have:i=0:=by simp at hi;omega
  subst this
  exact ⟨v,by go_simp,h.below ((aa _ _).alloc (ac _) _)⟩⟩⟩
theorem plain_one_of (h:JoinOf [l] x):PlainOf l x:=⟨h.plain,fun t=>by
 rw [h.low]
 constructor
 ·rintro ⟨i,hi,c⟩
  have:i=0:=by simp at hi;omega
  subst this;exact c
 ·exact fun c=>⟨0,by simp,c⟩⟩
theorem fall_any (w:World) (v:Value) (l:List S2) (h:Sp w v l) (hlen:l.length < 1099511627776) (f t:Int):Calls prog 174 #[v,.int .i64 f,.int .i64 t] w (FallPost w l f t):=by
 have eg:∀ args w,(callFunc 204 args).run prog w = .ok (.enter 204 args) w:=enters_of func204 (by kernel_rfl) rfl;have hb2:Below w.heap.size w ((w.alloc (.cells #[.int .i64 f] 3)).alloc (.cells #[.int .i64 t] 3)):=((aa _ _).alloc (ac _) _).alloc (by simp) _;have j:=join_any (((w.alloc (.cells #[.int .i64 f] 3)).alloc (.cells #[.int .i64 t] 3)).alloc (.cells #[v] 216)) _ [l] (rows_one (h.below hb2)) (by show 0+l.length < _;omega);have ez:((w.alloc (.cells #[.int .i64 f] 3)).alloc (.cells #[.int .i64 t] 3)).heap.size=w.heap.size+1+1:=by simp
 rw [ez] at j;clear ez;have J:=Hh j;have HB2:=Hh hb2;have EG:=Hh eg;obtain ⟨a,cap,rfl,_⟩:=h.slice;clear j hb2 eg h;have hmf:∀ (fn:Fn) (first cap:Array Value) (w:World),(Instr.makeFunc fn first cap).run prog w = .ok (.func fn first cap) w:=fun _ _ _ _=>rfl
 go_enter func174,ntmps174
 go_wp2_with fail;refine J.mono ?_;rintro e w1 ⟨v1,x,rfl,hown,hj,b1⟩;have PO:=Hh (plain_one_of hj);have SP1:=Hh hown.sp;have B1:Hid (Below w.heap.size w w1):=(HB2.alloc (by first | (simp;done) | (simp;omega)) _).trans (b1.mono (by first | (simp;done) | (simp;omega)));have f1:w1.cell? ⟨w.heap.size,0,none⟩=some (.int .i64 f):=(b1.cell (by first | (simp;done) | (simp;omega))).trans (by go_simp);have f2:w1.cell? ⟨w.heap.size+1,0,none⟩=some (.int .i64 t):=(b1.cell (by first | (simp;done) | (simp;omega))).trans (by go_simp);have IC:=Hh (index_any w1 v1 x 204 _ _ EG SP1 (fclos_any _ _ _ f t f1 f2));clear hown hj b1 f1 f2
 rcases idx_cases (fallP f t) x with ⟨i,hi,_,_,e⟩ | ⟨_,e⟩
 ·have FV:=Hh (fall_hit e)
  rw [e] at IC;clear e;go_wp2_with fail;refine IC.mono ?_;rintro e w2 ⟨rfl,b2⟩;have SP2:=Hh (SP1.below b2);obtain ⟨a1,cap1,rfl,q1,q2,hAt⟩:=SP2;obtain ⟨b',off',rfl,hA⟩:=hAt (by omega);have c1:=(hA i hi).1;have HA:=Hh hA;have HAt:=Hh hAt;have B2:=bTr B1 b2;clear hA hAt b2;unfold maxLen at q2;generalize hn:x.length=n at *;clear hn;go_wp2
  go_ret2
  exact ⟨x,PO,ret_pair FV,B2⟩
 ·have FV:=Hh (fall_miss e)
  rw [e] at IC;clear e;go_wp2_with fail;refine IC.mono ?_;rintro e w2 ⟨rfl,b2⟩;have B2:=bTr B1 b2;clear b2;go_wp2
  go_ret2
  exact ⟨x,PO,ret_pair FV,B2⟩
end Wi
namespace Se
open Go.Proofs.YtdbdacceecnpmaaGreatDoor.Tk Go.Proofs.YtdbdacceecnpmaaGreatDoor.Sp
open Wi (own_low)
structure LRel (w:World) (g:Int->Int) (F:Nat->Bool) (m:Int) (v:Value) (k:Nat) (wr:World):Prop where
 own:Sp.Own wr w.heap.size 295 v (lows g F m k)
 bel:Below w.heap.size w wr
variable {w wr:World} {g:Int->Int} {F:Nat->Bool} {m:Int} {v:Value} {k:Nat}
theorem LRel.hi (h:LRel w g F m v k wr) (e:F k=true):LRel w g F m v (k+1) wr:=⟨by rw [lows_hi e];exact h.own,h.bel⟩
theorem LRel.lo (e:F k=false) (ho:Sp.Own wr w.heap.size 295 v (lows g F m k ++ [(g (m+16 * k),g (m+16 * k+16))])) (hb:Below w.heap.size w wr):LRel w g F m v (k+1) wr:=⟨by rw [lows_lo e];exact ho,hb⟩
open Wi (Gives JoinOf join_any rows_one plain_one_of)
theorem spans_any (w:World) (v:Value) (n:Nat) (A R:Nat->Int) (S:Tk.Steps w v n A R) (g:GoodP n A R) (m:Int) (m0:0<=m) (m1:m<=2147483648) (F:Nat->Bool) :
 Calls prog 168 #[v,.int .i64 m,.agg (arr F)] w (Made w (PlainOf (lows (Glo A R n) F m 11))):=by
 have R0:=Hh (Row.new w F);have B0:=Hh ((aa w.heap.size w).alloc (ac _) (.cells (arr F) 286));have S0:=Hh S;have G:=Hh g;clear S g
 go_enter func168,ntmps168
 go_wp2_with ((with_reducible refine load_frame (o:=⟨some 10,_,_,_,_,_⟩) rfl _ rfl _ _ ?_ R0.out ?_);(exact rfl))
 go_loopw [7,11] (fun v i wr=>∃ k:Nat,k<=11/\i = .int .i64 k/\Hid (LRel w (Glo A R n) F m v k wr)) (fun _ i _=>11 - (intOf i).toNat)
 case atStart=>exact ⟨0,by omega,rfl,Hh ⟨Sp.Own.nil _ _ _,B0.out⟩⟩
 case round =>
  obtain ⟨k,hk,rfl,L⟩:=hrel
  by_cases hlt:k < 11
  ·have ri:=Ua.run_index_arr F k hlt
   cases hF:F k with
   | true =>
     have L':=Hh (L.hi hF);rw [hF] at ri;clear hF;go_wp2
     go_roundw
     case rel=>exact ⟨k+1,by omega,by go_num,L'⟩
     case measure=>simp [intOf];omega
   | false =>
     rw [hF] at ri;have HF:=Hh hF;clear hF;have s1:=S0.below L.bel;have C:=Hh (during_any wr v n A R s1 G (m+16 * k) 16 (by omega) (by omega) (by omega) (by omega));clear s1;have hB:=L.bel.size;go_wp2_with fail;refine C.mono ?_;rintro e w1 ⟨rfl,b1⟩;have hown:=L.own.keep b1;have hb1:=L.bel.trans (b1.mono hB);have z1:=b1.size;have hll:=lows_len (g:=Glo A R n) (F:=F) (m:=m) k;have LL:=Hh hll;clear b1 hll
     go_wp2_with (at_builtin;refine push_step rfl _ _ rfl w.heap.size _ _ rfl (hown.alloc _) _ (Glo A R n (m+16 * k)) (Glo A R n (m+16 * k+16)) rfl ?c1 ?c2 ?c3 ?c4 ?_)
     case c1=>go_simp
     case c2=>go_simp
     case c3=>have:=LL.out;omega
     case c4=>simp;omega
     intro v' w2 hown2 hb2
     have L2:=Hh (LRel.lo (g:=Glo A R n) (m:=m) HF hown2 ((hb1.alloc (by omega) _).trans hb2));clear hown2 hb2 hb1 hown;go_wp2
     go_roundw
     case rel=>exact ⟨k+1,by omega,by go_num,L2⟩
     case measure=>simp [intOf];omega
  ·obtain rfl:k=11:=by omega
   have hB:=L.bel.size;obtain ⟨a,cap,rfl,_,_⟩:=L.own.slice;have hll:=lows_len (g:=Glo A R n) (F:=F) (m:=m) 11;have J:=Hh (join_any _ _ _ (rows_one L.own.sp) (by show 0+(lows (Glo A R n) F m 11).length < _;omega));clear hll;go_wp2_with fail;refine J.mono ?_;rintro e w1 ⟨v1,l,rfl,hown,hj,b1⟩;have OW:=Hh (Wi.own_low hown (B':=w.heap.size) (by simp;omega));have PO:=Hh (plain_one_of hj);have B1:=Hh ((L.bel.alloc hB _).trans (b1.mono (B':=w.heap.size) (by simp;omega)));clear hown hj b1;go_wp2
   go_ret
   exact ⟨_,l,rfl,OW,PO,B1⟩
end Se
namespace Bu
open Sp (S2 fr tp Sp)
open Wi (join_any own_low)
open Ck (LL lat sN sE tE RdL)
open Pa (Ns K2 snB sbN frF frame_any FramePost sender_is push_at)
open Se (spans_any)
attribute [local irreducible] Sd.wpSd wpQuiet
structure Bn (w:World) (vs vt vl vp vo:Value) (S:Sts) (T:LL) (V:List Bool) (P:List S2) (O:List Osc):Prop where
 ns:Ns w vs vt vl S T V
 sp:Rd K2 w vp P
 os:OsL w vo O
 lo:O.length=S.length
 few:S.length<=32
 calm:calmL O
theorem Bn.below {w w':World} {vs vt vl vp vo:Value} {S:Sts} {T:LL} {V:List Bool} {P:List S2} {O:List Osc} (h:Bn w vs vt vl vp vo S T V P O) (b:Below w.heap.size w w'):Bn w' vs vt vl vp vo S T V P O:=⟨h.ns.below b,h.sp.below b,h.os.below b,h.lo,h.few,h.calm⟩
variable {w:World} {vs vt vl vp vo:Value} {S:Sts} {T:LL} {V:List Bool} {P:List S2} {O:List Osc}
theorem sends_any (H:Bn w vs vt vl vp vo S T V P O) (j:Int) :
 Calls prog 140 #[vs,vt,vl,vp,vo,.int .i64 j] w (Made w (SendP S T V P O j)):=by
 have FA:=Hh (fun W b s=>frame_any (H.ns.below (w':=W) b) (H.sp.below b) s);unfold FramePost at FA;have WHO:Hid (∀ k:Nat,snB S T V k=true->∃ n:Nat,sbN S T V k=n/\n < O.length/\frs S T V P O k=some (osc O n,frF S T V P k)/\(osc O n).calm):=Hh (fun k h=>who_sends H.ns.ok (by rw [H.lo,H.ns.lt]) H.calm h);have YES:Hid (∀ k:Nat,1<=k->sbN S T V k=j->∀ u,LowUp S T V P O j (k+1) u↔LowUp S T V P O j k u\/LowK (frs S T V P O) k u):=Hh (fun k h e u=>lowUp_yes h e);have NO:Hid (∀ k:Nat,¬ (snB S T V k=true/\sbN S T V k=j)->∀ u,LowUp S T V P O j (k+1) u↔LowUp S T V P O j k u):=Hh (fun k h u=>lowUp_no h);have END:Hid (∀ u,LowUp S T V P O j 17 u↔LowJ S T V P O j u):=Hh (fun u=>lowUp_end);have I0:Hid (HdI w (.slice none 0 0) [] [] (LowUp S T V P O j 1) 1 w):=Hh ⟨Ow.nil _ _ _,fun _ hi=>absurd hi (ci _),rfl,fun _ hi=>absurd hi (ci _),fun u=>⟨fun ⟨_,hi,_⟩=>absurd hi (ci _),fun h=>absurd h lowUp_one⟩,by simp,aa _ _⟩;have OS:=Hh H.os;obtain ⟨ao,co,rfl,mo1,mo⟩:=H.os.slice;unfold maxLen at mo;clear H;generalize hno:O.length=no at *;have HNO:=Hh hno;clear hno;unfold SendP
 go_enter func140,ntmps140
 go_wp2
 go_loopw [14,13] (fun i v wr=>∃ (k:Nat) (hs:List Hd) (ls:List (List S2)),1<=k/\k<=17/\i = .int .i64 k/\Hid (HdI w v hs ls (LowUp S T V P O j k) k wr)) (fun i _ _=>17 - (intOf i).toNat)
 case atStart=>exact ⟨1,[],[],by omega,by omega,rfl,I0⟩
 case round =>
  obtain ⟨k,hs,ls,hk1,hk,rfl,I⟩:=hrel;clear I0;obtain ⟨av,cv,rfl,_⟩:=I.slice
  by_cases hlt:k < 17
  ·have FK:=Hh (FA wr I.bel (k:Int))
   have WK:=Hh (WHO k);have YK:=Hh (YES k hk1);have NK:=Hh (NO k);generalize hF:frF S T V P (k:Int)=F at *;generalize hm:sbN S T V (k:Int)=m at *;generalize hok:snB S T V (k:Int)=ok at *;clear hF hm hok;go_wp2_with fail;refine FK.mono ?_;rintro e w1 ⟨rfl,b1⟩;have I2:=Hh ((I.below b1).below ((aa w1.heap.size w1).alloc (ac _) (.cells (arr F) 286)));have R2:=Hh (Row.new w1 F);clear b1 FK I
   by_cases hall:ok=true/\m=j
   ·obtain ⟨rfl,rfl⟩:=hall
    obtain ⟨n,rfl,hn,hf,hcal⟩:=WK rfl;have YY:=Hh (YK rfl);have CA:=Hh hcal;have HF:=Hh hf;clear YK NK WK hcal hf;obtain ⟨b5,o5,c5,a5,d5,e5,x5,_,s5⟩:=OS.one (k:=n) (by have:=HNO.out;omega);rw [HNO.out] at e5;injection e5 with e5 _ e6;subst e5 e6;have S5:=Hh s5;clear s5
    go_upto_region 7 with ((with_reducible refine store_new (o:=⟨none,_,_,_,_,_⟩) rfl _ _ rfl F ?_ ?_ ?_);(exact rfl);(exact rfl))
    generalize (w1.alloc (.cells (arr F) 286))=W1 at *;generalize w1.heap.size=g1 at *;have BD:=Hh (I2.bel.trans ((aa W1.heap.size W1).drew.mono I2.bel.size));have lo:=aC _ _ x5;have wk:IntKind.i64.wrap (224 * (k:Int))=224 * (k:Int):=aR _ (by omega);have sO:=Sc.cell_in (C:=fun W=>Below w.heap.size w W) (a:=⟨b5,o5+n,none⟩) (fun W' h=>(h.cell lo).trans x5);have ne:Nonempty (Sc.In (fun W=>Below w.heap.size w W)):=⟨⟨_,BD⟩⟩;have ID:=Hh (I2.below ((aa W1.heap.size W1).drew));have RD:=Hh (R2.below ((aa W1.heap.size W1).drew) R2.lt);refine Sc.start (fun W=>Below w.heap.size w W) [(false,0),(false,1),(false,2),(false,3),(false,4),(false,5),(false,6),(true,7),(true,8),(true,9),(true,10),(false,11)] (by kernel_rfl) (by kernel_rfl) (by kernel_rfl) BD ?_;dsimp only [Sd.picks,List.getElem?_cons_succ,List.getElem?_cons_zero]
    repeat (refine Sd.lit ?_;quiet_step (fail);refine az ?_)
    clear sO I2 R2;generalize W1.drew=Wd at *;refine Sd.call (by rfl) (fun K hK=>?_);refine wp_load_row 286 _ rfl g1 rfl _ _ _ _ RD underlying286 rfl (info_of F) ?_;refine hK _ _ (Sc.Cl.of BD) ?_;clear hK K;have SA:=Hh (spans_any Wd _ _ _ _ (S5.below BD) CA.good (224 * (k:Int)) (by omega) (by omega) F);refine Sd.call (by rfl) (fun K hK=>?_);go_simp;refine SA.mono ?_;rintro e w5 ⟨v5,l,rfl,own5,p5,b5'⟩;have LK:=Hh (low_spans HF p5);have PL:=Hh p5.1;have B5:=bTr BD b5';obtain ⟨la,lc,rfl,_,_⟩:=own5.slice;refine hK _ _ (Sc.Cl.of B5) ?_;clear hK K p5 SA;refine Sd.call (by rfl) (fun K hK=>?_);go_simp;have BL:=b5'.alloc b5'.size (.cells #[.slice la l.length lc] 216);have I5:=Hh (ID.below BL);have O5:=Hh ((own_low own5 BD.size).alloc (.cells #[.slice la l.length lc] 216));have N6:=Hh (am w5 (.cells #[.slice la l.length lc] 216));have B6:=Hh (B5.alloc B5.size (.cells #[.slice la l.length lc] 216));refine hK _ _ (Sc.Cl.of B6) ?_;clear hK K own5 b5' BL ID BD RD B5;have FEW:=Hh (made_few PL (fun u h=>(LK u).1 h) (fun u h=>lowK_at h));have hh:Hid (Value.slice la l.length lc=sl (la,l.length,lc)):=Hh rfl;generalize hln:l.length=ln at *;have HLN:=Hh hln;clear hln;generalize w5.heap.size=g5 at *;generalize (w5.alloc (.cells #[.slice la ln lc] 216))=W6 at *;refine Sd.call (by rfl) (fun K hK=>?_);refine wp_push_at (K:=KS) underlying255 infoP rfl (by omega) _ _ rfl w.heap.size _ _ rfl I5.out.own _ (la,ln,lc) rfl ?d1 ?d2 ?d3 ?_
    case d1 =>
     intro j u hu
     match j,hu with
     | 0,hu=>simp [KS] at hu;subst hu;exact row_cell N6.out 0
     | j+1,hu=>simp [KS] at hu
    case d2=>have:=I5.len;omega
    case d3=>have:=I5.bel.size;exact this
    intro v' w6 o6 g6 h6
    have NEW:Hid (HdI w v' (hs ++ [(la,ln,lc)]) (ls ++ [l]) (LowUp S T V P O n (k+1)) (k+1) w6):=Hh (I5.push (by rw [← hh.out];exact O5.out) (by rw [HLN.out];exact FEW.out) o6 g6 (fun u=>by rw [YY.out u,LK.out u]));refine hK _ _ (Sc.Cl.of NEW.bel) ?_;clear hK K o6 g6 h6 I5 O5 B6 N6;obtain ⟨av',cv',rfl,_⟩:=NEW.slice;generalize (hs ++ [(la,ln,lc)]).length=Lp' at *
    repeat (refine Sd.lit ?_;quiet_step (fail);refine az ?_)
    refine Sd.done ?_;go_wp2
    go_roundw
    case rel=>exact ⟨k+1,_,_,by omega,by omega,by go_num,NEW⟩
    case measure=>simp [intOf];omega
   ·have I3:=Hh (I2.to (NK hall))
    clear YK NK WK I2 R2
    cases ok with
    | false =>
      clear hall
      go_wp2_with ((with_reducible refine store_new (o:=⟨none,_,_,_,_,_⟩) rfl _ _ rfl F ?_ ?_ ?_);(exact rfl);(exact rfl))
      go_roundw
      case rel=>exact ⟨k+1,_,_,by omega,by omega,by go_num,I3⟩
      case measure=>simp [intOf];omega
    | true =>
      have hmj:(m == j)=false:=by simpa using hall
      clear hall
      go_wp2_with ((with_reducible refine store_new (o:=⟨none,_,_,_,_,_⟩) rfl _ _ rfl F ?_ ?_ ?_);(exact rfl);(exact rfl))
      go_roundw
      case rel=>exact ⟨k+1,_,_,by omega,by omega,by go_num,I3⟩
      case measure=>simp [intOf];omega
  ·obtain rfl:k=17:=by omega
   have J:=Hh (join_any wr _ ls I.rows (I.tot (by omega)));have BI:=Hh I.bel;have IJ:=Hh (fun x hx=>I.join (x:=x) hx);clear I;generalize hs.length=Lp at *;go_wp2_with fail;refine J.mono ?_;rintro e w1 ⟨v1,l,rfl,own1,hj,b1⟩;have OW:=Hh (own_low own1 BI.size);have PO:=Hh (IJ l hj);have B1:=bTr BI b1;clear own1 hj b1 J;go_wp2
   go_ret
   exact ⟨_,l,rfl,OW,⟨PO.out.1,fun u=>(PO.out.2 u).trans (END u)⟩,B1⟩
theorem line_any (H:Bn w vs vt vl vp vo S T V P O) :
 Calls prog 115 #[vs,vt,vl,vp,vo] w (Made w (LineP S T V P O)):=by
 have SA:=Hh (fun W b j=>sends_any (H.below (w':=W) b) j);have END:Hid (∀ u,LowTo S T V P O S.length u↔LowL (frs S T V P O) u):=Hh (fun u=>by rw [lowL_iff H.ns.ok,H.ns.lt];exact Iff.rfl);have NX:Hid (∀ k u,LowTo S T V P O (k+1) u↔LowTo S T V P O k u\/LowJ S T V P O k u):=Hh lowTo_next;have I0:Hid (HdI w (.slice none 0 0) [] [] (LowTo S T V P O 0) 0 w):=Hh (HdI.start w (aa _ _) fun u h=>by obtain ⟨j,hj,_⟩:=h;omega);have few:=H.few;obtain ⟨sa,cs,rfl,ms⟩:=H.ns.st.slice;unfold maxLen at ms;clear H;generalize S.length=n at *;unfold LineP
 go_enter func115,ntmps115
 go_wp2
 go_loopw [15,11] (fun i v wr=>∃ (k:Nat) (hs:List Hd) (ls:List (List S2)),k<=n/\i = .int .i64 k/\Hid (HdI w v hs ls (LowTo S T V P O k) k wr)) (fun i _ _=>n - (intOf i).toNat)
 case atStart=>exact ⟨0,[],[],aI _,rfl,I0⟩
 case round =>
  obtain ⟨k,hs,ls,hk,rfl,I⟩:=hrel;clear I0;obtain ⟨av,cv,rfl,_⟩:=I.slice
  by_cases hlt:k < n
  ·have SK:=Hh (SA wr I.bel (k:Int))
   have NK:=Hh (NX k);have IL:=Hh I.len;generalize hs.length=lh at *;go_wp2_with fail;refine SK.mono ?_;rintro e w5 ⟨v5,l,rfl,own5,p5,b5⟩;have PL:=Hh p5.1;have LK:=Hh p5.2;have B5:=Hh (I.bel.trans (b5.mono I.bel.size));obtain ⟨la,lc,rfl,_,_⟩:=own5.slice;have BL:=b5.alloc b5.size (.cells #[.slice la l.length lc] 216);have I5:=Hh (I.below BL);have O5:=Hh ((own_low own5 I.bel.size).alloc (.cells #[.slice la l.length lc] 216));have FEW:=Hh (made_few PL (fun u h=>(LK u).1 h) (fun u h=>lowJ_at h));have hh:Hid (Value.slice la l.length lc=sl (la,l.length,lc)):=Hh rfl;clear own5 p5 b5 BL SK;generalize hln:l.length=ln at *;have HLN:=Hh hln;clear hln
   go_wp2_with (at_builtin;refine push_at (K:=KS) underlying255 infoP rfl (by omega) rfl _ _ rfl w.heap.size _ _ rfl I5.out.own _ (la,ln,lc) rfl ?d1 ?d2 ?d3 ?_)
   case d1 =>
    intro j u hu
    match j,hu with
    | 0,hu=>simp [KS] at hu;subst hu;unfold sl;go_simp
    | j+1,hu=>simp [KS] at hu
   case d2=>have:=I5.len;omega
   case d3=>have:=I5.bel.size;exact this
   intro v' w6 o6 g6 h6
   have NEW:Hid (HdI w v' (hs ++ [(la,ln,lc)]) (ls ++ [l]) (LowTo S T V P O (k+1)) (k+1) w6):=Hh (I5.push (by rw [← hh.out];exact O5.out) (by rw [HLN.out];exact FEW.out) o6 g6 (fun u=>by rw [NK.out u,LK.out u]));clear o6 g6 h6 I5 O5 I;obtain ⟨av',cv',rfl,_⟩:=NEW.slice;generalize (hs ++ [(la,ln,lc)]).length=Lp' at *;go_wp2
   go_roundw
   case rel=>exact ⟨k+1,_,_,by omega,by go_num,NEW⟩
   case measure=>simp [intOf];omega
  ·obtain rfl:k=n:=by omega
   have J:=Hh (join_any wr _ ls I.rows (I.tot (by omega)));have BI:=Hh I.bel;have IJ:=Hh (fun x hx=>I.join (x:=x) hx);clear I;generalize hs.length=Lp at *;go_wp2_with fail;refine J.mono ?_;rintro e w1 ⟨v1,l,rfl,own1,hj,b1⟩;have OW:=Hh (own_low own1 BI.size);have PO:=Hh (IJ l hj);have B1:=bTr BI b1;clear own1 hj b1 J;go_wp2
   go_ret
   exact ⟨_,l,rfl,OW,⟨PO.out.1,fun u=>(PO.out.2 u).trans (END u)⟩,B1⟩
end Bu
namespace Sa
open Go.Proofs.YtdbdacceecnpmaaGreatDoor.Sp
open Tk (GoodP Glo)
open Ua (no)
def hf (low:Int->Bool) (g:Int->Int) (N:Int) (k i:Nat):Bool:=if i < k then heard low g N i else false
theorem hf_0 (low:Int->Bool) (g:Int->Int) (N:Int) (i:Nat):false=hf low g N 0 i:=by unfold hf;rw [ah (by omega)]
theorem hf_all (low:Int->Bool) (g:Int->Int) (N:Int) (i:Nat) (h:i < 11):hf low g N 11 i=heard low g N i:=by unfold hf;rw [aj h]
theorem hf_step (low:Int->Bool) (g:Int->Int) (N:Int) (k:Nat) {x:Bool} (e:x=heard low g N k) (i:Nat):upd (hf low g N k) k x i=hf low g N (k+1) i:=by
 unfold upd hf
 by_cases c:i=k
 ·subst c;rw [aj rfl,aj (by omega),e]
 ·rw [ah c]
  by_cases d:i < k
  ·rw [aj d,aj (by omega)]
  ·rw [ah d,ah (by omega)]
open Tk (global_any local_any)
open Wi (high_any fall_any FallPost)
open Ua (tp)
def hi (low:Int->Bool) (g:Int->Int) (b:Int):Nat->Nat
 | 0=>0
 | k+1=>hi low g b k+(if low (g (b+7+k)) then 0 else 1)
theorem hi_le (low:Int->Bool) (g:Int->Int) (b:Int):∀ k,hi low g b k<=k
 | 0=>ac _
 | k+1=>by have:=hi_le low g b k;unfold hi;split <;> omega
variable {low:Int->Bool} {g:Int->Int} {b f t p a c:Int} {k n:Nat}
theorem hi_low (h:low (g (b+7+k))=true):hi low g b (k+1)=hi low g b k:=by rw [hi,aj h,Nat.add_zero]
theorem hi_high (h:low (g (b+7+k))=false):hi low g b (k+1)=hi low g b k+1:=by rw [hi,ah (by simp [h])]
theorem hi_maj (low:Int->Bool) (g:Int->Int) (b:Int):decide ((1:Int) < (hi low g b 3:Nat))=maj (!low (g (b+7))) (!low (g (b+8))) (!low (g (b+9))):=by
 have e:hi low g b 3=0+(if low (g (b+7)) then 0 else 1)+(if low (g (b+8)) then 0 else 1)+(if low (g (b+9)) then 0 else 1):=by
  show 0+(if low (g (b+7+(0:Nat))) then 0 else 1)+(if low (g (b+7+(1:Nat))) then 0 else 1)+(if low (g (b+7+(2:Nat))) then 0 else 1)=_
  rw [show b+7+((0:Nat):Int)=b+7 by omega,show b+7+((1:Nat):Int)=b+8 by omega,show b+7+((2:Nat):Int)=b+9 by omega]
 rw [e]
 cases low (g (b+7)) <;> cases low (g (b+8)) <;> cases low (g (b+9)) <;> rfl
theorem mostly_any (w:World) (v u:Value) (l:List S2) (P:Sp w v l) (n:Nat) (A R:Nat->Int) (S:Tk.Steps w u n A R) (g:GoodP n A R) (b:Int) (b0:0<=b) (b1:b<=5000000000) :
 Calls prog 205 #[v,u,.int .i64 b] w fun e w'=>e = .returned (.bool (maj (!lowB l (Glo A R n (b+7))) (!lowB l (Glo A R n (b+8))) (!lowB l (Glo A R n (b+9)))))/\Below w.heap.size w w':=by
 have P0:=Hh P;have S0:=Hh S;have G:=Hh g;have HM:=Hh (hi_maj (lowB l) (Glo A R n) b);clear P S g
 go_enter func205,ntmps205
 go_wp2
 go_loopw [7,9] (fun h i wr=>∃ k:Nat,k<=3/\i = .int .i64 k/\h = .int .i64 (hi (lowB l) (Glo A R n) b k:Nat)/\Below w.heap.size w wr) (fun _ i _=>3 - (intOf i).toNat)
 case atStart=>exact ⟨0,by omega,rfl,rfl,aa _ _⟩
 case round =>
  obtain ⟨k,hk,rfl,rfl,hb⟩:=hrel;have q:=hi_le (lowB l) (Glo A R n) b k;have HB:=Hh hb
  by_cases hlt:k < 3
  ·have s1:=Hh (S0.below hb)
   have p1:=Hh (P0.below hb);clear hb;go_wp2_with fail;refine (global_any _ _ _ _ _ (b+7+k) s1 G).mono ?_;rintro e w1 ⟨rfl,c1⟩;have p2:=Hh (p1.below c1);have B1:=bTr HB c1;clear c1
   cases hL:lowB l (Glo A R n (b+7+k)) with
   | true =>
     have E:=Hh (hi_low hL);have HA:=Hh (high_any _ _ _ p2 (Glo A R n (b+7+k)));rw [hL] at HA;clear hL;go_wp2_with fail;refine HA.mono ?_;rintro e w2 ⟨rfl,c2⟩;have B2:=bTr B1 c2;clear c2;go_wp2
     go_roundw
     case rel=>exact ⟨k+1,by omega,by go_num,by rw [E.out],B2.out⟩
     case measure=>simp [intOf];omega
   | false =>
     have E:=Hh (hi_high hL);have HA:=Hh (high_any _ _ _ p2 (Glo A R n (b+7+k)));rw [hL] at HA;clear hL;go_wp2_with fail;refine HA.mono ?_;rintro e w2 ⟨rfl,c2⟩;have B2:=bTr B1 c2;clear c2;go_wp2
     go_roundw
     case rel=>exact ⟨k+1,by omega,by go_num,by rw [E.out];go_num,B2.out⟩
     case measure=>simp [intOf];omega
  ·obtain rfl:k=3:=by omega
   clear hb;generalize hi (lowB l) (Glo A R n) b 3=h at *;go_wp2
   go_ret
   exact ⟨Ua.ret_bool HM,HB⟩
theorem bits_any (w:World) (v u:Value) (l:List S2) (P:Sp w v l) (n:Nat) (A R:Nat->Int) (S:Tk.Steps w u n A R) (g:GoodP n A R) (t:Int) :
 Calls prog 175 #[v,u,.int .i64 t] w fun e w'=>e = .returned (.agg (arr (heard (lowB l) (Glo A R n) (Tk.Loc A R n t))))/\Below w.heap.size w w':=by
 have T0:=Hh (two_new w (hf (lowB l) (Glo A R n) (Tk.Loc A R n t) 0) (fun i _=>hf_0 _ _ _ i));have P0:=Hh P;have S0:=Hh S;have G:=Hh g;have N:=Loc_all A R n g t;have z2:((w.alloc (.cells (arr no) 286)).alloc (.cells (arr no) 286)).heap.size=w.heap.size+1+1:=by simp
 have LA:=Hh (local_any _ u n A R (S.below T0.out.2.2) g t);clear P S g
 go_enter func175,ntmps175
 go_wp2_with fail;refine LA.mono ?_;rintro e w1 ⟨rfl,b1⟩;have T1:=Hh (T0.below b1);clear b1 LA T0;generalize hL:Tk.Loc A R n t=L at *;have HL:=Hh hL;clear hL;obtain ⟨N0,N1⟩:=N;go_wp2
 go_loopw [13] (fun i wr=>∃ k:Nat,k<=11/\i = .int .i64 k/\Hid (Two w wr (hf (lowB l) (Glo A R n) L k))) (fun i _=>11 - (intOf i).toNat)
 case atStart=>exact ⟨0,by omega,rfl,T1⟩
 case round =>
  obtain ⟨k,hk,rfl,T⟩:=hrel
  by_cases hlt:k < 11
  ·have HS:=Hh (fun x (e:x=heard (lowB l) (Glo A R n) L k)=>hf_step (lowB l) (Glo A R n) L k e)
   have M:=Hh (mostly_any wr v u l (P0.below T.out.2.2) n A R (S0.below T.out.2.2) G (L+16 * k) (by omega) (by omega));go_wp2_with fail;refine M.mono ?_;rintro e w2 ⟨rfl,b2⟩;have T2:=Hh (T.out.below b2);have c:=T2.out.2.1.cell k (by omega);have f:=T2.out.2.1.frozen k;clear b2 M;go_wp2
   go_roundw
   case rel=>exact ⟨k+1,by omega,by go_num,Hh ((T2.out.set_ k (by omega) _).to (fun i _=>HS.out _ rfl i))⟩
   case measure=>simp [intOf];omega
  ·obtain rfl:k=11:=by omega
   go_wp2_with ((with_reducible refine copy_frame (o:=⟨some 26,_,_,_,_,_⟩) rfl rfl _ _ _ rfl rfl rfl _ _ _ _ ?_ ?_ ?_ T.out.frame T.out.res ?_);(exact rfl);(exact rfl);(exact rfl))
   refine aA (results_frame rfl _ _ _ _ rfl (T.out.1.row _)) rfl ⟨ret_arr fun i hi=>by rw [HL.out];exact hf_all _ _ _ i hi,?_⟩;exact Ua.below_setRow T.out.2.2 _ _ (ac _)
noncomputable def HearV (x l:List S2) (A R:Nat->Int) (n:Nat) (f t:Int):Int×Bool×Int :=
 if (FallV x f t).2 then (tb (heard (lowB l) (Glo A R n) (Tk.Loc A R n (FallV x f t).1)),tp (heard (lowB l) (Glo A R n) (Tk.Loc A R n (FallV x f t).1)),te (heard (lowB l) (Glo A R n) (Tk.Loc A R n (FallV x f t).1))) else (0,false,3)
variable {x l:List S2} {A R:Nat->Int}
theorem hear_no (h:FallV x f t=(p,false)):(0,false,3)=HearV x l A R n f t:=by
 unfold HearV;rw [h];rfl
theorem hear_yes (h:FallV x f t=(p,true)):(tb (heard (lowB l) (Glo A R n) (Tk.Loc A R n p)),tp (heard (lowB l) (Glo A R n) (Tk.Loc A R n p)),te (heard (lowB l) (Glo A R n) (Tk.Loc A R n p)))=HearV x l A R n f t:=by
 unfold HearV;rw [h];rfl
def HearPost (w:World) (l:List S2) (A R:Nat->Int) (n:Nat) (f t:Int) (e:Ending) (w':World):Prop :=
 ∃ x,PlainOf l x/\e = .returned (.tuple #[.int .u8 (HearV x l A R n f t).1,.bool (HearV x l A R n f t).2.1,.int .i64 (HearV x l A R n f t).2.2])/\Below w.heap.size w w'
theorem ret_hear {b:Bool} {q:Int×Bool×Int} (h:(a,b,c)=q):Ending.returned (.tuple #[.int .u8 a,.bool b,.int .i64 c]) = .returned (.tuple #[.int .u8 q.1,.bool q.2.1,.int .i64 q.2.2]):=by rw [← h]
theorem hear_any (w:World) (v u:Value) (l:List S2) (P:Sp w v l) (hl:l.length < 1099511627776) (n:Nat) (A R:Nat->Int) (S:Tk.Steps w u n A R) (g:GoodP n A R) (f t:Int) :
 Calls prog 145 #[v,u,.int .i64 f,.int .i64 t] w (HearPost w l A R n f t):=by
 have P0:=Hh P;have S0:=Hh S;have G:=Hh g;clear P S g
 go_enter func145,ntmps145
 go_wp2_with fail;refine (fall_any _ _ _ P0 hl f t).mono ?_;rintro e w1 ⟨x,hx,rfl,b1⟩;have PX:=Hh hx;have B1:=Hh b1;have P1:=Hh (P0.below b1);have S1:=Hh (S0.below b1);clear b1 hx P0 S0;generalize hv:FallV x f t=q;obtain ⟨p,y⟩:=q
 cases y with
 | false =>
   have E:=Hh (hear_no (l:=l) (A:=A) (R:=R) (n:=n) hv);clear hv;go_wp2
   go_ret3
   exact ⟨x,PX,ret_hear E,B1⟩
 | true =>
   have E:=Hh (hear_yes (l:=l) (A:=A) (R:=R) (n:=n) hv);clear hv;go_wp2_with fail;refine (bits_any _ _ _ _ P1 _ _ _ S1 G p).mono ?_;rintro e w2 ⟨rfl,b2⟩;have B2:=bTr B1 b2;clear b2;generalize heard (lowB l) (Glo A R n) (Tk.Loc A R n p)=F at *;go_wp2_with fail;refine (take_any _ F).mono ?_;rintro e w3 ⟨rfl,b3⟩;have B3:=bTr B2 b3;clear b3;go_wp2
   go_ret3
   exact ⟨x,PX,ret_hear E,B3⟩
end Sa
namespace Bu
open Go.Maps
open Sp (S2 fr tp Sp)
open Tk (GoodP Glo global_any)
open Pa (Hr hput HBl HMap H1 hbl_new at_hput wf_of)
open Sa (hear_any HearPost)
attribute [local irreducible] Sd.wpSd wpQuiet
def HeardPost (w:World) (h:Hr) (e:Ending) (w':World):Prop:=∃ b,e = .returned (.map (some b))/\HMap w' (.map (some b)) h/\Below w.heap.size w w'
variable {l:List S2} {r:Osc}
theorem hear_at (hp:Plain l) {W w':World} {e:Ending} {k:Nat} (h:HearPost W l r.A r.R r.n (Glo r.A r.R r.n (224 * (k:Int) - 20)) (Glo r.A r.R r.n (224 * (k:Int)+20)) e w') :
 e = .returned (.tuple #[.int .u8 (lisS l l r k).1,.bool (lisS l l r k).2.1,.int .i64 (lisS l l r k).2.2])/\Below W.heap.size W w':=by
 obtain ⟨x,hx,he,hb⟩:=h;obtain rfl:=hx.one ⟨hp,fun _=>Iff.rfl⟩;exact ⟨he,hb⟩
theorem heard_any {w:World} {v u:Value} (P:Sp w v l) (hp:Plain l) (hl:l.length<=4294967297) (S:Tk.Steps w u r.n r.A r.R) (c:r.calm):Calls prog 117 #[v,u] w (HeardPost w (lis l l r)):=by
 have G:=Sa.Calm.good c;have GL:=Hh (fun W b m=>global_any W u r.n r.A r.R m (S.below (w':=W) b) G);have HE:=Hh (fun W b (k:Nat)=>(hear_any W v u l (P.below (w':=W) b) (by omega) r.n r.A r.R (S.below b) G (Glo r.A r.R r.n (224 * (k:Int) - 20)) (Glo r.A r.R r.n (224 * (k:Int)+20))).mono fun e w' h=>hear_at hp h);have YY:Hid (∀ k:Nat,1<=k->k<=16->(lisS l l r k).2.2=0->(lisS l l r k).2.1=false->hput (lowH (lis l l r) k) k (lisS l l r k).1=lowH (lis l l r) (k+1)):=Hh (fun k h1 h2 e o=>low_yes h1 (lis_yes (by omega) (by omega) e o));have NN:Hid (∀ k:Nat,¬ ((lisS l l r k).2.2=0/\(lisS l l r k).2.1=false)->lowH (lis l l r) k=lowH (lis l l r) (k+1)):=Hh (fun k h=>low_no (lis_no h));have EN:Hid (lowH (lis l l r) 17=lis l l r):=Hh (low_end fun n h=>lis_out h);have M0:Hid (H1 w w.heap.size 1 (lowH (lis l l r) 1) (w.alloc (.map #[] 0))):=Hh ⟨⟨0,by rw [low_one];exact hbl_new w,by omega⟩,ac _,(aa w.heap.size w).alloc (ac _) _⟩;clear P hp hl S c G;generalize lis l l r=h at *;have hmm:=@run_makeMap prog
 go_enter func117,ntmps117
 go_wp2;clear hmm;generalize (w.alloc (.map #[] 0))=W0 at *;generalize hb0:w.heap.size=b at M0 ⊢;have HB0:=Hh hb0;clear hb0
 go_loopw [6] (fun i wr=>∃ k:Nat,1<=k/\k<=17/\i = .int .i64 k/\Hid (H1 w b k (lowH h k) wr)) (fun i _=>17 - (intOf i).toNat)
 case atStart=>exact ⟨1,by omega,by omega,rfl,M0⟩
 case round =>
  obtain ⟨k,hk1,hk,rfl,I⟩:=hrel;clear M0
  by_cases hlt:k < 17
  ·have K1:=Hh (GL wr I.bel (224 * (k:Int) - 20))
   go_wp2_with fail;refine K1.mono ?_;rintro e w1 ⟨rfl,b1⟩;have I1:=Hh (I.below b1);have K2:=Hh (GL w1 I1.bel (224 * (k:Int)+20));clear b1 K1 I;go_wp2_with fail;refine K2.mono ?_;rintro e w2 ⟨rfl,b2⟩;have I2:=Hh (I1.below b2);have K3:=Hh (HE w2 I2.bel k);have YK:=Hh (YY k hk1 (by omega));have NK:=Hh (NN k);have WK:=Hh (wf_of (n:=(k:Int)) ⟨by omega,by omega⟩);clear b2 K2 I1;generalize lisS l l r (k:Int)=q at *;obtain ⟨y,o,z⟩:=q;simp only at YK NK K3;go_wp2_with fail;refine K3.mono ?_;rintro e w3 ⟨rfl,b3⟩;have I3:=Hh (I2.below b3);clear b3 K3 I2
   by_cases hz:z=0
   ·cases o with
    | false =>
      have EQ:=Hh (YK hz rfl);clear YK NK;subst hz;obtain ⟨N,m,hN⟩:=I3.mp;have M2:=Hh m;have LO:=Hh I3.lo;have BE:=Hh I3.bel;clear m I3
      go_wp2_with (first
       | (at_mapUpdate;refine at_hput rfl _ _ _ rfl rfl M2 (by unfold maxLen;omega) (k:Int) y rfl rfl WK.out ?_;intro w4 m4 g4)
       | fail)
      have I4:Hid (H1 w b (k+1) (lowH h (k+1)) w4):=Hh ⟨⟨N+1,by rw [← EQ.out];exact m4,by omega⟩,LO.out,BE.out.grown g4 BE.out.size (fun j e=>by injection e with e;have:=LO.out;omega)⟩;clear m4 g4 M2 EQ BE LO;go_wp2
      go_roundw
      case rel=>exact ⟨k+1,by omega,by omega,by go_num,I4⟩
      case measure=>simp [intOf];omega
    | true =>
      have EQ:=Hh (NK (by simp));have I4:Hid (H1 w b (k+1) (lowH h (k+1)) w3):=Hh ⟨by obtain ⟨N,m,hN⟩:=I3.out.mp;exact ⟨N,by rw [← EQ.out];exact m,by omega⟩,I3.out.lo,I3.out.bel⟩;clear YK NK EQ I3;subst hz;go_wp2
      go_roundw
      case rel=>exact ⟨k+1,by omega,by omega,by go_num,I4⟩
      case measure=>simp [intOf];omega
   ·have EQ:=Hh (NK fun g=>hz g.1)
    have I4:Hid (H1 w b (k+1) (lowH h (k+1)) w3):=Hh ⟨by obtain ⟨N,m,hN⟩:=I3.out.mp;exact ⟨N,by rw [← EQ.out];exact m,by omega⟩,I3.out.lo,I3.out.bel⟩;have d0:(z == 0)=false:=by simpa using hz
    clear YK NK EQ I3;go_wp2
    go_roundw
    case rel=>exact ⟨k+1,by omega,by omega,by go_num,I4⟩
    case measure=>simp [intOf];omega
  ·obtain rfl:k=17:=by omega
   rw [EN.out] at I;have RES:Hid (HeardPost w h (.returned (.map (some b))) wr):=Hh ⟨b,rfl,by obtain ⟨⟨N,m,_⟩,_,_⟩:=I;exact ⟨b,N,rfl,m⟩,I.bel⟩;clear I;go_wp2
   go_ret
   exact RES
end Bu
