import Derived.Test.YtpepoackmcohlaaGreatDoorPg9
import Derived.Test.YtpepoackmcohlaaGreatDoorShelf
import Derived.Shelf.SlSortCmp.NoneTotal
import Derived.StillTailTactics
set_option maxRecDepth 100000
set_option maxHeartbeats 2000000
namespace Go.Proofs.YtpepoackmcohlaaGreatDoor
open Go.Proofs.Tryz Go.RowKit
open Ck (Hd KS sl zh)
open Fl (ah aj)
open Pa (K2 bX cK)
open Rw (At Ow Rd)
open Se (oG)
open Tk (Ab eD kW)
open Ua (Eb Row aX cB dJ dO dU jL om upd)
open Wi (Made Plain dS eT fK gq ig j5 jK)
namespace Cu
open Go.Maps
open Fl (R4 K4 dF bQ)
open Fs (aU St eB ay Fx aG)
open Pa (S2 aN bU KN KB ptr)
attribute [local irreducible] Sd.bA wpQuiet
section
variable {s t p:Nat} {F G:Nat->Prop} {c:Cs} {vn vq:Value} {L:List Nd} {Fs:Nat->Nat->Prop} {w w1 w':World}
variable {x:Ac}
theorem Wj (h1:x.k≠1) (h3:x.k≠3) (h:x.k < 2\/6 < x.k\/no c x.n):bE x c=1/\bK x c=c:=by
 have he:bE x c=1:=by
  unfold bE;rw [am h1,am h3,aw h]
 refine ⟨he,?_⟩;unfold bK;rw [am h1,aw (by rw [he];decide)]
theorem Yq (h:Cl w s F c t vn L p vq Fs) (x:Ac) (h1:x.k≠1) (h3:x.k≠3) (hn:no c x.n):Calls prog 11 #[ptr s,eU x] w (kS w s F (bK x c) (t+1) (bE x c)):=by
 obtain ⟨e1,e2⟩:=Wj h1 h3 (.inr (.inr hn));rw [e1,e2];have B0:=Hh ((aa w.heap.size w).alloc (ac _) (.cells (bH x) 44));have C1:=Hh (zU (h.below B0) hn);have E:=Hh (fun w' b=>(jc h (w':=w') b 1).late);clear h hn e1 e2;unfold eU bH at *;unfold ptr at *;obtain ⟨k,n,f,rr,v,s',m,tt⟩:=x;simp only at h1 h3 B0 C1 E ⊢;have q1:=cx.2 h1;have q3:=cx.2 h3
 go_enter func11,ntmps11
 go_wp2_with fail;refine C1.mono ?_;rintro e w1 ⟨rfl,b1⟩;have F:=Hh (E w1 (aW B0 b1));clear E C1 b1;go_wp2
 go_ret
 exact F
theorem VS (h:Cl w s F c t vn L p vq Fs) (x:Ac) (h1:x.k≠1) (h3:x.k≠3) (hk:x.k < 2\/6 < x.k) (hn:¬ no c x.n):Calls prog 11 #[ptr s,eU x] w (kS w s F (bK x c) (t+1) (bE x c)):=by
 obtain ⟨e1,e2⟩:=Wj h1 h3 (show x.k < 2\/6 < x.k\/no c x.n by rcases hk with g | g;exact .inl g;exact .inr (.inl g));rw [e1,e2];have B0:=Hh ((aa w.heap.size w).alloc (ac _) (.cells (bH x) 44));have hn':0<=x.n/\x.n < c.S.length:=by unfold no at hn;omega
 have C1:=Hh (jO (h.below B0) (n:=x.n.toNat) (by omega));rw [fi hn'.1] at C1;have E:=Hh (fun w' b=>(jc h (w':=w') b 1).late);have X0:=Hh (bc w (.cells (bH x) 44));clear h hn e1 e2 hn';unfold eU bH at *;unfold ptr at *;obtain ⟨k,n,f,rr,v,s',m,tt⟩:=x;simp only at h1 h3 hk B0 C1 E X0 ⊢;have q1:=cx.2 h1;have q2:=cx.2 (by omega);have q3:=cx.2 h3;have q4:=cx.2 (by omega);have q5:=cx.2 (by omega);have q6:=cx.2 (by omega);have r2:¬ k=2:=by omega
 have r4:¬ k=4:=by omega
 have r5:¬ k=5:=by omega
 have r6:¬ k=6:=by omega
 clear hk
 go_enter func11,ntmps11
 go_wp2_with fail;refine C1.mono ?_;rintro e w1 ⟨rfl,b1⟩;have y0:=(b1.cell (bm X0.out)).trans (ah X0.out 0);have F:=Hh (E w1 (aW B0 b1));clear E C1 b1 X0 B0;go_wp2
 go_ret
 exact F
theorem aa2 (w:World) (x:Ac):Calls prog 11 #[.pointer none,eU x] w fun e w'=>e = .returned (.int .i64 1)/\Below w.heap.size w w':=by
 have B0:=Hh ((aa w.heap.size w).alloc (ac _) (.cells (bH x) 44));unfold eU bH at *
 go_enter func11,ntmps11
 go_wp2
 go_ret
 exact ⟨rfl,B0⟩
theorem Sm (hk:x.k=4) (hn:¬ no c x.n):(bU c.V x.n=true->bE x c=0/\bK x c = { c with V:=c.V.set x.n.toNat false,P:=Wt.lJ c.P x.n })/\(bU c.V x.n=false->bE x c=10/\bK x c=c):=by
 have he:bE x c=if bU c.V x.n=true then 0 else 10:=by
  unfold bE;rw [am (by omega),am (by omega),am (by rintro (g | g | g);omega;omega;exact hn g),am (by omega),aw hk]
 refine ⟨fun hv=>?_,fun hv=>?_⟩
 ·rw [hv] at he
  refine ⟨he,?_⟩;unfold bK;rw [am (by omega),am (by rw [he];simp),am (by omega),am (by omega),aw hk]
 ·rw [hv] at he
  refine ⟨he,?_⟩;unfold bK;rw [am (by omega),aw (by rw [he];decide)]
theorem Qm (h:Cl w s F c t vn L p vq Fs) (ok:jB c t) (sy:sQ c) (x:Ac) (hk:x.k=4) (hn:¬ no c x.n):Calls prog 11 #[ptr s,eU x] w (kS w s F (bK x c) (t+1) (bE x c)):=by
 have B0:=Hh ((aa w.heap.size w).alloc (ac _) (.cells (bH x) 44));have hn':0<=x.n/\x.n < c.S.length:=by unfold no at hn;omega
 have hnn:=fi hn'.1;have C1:=Hh (jO (h.below B0) (n:=x.n.toNat) (by omega));rw [hnn] at C1
 have C2:Hid (∀ w1,Below (w.alloc (.cells (bH x) 44)).heap.size (w.alloc (.cells (bH x) 44)) w1->Calls prog 35 #[ptr s,.int .i64 x.n] w1 (kS w1 s F (bK x c) t (bE x c))):=Hh (fun w1 b1=>by
  obtain ⟨a1,a2⟩:=Sm hk hn
  cases hv:bU c.V x.n with
  | true =>
    have q:=Kw ((h.below B0).below b1) ok sy (n:=x.n.toNat) (by omega) (by rw [hnn];exact hv);rw [hnn] at q;rw [(a1 hv).1,(a1 hv).2];exact q
  | false =>
    have q:=Qa ((h.below B0).below b1) (n:=x.n.toNat) (by omega) (by rw [hnn];exact hv);rw [hnn] at q;rw [(a2 hv).1,(a2 hv).2]
    exact q)
 have E:=Hh (fun w1 (b:Below w.heap.size w w1) e w' (d:kS w1 s F (bK x c) t (bE x c) e w')=>(d.pre b h.low).late);have X0:=Hh (bc w (.cells (bH x) 44));clear h hn ok sy hn' hnn;generalize bK x c=c' at *;generalize bE x c=ae at *;unfold eU bH at *;unfold ptr at *;obtain ⟨k,n,f,rr,v,s',m,tt⟩:=x;simp only at hk B0 C1 C2 E X0 ⊢;subst hk
 go_enter func11,ntmps11
 go_wp2_with fail;refine C1.mono ?_;rintro e w1 ⟨rfl,b1⟩;have y0:=(b1.cell (bm X0.out)).trans (ah X0.out 0);have y1:=(b1.cell (bm X0.out)).trans (ah X0.out 1);have D:=Hh (C2 w1 b1);have B1:=aW B0 b1;clear C1 C2 b1 X0 B0;go_wp2_with fail;refine D.mono ?_;rintro e w2 d;have G:=Hh (E w1 B1 e w2 d);obtain ⟨rfl,_,_⟩:=d;clear E D y0 y1;go_wp2
 go_ret
 exact G
theorem Ic (hk:x.k=5) (hn:¬ no c x.n):(bU c.V x.n=false->bE x c=0/\bK x c = { c with V:=c.V.set x.n.toNat true,P:=Wt.lI c.P x.n })/\(bU c.V x.n=true->bE x c=10/\bK x c=c):=by
 have he:bE x c=if bU c.V x.n=true then 10 else 0:=by
  unfold bE;rw [am (by omega),am (by omega),am (by rintro (g | g | g);omega;omega;exact hn g),am (by omega),am (by omega),aw hk]
 refine ⟨fun hv=>?_,fun hv=>?_⟩
 ·rw [hv] at he
  refine ⟨he,?_⟩;unfold bK;rw [am (by omega),am (by rw [he];simp),am (by omega),am (by omega),am (by omega),aw hk]
 ·rw [hv] at he
  refine ⟨he,?_⟩;unfold bK;rw [am (by omega),aw (by rw [he];decide)]
theorem Ii (h:Cl w s F c t vn L p vq Fs) (ok:jB c t) (sy:sQ c) (x:Ac) (hk:x.k=5) (hn:¬ no c x.n):Calls prog 11 #[ptr s,eU x] w (kS w s F (bK x c) (t+1) (bE x c)):=by
 have B0:=Hh ((aa w.heap.size w).alloc (ac _) (.cells (bH x) 44));have hn':0<=x.n/\x.n < c.S.length:=by unfold no at hn;omega
 have hnn:=fi hn'.1;have C1:=Hh (jO (h.below B0) (n:=x.n.toNat) (by omega));rw [hnn] at C1
 have C2:Hid (∀ w1,Below (w.alloc (.cells (bH x) 44)).heap.size (w.alloc (.cells (bH x) 44)) w1->Calls prog 36 #[ptr s,.int .i64 x.n] w1 (kS w1 s F (bK x c) t (bE x c))):=Hh (fun w1 b1=>by
  obtain ⟨a1,a2⟩:=Ic hk hn
  cases hv:bU c.V x.n with
  | false =>
    have q:=Ee ((h.below B0).below b1) ok sy (n:=x.n.toNat) (by omega) (by rw [hnn];exact hv);rw [hnn] at q;rw [(a1 hv).1,(a1 hv).2];exact q
  | true =>
    have q:=Iy ((h.below B0).below b1) (n:=x.n.toNat) (by omega) (by rw [hnn];exact hv);rw [hnn] at q;rw [(a2 hv).1,(a2 hv).2]
    exact q)
 have E:=Hh (fun w1 (b:Below w.heap.size w w1) e w' (d:kS w1 s F (bK x c) t (bE x c) e w')=>(d.pre b h.low).late);have X0:=Hh (bc w (.cells (bH x) 44));clear h hn ok sy hn' hnn;generalize bK x c=c' at *;generalize bE x c=ae at *;unfold eU bH at *;unfold ptr at *;obtain ⟨k,n,f,rr,v,s',m,tt⟩:=x;simp only at hk B0 C1 C2 E X0 ⊢;subst hk
 go_enter func11,ntmps11
 go_wp2_with fail;refine C1.mono ?_;rintro e w1 ⟨rfl,b1⟩;have y0:=(b1.cell (bm X0.out)).trans (ah X0.out 0);have y1:=(b1.cell (bm X0.out)).trans (ah X0.out 1);have D:=Hh (C2 w1 b1);have B1:=aW B0 b1;clear C1 C2 b1 X0 B0;go_wp2_with fail;refine D.mono ?_;rintro e w2 d;have G:=Hh (E w1 B1 e w2 d);obtain ⟨rfl,_,_⟩:=d;clear E D y0 y1;go_wp2
 go_ret
 exact G
end
open Fl (z4 aH aY)
open Fs (Wf fq sA sB dA dE dV dD jo xW iP sJ)
attribute [local irreducible] Sz.oH
section
variable {s t p:Nat} {F G:Nat->Prop} {c:Cs} {vn vq:Value} {L:List Nd} {Fs:Nat->Nat->Prop} {w w1 w':World}
theorem Qr (w:World) (g o:Nat) (f r:Int) (x:R4) (c1:w.cell? ⟨g,o+1,none⟩=some (.bool false)):Calls prog 34 #[.pointer (some ⟨g,o,none⟩),.int .i64 f,.int .i64 r,aH x] w fun e w'=>e = .returned (.int .i64 10)/\Below w.heap.size w w':=by
 have B0:=Hh ((aa w.heap.size w).alloc (ac _) (.cells (aY x) 42));have k1:=iI B0 c1;clear c1;unfold aH;unfold aY at *
 go_enter func34,ntmps34
 go_wp2
 go_ret
 exact ⟨rfl,B0⟩
def WrC (w:World) (q:Nat) (H:Nat->Prop) (A:aU) (d:Int) (f r:Int) (x:R4) (e:Ending) (w':World):Prop:=e = .returned (.int .i64 (if sB A f r=true then 0 else 3))/\St w' q (Fx H w w') (sA A f r x) d/\ay H w w'
variable {q:Nat} {H:Nat->Prop} {A:aU} {d f:Int}
theorem adk (h:St w' q (Fx H w1 w') A d) (z1:w.heap.size<=w1.heap.size) (z2:w1.heap.size<=w'.heap.size) (low:∀ k,H k->k < w.heap.size):St w' q (Fx H w w') A d:=h.wide (fun k g=>by
 rcases g with g | g
 ·exact .inl g
 ·exact .inr ⟨by omega,g.2⟩) (Fx.low low (cE z1 z2))
theorem Mb (S:St w q H A d) (g o:Nat) (c0:w.cell? ⟨g,o,none⟩=some (ptr q)) (c1:w.cell? ⟨g,o+1,none⟩=some (.bool true)) (hg:¬ H g) (hf:Wf f) (r:Int) (x:R4) (hx:bQ x):Calls prog 34 #[.pointer (some ⟨g,o,none⟩),.int .i64 f,.int .i64 r,aH x] w (WrC w q H A d f r x):=by
 have B0:=Hh ((aa w.heap.size w).alloc (ac _) (.cells (aY x) 42));have X0:=Hh (bc w (.cells (aY x) 42));have k0:=Hh (iI B0 c0);have k1:=iI B0 c1;have LOW:=Hh S.low;have S0:=Hh (S.below B0);have HG:=Hh hg;have HX:Hid (¬ H w.heap.size):=Hh (fun e=>by have:=S.low _ e;omega);have FIN:Hid (∀ w1 w',Below w.heap.size w w1->jo w1 q H d (sB A f r) (sA A f r x) (.returned (.bool (sB A f r))) w'->WrC w q H A d f r x (.returned (.int .i64 (if sB A f r=true then 0 else 3))) w'):=Hh (fun w1 w' b h=>⟨rfl,adk h.2.1 b.size h.2.2.size LOW,(ay.of_below b).trans h.2.2 fun _ _ g=>g⟩);clear c0 c1 S hg;unfold aH ptr at *;unfold aY at *
 go_enter func34,ntmps34
 go_upto_region 3 with fail;clear k1;generalize (w.alloc (.cells #[.int .u8 x.1,.int .u8 x.2.1,.int .u8 x.2.2.1,.int .u8 x.2.2.2] 42))=W at *;have BD:=Hh (B0.trans ((aa W.heap.size W).drew.mono B0.size));have OD:Hid (ay H W W.drew):=Hh (ay.of_below (aa W.heap.size W).drew);have CS:=Hh (xW (S0.below ((aa W.heap.size W).drew)) hf r x hx);unfold jo aH at CS;generalize w.heap.size=gx at *;have lx:=bm X0;have s0:=Sc.aA (C:=fun W'=>ay H W W') (a:=⟨g,o,none⟩) (fun W' oo=>oo.cell k0 (fun e=>HG e));have x0:=Sc.aA (C:=fun W'=>ay H W W') (a:=⟨gx,0,none⟩) (fun W' oo=>oo.cell (ah X0 0) (fun e=>HX e));have x1:=Sc.aA (C:=fun W'=>ay H W W') (a:=⟨gx,1,none⟩) (fun W' oo=>oo.cell (ah X0 1) (fun e=>HX e));have x2:=Sc.aA (C:=fun W'=>ay H W W') (a:=⟨gx,2,none⟩) (fun W' oo=>oo.cell (ah X0 2) (fun e=>HX e));have x3:=Sc.aA (C:=fun W'=>ay H W W') (a:=⟨gx,3,none⟩) (fun W' oo=>oo.cell (ah X0 3) (fun e=>HX e));have ne:Nonempty (Sc.In (fun W'=>ay H W W')):=⟨⟨_,OD⟩⟩;clear k0 S0;refine Sc.start (fun W'=>ay H W W') [(false,0),(false,1),(false,2),(false,3),(false,4),(false,5),(false,6),(true,7),(false,8)] (by kernel_rfl) (by kernel_rfl) (by kernel_rfl) OD ?_;dsimp only [Sd.aP,List.getElem?_cons_succ,List.getElem?_cons_zero]
 iterate 7 (refine Sd.lit ?_;quiet_step (fail);refine bk ?_)
 clear s0 x0 x1 x2 x3;refine Sd.call (by rfl) (fun K hK=>?_);go_simp;refine CS.mono ?_;rintro e w5 ⟨rfl,s5,o5⟩;have E:=Hh (FIN W.drew w5 BD ⟨rfl,s5,o5⟩);refine hK _ _ (Sc.Cl.of (OD.trans o5 fun k _ g=>g)) ?_;clear hK K s5 o5 CS FIN;generalize sB A f r=bq at *
 iterate 1 (refine Sd.lit ?_;quiet_step (fail);refine bk ?_)
 refine Sd.done ?_
 cases bq with
 | true =>
   go_wp2
   go_ret
   exact E
 | false =>
   go_wp2
   go_ret
   exact E
theorem adz:(prog.info? 95).map (fun i=>(i.zero,i.size,i.bytes))=some (some (.agg #[.int .i64 0,.int .i64 0]),2,16):=by kernel_rfl
theorem Hq (h:Cl w s F c t vn L p vq Fs) (x:S2) (hq:c.Q.length=32):Calls prog 32 #[ptr s,.agg #[.int .i64 x.1,.int .i64 x.2]] w (kS w s F c t 11):=by
 have B0:=Hh ((aa w.heap.size w).alloc (ac _) (.cells #[.int .i64 x.1,.int .i64 x.2] 95));have k3:=(h.below B0).cells.2.2.2;have E:=Hh (jc h B0 11);obtain ⟨qa,qc,rfl,_⟩:=h.sp.slice;rw [hq] at k3;clear h hq;unfold ptr at *
 go_enter func32,ntmps32
 go_wp2
 go_ret
 exact E
theorem Ld (h:Cl w s F c t vn L p vq Fs) (x:S2) (hq:c.Q.length < 32):Calls prog 32 #[ptr s,.agg #[.int .i64 x.1,.int .i64 x.2]] w (kS w s F { c with Q:=c.Q ++ [x] } t 0):=by
 have B0:=Hh ((aa w.heap.size w).alloc (ac _) (.cells #[.int .i64 x.1,.int .i64 x.2] 95));have X0:=Hh (bc w (.cells #[.int .i64 x.1,.int .i64 x.2] 95));have H:=Hh (h.below B0)
 have FIN:Hid (∀ w1 w' v,Below w.heap.size w w1->Ow K2 w' 0 95 v (c.Q ++ [x])->w1.grownBy w' vq.ownBlock->(v.ownBlock=vq.ownBlock\/∃ g,v.ownBlock=some g/\w1.heap.size<=g)->kS w s F { c with Q:=c.Q ++ [x] } t 0 (.returned (.int .i64 0)) (w'.setCell ⟨s,3,none⟩ v)):=Hh (fun w1 w' v b ow gr hv=>by
  have h1:=h.below b;have o1:=(Pa.aV gr).mono fun k _ e=>h.fv k (.inr e);have oq:=Pa.aV gr;have lv:∀ k,v.ownBlock=some k->k < w'.heap.size:=fun k e=>(ci ow k e).2;have z1:=b.size;have z2:=gr.size;have h2:Cl w' s (Fx F w w') { c with Q:=c.Q } t vn L p vq Fs\/True:=.inr trivial;have sp_old:∀ i,i < L.length->St w' (iC L i).s (Fs i) (aN c.S i).1 (aN c.S i).2:=fun i hi=>(h1.st i hi).only (fun k g e=>(h1.off i hi k g).2.2.2 e) oq;have vF:∀ k,v.ownBlock=some k->Fx F w w' k:=fun k e=>by
   rcases hv with q | ⟨g,q,hg⟩
   ·exact .inl (h.fv k (.inr (by rw [← q];exact e)))
   ·rw [q] at e
    injection e with e;subst e;exact .inr ⟨by omega,lv _ q⟩
  have nF:∀ i,i < L.length->∀ k,Fs i k->v.ownBlock≠some k:=fun i hi k g e=>by
   rcases hv with q | ⟨j,q,hj⟩
   ·exact (h.off i hi k g).2.2.2 (by rw [← q];exact e)
   ·rw [q] at e
    injection e with e;have:=h.low k (h.ff i hi k g)
    omega
  have o3:ay (fun k=>k=s) w' (w'.setCell ⟨s,3,none⟩ v):=ay.set (fun k=>k=s) w' (a:=⟨s,3,none⟩) rfl _;have ow3:ay F w (w'.setCell ⟨s,3,none⟩ v):=((ay.of_below b).trans o1 fun _ _ g=>g).trans o3 fun k _ e=>by rw [e];exact h.fs
  have sne:=h.vs.2;have row1:=(oq.block s h1.slt (fun e=>sne e)).trans h1.row;have row2:(w'.setCell ⟨s,3,none⟩ v).heap[s]? = some (.cells #[vn,ptr p,.int .i64 c.pl,v] 69 (0,0)):=Rw.aB (j:=3) row1 _;have hzz:(w'.setCell ⟨s,3,none⟩ v).heap.size=w'.heap.size:=by simp [World.setCell]
  refine ⟨rfl,⟨vn,L,p,v,Fs,?_⟩,ow3⟩;refine ⟨row2,aG (aG h1.no (fun k e q=>h1.vv k e q) oq) (fun k e q=>h1.vs.1 (by rw [e,q])) o3,h.len,fun i hi=>(sp_old i hi).only (fun k g e=>(h.off i hi k g).1 e) o3,h.lv,h.rt,?_,aG ow (fun k e q=>ow.apart row1 (by decide) (by rw [e,q])) o3,.inl h.fs,.inl h.fp,fun k q=>?_,fun i hi k g=>.inl (h.ff i hi k g),h.FQ,fun i hi k g=>?_,Fx.low h.low ow3.size⟩
  ·exact (h1.pr.only oq (fun e=>h1.vp.2 e)).only o3 (fun e=>h1.Iv e.symm)
  ·rcases q with q | q
   ·exact .inl (h.fv k (.inl q))
   ·rcases vF k q with g | g
    ·exact .inl g
    ·exact .inr ⟨g.1,by rw [hzz];exact g.2⟩
  ·have:=h.off i hi k g
   exact ⟨this.1,this.2.1,this.2.2.1,nF i hi k g⟩)
 obtain ⟨qa,qc,rfl,_⟩:=h.sp.slice;have HQ:=Hh hq;have QL:Hid (∀ k,(Value.slice qa c.Q.length qc).ownBlock=some k->k≠w.heap.size):=Hh (fun k e=>by have:=h.low k (h.fv k (.inr e));omega);have k3:=H.cells.2.2.2;have p6:decide ((32:Int)<=(c.Q.length:Int))=false:=ai (by omega);have p7:decide (32<=c.Q.length)=false:=ai (by omega);clear h hq;generalize hln:c.Q.length=ln at *;have HLN:=Hh hln;clear hln;unfold ptr at *
 go_enter func32,ntmps32
 go_upto_region 3 with fail;clear k3 p6 p7;generalize (w.alloc (.cells #[.int .i64 x.1,.int .i64 x.2] 95))=W at *;generalize w.heap.size=gx at X0 QL ⊢;have BD:=Hh (aa W.heap.size W).drew;have NQ:Hid (∀ k,(Value.slice qa ln qc).ownBlock=some k->k≠gx/\k≠s):=Hh (fun k e=>⟨QL k e,fun g=>H.vs.2 (by rw [e,g])⟩);have OD:Hid (ay (fun k=>(Value.slice qa ln qc).ownBlock=some k) W W.drew):=Hh (ay.of_below BD);have x0:=Sc.aA (C:=fun W'=>ay (fun k=>(Value.slice qa ln qc).ownBlock=some k) W W') (a:=⟨gx,0,none⟩) (fun W' oo=>oo.cell (ah X0 0) (fun e=>(NQ _ e).1 rfl));have x1:=Sc.aA (C:=fun W'=>ay (fun k=>(Value.slice qa ln qc).ownBlock=some k) W W') (a:=⟨gx,1,none⟩) (fun W' oo=>oo.cell (ah X0 1) (fun e=>(NQ _ e).1 rfl));have s3:=Sc.aA (C:=fun W'=>ay (fun k=>(Value.slice qa ln qc).ownBlock=some k) W W') (a:=⟨s,3,none⟩) (fun W' oo=>oo.cell H.cells.2.2.2 (fun e=>(NQ _ e).2 rfl));have ne:Nonempty (Sc.In (fun W'=>ay (fun k=>(Value.slice qa ln qc).ownBlock=some k) W W')):=⟨⟨_,OD⟩⟩;refine Sz.start (fun W'=>ay (fun k=>(Value.slice qa ln qc).ownBlock=some k) W W') [(false,0),(false,1),(false,2),(false,3),(false,4),(false,5),(true,6),(true,7),(false,8),(false,9)] 10 (by kernel_rfl) (by kernel_rfl) (by kernel_rfl) rfl rfl OD ?_;dsimp only [Sd.aP,List.getElem?_cons_succ,List.getElem?_cons_zero]
 repeat (refine Sz.lit ?_;quiet_step (fail);refine bk ?_)
 clear x0 x1 s3;have HD:=Hh (H.below BD);generalize W.drew=w4 at *;refine Sz.call (by rfl) (fun K hK=>?_);go_simp;have B5:=Hh (Below.alloc (aa w4.heap.size w4) (ac _) (.cells #[.int .i64 x.1,.int .i64 x.2] 95));have Y5:=Hh (bc w4 (.cells #[.int .i64 x.1,.int .i64 x.2] 95));have H5:=Hh (HD.below B5);have BW:=Hh ((aW B0 BD).trans (B5.mono (cE B0.size BD.size)));have O5:=Hh (OD.trans (ay.of_below (G:=fun k=>(Value.slice qa ln qc).ownBlock=some k) B5) fun _ _ g=>g);refine hK _ _ (Sc.Cl.of O5) ?_;clear hK K HD B5;generalize (w4.alloc (.cells #[.int .i64 x.1,.int .i64 x.2] 95))=w5 at *;generalize w4.heap.size=g4 at *;refine Sz.call (by rfl) (fun K hK=>?_);refine cK (K:=K2) underlying37 adz rfl (by omega) _ _ rfl 0 _ _ rfl H5.out.sp ⟨g4,0,none⟩ x rfl ?a1 ?a2 (cg _) ?_
 case a1 =>
  intro j u hu
  have c:=ah Y5 j
  match j,hu with
  | 0,hu=>simp [K2] at hu;subst hu;exact c
  | 1,hu=>simp [K2] at hu;subst hu;exact c
  | j+2,hu=>simp [K2] at hu
 case a2=>have:=HLN.out;have:=HQ.out;omega
 intro v6 w6 o6 g6 h6
 have O6:=O5.trans (Pa.aV g6) fun _ _ g=>g;have c6:=O6.cell H.cells.2.2.2 (fun e=>(NQ _ e).2 rfl);have e6:=aj (((Pa.aV g6).block s H5.slt (fun e=>(NQ _ e).2 rfl)).trans H5.row) 3;have E:=Hh (FIN w5 w6 v6 BW o6 g6 h6);obtain ⟨v6a,v6c,n6,rfl⟩:∃ a c n,v6 = .slice a n c:=by obtain ⟨a,c,e,_⟩:=o6.slice;exact ⟨a,c,_,e⟩
 refine hK _ _ (Sc.Cl.of O6) ?_;clear hK K o6 g6 h6 FIN O6 H5 Y5 O5 BW
 repeat (refine Sz.lit ?_;quiet_step (fail);refine bk ?_)
 refine Sz.done ?_;go_simp;clear c6 e6;generalize (w6.setCell ⟨s,3,none⟩ (.slice v6a n6 v6c))=w8 at *;refine NoPanic.normal ?_;go_wp2
 go_ret
 exact E
theorem Tx {x:Ac} (hk:x.k=3):(c.Q.length=32->bE x c=11/\bK x c=c)/\(c.Q.length≠32->bE x c=0/\bK x c = { c with Q:=c.Q ++ [(x.s,x.m)] }):=by
 have he:bE x c=if c.Q.length=32 then 11 else 0:=by
  unfold bE;rw [am (by omega),aw hk]
 refine ⟨fun hq=>?_,fun hq=>?_⟩
 ·rw [aw hq] at he
  refine ⟨he,?_⟩;unfold bK;rw [am (by omega),aw (by rw [he];decide)]
 ·rw [am hq] at he
  refine ⟨he,?_⟩;unfold bK;rw [am (by omega),am (by rw [he];simp),aw hk]
theorem Rx (h:Cl w s F c t vn L p vq Fs) (ok:jB c t) (x:Ac) (hk:x.k=3):Calls prog 11 #[ptr s,eU x] w (kS w s F (bK x c) (t+1) (bE x c)):=by
 have B0:=Hh ((aa w.heap.size w).alloc (ac _) (.cells (bH x) 44));have C2:Hid (Calls prog 32 #[ptr s,.agg #[.int .i64 x.s,.int .i64 x.m]] (w.alloc (.cells (bH x) 44)) (kS (w.alloc (.cells (bH x) 44)) s F (bK x c) t (bE x c))):=by
  obtain ⟨a1,a2⟩:=Tx (c:=c) hk
  by_cases hq:c.Q.length=32
  ·rw [(a1 hq).1,(a1 hq).2]
   exact Hq (h.below B0) (x.s,x.m) hq
  ·rw [(a2 hq).1,(a2 hq).2]
   exact Ld (h.below B0) (x.s,x.m) (by have:=ok.few;omega)
 have E:=Hh (fun e w' (d:kS (w.alloc (.cells (bH x) 44)) s F (bK x c) t (bE x c) e w')=>(d.pre B0 h.low).late);clear h ok;generalize bK x c=c' at *;generalize bE x c=ae at *;unfold eU bH at *;unfold ptr at *;obtain ⟨k,n,f,rr,v,s',m,tt⟩:=x;simp only at hk B0 C2 E ⊢;subst hk
 go_enter func11,ntmps11
 go_wp2_with fail;refine C2.mono ?_;rintro e w2 d;have G:=Hh (E e w2 d);obtain ⟨rfl,_,_⟩:=d;clear E C2;go_wp2
 go_ret
 exact G
end
end Cu
namespace Tk
def prev (A:Nat->Int):Nat->Int
 | 0=>-1
 | k+1=>A k
structure kX (A R:Nat->Int) (k:Nat):Prop where
 at_:∀ i,i < k->0<=A i/\A i<=4294967296
 rate:∀ i,i < k->-20000<=R i/\R i<=20000
 up:∀ i,i+1 < k->A i < A (i+1)
theorem kX.zero (A R:Nat->Int):kX A R 0:=⟨fun i h=>by omega,fun i h=>by omega,fun i h=>by omega⟩
variable {A R:Nat->Int} {k n:Nat}
theorem kX.lo (g:kX A R k) : -1<=prev A k:=by
 cases k with
 | zero=>exact gc _
 | succ k=>have:=(g.at_ k (by omega)).1;show -1<=A k;omega
theorem kX.step (g:kX A R k) (h1:¬ A k<=prev A k) (h2:¬ 4294967296 < A k) (h3:¬ R k < -20000) (h4:¬ 20000 < R k):kX A R (k+1):=by
 have l:=g.lo;refine ⟨fun i hi=>?_,fun i hi=>?_,fun i hi=>?_⟩
 ·by_cases e:i=k
  ·subst e;omega
  ·exact g.at_ i (by omega)
 ·by_cases e:i=k
  ·subst e;omega
  ·exact g.rate i (by omega)
 ·by_cases e:i+1=k
  ·subst e;have:prev A (i+1)=A i:=rfl;omega
  ·exact g.up i (by omega)
theorem kX.all (g:kX A R n) (h:n<=64):bN n A R:=⟨h,g.at_,g.rate,g.up⟩
theorem bad (hk:k < n) (h:A k<=prev A k\/4294967296 < A k\/R k < -20000\/20000 < R k):eD n A R=false:=by
 refine Ab fun g=>?_;have a:=g.at_ k hk;have r:=g.rate k hk
 rcases h with h | h | h | h
 ·cases k with
  | zero=>have:prev A 0 = -1:=rfl;omega
  | succ k=>have:=g.up k hk;have:prev A (k+1)=A k:=rfl;omega
 ·omega
 ·omega
 ·omega
theorem aC {a b:Bool} (h:a=b):Ending.returned (.bool a) = .returned (.bool b):=by rw [h]
theorem dh {a b:Int} (h:a=b):Ending.returned (.int .i64 a) = .returned (.int .i64 b):=by rw [h]
theorem vR (w:World) (a:Option Addr) (cap:Nat) (A R:Nat->Int):Calls prog 141 #[.slice a 0 cap] w fun e w'=>e = .returned (.bool (eD 0 A R))/\Below w.heap.size w w':=by
 rw [wK (⟨by omega,fun i h=>by omega,fun i h=>by omega,fun i h=>by omega⟩:bN 0 A R)]
 go_enter func141,ntmps141
 go_wp2
 go_loopw [3,11] (fun _ i wr=>i = .int .i64 0/\Below w.heap.size w wr) (fun _ _ _=>0)
 case atStart=>exact ⟨rfl,aa _ _⟩
 case round =>
  obtain ⟨rfl,hb⟩:=hrel;go_wp2
  go_ret
  exact ⟨rfl,hb⟩
theorem Rq (w:World) (a:Option Addr) (n cap:Nat) (h:64 < n) (A R:Nat->Int):Calls prog 141 #[.slice a n cap] w fun e w'=>e = .returned (.bool (eD n A R))/\Below w.heap.size w w':=by
 rw [Ab (fun g:bN n A R=>by have:=g.len;omega)]
 go_enter func141,ntmps141
 go_wp2
 go_ret
 exact ⟨rfl,aa _ _⟩
theorem Tw (w:World) (b off n cap:Nat) (h:n<=64) (A R:Nat->Int)
 (hc:∀ i,i < n->w.cell? ⟨b,off+i * 2,none⟩=some (.int .i64 (A i))/\w.cell? ⟨b,off+i * 2+1,none⟩=some (.int .i64 (R i))) :
 Calls prog 141 #[.slice (some ⟨b,off,none⟩) n cap] w fun e w'=>e = .returned (.bool (eD n A R))/\Below w.heap.size w w':=by
 have HC:=Hh hc;clear hc
 go_enter func141,ntmps141
 go_wp2
 go_loopw [3,11] (fun a i wr=>∃ k:Nat,k<=n/\i = .int .i64 k/\a = .int .i64 (prev A k)/\kX A R k/\Below w.heap.size w wr) (fun _ i _=>n - (intOf i).toNat)
 case atStart=>exact ⟨0,cg _,rfl,rfl,kX.zero A R,aa _ _⟩
 case round =>
  obtain ⟨k,hk,rfl,rfl,hg,hb⟩:=hrel
  by_cases hlt:k < n
  ·obtain ⟨c1,c2⟩:=HC k hlt
   have d1:=iI hb c1;have d2:=iI hb c2;clear c1 c2
   by_cases h1:A k<=prev A k
   ·go_wp2
    go_ret
    exact ⟨aC (bad hlt (.inl h1)).symm,hb.alloc hb.size _⟩
   ·by_cases h2:4294967296 < A k
    ·go_wp2
     go_ret
     exact ⟨aC (bad hlt (.inr (.inl h2))).symm,hb.alloc hb.size _⟩
    ·by_cases h3:R k < -20000
     ·go_wp2
      go_ret
      exact ⟨aC (bad hlt (.inr (.inr (.inl h3)))).symm,hb.alloc hb.size _⟩
     ·by_cases h4:20000 < R k
      ·go_wp2
       go_ret
       exact ⟨aC (bad hlt (.inr (.inr (.inr h4)))).symm,hb.alloc hb.size _⟩
      ·go_wp2
       go_roundw
       case rel=>exact ⟨k+1,by omega,by go_num,rfl,hg.step h1 h2 h3 h4,hb.alloc hb.size _⟩
       case measure=>simp [intOf];omega
  ·obtain rfl:k=n:=by omega
   go_wp2
   go_ret
   exact ⟨aC (wK (hg.all h)).symm,hb⟩
theorem bJ (w:World) (v:Value) (n:Nat) (A R:Nat->Int) (h:Steps w v n A R):Calls prog 141 #[v] w fun e w'=>e = .returned (.bool (eD n A R))/\Below w.heap.size w w':=by
 rcases h with ⟨a,cap,rfl,_,rfl⟩ | ⟨b,off,cap,rfl,_,_,hc⟩
 ·exact vR w a cap A R
 ·by_cases hn:n<=64
  ·exact Tw w b off n cap hn A R hc
  ·exact Rq w _ n cap (by omega) A R
end Tk
namespace Bu
open Tk (bN bJ)
def nX (p:Nat->Bool) (n:Nat):Bool:=(List.range n).any p
variable {p:Nat->Bool} {n k:Nat}
theorem yU (hk:k < n) (h:p k=true):nX p n=true:=dT.2 ⟨k,List.mem_range.2 hk,h⟩
theorem yM (h:∀ j,j < n->p j=false):nX p n=false:=List.any_eq_false.2 fun j hj=>by rw [h j (List.mem_range.1 hj)];exact dr
def yh (w:World) (b:Bool) (e:Ending) (w':World):Prop:=∃ r:Int,e = .returned (.int .i64 r)/\decide (0<=r)=b/\Below w.heap.size w w'
variable {w w':World} {b:Bool}
theorem Og (h:b=true) (hb:Below w.heap.size w w'):yh w b (.returned (.int .i64 k)) w':=⟨k,rfl,by rw [h];simp,hb⟩
theorem WH (h:b=false) (hb:Below w.heap.size w w'):yh w b (.returned (.int .i64 (-1))) w':=⟨-1,rfl,by rw [h];decide,hb⟩
theorem KF (w:World) (v:Value) (n:Nat) (A R:Nat->Int) (S:Tk.Steps w v n A R) (g:Nat) (p:Nat->Bool) (eg:∀ args w,(callFunc g args).run prog w = .ok (.enter g args) w)
 (hp:∀ W i,i < n->Calls prog g #[.agg #[.int .i64 (A i),.int .i64 (R i)]] W fun e w'=>e = .returned (.bool (p i))/\Below W.heap.size W w') :
 Calls prog 171 #[v,.func (.func g) #[] #[]] w (yh w (nX p n)):=by
 obtain ⟨a,cap,rfl,hm1,hm⟩:=qV S;have ST:=Hh (fun hp=>(Un S hp).2);have HP:=Hh hp;have YES:Hid (∀ k,k < n->p k=true->nX p n=true):=Hh (fun k hk h=>yU hk h);have NO:Hid ((∀ j,j < n->p j=false)->nX p n=false):=Hh (fun h=>yM h);clear S hp;generalize nX p n=q at *;unfold maxLen at hm
 go_enter func171,ntmps171
 go_wp2
 go_loopw [8] (fun i wr=>∃ k:Nat,k<=n/\i = .int .i64 k/\Hid (∀ j,j < k->p j=false)/\Hid (Below w.heap.size w wr)) (fun i _=>n - (intOf i).toNat)
 case atStart=>exact ⟨0,cg _,rfl,fun j hj=>by omega,aa _ _⟩
 case round =>
  obtain ⟨k,hk,rfl,hs,hb⟩:=hrel
  by_cases hlt:k < n
  ·obtain ⟨b,off,rfl,hA⟩:=ST (by omega)
   obtain ⟨c1,c2⟩:=hA k hlt;have HA:=Hh hA;clear hA;have d1:=iI hb c1;have d2:=iI hb c2;clear c1 c2;have hc:=HP.out wr k hlt
   cases hq:p k with
   | true =>
     rw [hq] at hc;have C:=Hh hc;have HR:=Hh (YES k hlt hq);clear hc hq;go_wp2_with fail;refine C.mono ?_;rintro e w1 ⟨rfl,b1⟩;have B1:=aW hb b1;clear b1;go_wp2
     go_ret
     exact Og HR B1
   | false =>
     rw [hq] at hc;have C:=Hh hc;have ST:Hid (∀ j,j < k+1->p j=false):=fun j hj=>by
      by_cases e:j=k
      ·rw [e];exact hq
      ·exact hs j (by omega)
     clear hc hq;go_wp2_with fail;refine C.mono ?_;rintro e w1 ⟨rfl,b1⟩;have B1:=aW hb b1;clear b1;go_wp2
     go_roundw
     case rel=>exact ⟨k+1,by omega,by go_num,ST,B1⟩
     case measure=>simp [intOf];omega
  ·obtain rfl:k=n:=by omega
   have HR:=Hh (NO hs);go_wp2
   go_ret
   exact WH HR hb
theorem Br (w:World) (v:Value) (n:Nat) (A R:Nat->Int) (S:Tk.Steps w v n A R) (g:Nat) (p:Nat->Bool) (eg:∀ args w,(callFunc g args).run prog w = .ok (.enter g args) w)
 (hp:∀ W i,i < n->Calls prog g #[.agg #[.int .i64 (A i),.int .i64 (R i)]] W fun e w'=>e = .returned (.bool (p i))/\Below W.heap.size W w') :
 Calls prog 142 #[v,.func (.func g) #[] #[]] w fun e w'=>e = .returned (.bool (nX p n))/\Below w.heap.size w w':=by
 have C:=Hh (KF w v n A R S g p eg hp);clear eg hp S;generalize nX p n=q at *
 go_enter func142,ntmps142
 go_wp2_with fail;refine C.mono ?_;rintro e w1 ⟨r,rfl,hr,b1⟩;have HR:=Hh hr;clear hr;go_wp2
 go_ret
 exact ⟨Tk.aC HR,b1⟩
theorem L6 (w:World) (v:Value) (O:List fO) (S:Ib w v O) (g:Nat) (lb:Array Value) (p:Nat->Bool) (eg:∀ args w,(callFunc g args).run prog w = .ok (.enter g args) w)
 (hp:∀ W i,i < O.length->Below w.heap.size w W->∀ u,Tk.Steps W u (lN O i).n (lN O i).A (lN O i).R->Calls prog g (#[u] ++ lb) W fun e w'=>e = .returned (.bool (p i))/\Below W.heap.size W w') :
 Calls prog 172 #[v,.func (.func g) #[] lb] w (yh w (nX p O.length)):=by
 have S0:=Hh S;obtain ⟨a,cap,rfl,hm1,hm⟩:=S.slice;have HP:=Hh hp;have YES:Hid (∀ k,k < O.length->p k=true->nX p O.length=true):=Hh (fun k hk h=>yU hk h);have NO:Hid ((∀ j,j < O.length->p j=false)->nX p O.length=false):=Hh (fun h=>yM h);clear S hp;generalize nX p O.length=q at *;unfold maxLen at hm;generalize hn:O.length=n at *;have HN:=Hh hn;clear hn
 go_enter func172,ntmps172
 go_wp2
 go_loopw [8] (fun i wr=>∃ k:Nat,k<=n/\i = .int .i64 k/\Hid (∀ j,j < k->p j=false)/\Hid (Below w.heap.size w wr)) (fun i _=>n - (intOf i).toNat)
 case atStart=>exact ⟨0,cg _,rfl,fun j hj=>by omega,aa _ _⟩
 case round =>
  obtain ⟨k,hk,rfl,hs,hb⟩:=hrel
  by_cases hlt:k < n
  ·obtain ⟨b,off,cp,a',cap',e1,c1,_,st⟩:=S0.one (k:=k) (by have:=HN.out;omega)
   rw [HN.out] at e1;injection e1 with e1 _ e2;subst e1 e2;have d1:=iI hb c1;have hc:=HP.out wr k hlt hb _ (st.below hb);clear c1 st;generalize (lN O k).n=m at *
   cases hq:p k with
   | true =>
     rw [hq] at hc;have C:=Hh hc;have HR:=Hh (YES k hlt hq);clear hc hq;go_wp2_with fail;refine C.mono ?_;rintro e w1 ⟨rfl,b1⟩;have B1:=aW hb b1;clear b1;go_wp2
     go_ret
     exact Og HR B1
   | false =>
     rw [hq] at hc;have C:=Hh hc;have ST:Hid (∀ j,j < k+1->p j=false):=fun j hj=>by
      by_cases e:j=k
      ·rw [e];exact hq
      ·exact hs j (by omega)
     clear hc hq;go_wp2_with fail;refine C.mono ?_;rintro e w1 ⟨rfl,b1⟩;have B1:=aW hb b1;clear b1;go_wp2
     go_roundw
     case rel=>exact ⟨k+1,by omega,by go_num,ST,B1⟩
     case measure=>simp [intOf];omega
  ·obtain rfl:k=n:=by omega
   have HR:=Hh (NO hs);go_wp2
   go_ret
   exact WH HR hb
theorem Bh (w:World) (v:Value) (O:List fO) (S:Ib w v O) (g:Nat) (lb:Array Value) (p:Nat->Bool) (eg:∀ args w,(callFunc g args).run prog w = .ok (.enter g args) w)
 (hp:∀ W i,i < O.length->Below w.heap.size w W->∀ u,Tk.Steps W u (lN O i).n (lN O i).A (lN O i).R->Calls prog g (#[u] ++ lb) W fun e w'=>e = .returned (.bool (p i))/\Below W.heap.size W w') :
 Calls prog 143 #[v,.func (.func g) #[] lb] w fun e w'=>e = .returned (.bool (nX p O.length))/\Below w.heap.size w w':=by
 have C:=Hh (L6 w v O S g lb p eg hp);clear eg hp S;generalize nX p O.length=q at *
 go_enter func143,ntmps143
 go_wp2_with fail;refine C.mono ?_;rintro e w1 ⟨r,rfl,hr,b1⟩;have HR:=Hh hr;clear hr;go_wp2
 go_ret
 exact ⟨Tk.aC HR,b1⟩
def pY (r:Int):Bool:=decide (r < -2000) || decide (2000 < r)
theorem VB (w:World) (a r:Int):Calls prog 139 #[.agg #[.int .i64 a,.int .i64 r]] w fun e w'=>e = .returned (.bool (pY r))/\Below w.heap.size w w':=by
 have HB:=Hh ((aa w.heap.size w).alloc (ac _) (.cells #[.int .i64 a,.int .i64 r] 162))
 by_cases h1:r < -2000
 ·have e:Hid (pY r=true):=Hh (by unfold pY;rw [bj h1];rfl)
  rw [e.out]
  go_enter func139,ntmps139
  go_wp2
  go_ret
  exact ⟨rfl,HB⟩
 ·have e:Hid (pY r=decide (2000 < r)):=Hh (by unfold pY;rw [ai h1];rfl)
  rw [e.out]
  go_enter func139,ntmps139
  go_wp2
  go_ret
  exact ⟨rfl,HB⟩
variable {o:fO}
theorem aaN (h:eD o.n o.A o.R=true):(!jY o)=nX (fun i=>pY (o.R i)) o.n:=by
 cases c:jY o with
 | true =>
   have g:=FW c;rw [yM fun j hj=>?_]
   ·rfl
   ·have:=g.bd j hj
    unfold pY;rw [ai (by omega),ai (by omega)]
    rfl
 | false =>
   cases q:nX (fun i=>pY (o.R i)) o.n with
   | true=>rfl
   | false =>
     exfalso
     have:jY o=true:=qy ⟨kW.1 h,by omega,fun i hi=>by
      have:=List.any_eq_false.1 q i (List.mem_range.2 hi);unfold pY at this;simp only [Bool.or_eq_true,cL,not_or] at this
      omega⟩
     rw [c] at this
     cases this
theorem Xi (h:eD o.n o.A o.R=false):(!jY o)=true:=by
 rw [Xp fun g=>by rw [Tk.wK g.good] at h;cases h]
 rfl
theorem unfit_any (w:World) (B:Nat) (hc:w.cell? ⟨B,0,none⟩=some (.func (.func 139) #[] #[])) (u:Value) (o:fO) (S:Tk.Steps w u o.n o.A o.R) :
 Calls prog 140 #[u,.pointer (some ⟨B,0,none⟩)] w fun e w'=>e = .returned (.bool (!jY o))/\Below w.heap.size w w':=by
 have eg:=enters_of func139 (by kernel_rfl) rfl;have GA:=Hh (bJ w u o.n o.A o.R S);have CA:=Hh (fun W b=>Br W u o.n o.A o.R (S.below (w':=W) b) 139 (fun i=>pY (o.R i)) eg fun W i _=>VB W (o.A i) (o.R i));obtain ⟨a,cap,rfl,_⟩:=qV S;clear S eg;have YES:=fun h=>aaN (o:=o) h;have NO:=fun h=>Xi (o:=o) h;generalize eD o.n o.A o.R=g at *;generalize nX (fun i=>pY (o.R i)) o.n=q at *;generalize (!jY o)=r at *
 cases g with
 | true =>
   have E:=Hh (YES rfl);clear YES NO
   go_enter func140,ntmps140
   go_wp2_with fail;refine GA.mono ?_;rintro e w1 ⟨rfl,b1⟩;have c1:=iI b1 hc;have C1:=Hh (CA w1 b1);have B1:=Hh b1;clear b1 CA GA hc;go_wp2_with fail;refine C1.mono ?_;rintro e w2 ⟨rfl,b2⟩;have B2:=aW B1 b2;clear b2;go_wp2
   go_ret
   exact ⟨Tk.aC E.symm,B2⟩
 | false =>
   have E:=Hh (NO rfl);clear YES NO
   go_enter func140,ntmps140
   go_wp2_with fail;refine GA.mono ?_;rintro e w1 ⟨rfl,b1⟩;have B1:=Hh b1;clear b1 CA GA hc;go_wp2
   go_ret
   exact ⟨Tk.aC E.symm,B1⟩
theorem Rm (O:List fO):(!nX (fun i=>!jY (lN O i)) O.length)=jy O:=by
 cases c:jy O with
 | true =>
   rw [yM fun j hj=>?_]
   ·rfl
   ·rw [qy (vV c _ (aad hj))];rfl
 | false =>
   obtain ⟨o,ho,hc⟩:=List.all_eq_false.1 c;obtain ⟨i,hi,rfl⟩:=dy ho;have e:lN O (i:Int)=O[i]:=by unfold lN;rw [ch,af,aq hi];rfl
   rw [yU (k:=i) hi (by rw [e];simpa using hc)]
   rfl
theorem Zh (w:World) (f:Nat) (t:TypeId):(w.alloc (.cells #[.func (.func f) #[] #[]] t)).cell? ⟨w.heap.size,0,none⟩=some (.func (.func f) #[] #[]):=by go_simp
theorem Hy (w:World) (v:Value) (O:List fO) (S:Ib w v O):Calls prog 116 #[v] w fun e w'=>e = .returned (.bool (jy O))/\Below w.heap.size w w':=by
 have eg:=enters_of func140 (by kernel_rfl) rfl;have b0:=(aa w.heap.size w).alloc (ac _) (.cells #[.func (.func 139) #[] #[]] 255);have c0:=Zh w 139 255;have CA:=Hh (Bh _ v O (S.below b0) 140 #[.pointer (some ⟨w.heap.size,0,none⟩)] (fun i=>!jY (lN O i)) eg fun W i _ hb u hu=>unfit_any W w.heap.size (iI hb c0) u (lN O i) hu);have B0:=Hh b0;obtain ⟨a,cap,rfl,_⟩:=S.slice;have E:=Hh (Rm O);clear b0 c0 eg S;generalize O.length=n at *;generalize nX (fun i=>!jY (lN O i)) n=q at *;have hst:∀ (W:World) (p:Addr),(store p (Value.func (Fn.func 139) #[] #[])).run prog W=stored prog W p (Value.func (Fn.func 139) #[] #[]) .plain:=fun W p=>run_store _ W p _ _ rfl
 go_enter func116,ntmps116
 go_wp2_with fail;refine CA.mono ?_;rintro e w1 ⟨rfl,b1⟩;have B1:=aW B0 b1;clear b1 CA;go_wp2
 go_ret
 exact ⟨Tk.aC E,B1⟩
end Bu
namespace Wi
open Go.Shelf Go.Lib Go.Sort Go.Proofs.YtpepoackmcohlaaGreatDoor.Sp
def enc (x:S2):List Value:=[.int .i64 x.1,.int .i64 x.2]
def cf (x y:S2):Int:=Ko x.1 y.1
theorem Pb (x y:S2):ltOf cf x y=decide (x.1 < y.1):=by
 unfold ltOf cf Ko
 by_cases h1:x.1 < y.1
 ·simp [h1]
 ·by_cases h2:y.1 < x.1 <;> simp [h1,h2]
theorem swo:SWO (ltOf cf) where
 irrefl x:=by rw [Pb];simp
 trans x y z h1 h2:=by rw [Pb] at *;simp at *;omega
 ntrans x y z h1 h2:=by rw [Pb] at *;simp at *;omega
theorem AM (x y:S2) (W:World):Calls prog 205 #[.agg #[.int .i64 x.1,.int .i64 x.2],.agg #[.int .i64 y.1,.int .i64 y.2]] W fun e w'=>e = .returned (.int .i64 (cf x y))/\∃ q os',w'=grow (W.drewN q) os':=by
 have hcon:=fun W'=>Iq W' x.1 y.1;have HC:=Hh hcon;clear hcon;unfold cf;generalize Ko x.1 y.1=r at HC ⊢
 go_enter func205,ntmps205
 go_wp2_with (go_at_call 206;refine (HC _).mono ?_;rintro e w' ⟨rfl,rfl⟩)
 go_ret
 exact ⟨rfl,0,_,by rw [alloc_eq_grow,alloc_eq_grow,grow_grow];rfl⟩
theorem lays (blk off size:Nat) (w:World):CmpLays prog 205 #[] enc 2 cf blk off size w:=fun _ _ _ _ x y=>AM x y _
theorem VO (l:List S2) (i:Nat):l.toArray[i]! = (fr l i,tp l i):=by
 by_cases h:i < l.length
 ·rw [getElem!_pos l.toArray i (by simpa using h)]
  simp [fr,tp,h]
 ·rw [getElem!_neg l.toArray i (by simpa using h)]
  simp [fr,tp,h]
  rfl
variable {w W:World} {g B m cap i j k B' E:Nat} {l x y x':List S2}
theorem holds_of (h:∀ i,i < l.length->w.cell? ⟨g,i * 2,none⟩=some (.int .i64 (fr l i))/\w.cell? ⟨g,i * 2+1,none⟩=some (.int .i64 (tp l i))/\w.frozen? ⟨g,i * 2,none⟩=false/\w.frozen? ⟨g,i * 2+1,none⟩=false) :
 HoldsK enc 2 w g 0 l.toArray:=by
 intro j hj
 have hj':j < l.length * 2:=by simpa using hj
 obtain ⟨c0,c1,f0,f1⟩:=h (j / 2) (by omega);rw [get_flatK enc 2 l.toArray j (by simpa using hj'),VO]
 rcases (by omega:j % 2=0\/j % 2=1) with e | e
 ·have ej:0+j=j / 2 * 2:=by omega
  rw [ej,e];exact ⟨c0,f0⟩
 ·have ej:0+j=j / 2 * 2+1:=by omega
  rw [ej,e];exact ⟨c1,f1⟩
def zN (W:World) (B:Nat) (v:Value) (x:List S2) (w':World):Prop :=
 ∃ x',Sp w' v x'/\x'.length=x.length/\(∀ s,s∈x'↔s∈x)/\(∀ i j,i<=j->j < x'.length->fr x' i<=fr x' j)/\Below B W w'
theorem GI (hB:B<=g) (hg:g < W.heap.size) (d:Array S2) (os:Array Obj):Below B W (sortWorldK enc 2 W g 0 m d os):=by
 refine ⟨rfl,rfl,rfl,?_,fun k hk=>?_⟩
 ·show W.heap.size<=((W.heap.modify g _) ++ os).size
  simp
 ·show ((W.heap.modify g _) ++ os)[k]? = _
  rw [Array.getElem?_append_left (by simp;omega),Array.getElem?_modify,am (by omega)]
theorem Py {d':Array S2} {os:Array Obj} (hB:B<=g) (hg:g < W.heap.size) (h1:x.length<=cap) (h2:cap<=maxLen) (hH:HoldsK enc 2 W g 0 x.toArray)
 (hp:PermIn 0 x.toArray.size x.toArray d') (hs:SortedIn (ltOf cf) 0 x.toArray.size d'):zN W B (.slice (some ⟨g,0,none⟩) x.length cap) x (sortWorldK enc 2 W g 0 m d' os):=by
 obtain ⟨hsz,_,hperm⟩:=hp;have hlen:d'.toList.length=x.length:=by simpa using hsz
 have hperm':d'.toList.Perm x:=by
  have e1:d'.extract 0 x.toArray.size=d':=by rw [← hsz];simp
  have e2:x.toArray.extract 0 x.toArray.size=x.toArray:=by simp
  rw [e1,e2] at hperm
  simpa using hperm
 have hH':HoldsK enc 2 (sortWorldK enc 2 W g 0 m d' os) g 0 d':=by
  unfold sortWorldK;refine holdsK_grow _ _ _ _ _ _ _ (by show g < (putRowK enc 2 (Sort.ahead W m) g 0 d').heap.size;rw [size_putRowK];exact hg) ?_;exact holdsK_putRowK enc 2 (Sort.ahead W m) g 0 x.toArray d' hH hsz
 have hsz':d'.size=x.length:=by simpa using hsz
 have hget:∀ i,i < x.length->d'[i]! = (fr d'.toList i,tp d'.toList i):=fun i hi=>by
  have:=VO d'.toList i
  simpa using this
 refine ⟨d'.toList,⟨some ⟨g,0,none⟩,cap,by rw [hlen],by rw [hlen];exact h1,h2,fun _=>⟨g,0,rfl,fun i hi=>?_⟩⟩,hlen,fun s=>hperm'.mem_iff,fun i j hij hj=>?_,GI hB hg _ _⟩
 ·rw [hlen] at hi
  have c0:=(hH'.cell (i:=i) (c:=0) (by omega) (by omega)).1;have c1:=(hH'.cell (i:=i) (c:=1) (by omega) (by omega)).1;rw [hget i hi] at c0 c1;exact ⟨c0,c1⟩
 ·rw [hlen] at hj
  rcases gC i j with c | c
  ·have:=hs i j (by omega) c (by simpa using hj)
   rw [Pb,hget i (by omega),hget j hj] at this
   simp at this
   exact this
  ·rw [show i=j by omega]
   exact gc _
theorem Qc (W:World) (B:Nat) (v:Value) (x:List S2) (hown:Sp.Own W B 297 v x) (h0:0 < x.length) (hlen:x.length < 1099511627776) :
 Calls prog 204 #[v,.func (.func 205) #[] #[]] W fun e w'=>e = .returned (.tuple #[])/\zN W B v x w':=by
 obtain ⟨g,cap,rfl,hB,hg,h1,h2,_,hc⟩:=hown.form h0;have eg:=enters_of func205 (by kernel_rfl) rfl;have hH:=holds_of hc;have hcon:=AnyQ.slices_SortFunc Wi.sortFunc 2 isAgg297 sizeOf297 enc (fun _=>rfl) (fun x v hv=>by simp [enc] at hv;rcases hv with rfl | rfl <;> rfl) cf swo 205 #[] g 0 cap x.toArray W eg (lays g 0 x.toArray.size W) hH hg (by simp;omega)
 change Calls prog 204 _ _ _ at hcon
 refine hcon.mono ?_;rintro e w' ⟨rfl,d',n,os,hp,hs,rfl⟩;exact ⟨rfl,Py hB hg h1 h2 hH hp hs⟩
theorem VT (W:World) (B:Nat) (v:Value) (x:List S2) (hown:Sp.Own W B 297 v x) (hlen:x.length < 1099511627776) :
 Calls prog 204 #[v,.func (.func 205) #[] #[]] W fun e w'=>e = .returned (.tuple #[])/\zN W B v x w':=by
 rcases Nat.eq_zero_or_pos x.length with z | z
 ·have hsp:=hown.sp
  obtain ⟨a,cap,rfl,_⟩:=hown.slice;have hcon:=AnyF.slices_SortFunc_none (ρ:=Wi.sortFunc_ren) Wi.sortFunc a cap (.func (.func 205) #[] #[]) W
  change Calls prog 204 _ _ _ at hcon
  rw [z];refine hcon.mono ?_;rintro e w' ⟨rfl,rfl⟩;have e:=eI.1 z;subst e;exact ⟨rfl,[],hsp,rfl,fun s=>Iff.rfl,fun i j _ h=>by simp at h,aa _ _⟩
 ·exact Qc W B v x hown z hlen
def Rows (w:World) (v:Value) (ls:List (List S2)):Prop:=∃ a cap,v = .slice a ls.length cap/\ls.length<=cap/\cap<=maxLen/\(0 < ls.length->∃ b off,a=some ⟨b,off,none⟩/\∀ i,i < ls.length->∃ u,w.cell? ⟨b,off+i,none⟩=some u/\Sp w u (ls.getD i []))
def tot (ls:List (List S2)):Nat->Nat
 | 0=>0
 | k+1=>tot ls k+(ls.getD k []).length
theorem XG (ls:List (List S2)) (h:i<=j):tot ls i<=tot ls j:=by
 induction j with
 | zero=>rw [show i=0 by omega];exact ac _
 | succ j ih =>
   by_cases e:i=j+1
   ·rw [e];exact ac _
   ·have:=ih (by omega)
    show tot ls i<=tot ls j+_
    omega
structure Acc (ls:List (List S2)) (k j:Nat) (x:List S2):Prop where
 ticks:∀ s∈x,s.1 < s.2
 low:∀ t,jK x t↔(∃ i,i < k/\jK (ls.getD i []) t)\/jK ((ls.getD k []).take j) t
 len:x.length<=tot ls k+j
theorem Acc.zero (ls:List (List S2)):Acc ls 0 0 []:=⟨fun s h=>by simp at h,fun t=>by
 constructor
 ·exact fun h=>absurd h j5
 ·rintro (⟨i,h,_⟩ | h)
  ·omega
  ·simp at h;exact h,by simp⟩
variable {ls:List (List S2)}
theorem Acc.push (h:Acc ls k j x) (hj:j < (ls.getD k []).length) (ht:fr (ls.getD k []) j < tp (ls.getD k []) j):Acc ls k (j+1) (x ++ [(fr (ls.getD k []) j,tp (ls.getD k []) j)]):=by
 refine ⟨fun s hs=>?_,fun t=>?_,by have:=h.len;simp;omega⟩
 ·rcases eM.1 hs with c | c
  ·exact h.ticks s c
  ·simp at c;subst c;exact ht
 ·rw [gq,h.low,mZ hj,gq,or_assoc]
theorem Acc.skip (h:Acc ls k j x) (hj:j < (ls.getD k []).length) (ht:¬ fr (ls.getD k []) j < tp (ls.getD k []) j):Acc ls k (j+1) x:=by
 refine ⟨h.ticks,fun t=>?_,by have:=h.len;omega⟩;rw [h.low,mZ hj,gq,qm]
 constructor
 ·rintro (c | c)
  ·exact .inl c
  ·exact .inr (.inl c)
 ·rintro (c | c | c)
  ·exact .inl c
  ·exact .inr c
  ·have c1:=c.1;have c2:=c.2;simp at c1 c2;omega
theorem Acc.next (h:Acc ls k (ls.getD k []).length x):Acc ls (k+1) 0 x:=by
 refine ⟨h.ticks,fun t=>?_,by have:=h.len;show x.length<=tot ls k+_+0;omega⟩;rw [h.low,cW]
 constructor
 ·rintro (⟨i,hi,c⟩ | c)
  ·exact .inl ⟨i,by omega,c⟩
  ·exact .inl ⟨k,by omega,c⟩
 ·rintro (⟨i,hi,c⟩ | c)
  ·by_cases e:i=k
   ·subst e;exact .inr c
   ·exact .inl ⟨i,by omega,c⟩
  ·simp at c;exact absurd c j5
structure Fh (ls:List (List S2)) (x:List S2):Prop where
 zL:rM x
 low:∀ t,jK x t↔∃ i,i < ls.length/\jK (ls.getD i []) t
 len:x.length<=tot ls ls.length
theorem YT (h:∀ s,s∈x↔s∈y) (t:Int):jK x t↔jK y t:=⟨fun ⟨s,a,b⟩=>⟨s,(h s).1 a,b⟩,fun ⟨s,a,b⟩=>⟨s,(h s).2 a,b⟩⟩
theorem Fh.of (h:Acc ls ls.length 0 x) (hl:x'.length=x.length) (hm:∀ s,s∈x'↔s∈x) (hu:∀ i j,i<=j->j < x'.length->fr x' i<=fr x' j):Fh ls x':=by
 refine ⟨⟨fun i hi=>h.ticks _ ((hm _).1 (wE hi)),hu⟩,fun t=>?_,by have:=h.len;omega⟩;rw [YT hm,h.low]
 constructor
 ·rintro (c | c)
  ·exact c
  ·simp at c;exact absurd c j5
 ·exact .inl
def Gives (w:World) (P:List S2->Prop) (e:Ending) (w':World):Prop:=∃ v x,e = .returned v/\Sp w' v x/\P x/\Below w.heap.size w w'
def S9 (w:World) (ls:List (List S2)) (v:Value) (k j:Nat) (wr:World):Prop:=∃ x,Sp.Own wr w.heap.size 297 v x/\Acc ls k j x/\Below w.heap.size w wr
theorem qP (w:World) (v:Value) (ls:List (List S2)) (h:Rows w v ls) (hlen:tot ls ls.length < 1099511627776):Calls prog 174 #[v] w (Gives w (Fh ls)):=by
 obtain ⟨a,cap,rfl,h1,h2,h3⟩:=h;have H3:=Hh h3;have HT:=Hh hlen;clear h3 hlen;generalize hn:ls.length=n at *;have HN:=Hh hn;clear hn;unfold maxLen at h2
 go_enter func174,ntmps174
 go_wp2
 go_loopw [3,10] (fun v i wr=>∃ k:Nat,k<=n/\i = .int .i64 k/\S9 w ls v k 0 wr) (fun _ i _=>n - (intOf i).toNat)
 case atStart=>exact ⟨0,cg _,rfl,[],Sp.Own.nil _ _ _,Acc.zero ls,aa _ _⟩
 case round =>
  obtain ⟨k,hk,rfl,x,hown,hacc,hb⟩:=hrel;have HA:=Hh hacc;clear hacc
  by_cases hlt:k < n
  ·obtain ⟨b,off,rfl,hrows⟩:=H3 (by omega)
   obtain ⟨u,c1,hu⟩:=hrows k (by have:=HN.out;omega);have HR:=Hh hrows;clear hrows;have d1:=iI hb c1;clear c1;obtain ⟨ra,rcap,rfl,r1,r2,r3⟩:=hu;have R3:=Hh r3;clear r3;generalize hm:(ls.getD k []).length=m at *;have HM:=Hh hm;clear hm;unfold maxLen at r2;obtain ⟨wo,rfl⟩:∃ wo:World,wo=wr:=⟨_,rfl⟩;have hw:S9 w ls _ k 0 wo:=⟨x,hown,HA,hb⟩;have HW:=Hh hw;clear hw hown hb;have TB:Hid (tot ls k+m<=1099511627775):=by
    have e:=XG ls (show k+1<=ls.length by have:=HN.out;omega);have e2:tot ls (k+1)=tot ls k+(ls.getD k []).length:=rfl;have:=HT.out;have:=HM.out;have:=HN.out
    show tot ls k+m<=1099511627775
    subst n
    omega
   go_wp2
   go_loopw [3,16] (fun v i wr=>∃ j:Nat,j<=m/\i = .int .i64 j/\S9 w ls v k j wr) (fun _ i _=>m - (intOf i).toNat)
   case atStart=>exact ⟨0,cg _,rfl,HW⟩
   case round =>
    obtain ⟨j,hj,rfl,y,hown,hacc,hb⟩:=hrel;have hB:=hb.size;have hyl:=hacc.len;have HAY:=Hh hacc;clear hacc
    by_cases hltj:j < m
    ·obtain ⟨b',off',rfl,hA⟩:=R3 (by omega)
     obtain ⟨c1,c2⟩:=hA j (by have:=HM.out;omega);have HAt:=Hh hA;clear hA;have e1:=iI hb c1;have e2:=iI hb c2;clear c1 c2
     by_cases ht:fr (ls.getD k []) j < tp (ls.getD k []) j
     ·have PU:=Hh (HAY.push (by have:=HM.out;omega) ht)
      generalize fr (ls.getD k []) j=p at *;generalize tp (ls.getD k []) j=q at *;have HT:=Hh ht;clear ht;go_wp2_with fail;refine (aM (bj HT.out) (BM _ _ _)).mono ?_;rintro e w1 ⟨rfl,b1⟩;have f1:w1.cell? ⟨wr.heap.size,0,none⟩=some (.int .i64 p):=(b1.cell (by simp)).trans (by go_simp);have f2:w1.cell? ⟨wr.heap.size,1,none⟩=some (.int .i64 q):=(b1.cell (by simp)).trans (by go_simp);have z1:=b1.size
      simp at z1
      have hown1:=(hown.alloc (.cells #[.int .i64 p,.int .i64 q] 297)).keep b1;have hb1:=(hb.alloc hB (.cells #[.int .i64 p,.int .i64 q] 297)).trans (b1.mono (B':=w.heap.size) (by simp;omega));clear hown hb b1
      go_wp2_with (at_builtin;refine eT rfl _ _ rfl w.heap.size _ _ rfl (hown1.alloc _) _ p q rfl ?c1 ?c2 ?c3 ?c4 ?_)
      case c1=>go_simp
      case c2=>go_simp
      case c3=>have:=TB.out;omega
      case c4=>simp;omega
      intro v' w2 hown2 hb2
      have R:S9 w ls v' k (j+1) w2:=⟨_,hown2,PU,(hb1.alloc (by omega) _).trans hb2⟩;clear hown2 hb2 hown1 hb1 f1 f2;go_wp2
      go_roundw
      case rel=>exact ⟨j+1,by omega,by go_num,R⟩
      case measure=>simp [intOf];omega
     ·have PU:=Hh (HAY.skip (by have:=HM.out;omega) ht)
      generalize fr (ls.getD k []) j=p at *;generalize tp (ls.getD k []) j=q at *;have HT:=Hh ht;clear ht;go_wp2_with fail;refine (aM (ai (show ¬ p < q by have:=HT.out;omega)) (BM _ _ _)).mono ?_;rintro e w1 ⟨rfl,b1⟩;have R:S9 w ls _ k (j+1) w1:=⟨_,(hown.alloc (.cells #[.int .i64 p,.int .i64 q] 297)).keep b1,PU,(hb.alloc hB (.cells #[.int .i64 p,.int .i64 q] 297)).trans (b1.mono (B':=w.heap.size) (by simp;omega))⟩;clear hown hb b1;go_wp2
      go_roundw
      case rel=>exact ⟨j+1,by omega,by go_num,R⟩
      case measure=>simp [intOf];omega
    ·obtain rfl:j=m:=by omega
     have R:S9 w ls _ (k+1) 0 wr:=⟨_,hown,(by have:=HAY.out;rw [← HM.out] at this;exact this.next),hb⟩;clear hown hb;go_wp2
     go_roundw
     case rel=>exact ⟨k+1,by omega,by go_num,R⟩
     case measure=>simp [intOf];omega
  ·obtain rfl:k=n:=by omega
   have hxl:x.length < 1099511627776:=by have:=HA.out.len;have:=HT.out;omega
   have hs:=VT wr w.heap.size _ x hown hxl;have HS:=Hh hs;clear hs;go_wp2_with fail;refine HS.mono ?_;rintro e w1 ⟨rfl,hst⟩;have ST:=Hh hst;clear hst;go_wp2
   go_ret
   obtain ⟨x',s1,s2,s3,s4,s5⟩:=ST;exact ⟨_,x',rfl,s1,Fh.of (by rw [HN.out];exact HA.out) s2 s3 s4,hb.trans s5⟩
structure vT (ls:List (List S2)) (l:List S2):Prop where
 plain:Plain l
 low:∀ t,jK l t↔∃ i,i < ls.length/\jK (ls.getD i []) t
 len:l.length<=tot ls ls.length
structure KM (w w1:World) (S:List S2) (v:Value) (k:Nat) (l:List S2) (wr:World):Prop where
 own:Sp.Own wr w1.heap.size 297 v l
 inv:iQ S k l
 len:l.length<=k
 afv:Below w1.heap.size w1 wr
 aI:Below w.heap.size w w1
theorem l7 {v:Value} (h:Sp.Own w B E v l) (hB:B'<=B):Sp.Own w B' E v l:=by
 obtain ⟨h1,h2⟩:=h;refine ⟨h1,?_⟩
 rcases h2 with h2 | ⟨g,cap,cur,e,hg,r⟩
 ·exact .inl h2
 ·exact .inr ⟨g,cap,cur,e,by omega,r⟩
theorem Nb (h:l.length=m+1):l=l.take m ++ [(fr l m,tp l m)]:=by
 have e:=mZ (S:=l) (k:=m) (by omega);rw [← e,← h,cW]
theorem XQ (h:l.length=m+1) (x:Int):l.set m (fr l m,x)=l.take m ++ [(fr l m,x)]:=by
 have e:=Nb h;have hm:(l.take m).length=m:=by simp;omega
 generalize fr l m=p at *;generalize tp l m=q at *;generalize l.take m=t at *;subst e;rw [gk _ _ (by omega),hm]
 simp
theorem KM.push {w w1 wr w2:World} {S l:List S2} {v v':Value} {k:Nat} (h:KM w w1 S v k l wr) (hS:rM S) (hk:k < S.length) (hl:l = []\/zo l < fr S k) (hown:Sp.Own w2 w1.heap.size 297 v' (l ++ [(fr S k,tp S k)])) (hb:Below w1.heap.size w1 w2):KM w w1 S v' (k+1) (l ++ [(fr S k,tp S k)]) w2:=by
 refine ⟨hown,h.inv.push hS hk fun x hx=>?_,by have:=h.len;simp;omega,hb,h.aI⟩
 rcases hl with e | e
 ·rw [e] at hx;simp at hx
 ·have:=Aw h.inv.plain x hx;omega
theorem KM.grow {w w1 wr w2:World} {S l:List S2} {v:Value} {k m:Nat} (h:KM w w1 S v k l wr) (hk:k < S.length) (hm:l.length=m+1) (hl:fr S k<=tp l m) (hown:Sp.Own w2 w1.heap.size 297 v (l.set m (fr l m,max (tp l m) (tp S k)))) (hb:Below w1.heap.size w1 w2):KM w w1 S v (k+1) (l.set m (fr l m,max (tp l m) (tp S k))) w2:=by
 refine ⟨hown,?_,by have:=h.len;simp;omega,hb,h.aI⟩;have e:=Nb hm;have inv:=h.inv;rw [e] at inv;have g:=inv.grow hk hl (max (tp l m) (tp S k)) (by omega);rw [XQ hm];exact g
theorem mV (w:World) (v:Value) (ls:List (List S2)) (h:Rows w v ls) (hlen:tot ls ls.length < 1099511627776):Calls prog 145 #[v] w (Made w (vT ls)):=by
 have hs:=qP w v ls h hlen;have HS:=Hh hs;obtain ⟨a,cap,rfl,_,_,_⟩:=h;have HT:=Hh hlen;clear hs hlen;generalize hn:ls.length=n at *;have HN:=Hh hn;clear hn
 go_enter func145,ntmps145
 go_wp2_with fail;refine HS.mono ?_;rintro e w1 ⟨v1,S,rfl,hSp,hSo,hb0⟩;obtain ⟨a1,cap1,rfl,r1,r2,r3⟩:=hSp;have R3:=Hh r3;have SO:=Hh hSo;clear r3 hSo;generalize hm:S.length=n1 at *;have HM:=Hh hm;clear hm;unfold maxLen at r2;have hz0:=hb0.size;go_wp2
 go_loopw [3,10] (fun v i wr=>∃ (k:Nat) (l:List S2),k<=n1/\i = .int .i64 k/\KM w w1 S v k l wr) (fun _ i _=>n1 - (intOf i).toNat)
 case atStart=>exact ⟨0,[],cg _,rfl,Sp.Own.nil _ _ _,iQ.zero S,by simp,aa _ _,hb0⟩
 case round =>
  obtain ⟨k,l,hk,rfl,hR⟩:=hrel;have HR:=Hh hR;have hb:=hR.afv;have hB:=hb.size;have hlk:=hR.len;clear hR
  by_cases hlt:k < n1
  ·obtain ⟨b,off,rfl,hA⟩:=R3 (by omega)
   obtain ⟨c1,c2⟩:=hA k (by have:=HM.out;omega);have HA:=Hh hA;clear hA;have d1:=iI hb c1;have d2:=iI hb c2;clear c1 c2;have TB:Hid (l.length < 1099511627776):=by
    have:=SO.len;have:=HT.out;have:=HM.out;have:=HN.out
    show l.length < 1099511627776
    subst n
    omega
   rcases Nat.eq_zero_or_pos l.length with z | z
   ·have NX:=fun v' w2 (h1:Sp.Own w2 w1.heap.size 297 v' (l ++ [(fr S k,tp S k)])) (h2:Below w1.heap.size w1 w2)=>HR.push SO.zL (by have:=HM.out;omega) (.inl (eI.1 z)) h1 h2
    have NX:=Hh NX;obtain ⟨a3,cap3,rfl,_,_⟩:=HR.own.slice;generalize hl:l.length=len at *;have HL:=Hh hl;clear hl;subst z;generalize hp:fr S k=p at *;generalize hq:tp S k=q at *;go_wp2
    go_quiet (fail)
    have hown:=((HR.own.alloc (.cells #[.int .i64 p,.int .i64 q] 297)).draw nq)
    go_wp2_with (at_builtin;refine eT rfl _ _ rfl w1.heap.size _ _ rfl (hown.alloc _) _ p q rfl ?c1 ?c2 ?c3 ?c4 ?_)
    case c1=>go_simp
    case c2=>go_simp
    case c3=>have:=HL.out;omega
    case c4=>simp;omega
    intro v' w2 hown2 hb2
    have R:=NX.out v' w2 hown2 ((da (hb.alloc hB _) nq).alloc (by simp;omega) _ |>.trans hb2);clear hown2 hb2 hown;go_wp2
    go_roundw
    case rel=>exact ⟨k+1,_,by omega,by go_num,R⟩
    case measure=>simp [intOf];omega
   ·obtain ⟨m,hm1⟩:∃ m,l.length=m+1:=⟨l.length - 1,by omega⟩
    obtain ⟨g,cap3,rfl,g1,g2,_,_,_,hcells⟩:=HR.own.form z;obtain ⟨e0,e1,_,f1⟩:=hcells m (by omega);clear hcells z;have hlc:zo l=tp l m:=by rw [I8 l (by omega),hm1];rfl
    by_cases hle:fr S k<=tp l m
    ·have NX:=fun w2 h1 h2=>HR.grow (w2:=w2) (by have:=HM.out;omega) hm1 hle h1 h2
     have NX:=Hh NX;have OW:=Hh HR.own;have ST:=Hh (fun (W:World) (h:Sp.Own W w1.heap.size 297 (.slice (some ⟨g,0,none⟩) l.length cap3) l)=>h.set m (by omega) (max (tp l m) (tp S k)));generalize hl:l.length=len at *;have HL:=Hh hl;clear hl;subst hm1;clear hlc;generalize hp:fr S k=p at *;generalize hq:tp S k=q at *;generalize hp':fr l m=p' at *;generalize hq':tp l m=q' at *;go_wp2
     go_quiet (fail)
     go_wp2;have x0:((wr.alloc (.cells #[.int .i64 p,.int .i64 q] 297)).drewN nq).cell? ⟨wr.heap.size,1,none⟩=some (.int .i64 q):=by go_simp
     have x1:((wr.alloc (.cells #[.int .i64 p,.int .i64 q] 297)).drewN nq).cell? ⟨g,m * 2+1,none⟩=some (.int .i64 q'):=by go_simp
     have x2:((wr.alloc (.cells #[.int .i64 p,.int .i64 q] 297)).drewN nq).frozen? ⟨g,m * 2+1,none⟩=false:=by go_simp
     generalize hwq:(wr.alloc (.cells #[.int .i64 p,.int .i64 q] 297)).drewN nq=wq at x0 x1 x2 ⊢;have HWQ:=Hh hwq;clear hwq
     go_region
     have OQ:Hid (Sp.Own wq w1.heap.size 297 (.slice (some ⟨g,0,none⟩) (m+1) cap3) l):=by
      rw [← HWQ.out];exact (OW.alloc _).draw nq
     have BQ:Hid (Below w1.heap.size w1 wq):=by
      rw [← HWQ.out];exact da (hb.alloc hB _) nq
     have R:=NX.out _ (show Sp.Own ((wq.setCell ⟨g,m * 2+1,none⟩ (.int .i64 (max q' q))).drew) _ _ _ _ from ST wq OQ) ((BQ.setCell (p:=⟨g,m * 2+1,none⟩) g1 _).drew);have R':=Hh R;clear R x0 x1 x2;go_wp2
     go_roundw
     case rel=>exact ⟨k+1,_,by omega,by go_num,R'.out⟩
     case measure=>simp [intOf];omega
    ·have NX:=fun v' w2 (h1:Sp.Own w2 w1.heap.size 297 v' (l ++ [(fr S k,tp S k)])) (h2:Below w1.heap.size w1 w2)=>HR.push SO.zL (by have:=HM.out;omega) (.inr (by omega)) h1 h2
     have NX:=Hh NX;have OW:=Hh HR.own;generalize hl:l.length=len at *;have HL:=Hh hl;clear hl;subst hm1;clear hlc;generalize hp:fr S k=p at *;generalize hq:tp S k=q at *;generalize hq':tp l m=q' at *;go_wp2
     go_quiet (fail)
     have hown:=((OW.alloc (.cells #[.int .i64 p,.int .i64 q] 297)).draw nq)
     go_wp2_with (at_builtin;refine eT rfl _ _ rfl w1.heap.size _ _ rfl (hown.alloc _) _ p q rfl ?c1 ?c2 ?c3 ?c4 ?_)
     case c1=>go_simp
     case c2=>go_simp
     case c3=>have:=HL.out;have:=TB.out;omega
     case c4=>simp;omega
     intro v' w2 hown2 hb2
     have R:=NX.out v' w2 hown2 ((da (hb.alloc hB _) nq).alloc (by simp;omega) _ |>.trans hb2);clear hown2 hb2 hown;go_wp2
     go_roundw
     case rel=>exact ⟨k+1,_,by omega,by go_num,R⟩
     case measure=>simp [intOf];omega
  ·obtain rfl:k=n1:=by omega
   have inv:=HR.inv;rw [← HM.out] at inv;have al:=inv.all;have J:vT ls l:=⟨al.1,fun t=>(al.2 t).trans (SO.low t),by have:=SO.out.len;have:=HM.out;omega⟩;have JJ:=Hh J;have OW:=Hh (l7 HR.own hz0);have BB:=Hh (HR.aI.trans (hb.mono hz0));clear inv al J;go_wp2
   go_ret
   exact ⟨_,l,rfl,OW,JJ,BB⟩
end Wi
namespace Bu
open Sp (S2 fr tp Sp)
open Wi (Rows tot vT)
structure xI (w:World) (v:Value) (hs:List Hd) (ls:List (List S2)) (Q:Int->Prop) (k:Nat) (wr:World):Prop where
 own:Ow KS wr w.heap.size 213 v hs
 el:∀ i,i < hs.length->Sp.Own wr w.heap.size 297 (sl (hs.getD i zh)) (ls.getD i [])
 ll:ls.length=hs.length
 few:∀ i,i < ls.length->(ls.getD i []).length<=4294967297
 low:∀ u,(∃ i,i < ls.length/\jK (ls.getD i []) u)↔Q u
 len:hs.length<=k
 aI:Below w.heap.size w wr
section
variable {w wr w':World} {v v':Value} {hs:List Hd} {ls:List (List S2)} {Q Q':Int->Prop} {k:Nat}
theorem xI.start (w:World) (b:Below w.heap.size w wr) (hQ:∀ u,¬ Q u):xI w (.slice none 0 0) [] [] Q 0 wr :=
 ⟨Ow.nil _ _ _,fun _ hi=>absurd hi (fj _),rfl,fun _ hi=>absurd hi (fj _),fun u=>⟨fun ⟨_,hi,_⟩=>absurd hi (fj _),fun h=>absurd h (hQ u)⟩,ac _,b⟩
theorem xI.below (h:xI w v hs ls Q k wr) (b:Below wr.heap.size wr w'):xI w v hs ls Q k w':=⟨h.own.keep b,fun i hi=>(h.el i hi).keep b,h.ll,h.few,h.low,h.len,h.aI.trans (b.mono h.aI.size)⟩
theorem xI.to (h:xI w v hs ls Q k wr) (e:∀ u,Q' u↔Q u):xI w v hs ls Q' (k+1) wr:=⟨h.own,h.el,h.ll,h.few,fun u=>(h.low u).trans (e u).symm,Nat.le_succ_of_le h.len,h.aI⟩
variable {l x:List S2}
theorem De {B E B' E' n m:Nat} {f:List Value} (h:Sp.Own wr B E v l) (h':wr.ownsRow B' E' n v' m f) (hE:E≠E') (gr:wr.grownBy w' v'.ownBlock):Sp.Own w' B E v l:=by
 obtain ⟨h1,h2⟩:=h;refine ⟨h1,?_⟩
 rcases h2 with h2 | ⟨g,cap,cur,e,hB,hh,r⟩
 ·exact .inl h2
 ·refine .inr ⟨g,cap,cur,e,hB,(gr.block g (bm hh) fun q=>?_).trans hh,r⟩
  obtain ⟨_,h'⟩:=h'
  rcases h' with ⟨rfl,_⟩ | ⟨g',cap',cur',rfl,_,hh',_⟩
  ·cases q
  ·simp only [Value.ownBlock,eC] at q
   subst q;rw [hh] at hh';simp only [eC,Obj.cells.injEq] at hh';exact hE hh'.2.1
theorem kJ {α:Type} (l:List α) (x d:α) (i:Nat):(l ++ [x]).getD i d=if i < l.length then l.getD i d else if i=l.length then x else d:=by
 rw [af,List.getElem?_append]
 split
 ·rw [af]
 ·split
  ·rename_i h;subst h;simp
  ·rw [eA (by simp;omega)];rfl
theorem xI.push {h:Hd} (I:xI w v hs ls Q k wr) (o:Sp.Own wr w.heap.size 297 (sl h) l) (hf:l.length<=4294967297) (own:Ow KS w' w.heap.size 213 v' (hs ++ [h])) (gr:wr.grownBy w' v.ownBlock) (hQ:∀ u,Q' u↔Q u\/jK l u) :
 xI w v' (hs ++ [h]) (ls ++ [l]) Q' (k+1) w':=by
 refine ⟨own,fun i hi=>?_,by simp [I.ll],fun i hi=>?_,fun u=>?_,by simp;exact I.len,I.aI.grown gr I.aI.size fun j e=>(ci I.own j e).1⟩
 ·rw [kJ,kJ,I.ll]
  simp only [cI,go] at hi
  split
  ·rename_i q;exact De (I.el i q) I.own (by decide) gr
  ·rw [aw (by omega),aw (by omega)]
   exact De o I.own (by decide) gr
 ·rw [kJ]
  split
  ·rename_i q;exact I.few i q
  ·split
   ·exact hf
   ·exact cg _
 ·rw [hQ u,← I.low u]
  constructor
  ·rintro ⟨i,hi,c⟩
   rw [kJ] at c
   split at c
   ·rename_i q;exact .inl ⟨i,q,c⟩
   ·split at c
    ·exact .inr c
    ·exact absurd c j5
  ·rintro (⟨i,hi,c⟩ | c)
   ·exact ⟨i,by simp;omega,by rw [kJ,aw hi];exact c⟩
   ·exact ⟨ls.length,by simp,by rw [kJ,if_neg (Nat.lt_irrefl _),if_pos rfl];exact c⟩
theorem xI.rows (I:xI w v hs ls Q k wr):Wi.Rows wr v ls:=by
 obtain ⟨a,cap,e,h1,h2,h3⟩:=I.own.rd;rw [← I.ll] at e h1 h3;refine ⟨a,cap,e,h1.1,h2,fun hp=>?_⟩;obtain ⟨b,off,ea,hA⟩:=h3 hp;refine ⟨b,off,ea,fun i hi=>⟨_,?_,(I.el i (by rw [← I.ll];exact hi)).sp⟩⟩;have c:=hA i (by rw [← I.ll];exact hi) 0 _ rfl;simp only [KS,Nat.mul_one,Nat.add_zero] at c;exact c
theorem MV (ls:List (List S2)) (h:∀ i,i < ls.length->(ls.getD i []).length<=4294967297):∀ n,n<=ls.length->tot ls n<=n * 4294967297
 | 0,_=>ac _
 | n+1,hn=>by
   have:=MV ls h n (by omega);have:=h n (by omega)
   show tot ls n+_<=_
   omega
theorem xI.tot (I:xI w v hs ls Q k wr) (hk:k<=100):tot ls ls.length < 1099511627776:=by
 have:=MV ls I.few ls.length (ac _);have:=I.ll;have:=I.len
 omega
theorem xI.join (I:xI w v hs ls Q k wr) (j:vT ls x):Plain x/\∀ u,jK x u↔Q u:=⟨j.plain,fun u=>(j.low u).trans (I.low u)⟩
theorem xI.slice (I:xI w v hs ls Q k wr):∃ a cap,v = .slice a hs.length cap/\cap<=maxLen:=by
 obtain ⟨a,cap,e,_,h⟩:=I.own.slice;exact ⟨a,cap,e,h⟩
end
theorem yP:(prog.info? 213).map (fun i=>(i.zero,i.size,i.bytes))=some (some (.slice none 0 0),1,24):=by kernel_rfl
section
end
end Bu
namespace Tk
structure Bd (A R:Nat->Int) (n k:Nat):Prop where
 f0:0<=fr A k
 f1:fr A k<=4294967296
 r0 : -20000<=rt R k
 r1:rt R k<=20000
 s0:0<=sm A R k
 s1:sm A R k<=4380866641920
variable {A R:Nat->Int} {n:Nat}
theorem Bd.of (g:bN n A R) (k:Nat) (h:k<=n):0<=sm A R k/\sm A R k<=4380866641920000:=by
 have f:=abM g k h;have s:=abA g k h
 omega
theorem Lm (g:bN n A R) (k:Nat) (h:k<=n) (d:Int) (h0:0<=d) (h1:d<=4294967296):0<=d * (1000000+rt R k)/\d * (1000000+rt R k)<=4380866641920000:=by
 have b:=Jh g k h;have m:=LG (d:=d) (c:=1000000+rt R k) h0 (by omega) (by omega)
 omega
theorem Kk (w:World) (a:Option Addr) (cap:Nat) (t:Int) (h0:0<=t) (h1:t<=4294967296) (A R:Nat->Int):Calls prog 207 #[.slice a 0 cap,.int .i64 t] w fun e w'=>e = .returned (.int .i64 (PP A R 0 t))/\Below w.heap.size w w':=by
 have e:PP A R 0 t=t * 1000000:=by
  rw [sH (⟨ac _,fun i h=>by omega,fun h=>by omega⟩:gM A 0 t 0)]
  show 0+(t - 0) * (1000000+0)=_
  omega
 rw [e]
 go_enter func207,ntmps207
 go_wp2
 go_loopw [5,6,7,12] (fun s f r i wr=>i = .int .i64 0/\s = .int .i64 0/\f = .int .i64 0/\r = .int .i64 0/\Below w.heap.size w wr) (fun _ _ _ _ _=>0)
 case atStart=>exact ⟨rfl,rfl,rfl,rfl,aa _ _⟩
 case round =>
  obtain ⟨rfl,rfl,rfl,rfl,hb⟩:=hrel;go_wp2
  go_ret
  exact ⟨dh (by omega),hb⟩
theorem Kj (w:World) (b off n cap:Nat) (A R:Nat->Int) (g:bN n A R) (t:Int) (h0:0<=t) (h1:t<=4294967296)
 (hc:∀ i,i < n->w.cell? ⟨b,off+i * 2,none⟩=some (.int .i64 (A i))/\w.cell? ⟨b,off+i * 2+1,none⟩=some (.int .i64 (R i))) :
 Calls prog 207 #[.slice (some ⟨b,off,none⟩) n cap,.int .i64 t] w fun e w'=>e = .returned (.int .i64 (PP A R n t))/\Below w.heap.size w w':=by
 have HC:=Hh hc;clear hc;have G:=Hh g;clear g;have hn:=G.len
 go_enter func207,ntmps207
 go_wp2
 go_loopw [5,6,7,12] (fun s f r i wr=>∃ k:Nat,k<=n/\i = .int .i64 k/\s = .int .i64 (sm A R k)/\f = .int .i64 (fr A k)/\r = .int .i64 (rt R k)/\Hid (∀ i,i < k->A i < t)/\Below w.heap.size w wr) (fun _ _ _ i _=>n - (intOf i).toNat)
 case atStart=>exact ⟨0,cg _,rfl,rfl,rfl,rfl,fun i h=>by omega,aa _ _⟩
 case round =>
  obtain ⟨k,hk,rfl,rfl,rfl,rfl,hs,hb⟩:=hrel;have fb:=abM G k hk;have rb:=Jh G k hk;have sb:=Bd.of G k hk
  by_cases hlt:k < n
  ·obtain ⟨c1,c2⟩:=HC k hlt
   have d1:=iI hb c1;have d2:=iI hb c2;clear c1 c2;have ab:=G.at_ k hlt;have fa:=abf G k hlt;have mb:=Lm G k hk (A k - fr A k) (by omega) (by omega)
   by_cases ht:t<=A k
   ·have hst:gM A n t k:=⟨hk,hs,fun _=>ht⟩
    have ft:=EI h0 hst;have mc:=Lm G k hk (t - fr A k) (by omega) (by omega);have HP:=Hh (sH (R:=R) hst);clear hst;go_wp2
    go_ret
    exact ⟨dh (by rw [HP.out];rfl),hb.alloc hb.size _⟩
   ·go_wp2
    go_quiet (fail)
    go_wp2
    go_roundw
    case rel=>exact ⟨k+1,by omega,by go_num,rfl,rfl,rfl,(fun i hi=>by
     by_cases e:i=k
     ·subst e;omega
     ·exact hs i (by omega)),da (hb.alloc hb.size _) _⟩
    case measure=>simp [intOf];omega
  ·obtain rfl:k=n:=by omega
   have hst:gM A k t k:=⟨hk,hs,fun h=>by omega⟩;have ft:=EI h0 hst;have mc:=Lm G k hk (t - fr A k) (by omega) (by omega);have HP:=Hh (sH (R:=R) hst);clear hst;go_wp2
   go_ret
   exact ⟨dh (by rw [HP.out];rfl),hb⟩
theorem Cv (w:World) (v:Value) (n:Nat) (A R:Nat->Int) (h:Steps w v n A R) (g:bN n A R) (t:Int) (h0:0<=t) (h1:t<=4294967296) :
 Calls prog 207 #[v,.int .i64 t] w fun e w'=>e = .returned (.int .i64 (PP A R n t))/\Below w.heap.size w w':=by
 rcases h with ⟨a,cap,rfl,_,rfl⟩ | ⟨b,off,cap,rfl,_,_,hc⟩
 ·exact Kk w a cap t h0 h1 A R
 ·exact Kj w b off n cap A R g t h0 h1 hc
theorem vL (w:World) (v:Value) (n:Nat) (A R:Nat->Int) (h:Steps w v n A R) (g:bN n A R) (t:Int) :
 Calls prog 178 #[v,.int .i64 t] w fun e w'=>e = .returned (.int .i64 (Loc A R n t))/\Below w.heap.size w w':=by
 have G:=Hh g;clear g;have S:=Hh h;clear h
 by_cases ht:t<=0
 ·have e:Loc A R n t=0:=by
   have c:kR t=0:=by unfold kR;split <;> (try split) <;> omega
   rw [Loc,c,qA G.out];rfl
  have E:=Hh e;clear e
  go_enter func178,ntmps178
  go_wp2
  go_ret
  exact ⟨dh E.symm,aa _ _⟩
 ·by_cases hm:t<=4294967296
  ·have p:=Cv w v n A R S G t (by omega) hm
   have mn:=Int.min_eq_left hm;have pb:=C8 G t (by omega);have P:=Hh p;clear p;have e:Loc A R n t=PP A R n t / 1000000:=by rw [Loc,iw (by omega) hm]
   have E:=Hh e;clear e
   go_enter func178,ntmps178
   go_wp2_with fail;refine P.mono ?_;rintro e w' ⟨rfl,hb⟩;go_wp2
   go_ret
   exact ⟨dh E.symm,hb⟩
  ·have p:=Cv w v n A R S G 4294967296 (by omega) (by omega)
   have mn:min t 4294967296=4294967296:=by omega
   have pb:=C8 G 4294967296 (by omega);have P:=Hh p;clear p;have e:Loc A R n t=PP A R n 4294967296 / 1000000:=by
    have c:kR t=4294967296:=by unfold kR;split <;> (try split) <;> omega
    rw [Loc,c]
   have E:=Hh e;clear e
   go_enter func178,ntmps178
   go_wp2_with fail;refine P.mono ?_;rintro e w' ⟨rfl,hb⟩;go_wp2
   go_ret
   exact ⟨dh E.symm,hb⟩
theorem Steps.drew {w:World} {v:Value} {n:Nat} {A R:Nat->Int} (h:Steps w v n A R):Steps w.drew v n A R:=h.below (aa _ _).drew
theorem AM (w:World) (bl bn:Nat) (v:Value) (n:Nat) (A R:Nat->Int) (m t:Int) (S:Steps w v n A R) (g:bN n A R)
 (hl:w.cell? ⟨bl,0,none⟩=some v) (hn:w.cell? ⟨bn,0,none⟩=some (.int .i64 m)) :
 Calls prog 177 (#[.int .i64 t] ++ #[.pointer (some ⟨bl,0,none⟩),.pointer (some ⟨bn,0,none⟩)]) w fun e w'=>e = .returned (.bool (decide (m<=Loc A R n t)))/\Below w.heap.size w w':=by
 have LC:Hid (∀ W,Below w.heap.size w W->Calls prog 178 #[v,.int .i64 t] W fun e w'=>e = .returned (.int .i64 (Loc A R n t))/\Below W.heap.size W w'):=fun W hW=>vL W v n A R (S.below hW) g t;have hlt:=bo _ _ hn;clear S g
 go_enter func177,ntmps177
 go_wp2_with fail
 go_region_with (go_at_call 178;refine (LC _ ?_).mono ?_;exact (aa _ _).drew;rintro e w1 ⟨rfl,hb⟩;have hn1:=(hb.cell hlt).trans hn)
 all_goals go_wp2
 all_goals go_ret
 all_goals exact ⟨rfl,(aa _ _).drew.trans hb⟩
theorem abX {m lo hi:Int} (g:bN n A R) (h:¬ m<=Loc A R n ((lo+hi) / 2)):∀ t,0<=t->t < (lo+hi) / 2+1->Loc A R n t < m:=fun t _ h1=>by
 have:=Yp g (show t<=(lo+hi) / 2 by omega)
 omega
theorem Ms (w:World) (bl bn:Nat) (v:Value) (n:Nat) (A R:Nat->Int) (m:Int) (S:Steps w v n A R) (g:bN n A R)
 (hl:w.cell? ⟨bl,0,none⟩=some v) (hn:w.cell? ⟨bn,0,none⟩=some (.int .i64 m)) :
 Calls prog 176 #[.int .i64 4294967296,.func (.func 177) #[] #[.pointer (some ⟨bl,0,none⟩),.pointer (some ⟨bn,0,none⟩)]] w fun e w'=>e = .returned (.int .i64 (dI A R n m))/\Below w.heap.size w w':=by
 have CC:Hid (∀ W t,Below w.heap.size w W->Calls prog 177 (#[.int .i64 t] ++ #[.pointer (some ⟨bl,0,none⟩),.pointer (some ⟨bn,0,none⟩)]) W fun e w'=>e = .returned (.bool (decide (m<=Loc A R n t)))/\Below w.heap.size W w'):=fun W t hW =>
  (AM W bl bn v n A R m t (S.below hW) g (iI hW hl) (iI hW hn)).mono fun e w' ⟨h1,h2⟩=>⟨h1,h2.mono hW.size⟩
 have G:=Hh g;clear S g hl hn
 go_enter func176,ntmps176
 go_wp2
 go_loopw [5,6] (fun i j wr=>∃ lo hi:Int,0<=lo/\lo<=hi/\hi<=4294967296/\i = .int .i64 lo/\j = .int .i64 hi/\Hid (∀ t,0<=t->t < lo->Loc A R n t < m)/\Hid (hi < 4294967296->m<=Loc A R n hi)/\Below w.heap.size w wr) (fun i j _=>(intOf j - intOf i).toNat)
 case atStart=>exact ⟨0,4294967296,by omega,by omega,by omega,rfl,rfl,fun t a b=>by omega,fun h=>by omega,aa _ _⟩
 case round =>
  obtain ⟨lo,hi,h0,h1,h2,rfl,rfl,il,ih,hb⟩:=hrel
  by_cases hlt:lo < hi
  ·by_cases hm:m<=Loc A R n ((lo+hi) / 2)
   ·have HM:=Hh hm
    have hd:decide (m<=Loc A R n ((lo+hi) / 2))=true:=bj hm;have c:=CC.out wr ((lo+hi) / 2) hb;rw [hd] at c;have C:=Hh c;clear c hd hm;go_wp2_with fail;refine C.mono ?_;rintro e w1 ⟨rfl,hb1⟩;go_wp2
    go_roundw
    case rel=>exact ⟨lo,(lo+hi) / 2,h0,by omega,by omega,rfl,rfl,il,fun _=>HM.out,hb.trans hb1⟩
    case measure=>simp [intOf];omega
   ·have HM:=Hh hm
    have hd:decide (m<=Loc A R n ((lo+hi) / 2))=false:=ai hm;have c:=CC.out wr ((lo+hi) / 2) hb;rw [hd] at c;have C:=Hh c;clear c hd hm;go_wp2_with fail;refine C.mono ?_;rintro e w1 ⟨rfl,hb1⟩;go_wp2
    go_roundw
    case rel=>exact ⟨(lo+hi) / 2+1,hi,by omega,by omega,by omega,rfl,rfl,abX G.out (by have:=HM.out;omega),ih,hb.trans hb1⟩
    case measure=>simp [intOf];omega
  ·obtain rfl:lo=hi:=by omega
   go_wp2
   go_ret
   exact ⟨dh (Ea (La.abb h0 h2 il ih)).symm,hb⟩
theorem Steps.slice {w:World} {v:Value} {n:Nat} {A R:Nat->Int} (S:Steps w v n A R):∃ a l cap,v = .slice a l cap:=by
 rcases S with ⟨a,cap,rfl,_⟩ | ⟨b,off,cap,rfl,_⟩
 ·exact ⟨_,_,_,rfl⟩
 ·exact ⟨_,_,_,rfl⟩
theorem jE (w:World) (v:Value) (n:Nat) (A R:Nat->Int) (m:Int) (S:Steps w v n A R) (g:bN n A R) :
 Calls prog 148 #[v,.int .i64 m] w fun e w'=>e = .returned (.int .i64 (dI A R n m))/\Below w.heap.size w w':=by
 obtain ⟨a,l,cap,rfl⟩:=S.slice;have hb:Below w.heap.size w ((w.alloc (.cells #[.slice a l cap] 163)).alloc (.cells #[.int .i64 m] 3)):=((aa _ _).alloc (ac _) _).alloc (by simp) _;have c:=Ms ((w.alloc (.cells #[.slice a l cap] 163)).alloc (.cells #[.int .i64 m] 3)) w.heap.size (w.heap.size+1) (.slice a l cap) n A R m (S.below hb) g (by go_simp) (by go_simp);have C:=Hh c;have HB:=Hh hb;clear c hb S g;have hmf:∀ (fn:Fn) (first cap:Array Value) (w:World),(Instr.makeFunc fn first cap).run prog w = .ok (.func fn first cap) w:=fun _ _ _ _=>rfl
 go_enter func148,ntmps148
 go_wp2_with fail;refine C.mono ?_;rintro e w1 ⟨rfl,hb1⟩;go_wp2
 go_ret
 exact ⟨rfl,HB.trans (hb1.mono (by simp;omega))⟩
end Tk
namespace Se
open Go.Proofs.YtpepoackmcohlaaGreatDoor.Tk
theorem K8 (w:World) (v:Value) (n:Nat) (A R:Nat->Int) (S:Tk.Steps w v n A R) (g:bN n A R) (m d:Int) (m0:0<=m) (m1:m<=4294967296) (d0:0<=d) (d1:d<=4294967296) :
 Calls prog 202 #[v,.int .i64 m,.int .i64 d] w fun e w'=>e = .returned (.agg #[.int .i64 (dI A R n m),.int .i64 (dI A R n (m+d))])/\Below w.heap.size w w':=by
 have hb0:Below w.heap.size w (w.alloc (.cells #[.int .i64 0,.int .i64 0] 297)):=(aa _ _).alloc (ac _) _;have S0:=Hh (S.below hb0);have G:=Hh g;have HB:=Hh hb0;clear S g hb0
 go_enter func202,ntmps202
 go_wp2_with fail;refine (jE _ _ _ _ _ _ S0 G).mono ?_;rintro e w1 ⟨rfl,b1⟩;have S1:=Hh (S0.below b1);have c0:w1.cell? ⟨w.heap.size,0,none⟩=some (.int .i64 0):=(b1.cell (by simp)).trans (by go_simp);have c1:w1.cell? ⟨w.heap.size,1,none⟩=some (.int .i64 0):=(b1.cell (by simp)).trans (by go_simp);have f0:w1.frozen? ⟨w.heap.size,0,none⟩=false:=(b1.frozen (by simp)).trans (by go_simp);have f1:w1.frozen? ⟨w.heap.size,1,none⟩=false:=(b1.frozen (by simp)).trans (by go_simp);have z1:=b1.size
 simp at z1
 have B1:=Hh (HB.trans (b1.mono (B':=w.heap.size) (by simp)));clear b1;have F0:=Hh f0;have F1:=Hh f1;have C0:=Hh c0;have C1:=Hh c1;clear c0 c1 f0 f1;go_wp2_with fail;refine (jE _ _ _ _ _ _ S1 G).mono ?_;rintro e w2 ⟨rfl,b2⟩;have c0:w2.cell? ⟨w.heap.size,0,none⟩=some (.int .i64 0):=(b2.cell (by show w.heap.size < w1.heap.size;omega)).trans C0.out;have c1:w2.cell? ⟨w.heap.size,1,none⟩=some (.int .i64 0):=(b2.cell (by show w.heap.size < w1.heap.size;omega)).trans C1.out;have f0:w2.frozen? ⟨w.heap.size,0,none⟩=false:=(b2.frozen (by show w.heap.size < w1.heap.size;omega)).trans F0.out;have f1:w2.frozen? ⟨w.heap.size,1,none⟩=false:=(b2.frozen (by show w.heap.size < w1.heap.size;omega)).trans F1.out;have z2:=b2.size;have B2:=Hh (B1.trans (b2.mono (B':=w.heap.size) (by omega)));clear b2;go_wp2;refine bp (v:=.agg #[.int .i64 (dI A R n m),.int .i64 (dI A R n (m+d))]) (by simp [results,results202,go_sem,c0,c1]) rfl ⟨rfl,?_⟩;exact (B2.setCell (by simp) _).setCell (by simp) _
end Se
namespace Ua
theorem Bq (F:Nat->Bool) (k:Nat) (h:k < 11) (w:World):(Instr.index 222 (.agg (dJ F)) (.int .i64 k)).run prog w = .ok (.bool (F k)) w:=by
 have hg:=Ng F k h;have hk:¬ 11<=k:=by omega
 simp [Instr.index,asIntOf,run_underlying underlying222,go_sem,part,hg,hk]
end Ua
namespace Wi
open Go.Proofs.YtpepoackmcohlaaGreatDoor.Sp
theorem Zd (t:Int) (l:List S2):decide (0<=idx (OG t) l)=ig l t:=by
 rcases Bz (OG t) l with ⟨i,hi,hp,_,e⟩ | ⟨hn,e⟩
 ·rw [e]
  have:=zw.2 (Oz.2 ⟨i,hi,by simpa [OG] using hp⟩);rw [this];simp
 ·rw [e]
  have:ig l t=false:=zk.2 fun h=>by
   obtain ⟨i,hi,h1,h2⟩:=Oz.1 h;have:=hn i hi
   simp [OG,h1] at this
   omega
  rw [this];simp
def tO (g:Nat) (lb:Array Value) (p:S2->Bool) (w:World):Prop :=
 ∀ (W:World) (a b:Int),Below w.heap.size w W->Calls prog g (#[.agg #[.int .i64 a,.int .i64 b]] ++ lb) W fun e w'=>e = .returned (.bool (p (a,b)))/\Below w.heap.size w w'
theorem kH (w:World) (v:Value) (l:List S2) (g:Nat) (lb:Array Value) (p:S2->Bool) (eg:∀ args w,(callFunc g args).run prog w = .ok (.enter g args) w) (h:Sp w v l) (hp:tO g lb p w) :
 Calls prog 208 #[v,.func (.func g) #[] lb] w fun e w'=>e = .returned (.int .i64 (idx p l))/\Below w.heap.size w w':=by
 obtain ⟨a,cap,rfl,h1,h2,h3⟩:=h;have H3:=Hh h3;have HP:=Hh hp;have hhit:∀ i,i < l.length->p (fr l i,tp l i)=true->(∀ j,j < i->p (fr l j,tp l j)=false)->idx p l=i:=fun i=>E8;have hmiss:(∀ j,j < l.length->p (fr l j,tp l j)=false)->idx p l = -1:=zF;have HH:=Hh hhit;have HM:=Hh hmiss;clear h3 hp hhit hmiss;generalize hr:idx p l=r at *;clear hr;generalize hn:l.length=n at *;have HN:=Hh hn;clear hn;unfold maxLen at h2
 go_enter func208,ntmps208
 go_wp2
 go_loopw [8] (fun i wr=>∃ k:Nat,k<=n/\i = .int .i64 k/\Hid (∀ j,j < k->p (fr l j,tp l j)=false)/\Hid (Below w.heap.size w wr)) (fun i _=>n - (intOf i).toNat)
 case atStart=>exact ⟨0,cg _,rfl,fun j hj=>by omega,aa _ _⟩
 case round =>
  obtain ⟨k,hk,rfl,hs,hb⟩:=hrel
  by_cases hlt:k < n
  ·obtain ⟨b,off,rfl,hA⟩:=H3 (by omega)
   obtain ⟨c1,c2⟩:=hA k (by have:=HN.out;omega);have HA:=Hh hA;clear hA;have d1:=iI hb c1;have d2:=iI hb c2;clear c1 c2;have hc:=HP.out wr (fr l k) (tp l k) hb
   cases hq:p (fr l k,tp l k) with
   | true =>
     rw [hq] at hc;have C:=Hh hc;have HR:=Hh (HH k hlt hq hs);clear hc hq;go_wp2_with fail;refine C.mono ?_;rintro e w1 ⟨rfl,b1⟩;go_wp2
     go_ret
     exact ⟨dh HR.symm,b1⟩
   | false =>
     rw [hq] at hc;have C:=Hh hc;have ST:Hid (∀ j,j < k+1->p (fr l j,tp l j)=false):=fun j hj=>by
      by_cases e:j=k
      ·rw [e];exact hq
      ·exact hs j (by omega)
     clear hc hq;go_wp2_with fail;refine C.mono ?_;rintro e w1 ⟨rfl,b1⟩;have B1:=Hh b1;clear b1;go_wp2
     go_roundw
     case rel=>exact ⟨k+1,by omega,by go_num,ST,B1⟩
     case measure=>simp [intOf];omega
  ·obtain rfl:k=n:=by omega
   have HR:=Hh (HM hs);go_wp2
   go_ret
   exact ⟨dh HR.symm,hb⟩
theorem oP (w:World) (v:Value) (l:List S2) (g:Nat) (lb:Array Value) (p:S2->Bool) (eg:∀ args w,(callFunc g args).run prog w = .ok (.enter g args) w) (h:Sp w v l) (hp:tO g lb p w) :
 Calls prog 228 #[v,.func (.func g) #[] lb] w fun e w'=>e = .returned (.bool (decide (0<=idx p l)))/\Below w.heap.size w w':=by
 have C:=Hh (kH w v l g lb p eg h hp);clear eg h hp;generalize idx p l=r at *
 go_enter func228,ntmps228
 go_wp2_with fail;refine C.mono ?_;rintro e w1 ⟨rfl,b1⟩;go_wp2
 go_ret
 exact ⟨rfl,b1⟩
theorem QD (w:World) (B:Nat) (t:Int) (hc:w.cell? ⟨B,0,none⟩=some (.int .i64 t)):tO 229 #[.pointer (some ⟨B,0,none⟩)] (OG t) w:=fun W a b hb=>by
 have hlt:=bo _ _ hc;have d:=(hb.cell hlt).trans hc;have hz:=hb.size;have hBW:=cd hlt hz;clear hc hlt
 show Calls prog 229 #[.agg #[.int .i64 a,.int .i64 b],.pointer (some ⟨B,0,none⟩)] W _
 by_cases h1:a<=t
 ·by_cases h2:t < b
  ·have e:OG t (a,b)=true:=by simp [OG,h1,h2]
   rw [e];clear e;have HB:=Hh (hb.alloc hz (.cells #[.int .i64 a,.int .i64 b] 297));clear hb
   go_enter func229,ntmps229
   go_wp2
   go_ret
   exact ⟨rfl,HB⟩
  ·have e:OG t (a,b)=false:=by simp [OG,h2]
   rw [e];clear e;have HB:=Hh (hb.alloc hz (.cells #[.int .i64 a,.int .i64 b] 297));clear hb
   go_enter func229,ntmps229
   go_wp2
   go_ret
   exact ⟨rfl,HB⟩
 ·have e:OG t (a,b)=false:=by simp [OG,h1]
  rw [e];clear e;have HB:=Hh (hb.alloc hz (.cells #[.int .i64 a,.int .i64 b] 297));clear hb
  go_enter func229,ntmps229
  go_wp2
  go_ret
  exact ⟨rfl,HB⟩
theorem Av (w:World) (v:Value) (l:List S2) (h:Sp w v l) (t:Int):Calls prog 217 #[v,.int .i64 t] w fun e w'=>e = .returned (.bool (!ig l t))/\Below w.heap.size w w':=by
 have eg:=enters_of func229 (by kernel_rfl) rfl;have hb:Below w.heap.size w (w.alloc (.cells #[.int .i64 t] 3)):=(aa _ _).alloc (ac _) _;have c:=oP (w.alloc (.cells #[.int .i64 t] 3)) v l 229 #[.pointer (some ⟨w.heap.size,0,none⟩)] (OG t) eg (h.below hb) (QD _ _ _ (by go_simp));rw [Zd] at c;have C:=Hh c;have HB:=Hh hb;obtain ⟨a,cap,rfl,_⟩:=h.slice;clear c hb h eg;have hmf:∀ (fn:Fn) (first cap:Array Value) (w:World),(Instr.makeFunc fn first cap).run prog w = .ok (.func fn first cap) w:=fun _ _ _ _=>rfl;generalize ig l t=r at *
 go_enter func217,ntmps217
 go_wp2_with fail;refine C.mono ?_;rintro e w1 ⟨rfl,b1⟩;go_wp2
 go_ret
 exact ⟨rfl,HB.trans (b1.mono (by simp))⟩
theorem Jn {v:Int×Bool} {a:Int} {b:Bool} (h:v=(a,b)):Ending.returned (.tuple #[.int .i64 a,.bool b]) = .returned (.tuple #[.int .i64 v.1,.bool v.2]):=by subst h;rfl
def FY (w:World) (l:List S2) (f t:Int) (e:Ending) (w':World):Prop:=∃ x,dS l x/\e = .returned (.tuple #[.int .i64 (iL x f t).1,.bool (iL x f t).2])/\Below w.heap.size w w'
theorem P8 (w:World) (B C:Nat) (f t:Int) (hf:w.cell? ⟨B,0,none⟩=some (.int .i64 f)) (ht:w.cell? ⟨C,0,none⟩=some (.int .i64 t)):tO 209 #[.pointer (some ⟨B,0,none⟩),.pointer (some ⟨C,0,none⟩)] (jl f t) w:=fun W a b hb=>by
 have hltB:=bo _ _ hf;have hltC:=bo _ _ ht;have d:=(hb.cell hltB).trans hf;have d':=(hb.cell hltC).trans ht;have hz:=hb.size;have hBW:B < W.heap.size:=cd hltB hz;have hCW:C < W.heap.size:=cd hltC hz;have HB:=Hh (hb.alloc hz (.cells #[.int .i64 a,.int .i64 b] 297));clear hf ht hltB hltC hb
 show Calls prog 209 #[.agg #[.int .i64 a,.int .i64 b],.pointer (some ⟨B,0,none⟩),.pointer (some ⟨C,0,none⟩)] W _
 by_cases h1:f<=a
 ·by_cases h2:a < t
  ·have e:jl f t (a,b)=true:=by simp [jl,h1,h2]
   rw [e];clear e
   go_enter func209,ntmps209
   go_wp2
   go_ret
   exact ⟨rfl,HB⟩
  ·have e:jl f t (a,b)=false:=by simp [jl,h2]
   rw [e];clear e
   go_enter func209,ntmps209
   go_wp2
   go_ret
   exact ⟨rfl,HB⟩
 ·have e:jl f t (a,b)=false:=by simp [jl,h1]
  rw [e];clear e
  go_enter func209,ntmps209
  go_wp2
  go_ret
  exact ⟨rfl,HB⟩
variable {l x:List S2}
theorem Ai {W:World} {v:Value} (h:Sp W v l):Rows (W.alloc (.cells #[v] 213)) (.slice (some ⟨W.heap.size,0,none⟩) 1 1) [l] :=
 ⟨_,1,rfl,ac _,by unfold maxLen;omega,fun _=>⟨_,_,rfl,fun i hi=>by
  have:i=0:=by simp at hi;omega
  subst this
  exact ⟨v,by go_simp,h.below ((aa _ _).alloc (ac _) _)⟩⟩⟩
theorem oN (h:vT [l] x):dS l x:=⟨h.plain,fun t=>by
 rw [h.low]
 constructor
 ·rintro ⟨i,hi,c⟩
  have:i=0:=by simp at hi;omega
  subst this;exact c
 ·exact fun c=>⟨0,by simp,c⟩⟩
theorem Jw (w:World) (v:Value) (l:List S2) (h:Sp w v l) (hlen:l.length < 1099511627776) (f t:Int):Calls prog 179 #[v,.int .i64 f,.int .i64 t] w (FY w l f t):=by
 have eg:∀ args w,(callFunc 209 args).run prog w = .ok (.enter 209 args) w:=enters_of func209 (by kernel_rfl) rfl;have hb2:Below w.heap.size w ((w.alloc (.cells #[.int .i64 f] 3)).alloc (.cells #[.int .i64 t] 3)):=((aa _ _).alloc (ac _) _).alloc (by simp) _;have j:=mV (((w.alloc (.cells #[.int .i64 f] 3)).alloc (.cells #[.int .i64 t] 3)).alloc (.cells #[v] 213)) _ [l] (Ai (h.below hb2)) (by show 0+l.length < _;omega);have ez:((w.alloc (.cells #[.int .i64 f] 3)).alloc (.cells #[.int .i64 t] 3)).heap.size=w.heap.size+1+1:=by simp
 rw [ez] at j;clear ez;have J:=Hh j;have HB2:=Hh hb2;have EG:=Hh eg;obtain ⟨a,cap,rfl,_⟩:=h.slice;clear j hb2 eg h;have hmf:∀ (fn:Fn) (first cap:Array Value) (w:World),(Instr.makeFunc fn first cap).run prog w = .ok (.func fn first cap) w:=fun _ _ _ _=>rfl
 go_enter func179,ntmps179
 go_wp2_with fail;refine J.mono ?_;rintro e w1 ⟨v1,x,rfl,hown,hj,b1⟩;have PO:=Hh (oN hj);have SP1:=Hh hown.sp;have B1:Hid (Below w.heap.size w w1):=(HB2.alloc (by first | (simp;done) | (simp;omega)) _).trans (b1.mono (by first | (simp;done) | (simp;omega)));have f1:w1.cell? ⟨w.heap.size,0,none⟩=some (.int .i64 f):=(b1.cell (by first | (simp;done) | (simp;omega))).trans (by go_simp);have f2:w1.cell? ⟨w.heap.size+1,0,none⟩=some (.int .i64 t):=(b1.cell (by first | (simp;done) | (simp;omega))).trans (by go_simp);have IC:=Hh (kH w1 v1 x 209 _ _ EG SP1 (P8 _ _ _ f t f1 f2));clear hown hj b1 f1 f2
 rcases Bz (jl f t) x with ⟨i,hi,_,_,e⟩ | ⟨_,e⟩
 ·have FV:=Hh (Iw e)
  rw [e] at IC;clear e;go_wp2_with fail;refine IC.mono ?_;rintro e w2 ⟨rfl,b2⟩;have SP2:=Hh (SP1.below b2);obtain ⟨a1,cap1,rfl,q1,q2,hAt⟩:=SP2;obtain ⟨b',off',rfl,hA⟩:=hAt (by omega);have c1:=(hA i hi).1;have HA:=Hh hA;have HAt:=Hh hAt;have B2:=aW B1 b2;clear hA hAt b2;unfold maxLen at q2;generalize hn:x.length=n at *;clear hn;go_wp2
  go_ret2
  exact ⟨x,PO,Jn FV,B2⟩
 ·have FV:=Hh (BP e)
  rw [e] at IC;clear e;go_wp2_with fail;refine IC.mono ?_;rintro e w2 ⟨rfl,b2⟩;have B2:=aW B1 b2;clear b2;go_wp2
  go_ret2
  exact ⟨x,PO,Jn FV,B2⟩
end Wi
namespace Ua
theorem G6 (b:Int) (k:Nat):b / 2 ^ (k+1)=b / 2 ^ k / 2:=by
 rw [ET,Int.ediv_ediv_of_nonneg (Int.le_of_lt (Int.pow_pos (by decide)))]
theorem Ul (b:Int) (k:Nat) (h:k < 8):(iM (put b 9) (k+1):Int)=iM (put b 9) k+b / 2 ^ k % 2:=by
 rw [iM,YZ];have:put b 9 (k+1)=bit b k:=by unfold put;rw [aw (by omega)];rfl
 rw [this]
 split <;> simp
variable {F:Nat->Bool} {k:Nat}
theorem VG (h:F (k+1)=true):(val F (k+1):Int)=val F k+(2 ^ k:Nat):=by rw [val,h];simp
theorem TU (h:F (k+1)=false):(val F (k+1):Int)=val F k:=by rw [val,h];simp
theorem MC (h:F (k+1)=true):(iM F (k+1):Int)=iM F k+1:=by rw [iM,h];simp
theorem Ja (h:F (k+1)=false):(iM F (k+1):Int)=iM F k:=by rw [iM,h];simp
theorem KG (h:k<=8):1<=2 ^ k/\2 ^ k<=256:=⟨Nat.one_le_two_pow,Nat.pow_le_pow_right (n:=2) (by omega) h⟩
theorem nine (b:Int) (odd:Bool) (c:Nat) (h:c=iM (put b 9) 8) :
 (if odd then ((c:Int) % 2 == 0) else ((c:Int) % 2 == 1))=(par (put b 9) 9 != odd):=by
 rw [U0,← En,← h];have e0:((c:Int) % 2 == 0)=decide (c % 2=0):=by show decide ((c:Int) % 2=0)=_;rw [cU];omega
 have e1:((c:Int) % 2 == 1)=decide (c % 2=1):=by show decide ((c:Int) % 2=1)=_;rw [cU];omega
 rw [e0,e1]
 rcases (by omega:c % 2=0\/c % 2=1) with e | e <;> cases odd <;> simp [e]
theorem Ik (w:World) (b:Int) (odd:Bool) (h0:0<=b) (h1:b<=255):Calls prog 150 #[.int .u8 b,.bool odd] w fun e w'=>e = .returned (.agg (dJ (pP b odd)))/\Below w.heap.size w w':=by
 have T0:=Hh (x9 w (put b 1) (fun i _=>(abz b i).symm))
 go_enter func150,ntmps150
 go_wp2
 go_loopw [6,7,8] (fun n c i wr=>∃ k:Nat,k<=8/\i = .int .i64 (k+1:Nat)/\n = .int .i64 (b / 2 ^ k)/\c = .int .i64 (iM (put b 9) k:Nat)/\Hid (FP w wr (put b (k+1)))) (fun _ _ i _=>9 - (intOf i).toNat)
 case atStart=>exact ⟨0,by omega,rfl,by rw [Int.pow_zero,Int.ediv_one],rfl,T0⟩
 case round =>
  obtain ⟨k,hk,rfl,rfl,rfl,T⟩:=hrel;have n0:0<=b / 2 ^ k:=Int.ediv_nonneg h0 (Int.le_of_lt (Int.pow_pos (by decide)));have n1:b / 2 ^ k<=255:=Int.le_trans (Int.ediv_le_self _ h0) h1;have q:=KT (put b 9) k
  by_cases hlt:k < 8
  ·have c:=T.out.2.1.cell (k+1) (by omega)
   have f:=T.out.2.1.frozen (k+1);have CS:=Hh (Ul b k hlt);have DS:=Hh (G6 b k);have PS:Hid (∀ i,upd (put b (k+1)) (k+1) (decide (b / 2 ^ k % 2=1)) i=put b (k+1+1) i):=Gc b (k+1) (by omega);generalize iM (put b 9) k=cc at *;generalize b / 2 ^ k=N at *;go_wp2
   go_roundw
   case rel=>exact ⟨k+1,by omega,by go_num,by rw [DS.out],by rw [CS.out],(T.out.jA (k+1) (by omega) _).to (fun i _=>PS.out i)⟩
   case measure=>simp [intOf];omega
  ·obtain rfl:k=8:=by omega
   have c9:=T.out.2.1.cell 9 (by omega);have c10:=T.out.2.1.cell 10 (by omega);have f9:=T.out.2.1.frozen 9;have f10:=T.out.2.1.frozen 10;have NN:=Hh (nine b odd (iM (put b 9) 8) rfl);generalize iM (put b 9) 8=cc at *;have h9:9 < 11:=by omega
   have h10:10 < 11:=by omega
   cases odd
   all_goals
    go_wp2_with ((with_reducible refine om (o:=⟨some 44,_,_,_,_,_⟩) rfl rfl _ _ _ rfl rfl rfl _ _ _ _ ?_ ?_ ?_ ((T.out.jA 9 h9 _).jA 10 h10 _).frame ((T.out.jA 9 h9 _).jA 10 h10 _).res ?_);(exact rfl);(exact rfl);(exact rfl))
    all_goals
     refine bp (jL rfl _ _ _ _ rfl (((T.out.jA 9 h9 _).jA 10 h10 _).1.row _)) rfl ⟨?_,?_⟩
     ·refine c8 (fun x=>Ending.returned (.agg (dJ (upd (upd (put b 9) 9 x) 10 true)))) (Eq.trans ?_ NN)
      first
       | rfl
       | (simp only [if_true];refine Eq.symm ?_;show decide ((cc:Int) % 2=0)=true;exact bj (by omega))
     ·exact aX ((T.jA 9 h9 _).jA 10 h10 _).2.2 _ _ (ac _)
theorem LJ (w:World) (F:Nat->Bool) (hb:bad F=false):Calls prog 125 #[.agg (dJ F)] w fun e w'=>e = .returned (.tuple #[.int .u8 (tb F),.bool (tp F),.int .i64 (te F)])/\Below w.heap.size w w':=by
 have R0:=Hh (Row.new w F);have B0:=Hh ((aa w.heap.size w).alloc (ac _) (.cells (dJ F) 222));have c0:=R0.cell 0 (by omega);have c10:=R0.cell 10 (by omega);have OB:=Hh (MO hb);unfold bad at hb
 simp at hb
 obtain ⟨h0,h10⟩:=hb;rw [h0] at c0;rw [h10] at c10;clear h0 h10
 go_enter func125,ntmps125
 go_wp2
 go_loop [5,6,7,8] (fun n p c i=>∃ k:Nat,k<=8/\i = .int .i64 (k+1:Nat)/\n = .int .i64 (val F k:Nat)/\p = .int .i64 (2 ^ k:Nat)/\c = .int .i64 (iM F k:Nat)) (fun _ _ _ i=>9 - (intOf i).toNat)
 case atStart=>exact ⟨0,by omega,rfl,rfl,rfl,rfl⟩
 case round =>
  obtain ⟨k,hk,rfl,rfl,rfl,rfl⟩:=hrel;have q:=KT F k;have v:=Em F k;obtain ⟨p1,p2⟩:=KG hk
  by_cases hlt:k < 8
  ·have c:=R0.cell (k+1) (by omega)
   have PS:Hid (((2 ^ (k+1):Nat):Int)=2 * (2 ^ k:Nat)):=by show ((2 ^ (k+1):Nat):Int)=_;rw [Nat.pow_succ];omega
   cases hF:F (k+1) with
   | true =>
     rw [hF] at c;have V:=Hh (VG hF);have C:=Hh (MC hF);clear hF;generalize 2 ^ k=P at *;generalize val F k=vv at *;generalize iM F k=cc at *;go_wp2
     go_round
     case rel=>exact ⟨k+1,by omega,by go_num,by rw [V.out],by rw [PS.out],by rw [C.out]⟩
     case measure=>simp [intOf];omega
   | false =>
     rw [hF] at c;have V:=Hh (TU hF);have C:=Hh (Ja hF);clear hF;generalize 2 ^ k=P at *;generalize val F k=vv at *;generalize iM F k=cc at *;go_wp2
     go_round
     case rel=>exact ⟨k+1,by omega,by go_num,by rw [V.out],by rw [PS.out],by rw [C.out]⟩
     case measure=>simp [intOf];omega
  ·obtain rfl:k=8:=by omega
   have c9:=R0.cell 9 (by omega);have TP:=Hh ((En F 9).trans OB.out.2.1)
   cases hF:F 9 with
   | true =>
     rw [hF] at c9;have C:Hid ((iM F 9:Int)=iM F 8+1):=MC (k:=8) hF;clear hF;generalize val F 8=vv at *;generalize iM F 8=cc at *;go_wp2
     go_ret3
     exact ⟨jg OB.out.1 (by rw [← TP.out,Bool.eq_iff_iff];have:=C.out;simp;omega) OB.out.2.2,B0.out⟩
   | false =>
     rw [hF] at c9;have C:Hid ((iM F 9:Int)=iM F 8):=Ja (k:=8) hF;clear hF;generalize val F 8=vv at *;generalize iM F 8=cc at *;go_wp2
     go_ret3
     exact ⟨jg OB.out.1 (by rw [← TP.out,Bool.eq_iff_iff];have:=C.out;simp;omega) OB.out.2.2,B0.out⟩
theorem Td (w:World) (F:Nat->Bool) (hb:bad F=true):Calls prog 125 #[.agg (dJ F)] w fun e w'=>e = .returned (.tuple #[.int .u8 (tb F),.bool (tp F),.int .i64 (te F)])/\Below w.heap.size w w':=by
 have R0:=Hh (Row.new w F);have B0:=Hh ((aa w.heap.size w).alloc (ac _) (.cells (dJ F) 222));have c0:=R0.cell 0 (by omega);have c10:=R0.cell 10 (by omega);have OB:=Hh (UJ hb);unfold bad at hb
 cases h0:F 0 with
 | true =>
   rw [h0] at c0;clear hb
   go_enter func125,ntmps125
   go_wp2
   go_ret3
   exact ⟨jg OB.out.1 OB.out.2.1 OB.out.2.2,B0⟩
 | false =>
   have h10:F 10=false:=by rw [h0] at hb;simpa using hb
   rw [h0] at c0;rw [h10] at c10;clear hb
   go_enter func125,ntmps125
   go_wp2
   go_ret3
   exact ⟨jg OB.out.1 OB.out.2.1 OB.out.2.2,B0⟩
theorem kG (w:World) (F:Nat->Bool):Calls prog 125 #[.agg (dJ F)] w fun e w'=>e = .returned (.tuple #[.int .u8 (tb F),.bool (tp F),.int .i64 (te F)])/\Below w.heap.size w w':=by
 cases h:bad F with
 | true=>exact Td w F h
 | false=>exact LJ w F h
def rt (F:Nat->Bool) (m:Int) (k i:Nat):Bool:=if i < k then F i != bit m i else false
theorem afl (F:Nat->Bool) (m:Int) (i:Nat):false=rt F m 0 i:=by unfold rt;rw [am (by omega)]
theorem adN (F:Nat->Bool) (m:Int) (i:Nat) (h:i < 11):rt F m 11 i=turn F m 11 i:=by unfold rt turn;rw [aw h,aw h]
variable {m:Int}
theorem ab5 (h:bit m k=true) (i:Nat):upd (upd (rt F m k) k (F k)) k (!F k) i=rt F m (k+1) i:=by
 unfold upd rt
 by_cases e:i=k
 ·subst e;rw [aw rfl,aw (by omega),h];simp
 ·rw [am e,am e]
  by_cases c:i < k
  ·rw [aw c,aw (by omega)]
  ·rw [am c,am (by omega)]
theorem aem (h:bit m k=false) (i:Nat):upd (rt F m k) k (F k) i=rt F m (k+1) i:=by
 unfold upd rt
 by_cases e:i=k
 ·subst e;rw [aw rfl,aw (by omega),h];simp
 ·rw [am e]
  by_cases c:i < k
  ·rw [aw c,aw (by omega)]
  ·rw [am c,am (by omega)]
def Own3 (w wr:World) (F G:Nat->Bool):Prop:=Row wr w.heap.size F/\Row wr (w.heap.size+1) no/\Row wr (w.heap.size+1+1) G/\Below w.heap.size w wr
theorem Wh (w:World) (F G:Nat->Bool) (h:∀ i,i < 11->false=G i):Own3 w (((w.alloc (.cells (dJ F) 222)).alloc (.cells (dJ no) 222)).alloc (.cells (dJ no) 222)) F G:=by
 obtain ⟨h1,h2,h3⟩:=Js w F;refine ⟨h1.alloc _,h2.alloc _,?_,h3.alloc (by simp;omega) _⟩;have:=Row.new ((w.alloc (.cells (dJ F) 222)).alloc (.cells (dJ no) 222)) no;have e:((w.alloc (.cells (dJ F) 222)).alloc (.cells (dJ no) 222)).heap.size=w.heap.size+1+1:=by simp
 rw [e] at this;exact this.to h
theorem Own3.jA {w wr:World} {F G:Nat->Bool} (h:Own3 w wr F G) (k:Nat) (hk:k < 11) (x:Bool):Own3 w (wr.setCell ⟨w.heap.size+1+1,k,none⟩ (.bool x)) F (upd G k x) :=
 ⟨h.1.far (by simp;omega) _,h.2.1.far (by simp) _,h.2.2.1.jA k hk x,h.2.2.2.setCell (by simp;omega) _⟩
theorem Own3.to {w wr:World} {F G H:Nat->Bool} (h:Own3 w wr F G) (e:∀ i,i < 11->G i=H i):Own3 w wr F H:=⟨h.1,h.2.1,h.2.2.1.to e,h.2.2.2⟩
def un (m:Int):Int:=IntKind.u64.wrap m
theorem un_in (m:Int):0<=un m/\un m<=18446744073709551615:=by unfold un;rw [IntKind.wrap_u64];omega
theorem un_bit (m:Int) (k:Nat) (h:k < 11):(un m / 2 ^ k % 2 == 1)=bit m k:=by
 show decide (un m / 2 ^ k % 2=1)=decide (m / 2 ^ k % 2=1)
 rw [cU];unfold un;rw [IntKind.wrap_u64]
 rcases (by omega:k=0\/k=1\/k=2\/k=3\/k=4\/k=5\/k=6\/k=7\/k=8\/k=9\/k=10) with rfl | rfl | rfl | rfl | rfl | rfl | rfl | rfl | rfl | rfl | rfl <;> simp <;> omega
theorem Cb (w:World) (F:Nat->Bool) (m:Int):Calls prog 151 #[.agg (dJ F),.int .i64 m] w fun e w'=>e = .returned (.agg (dJ (turn F m 11)))/\Below w.heap.size w w':=by
 have T0:=Hh (Wh w F (rt F m 0) (fun i _=>afl F m i))
 go_enter func151,ntmps151
 go_wp2
 go_loopw [6,7] (fun n i wr=>∃ k:Nat,k<=11/\i = .int .i64 k/\n = .int .u64 (un m / 2 ^ k)/\Hid (Own3 w wr F (rt F m k))) (fun _ i _=>11 - (intOf i).toNat)
 case atStart=>exact ⟨0,by omega,rfl,by rw [Int.pow_zero,Int.ediv_one];rfl,T0⟩
 case round =>
  obtain ⟨k,hk,rfl,rfl,T⟩:=hrel;obtain ⟨n0,n1⟩:=un_in m;have N0:0<=un m / 2 ^ k:=Int.ediv_nonneg n0 (Int.le_of_lt (Int.pow_pos (by decide)));have N1:un m / 2 ^ k<=18446744073709551615:=Int.le_trans (Int.ediv_le_self _ n0) n1;clear n0 n1
  by_cases hlt:k < 11
  ·have c:=T.out.1.cell k hlt
   have d:=T.out.2.2.1.cell k hlt;have f:=T.out.2.2.1.frozen k;have DS:=Hh (G6 (un m) k);have UB:=un_bit m k hlt
   cases hb:bit m k with
   | true =>
     have TY:=Hh (ab5 (F:=F) hb);rw [hb] at UB;clear hb;generalize un m / 2 ^ k=N at *;go_wp2
     go_roundw
     case rel=>exact ⟨k+1,by omega,by go_num,by rw [DS.out],((T.out.jA k hlt _).jA k hlt _).to (fun i _=>TY.out i)⟩
     case measure=>simp [intOf];omega
   | false =>
     have TN:=Hh (aem (F:=F) hb);rw [hb] at UB;clear hb;generalize un m / 2 ^ k=N at *;go_wp2
     go_roundw
     case rel=>exact ⟨k+1,by omega,by go_num,by rw [DS.out],(T.out.jA k hlt _).to (fun i _=>TN.out i)⟩
     case measure=>simp [intOf];omega
  ·obtain rfl:k=11:=by omega
   have AE:=Hh (nJ (fun i hi=>(adN F m i hi).symm))
   go_wp2_with (first
    | (refine wpList_load_row rfl 222 _ rfl _ rfl _ _ _ _ T.out.2.2.1 underlying222 rfl (cB _) ?_)
    | (refine wpList_store_row rfl 222 _ _ rfl _ _ rfl rfl _ _ T.out.2.1 (cB _) rfl (iF _) ?_))
   refine bp (results_cell_row rfl _ _ _ _ _ _ _ rfl (T.out.2.1.row _) underlying222 rfl (cB _)) rfl ⟨by rw [AE.out],?_⟩;exact aX T.out.2.2.2 _ _ (by omega)
end Ua
namespace Se
open Go.Proofs.YtpepoackmcohlaaGreatDoor.Tk Go.Proofs.YtpepoackmcohlaaGreatDoor.Sp
open Wi (l7)
structure LM (w:World) (g:Int->Int) (F:Nat->Bool) (m:Int) (v:Value) (k:Nat) (wr:World):Prop where
 own:Sp.Own wr w.heap.size 297 v (oG g F m k)
 aI:Below w.heap.size w wr
variable {w wr:World} {g:Int->Int} {F:Nat->Bool} {m:Int} {v:Value} {k:Nat}
theorem LM.hi (h:LM w g F m v k wr) (e:F k=true):LM w g F m v (k+1) wr:=⟨by rw [Pn e];exact h.own,h.aI⟩
theorem LM.lo (e:F k=false) (ho:Sp.Own wr w.heap.size 297 v (oG g F m k ++ [(g (m+16 * k),g (m+16 * k+16))])) (hb:Below w.heap.size w wr):LM w g F m v (k+1) wr:=⟨by rw [Np e];exact ho,hb⟩
open Wi (Gives vT mV Ai oN)
theorem Ca (w:World) (v:Value) (n:Nat) (A R:Nat->Int) (S:Tk.Steps w v n A R) (g:bN n A R) (m:Int) (m0:0<=m) (m1:m<=2147483648) (F:Nat->Bool) :
 Calls prog 173 #[v,.int .i64 m,.agg (dJ F)] w (Made w (dS (oG (dI A R n) F m 11))):=by
 have R0:=Hh (Row.new w F);have B0:=Hh ((aa w.heap.size w).alloc (ac _) (.cells (dJ F) 222));have S0:=Hh S;have G:=Hh g;clear S g
 go_enter func173,ntmps173
 go_wp2_with ((with_reducible refine dO (o:=⟨some 10,_,_,_,_,_⟩) rfl _ rfl _ _ ?_ R0.out ?_);(exact rfl))
 go_loopw [7,11] (fun v i wr=>∃ k:Nat,k<=11/\i = .int .i64 k/\Hid (LM w (dI A R n) F m v k wr)) (fun _ i _=>11 - (intOf i).toNat)
 case atStart=>exact ⟨0,by omega,rfl,Hh ⟨Sp.Own.nil _ _ _,B0.out⟩⟩
 case round =>
  obtain ⟨k,hk,rfl,L⟩:=hrel
  by_cases hlt:k < 11
  ·have ri:=Ua.Bq F k hlt
   cases hF:F k with
   | true =>
     have L':=Hh (L.hi hF);rw [hF] at ri;clear hF;go_wp2
     go_roundw
     case rel=>exact ⟨k+1,by omega,by go_num,L'⟩
     case measure=>simp [intOf];omega
   | false =>
     rw [hF] at ri;have HF:=Hh hF;clear hF;have s1:=S0.below L.aI;have C:=Hh (K8 wr v n A R s1 G (m+16 * k) 16 (by omega) (by omega) (by omega) (by omega));clear s1;have hB:=L.aI.size;go_wp2_with fail;refine C.mono ?_;rintro e w1 ⟨rfl,b1⟩;have hown:=L.own.keep b1;have hb1:=L.aI.trans (b1.mono hB);have z1:=b1.size;have hll:=yX (g:=dI A R n) (F:=F) (m:=m) k;have LL:=Hh hll;clear b1 hll
     go_wp2_with (at_builtin;refine eT rfl _ _ rfl w.heap.size _ _ rfl (hown.alloc _) _ (dI A R n (m+16 * k)) (dI A R n (m+16 * k+16)) rfl ?c1 ?c2 ?c3 ?c4 ?_)
     case c1=>go_simp
     case c2=>go_simp
     case c3=>have:=LL.out;omega
     case c4=>simp;omega
     intro v' w2 hown2 hb2
     have L2:=Hh (LM.lo (g:=dI A R n) (m:=m) HF hown2 ((hb1.alloc (by omega) _).trans hb2));clear hown2 hb2 hb1 hown;go_wp2
     go_roundw
     case rel=>exact ⟨k+1,by omega,by go_num,L2⟩
     case measure=>simp [intOf];omega
  ·obtain rfl:k=11:=by omega
   have hB:=L.aI.size;obtain ⟨a,cap,rfl,_,_⟩:=L.own.slice;have hll:=yX (g:=dI A R n) (F:=F) (m:=m) 11;have J:=Hh (mV _ _ _ (Ai L.own.sp) (by show 0+(oG (dI A R n) F m 11).length < _;omega));clear hll;go_wp2_with fail;refine J.mono ?_;rintro e w1 ⟨v1,l,rfl,hown,hj,b1⟩;have OW:=Hh (Wi.l7 hown (B':=w.heap.size) (by simp;omega));have PO:=Hh (oN hj);have B1:=Hh ((L.aI.alloc hB _).trans (b1.mono (B':=w.heap.size) (by simp;omega)));clear hown hj b1;go_wp2
   go_ret
   exact ⟨_,l,rfl,OW,PO,B1⟩
end Se
namespace Bu
open Sp (S2 fr tp Sp)
open Wi (mV l7)
open Ck (LL bZ sN sE tE kF)
open Pa (Ns jF qw ni wR jd iD dx)
open Se (Ca)
attribute [local irreducible] Sd.bA wpQuiet
structure Bn (w:World) (vs vt vl vp vo:Value) (S:bX) (T:LL) (V:List Bool) (P:List S2) (O:List fO):Prop where
 ns:Ns w vs vt vl S T V
 sp:Rd K2 w vp P
 os:Ib w vo O
 lo:O.length=S.length
 few:S.length<=32
 calm:Vn O
theorem Bn.below {w w':World} {vs vt vl vp vo:Value} {S:bX} {T:LL} {V:List Bool} {P:List S2} {O:List fO} (h:Bn w vs vt vl vp vo S T V P O) (b:Below w.heap.size w w'):Bn w' vs vt vl vp vo S T V P O:=⟨h.ns.below b,h.sp.below b,h.os.below b,h.lo,h.few,h.calm⟩
variable {w:World} {vs vt vl vp vo:Value} {S:bX} {T:LL} {V:List Bool} {P:List S2} {O:List fO}
theorem Rc (H:Bn w vs vt vl vp vo S T V P O) (j:Int) :
 Calls prog 144 #[vs,vt,vl,vp,vo,.int .i64 j] w (Made w (abI S T V P O j)):=by
 have FA:=Hh (fun W b s=>wR (H.ns.below (w':=W) b) (H.sp.below b) s);unfold jd at FA;have WHO:Hid (∀ k:Nat,jF S T V k=true->∃ n:Nat,qw S T V k=n/\n < O.length/\KO S T V P O k=some (lN O n,ni S T V P k)/\(lN O n).calm):=Hh (fun k h=>Qo H.ns.ok (by rw [H.lo,H.ns.lt]) H.calm h);have YES:Hid (∀ k:Nat,1<=k->qw S T V k=j->∀ u,lX S T V P O j (k+1) u↔lX S T V P O j k u\/zn (KO S T V P O) k u):=Hh (fun k h e u=>QU h e);have NO:Hid (∀ k:Nat,¬ (jF S T V k=true/\qw S T V k=j)->∀ u,lX S T V P O j (k+1) u↔lX S T V P O j k u):=Hh (fun k h u=>Wp h);have END:Hid (∀ u,lX S T V P O j 17 u↔Jl S T V P O j u):=Hh (fun u=>Ti);have I0:Hid (xI w (.slice none 0 0) [] [] (lX S T V P O j 1) 1 w):=Hh ⟨Ow.nil _ _ _,fun _ hi=>absurd hi (fj _),rfl,fun _ hi=>absurd hi (fj _),fun u=>⟨fun ⟨_,hi,_⟩=>absurd hi (fj _),fun h=>absurd h Tt⟩,by simp,aa _ _⟩;have OS:=Hh H.os;obtain ⟨ao,co,rfl,mo1,mo⟩:=H.os.slice;unfold maxLen at mo;clear H;generalize hno:O.length=no at *;have HNO:=Hh hno;clear hno;unfold abI
 go_enter func144,ntmps144
 go_wp2
 go_loopw [14,13] (fun i v wr=>∃ (k:Nat) (hs:List Hd) (ls:List (List S2)),1<=k/\k<=17/\i = .int .i64 k/\Hid (xI w v hs ls (lX S T V P O j k) k wr)) (fun i _ _=>17 - (intOf i).toNat)
 case atStart=>exact ⟨1,[],[],by omega,by omega,rfl,I0⟩
 case round =>
  obtain ⟨k,hs,ls,hk1,hk,rfl,I⟩:=hrel;clear I0;obtain ⟨av,cv,rfl,_⟩:=I.slice
  by_cases hlt:k < 17
  ·have FK:=Hh (FA wr I.aI (k:Int))
   have WK:=Hh (WHO k);have YK:=Hh (YES k hk1);have NK:=Hh (NO k);generalize hF:ni S T V P (k:Int)=F at *;generalize hm:qw S T V (k:Int)=m at *;generalize hok:jF S T V (k:Int)=ok at *;clear hF hm hok;go_wp2_with fail;refine FK.mono ?_;rintro e w1 ⟨rfl,b1⟩;have I2:=Hh ((I.below b1).below ((aa w1.heap.size w1).alloc (ac _) (.cells (dJ F) 222)));have R2:=Hh (Row.new w1 F);clear b1 FK I
   by_cases hall:ok=true/\m=j
   ·obtain ⟨rfl,rfl⟩:=hall
    obtain ⟨n,rfl,hn,hf,hcal⟩:=WK rfl;have YY:=Hh (YK rfl);have CA:=Hh hcal;have HF:=Hh hf;clear YK NK WK hcal hf;obtain ⟨b5,o5,c5,a5,d5,e5,x5,_,s5⟩:=OS.one (k:=n) (by have:=HNO.out;omega);rw [HNO.out] at e5;injection e5 with e5 _ e6;subst e5 e6;have S5:=Hh s5;clear s5
    go_upto_region 7 with ((with_reducible refine dU (o:=⟨none,_,_,_,_,_⟩) rfl _ _ rfl F ?_ ?_ ?_);(exact rfl);(exact rfl))
    generalize (w1.alloc (.cells (dJ F) 222))=W1 at *;generalize w1.heap.size=g1 at *;have BD:=Hh (I2.aI.trans ((aa W1.heap.size W1).drew.mono I2.aI.size));have lo:=bo _ _ x5;have wk:IntKind.i64.wrap (224 * (k:Int))=224 * (k:Int):=cG _ (by omega);have sO:=Sc.aA (C:=fun W=>Below w.heap.size w W) (a:=⟨b5,o5+n,none⟩) (fun W' h=>(h.cell lo).trans x5);have ne:Nonempty (Sc.In (fun W=>Below w.heap.size w W)):=⟨⟨_,BD⟩⟩;have ID:=Hh (I2.below ((aa W1.heap.size W1).drew));have RD:=Hh (R2.below ((aa W1.heap.size W1).drew) R2.lt);refine Sc.start (fun W=>Below w.heap.size w W) [(false,0),(false,1),(false,2),(false,3),(false,4),(false,5),(false,6),(true,7),(true,8),(true,9),(true,10),(false,11)] (by kernel_rfl) (by kernel_rfl) (by kernel_rfl) BD ?_;dsimp only [Sd.aP,List.getElem?_cons_succ,List.getElem?_cons_zero]
    repeat (refine Sd.lit ?_;quiet_step (fail);refine bk ?_)
    clear sO I2 R2;generalize W1.drew=Wd at *;refine Sd.call (by rfl) (fun K hK=>?_);refine wp_load_row 222 _ rfl g1 rfl _ _ _ _ RD underlying222 rfl (cB F) ?_;refine hK _ _ (Sc.Cl.of BD) ?_;clear hK K;have SA:=Hh (Ca Wd _ _ _ _ (S5.below BD) CA.good (224 * (k:Int)) (by omega) (by omega) F);refine Sd.call (by rfl) (fun K hK=>?_);go_simp;refine SA.mono ?_;rintro e w5 ⟨v5,l,rfl,own5,p5,b5'⟩;have LK:=Hh (RY HF p5);have PL:=Hh p5.1;have B5:=aW BD b5';obtain ⟨la,lc,rfl,_,_⟩:=own5.slice;refine hK _ _ (Sc.Cl.of B5) ?_;clear hK K p5 SA;refine Sd.call (by rfl) (fun K hK=>?_);go_simp;have BL:=b5'.alloc b5'.size (.cells #[.slice la l.length lc] 213);have I5:=Hh (ID.below BL);have O5:=Hh ((l7 own5 BD.size).alloc (.cells #[.slice la l.length lc] 213));have N6:=Hh (bc w5 (.cells #[.slice la l.length lc] 213));have B6:=Hh (B5.alloc B5.size (.cells #[.slice la l.length lc] 213));refine hK _ _ (Sc.Cl.of B6) ?_;clear hK K own5 b5' BL ID BD RD B5;have FEW:=Hh (Jt PL (fun u h=>(LK u).1 h) (fun u h=>Ei h));have hh:Hid (Value.slice la l.length lc=sl (la,l.length,lc)):=Hh rfl;generalize hln:l.length=ln at *;have HLN:=Hh hln;clear hln;generalize w5.heap.size=g5 at *;generalize (w5.alloc (.cells #[.slice la ln lc] 213))=W6 at *;refine Sd.call (by rfl) (fun K hK=>?_);refine cK (K:=KS) underlying259 yP rfl (by omega) _ _ rfl w.heap.size _ _ rfl I5.out.own _ (la,ln,lc) rfl ?d1 ?d2 ?d3 ?_
    case d1 =>
     intro j u hu
     match j,hu with
     | 0,hu=>simp [KS] at hu;subst hu;exact ah N6.out 0
     | j+1,hu=>simp [KS] at hu
    case d2=>have:=I5.len;omega
    case d3=>have:=I5.aI.size;exact this
    intro v' w6 o6 g6 h6
    have NEW:Hid (xI w v' (hs ++ [(la,ln,lc)]) (ls ++ [l]) (lX S T V P O n (k+1)) (k+1) w6):=Hh (I5.push (by rw [← hh.out];exact O5.out) (by rw [HLN.out];exact FEW.out) o6 g6 (fun u=>by rw [YY.out u,LK.out u]));refine hK _ _ (Sc.Cl.of NEW.aI) ?_;clear hK K o6 g6 h6 I5 O5 B6 N6;obtain ⟨av',cv',rfl,_⟩:=NEW.slice;generalize (hs ++ [(la,ln,lc)]).length=Lp' at *
    repeat (refine Sd.lit ?_;quiet_step (fail);refine bk ?_)
    refine Sd.done ?_;go_wp2
    go_roundw
    case rel=>exact ⟨k+1,_,_,by omega,by omega,by go_num,NEW⟩
    case measure=>simp [intOf];omega
   ·have I3:=Hh (I2.to (NK hall))
    clear YK NK WK I2 R2
    cases ok with
    | false =>
      clear hall
      go_wp2_with ((with_reducible refine dU (o:=⟨none,_,_,_,_,_⟩) rfl _ _ rfl F ?_ ?_ ?_);(exact rfl);(exact rfl))
      go_roundw
      case rel=>exact ⟨k+1,_,_,by omega,by omega,by go_num,I3⟩
      case measure=>simp [intOf];omega
    | true =>
      have hmj:(m == j)=false:=by simpa using hall
      clear hall
      go_wp2_with ((with_reducible refine dU (o:=⟨none,_,_,_,_,_⟩) rfl _ _ rfl F ?_ ?_ ?_);(exact rfl);(exact rfl))
      go_roundw
      case rel=>exact ⟨k+1,_,_,by omega,by omega,by go_num,I3⟩
      case measure=>simp [intOf];omega
  ·obtain rfl:k=17:=by omega
   have J:=Hh (mV wr _ ls I.rows (I.tot (by omega)));have BI:=Hh I.aI;have IJ:=Hh (fun x hx=>I.join (x:=x) hx);clear I;generalize hs.length=Lp at *;go_wp2_with fail;refine J.mono ?_;rintro e w1 ⟨v1,l,rfl,own1,hj,b1⟩;have OW:=Hh (l7 own1 BI.size);have PO:=Hh (IJ l hj);have B1:=aW BI b1;clear own1 hj b1 J;go_wp2
   go_ret
   exact ⟨_,l,rfl,OW,⟨PO.out.1,fun u=>(PO.out.2 u).trans (END u)⟩,B1⟩
theorem He (H:Bn w vs vt vl vp vo S T V P O) :
 Calls prog 117 #[vs,vt,vl,vp,vo] w (Made w (xB S T V P O)):=by
 have SA:=Hh (fun W b j=>Rc (H.below (w':=W) b) j);have END:Hid (∀ u,xO S T V P O S.length u↔wV (KO S T V P O) u):=Hh (fun u=>by rw [Uc H.ns.ok,H.ns.lt];exact Iff.rfl);have NX:Hid (∀ k u,xO S T V P O (k+1) u↔xO S T V P O k u\/Jl S T V P O k u):=Hh KJ;have I0:Hid (xI w (.slice none 0 0) [] [] (xO S T V P O 0) 0 w):=Hh (xI.start w (aa _ _) fun u h=>by obtain ⟨j,hj,_⟩:=h;omega);have few:=H.few;obtain ⟨sa,cs,rfl,ms⟩:=H.ns.st.slice;unfold maxLen at ms;clear H;generalize S.length=n at *;unfold xB
 go_enter func117,ntmps117
 go_wp2
 go_loopw [15,11] (fun i v wr=>∃ (k:Nat) (hs:List Hd) (ls:List (List S2)),k<=n/\i = .int .i64 k/\Hid (xI w v hs ls (xO S T V P O k) k wr)) (fun i _ _=>n - (intOf i).toNat)
 case atStart=>exact ⟨0,[],[],cg _,rfl,I0⟩
 case round =>
  obtain ⟨k,hs,ls,hk,rfl,I⟩:=hrel;clear I0;obtain ⟨av,cv,rfl,_⟩:=I.slice
  by_cases hlt:k < n
  ·have SK:=Hh (SA wr I.aI (k:Int))
   have NK:=Hh (NX k);have IL:=Hh I.len;generalize hs.length=lh at *;go_wp2_with fail;refine SK.mono ?_;rintro e w5 ⟨v5,l,rfl,own5,p5,b5⟩;have PL:=Hh p5.1;have LK:=Hh p5.2;have B5:=Hh (I.aI.trans (b5.mono I.aI.size));obtain ⟨la,lc,rfl,_,_⟩:=own5.slice;have BL:=b5.alloc b5.size (.cells #[.slice la l.length lc] 213);have I5:=Hh (I.below BL);have O5:=Hh ((l7 own5 I.aI.size).alloc (.cells #[.slice la l.length lc] 213));have FEW:=Hh (Jt PL (fun u h=>(LK u).1 h) (fun u h=>ZY h));have hh:Hid (Value.slice la l.length lc=sl (la,l.length,lc)):=Hh rfl;clear own5 p5 b5 BL SK;generalize hln:l.length=ln at *;have HLN:=Hh hln;clear hln
   go_wp2_with (at_builtin;refine dx (K:=KS) underlying259 yP rfl (by omega) rfl _ _ rfl w.heap.size _ _ rfl I5.out.own _ (la,ln,lc) rfl ?d1 ?d2 ?d3 ?_)
   case d1 =>
    intro j u hu
    match j,hu with
    | 0,hu=>simp [KS] at hu;subst hu;unfold sl;go_simp
    | j+1,hu=>simp [KS] at hu
   case d2=>have:=I5.len;omega
   case d3=>have:=I5.aI.size;exact this
   intro v' w6 o6 g6 h6
   have NEW:Hid (xI w v' (hs ++ [(la,ln,lc)]) (ls ++ [l]) (xO S T V P O (k+1)) (k+1) w6):=Hh (I5.push (by rw [← hh.out];exact O5.out) (by rw [HLN.out];exact FEW.out) o6 g6 (fun u=>by rw [NK.out u,LK.out u]));clear o6 g6 h6 I5 O5 I;obtain ⟨av',cv',rfl,_⟩:=NEW.slice;generalize (hs ++ [(la,ln,lc)]).length=Lp' at *;go_wp2
   go_roundw
   case rel=>exact ⟨k+1,_,_,by omega,by go_num,NEW⟩
   case measure=>simp [intOf];omega
  ·obtain rfl:k=n:=by omega
   have J:=Hh (mV wr _ ls I.rows (I.tot (by omega)));have BI:=Hh I.aI;have IJ:=Hh (fun x hx=>I.join (x:=x) hx);clear I;generalize hs.length=Lp at *;go_wp2_with fail;refine J.mono ?_;rintro e w1 ⟨v1,l,rfl,own1,hj,b1⟩;have OW:=Hh (l7 own1 BI.size);have PO:=Hh (IJ l hj);have B1:=aW BI b1;clear own1 hj b1 J;go_wp2
   go_ret
   exact ⟨_,l,rfl,OW,⟨PO.out.1,fun u=>(PO.out.2 u).trans (END u)⟩,B1⟩
end Bu
namespace Sa
open Go.Proofs.YtpepoackmcohlaaGreatDoor.Sp
open Tk (bN dI)
open Ua (no)
def hf (low:Int->Bool) (g:Int->Int) (N:Int) (k i:Nat):Bool:=if i < k then jD low g N i else false
theorem afg (low:Int->Bool) (g:Int->Int) (N:Int) (i:Nat):false=hf low g N 0 i:=by unfold hf;rw [am (by omega)]
theorem acH (low:Int->Bool) (g:Int->Int) (N:Int) (i:Nat) (h:i < 11):hf low g N 11 i=jD low g N i:=by unfold hf;rw [aw h]
theorem ZI (low:Int->Bool) (g:Int->Int) (N:Int) (k:Nat) {x:Bool} (e:x=jD low g N k) (i:Nat):upd (hf low g N k) k x i=hf low g N (k+1) i:=by
 unfold upd hf
 by_cases c:i=k
 ·subst c;rw [aw rfl,aw (by omega),e]
 ·rw [am c]
  by_cases d:i < k
  ·rw [aw d,aw (by omega)]
  ·rw [am d,am (by omega)]
end Sa
