import Derived.Test.YtpepoackmcohlaaGreatDoorPg3
set_option maxRecDepth 100000
set_option maxHeartbeats 4000000
namespace Go.Proofs.YtpepoackmcohlaaGreatDoor
open Tryz Go.RowKit
open Ad (eD)
open Fl (Ba Dp K4 R4 aH aJ aK aO aQ aR aY aZ ah aj bC bD bP bQ bV bg cZ dF dz fD fF file gJ jC jr kL lF newL newP pV qU wM z4)
open Rw (At Ow Rd)
namespace Fs
open Go.Maps
attribute [local irreducible] Sd.bA wpQuiet Sg.dG
structure Kv (w:World) (o f r:Int) (x:R4) (W:World):Prop where
 nP:W.heap[w.heap.size]? = some (.cells #[.int .i64 o,.int .i64 f,.int .i64 r] 59 (0,0))
 arg:W.heap[w.heap.size+1]? = some (.cells (aY x) 42 (0,0))
 res:W.heap[w.heap.size+2]? = some (.cells (aY z4) 42 (0,0))
 CL:w.heap.size+3<=W.heap.size
 aI:Below w.heap.size w W
theorem Kv.mono {w W W':World} {o f r:Int} {x:R4} (h:Kv w o f r x W) (b:Below W.heap.size W W'):Kv w o f r x W' :=
 have s:=h.CL
 ⟨(b.block _ (by omega)).trans h.nP,(b.block _ (by omega)).trans h.arg,(b.block _ (by omega)).trans h.res,cE h.CL b.size,h.aI.trans (b.mono (by omega))⟩
theorem gG (w:World) (o f r:Int) (x:R4):Kv w o f r x (((w.alloc (.cells #[.int .i64 o,.int .i64 f,.int .i64 r] 59)).alloc (.cells #[.int .u8 x.1,.int .u8 x.2.1,.int .u8 x.2.2.1,.int .u8 x.2.2.2] 42)).alloc (.cells #[.int .u8 0,.int .u8 0,.int .u8 0,.int .u8 0] 42)):=by
 have z1:∀ a,(w.alloc a).heap.size=w.heap.size+1:=fun a=>by simp
 have z2:∀ a b,((w.alloc a).alloc b).heap.size=w.heap.size+2:=fun a b=>by simp
 refine ⟨?_,?_,?_,by simp,(((aa w.heap.size w).alloc (ac _) _).alloc (by simp) _).alloc (by simp;omega) _⟩
 ·exact (cA _ _ _ (by rw [z2];omega)).trans ((cA _ _ _ (by rw [z1];omega)).trans (bc w _))
 ·have:=bc (w.alloc (.cells #[.int .i64 o,.int .i64 f,.int .i64 r] 59)) (.cells (aY x) 42)
  rw [z1] at this;exact (cA _ _ _ (by rw [z2];omega)).trans this
 ·have:=bc ((w.alloc (.cells #[.int .i64 o,.int .i64 f,.int .i64 r] 59)).alloc (.cells (aY x) 42)) (.cells (aY z4) 42)
  rw [z2] at this;exact this
def Adr (w:World) (o f r:Int) (W:World):Prop:=W.heap[w.heap.size]? = some (.cells #[.int .i64 o,.int .i64 f,.int .i64 r] 59 (0,0))
def Ce (w:World) (f k:Int) (e:Ending) (w':World):Prop:=e = .returned (.tuple #[aH z4,ji f k])/\Below w.heap.size w w'
variable {w W W':World} {s b B:Nat} {F:Nat->Prop} {m:Value} {C:List aD} {d:Int}
theorem U5 (S:jS w s F m C d) (o f r:Int) (x:R4) (hn:Wf f) (hk:look aD.n f C=none) :
 Calls prog 74 #[.pointer (some ⟨s,0,none⟩),Ad.addr o f r,aH x] w (Ce w f 3):=by
 have A0:=gG w o f r x;have S0:=Hh (A0);have SS:=Hh (S.below A0.aI);have HN:=Hh hn;have L:=Hh (yG hk);have LB:=Hh (Dm hk);clear A0 hn;clear S hk;unfold aH;unfold Ad.addr
 go_enter func74,ntmps74
 go_wp2_with fail;generalize (((w.alloc (.cells #[.int .i64 o,.int .i64 f,.int .i64 r] 59)).alloc (.cells #[.int .u8 x.1,.int .u8 x.2.1,.int .u8 x.2.2.1,.int .u8 x.2.2.2] 42)).alloc (.cells #[.int .u8 0,.int .u8 0,.int .u8 0,.int .u8 0] 42))=W at *;have c0:=Sd.aL (Fl.rc SS.row 0);have a1:=Sd.aL (Fl.rc S0.nP 1);have hlk:∀ P:Sd.By W,(Instr.lookup 137 m (.int .i64 f) true).run prog P.world = .ok (.tuple #[.agg #[.int .i64 0,.slice none 0 0],.bool false]) P.world:=fun P=>by
  have:=pG (SS.below P.below).mp HN true;rw [L.out,LB.out] at this;exact this
 refine Sg.mJ [(0,0),(0,1),(0,2),(0,3),(0,4),(0,5),(0,6),(0,7),(0,8),(0,9),(2,10),(1,11),(0,12)] [⟨10,8,#[.int .i64 0,.slice none 0 0],79,none,none⟩] (by kernel_rfl) (by kernel_rfl) (by kernel_rfl) (by decide) (by decide) ?_ ?_ ?_
 ·simp
 ·intro f hf
  simp only [cj,cY,fS] at hf;subst hf;exact Sg.Vz rfl rfl rfl fun ρ w=>by go_simp
 dsimp only [Sg.aP,List.getElem?_cons_succ,List.getElem?_cons_zero];have BW:=Hh ((aa W.heap.size W).drew)
 repeat (refine Sg.lit (fun xs=>?_);simp only [Sg.fill,cm,br];quiet_step (fail);refine bk ?_)
 refine Sg.pz (fun gF w7 hb hc row n7 hH hL=>?_);have B7:=aW BW hb;have R7:=Hh (row);clear hb hc row hH hL BW;refine Sg.jw (fun xs w9 hb hc=>⟨by rfl,fun K hK=>?_⟩);have B9:=aW B7 hb;have R9:=jf hb R7;obtain ⟨k0,k1,f0,f1⟩:=yH R9;have RA:=Hh (bg R9 0 (.slice none 0 0));have BA:=Hh (aQ (p:=0) (v:=.slice none 0 0) B9 n7);have hsz:=fD w9 gF 0 (.slice none 0 0);clear hb hc B7 R7 R9 B9;simp only [Sg.fill,br];go_simp;refine hK _ _ (Sd.Cl.of BA) (by rw [← hsz];exact ac _) (fun h=>absurd rfl h) ?_;clear hK K k0 k1 f0 f1 hsz
 show Sg.dG _ _ _ _ _ _ _ _ _ _ _ (fF w9 gF 0 (.slice none 0 0))
 generalize fF w9 gF 0 (.slice none 0 0)=wA at *
 repeat (refine Sg.lit (fun xs=>?_);simp only [Sg.fill,br];quiet_step (fail);refine bk ?_)
 refine Sg.done (fun wB hb hc=>?_);have BX:=aW BA hb;have G1:=Hh (jf hb RA);have S1:=Hh (S0.mono BX);have N7:=Hh (n7);clear hb hc BA RA c0 a1 hlk n7 S0;clear BX G1 N7 SS;go_wp2_with fail;have C0:=S1.nP;have a1:=Sc.aA (C:=Adr w o f r) (a:=⟨w.heap.size,1,none⟩) (v:=.int .i64 f) (fun W' h=>ah h 1);have ne:Nonempty (Sc.In (Adr w o f r)):=⟨⟨_,C0⟩⟩;refine Sc.start (Adr w o f r) [(false,0),(false,1),(false,2),(false,3),(false,4),(false,5),(true,6),(false,7)] (by kernel_rfl) (by kernel_rfl) (by kernel_rfl) C0 ?_;dsimp only [Sd.aP,List.getElem?_cons_succ,List.getElem?_cons_zero]
 repeat (refine Sd.lit ?_;quiet_step (fail);refine bk ?_)
 have S2:=Hh (S1.mono ((aa wB.heap.size wB).drew));clear S1 C0 a1;generalize wB.drew=Wy at *;refine Sd.call (by rfl) (fun K hK=>?_);obtain ⟨d0,d1,d2,d3,k0,k1,k2,k3⟩:=xL S2.res;have L2:Adr w o f r (bC Wy (w.heap.size+2) 0 z4):=aK S2.nP (by omega);have R3:=Hh (aR S2.res z4);have B3:=Hh (aJ (o:=0) (r:=z4) S2.aI (show w.heap.size<=w.heap.size+2 by omega));clear S2;go_simp;refine hK _ _ (Sc.Cl.of L2) ?_;clear hK K d0 d1 d2 d3 k0 k1 k2 k3 L2
 show Sd.bA _ _ _ _ _ _ (bC Wy (w.heap.size+2) 0 z4)
 generalize bC Wy (w.heap.size+2) 0 z4=Wz at *
 repeat (refine Sd.lit ?_;quiet_step (fail);refine bk ?_)
 refine Sd.done ?_;go_wp2
 (try simp only [Exit.inBlock,Exit.then])
 exact bp (aS (p:=6) (r:=7) rfl _ _ (w.heap.size+2) z4 (ji f 3) rfl rfl R3) rfl ⟨rfl,B3⟩
theorem acA (w:World) (p:Int) (v:Value) (l:List R4) (R:Rd K4 w v l) (hl:dF l) (o r k:Int) (x:R4) (he:jC p l o r=k) (hk:k≠0):Calls prog 102 #[file p v,.int .i64 o,.int .i64 r,aH x] w fun e w'=>∃ a cap,e = .returned (.tuple #[file 0 (.slice a 0 cap),aH z4,.int .i64 k])/\Below w.heap.size w w' :=
 (Dp w p v l R hl o r x).mono fun e w' ⟨u,h1,h2,h3⟩=>by
   rw [he,am hk] at h2;obtain ⟨a,cap,rfl,_⟩:=h2.slice;rw [he,am hk,am hk] at h1;exact ⟨a,cap,h1,h3⟩
theorem aeV (w:World) (p:Int) (v:Value) (l:List R4) (R:Rd K4 w v l) (hl:dF l) (o r:Int) (x:R4) (he:jC p l o r=0):Calls prog 102 #[file p v,.int .i64 o,.int .i64 r,aH x] w fun e w'=>∃ a cap,e = .returned (.tuple #[file p (.slice a l.length cap),aH (bV l o r x),.int .i64 0])/\Ow K4 w' w.heap.size 42 (.slice a l.length cap) (l.set r.toNat (bV l o r x))/\Below w.heap.size w w' :=
 (Dp w p v l R hl o r x).mono fun e w' ⟨u,h1,h2,h3⟩=>by
   rw [he,aw rfl] at h2;obtain ⟨a,cap,rfl,_⟩:=h2.slice;rw [cz] at h1 h2;rw [he,aw rfl,aw rfl] at h1;exact ⟨a,cap,h1,h2,h3⟩
theorem Nw (w:World) (q:Int) (u:Value) (y:R4):((w.alloc (.cells #[.int .i64 q,u] 79)).alloc (.cells (aY y) 42)).heap[w.heap.size]? = some (.cells #[.int .i64 q,u] 79 (0,0))/\((w.alloc (.cells #[.int .i64 q,u] 79)).alloc (.cells (aY y) 42)).heap[w.heap.size+1]? = some (.cells (aY y) 42 (0,0))/\Below w.heap.size w ((w.alloc (.cells #[.int .i64 q,u] 79)).alloc (.cells (aY y) 42)):=by
 refine ⟨(cA _ _ _ (by simp)).trans (bc w _),?_,((aa w.heap.size w).alloc (ac _) _).alloc (by simp) _⟩;have:=bc (w.alloc (.cells #[.int .i64 q,u] 79)) (.cells (aY y) 42)
 simpa using this
variable {c:aD}
theorem Zp (S:jS w s F m C d) (o f r k:Int) (x:R4) (hn:Wf f) (hk:look aD.n f C=some c) (he:jC c.p c.l o r=k) (h0:k≠0) :
 Calls prog 74 #[.pointer (some ⟨s,0,none⟩),Ad.addr o f r,aH x] w (Ce w f k):=by
 obtain ⟨ho,hgd,hok,_,_,hcm⟩:=S.find hk;have RR:=Hh (ho.rd);have OK:=Hh hok;have A0:=gG w o f r x;have S0:=Hh (A0);have SS:=Hh (S.below A0.aI);have HN:=Hh hn;have L:=Hh (l8 hk);have LB:=Hh (EJ hk);obtain ⟨cn,p,a,cap,l⟩:=c;unfold aD.sl at RR;simp only at *;have HE:=Hh (db he h0);have hk1:(k == 0)=false:=by simpa using h0
 obtain ⟨q,hq⟩:∃ q,q=l.length:=⟨_,rfl⟩;rw [← hq] at RR L;have HQ:=Hh hq;clear S hk A0 hn ho hgd hok hcm he hq;unfold aH;unfold Ad.addr
 go_enter func74,ntmps74
 go_wp2_with fail;generalize (((w.alloc (.cells #[.int .i64 o,.int .i64 f,.int .i64 r] 59)).alloc (.cells #[.int .u8 x.1,.int .u8 x.2.1,.int .u8 x.2.2.1,.int .u8 x.2.2.2] 42)).alloc (.cells #[.int .u8 0,.int .u8 0,.int .u8 0,.int .u8 0] 42))=W at *;have c0:=Sd.aL (Fl.rc SS.row 0);have a1:=Sd.aL (Fl.rc S0.nP 1);have hlk:∀ P:Sd.By W,(Instr.lookup 137 m (.int .i64 f) true).run prog P.world = .ok (.tuple #[.agg #[.int .i64 p,.slice a q cap],.bool true]) P.world:=fun P=>by
  have:=pG (SS.below P.below).mp HN true;rw [L.out,LB.out] at this;exact this
 refine Sg.mJ [(0,0),(0,1),(0,2),(0,3),(0,4),(0,5),(0,6),(0,7),(0,8),(0,9),(2,10),(1,11),(0,12)] [⟨10,8,#[.int .i64 0,.slice none 0 0],79,none,none⟩] (by kernel_rfl) (by kernel_rfl) (by kernel_rfl) (by decide) (by decide) ?_ ?_ ?_
 ·simp
 ·intro f hf
  simp only [cj,cY,fS] at hf;subst hf;exact Sg.Vz rfl rfl rfl fun ρ w=>by go_simp
 dsimp only [Sg.aP,List.getElem?_cons_succ,List.getElem?_cons_zero];have BW:=Hh ((aa W.heap.size W).drew)
 repeat (refine Sg.lit (fun xs=>?_);simp only [Sg.fill,cm,br];quiet_step (fail);refine bk ?_)
 refine Sg.pz (fun gF w7 hb hc row n7 hH hL=>?_);have B7:=aW BW hb;have R7:=Hh (row);clear hb hc row hH hL BW;refine Sg.jw (fun xs w9 hb hc=>⟨by rfl,fun K hK=>?_⟩);have B9:=aW B7 hb;have R9:=jf hb R7;obtain ⟨k0,k1,f0,f1⟩:=yH R9;have RA:=Hh (bg R9 p (.slice a q cap));have BA:=Hh (aQ (p:=p) (v:=.slice a q cap) B9 n7);have hsz:=fD w9 gF p (.slice a q cap);clear hb hc B7 R7 R9 B9;simp only [Sg.fill,br];go_simp;refine hK _ _ (Sd.Cl.of BA) (by rw [← hsz];exact ac _) (fun h=>absurd rfl h) ?_;clear hK K k0 k1 f0 f1 hsz
 show Sg.dG _ _ _ _ _ _ _ _ _ _ _ (fF w9 gF p (.slice a q cap))
 generalize fF w9 gF p (.slice a q cap)=wA at *
 repeat (refine Sg.lit (fun xs=>?_);simp only [Sg.fill,br];quiet_step (fail);refine bk ?_)
 refine Sg.done (fun wB hb hc=>?_);have BX:=aW BA hb;have G1:=Hh (jf hb RA);have S1:=Hh (S0.mono BX);have N7:=Hh (n7);clear hb hc BA RA c0 a1 hlk n7 S0;obtain ⟨b0,b1⟩:=pI G1;have a0:=Fl.rc S1.nP 0;have a2:=Fl.rc S1.nP 2;obtain ⟨x0,x1,x2,x3⟩:=AB S1.arg;have DO:=Hh (acA wB p (.slice a q cap) l (RR.below S1.aI) OK o r k x HE.out.1 HE.out.2);clear SS BX G1 N7 L LB;unfold file aH at DO;go_wp2_with fail;refine DO.mono ?_;rintro e w3 ⟨ua,ucap,rfl,b3⟩;obtain ⟨t1,t2,tB⟩:=Nw w3 0 (.slice ua 0 ucap) z4;have S3:=Hh ((S1.mono b3).mono tB);clear t1 t2 tB b3 DO b0 b1 a0 a2 x0 x1 x2 x3 S1;unfold z4;unfold aY z4 at S3;go_wp2_with fail;generalize ((w3.alloc (.cells #[.int .i64 0,.slice ua 0 ucap] 79)).alloc (.cells #[.int .u8 0,.int .u8 0,.int .u8 0,.int .u8 0] 42))=Wq at *;have S1:=Hh (S3);clear S3;have C0:=S1.nP;have a1:=Sc.aA (C:=Adr w o f r) (a:=⟨w.heap.size,1,none⟩) (v:=.int .i64 f) (fun W' h=>ah h 1);have ne:Nonempty (Sc.In (Adr w o f r)):=⟨⟨_,C0⟩⟩;refine Sc.start (Adr w o f r) [(false,0),(false,1),(false,2),(false,3),(false,4),(false,5),(false,6),(true,7),(false,8)] (by kernel_rfl) (by kernel_rfl) (by kernel_rfl) C0 ?_;dsimp only [Sd.aP,List.getElem?_cons_succ,List.getElem?_cons_zero]
 repeat (refine Sd.lit ?_;quiet_step (fail);refine bk ?_)
 have S2:=Hh (S1.mono ((aa Wq.heap.size Wq).drew));clear S1 C0 a1;generalize Wq.drew=Wy at *;refine Sd.call (by rfl) (fun K hK=>?_);obtain ⟨d0,d1,d2,d3,k0,k1,k2,k3⟩:=xL S2.res;have L2:Adr w o f r (bC Wy (w.heap.size+2) 0 z4):=aK S2.nP (by omega);have R3:=Hh (aR S2.res z4);have B3:=Hh (aJ (o:=0) (r:=z4) S2.aI (show w.heap.size<=w.heap.size+2 by omega));clear S2;go_simp;refine hK _ _ (Sc.Cl.of L2) ?_;clear hK K d0 d1 d2 d3 k0 k1 k2 k3 L2
 show Sd.bA _ _ _ _ _ _ (bC Wy (w.heap.size+2) 0 z4)
 generalize bC Wy (w.heap.size+2) 0 z4=Wz at *
 repeat (refine Sd.lit ?_;quiet_step (fail);refine bk ?_)
 refine Sd.done ?_;go_wp2
 (try simp only [Exit.inBlock,Exit.then])
 exact bp (aS (p:=6) (r:=7) rfl _ _ (w.heap.size+2) z4 (ji f k) rfl rfl R3) rfl ⟨rfl,B3⟩
theorem jS.acd (h:jS w s F (.map (some b)) C d) (hb:Below w.heap.size w W) (hB:w.heap.size<=B) (hg:W.grownBy W' (some b)) (mp:Mp W' F (.map (some b)) (Fs.put aD.n c C)) (ow:Ow K4 W B 42 c.sl c.l) (hn:0<=c.n/\c.n<=63) (hgd:aO c.p c.l) (hl:dF c.l) :
 St W' s (fun k=>F k\/(B<=k/\k < W'.heap.size)) ((Fs.put aD.n c C).map aD.abs) d/\ay F w W':=by
 have hne:=h.wG;have hFb:=h.mp.isMap.1;have hbl:=h.low b hFb;have hsl:=h.low s h.oZ;have O:=(ay.of_below hb).trans (ay.grown (G:=fun k=>k=b) rfl hg) fun k _ e=>e ▸ hFb;have off:=pN ow;refine ⟨⟨_,_,h.put (w':=W') (d':=d) (F':=fun k=>F k\/(B<=k/\k < W'.heap.size)) ?_ (fun k hk=>.inl hk) (mp.wide fun k hk=>.inl hk) (fun e he hne=>?_) ?_ (fun k hk=>.inr ⟨(off k hk).1,cd (off k hk).2 hg.size⟩) (fun e he hne k hk hk'=>?_) hn hgd hl (fun k hk=>?_),rfl⟩,O⟩
 ·rw [hg.block s (cd hsl hb.size) (by intro e;injection e with e;exact hne e.symm),hb.block s hsl]
  exact h.row
 ·exact aG (G:=fun k=>k=b) ((h.own e he).keep hb) (fun k hk e'=>(h.off he).2 b rfl (by rw [hk,e'])) (ay.grown rfl hg)
 ·exact aG (G:=fun k=>k=b) (ow.low (cg _)) (fun k hk e'=>by have:=(off k hk).1;omega) (ay.grown rfl hg)
 ·have:=(off k hk).1
  have:=h.low k (h.mine e he k hk')
  omega
 ·rcases hk with hk | ⟨_,hk⟩
  ·have:=h.low k hk
   have:=O.size
   omega
  ·exact hk
def Dj (w:World) (s:Nat) (F:Nat->Prop) (d:Int) (y:R4) (A':aU) (e:Ending) (w':World):Prop:=e = .returned (.tuple #[aH y,.nilIface])/\St w' s (Fx F w w') A' d/\ay F w w'
structure jB (w:World) (s:Nat) (m:Value) (d o f r:Int) (g:Nat) (p:Int) (u:Value) (W:World):Prop where
 row:W.heap[s]? = some (.cells #[m,.int .i64 d] 139 (0,0))
 nP:W.heap[w.heap.size]? = some (.cells #[.int .i64 o,.int .i64 f,.int .i64 r] 59 (0,0))
 box:W.heap[g]? = some (.cells #[.int .i64 p,u] 79 (0,0))
theorem ac5 (S:jS w s F (.map (some b)) C d) (o f r:Int) (x:R4) (hx:bQ x) (hn:Wf f) (hk:look aD.n f C=some c) (he:jC c.p c.l o r=0) :
 Calls prog 74 #[.pointer (some ⟨s,0,none⟩),Ad.addr o f r,aH x] w (Dj w s F d (bV c.l o r x) (put key (f,c.p,c.l.set r.toNat (bV c.l o r x)) (C.map aD.abs))):=by
 obtain ⟨ho,hgd,hok,_,hnm,hcm⟩:=S.find hk;have RR:=Hh (ho.rd);have OK:=Hh hok;have A0:=gG w o f r x;have S0:=Hh (A0);have SS:=Hh (S.below A0.aI);have HN:=Hh hn;have L:=Hh (l8 hk);have LB:=Hh (EJ hk);have SW:=Hh S;have hne:=S.wG;have hlen:=S.len;have hsl:=S.low s S.oZ;have hbl:=S.low b S.mp.isMap.1;obtain ⟨cn,p,a,cap,l⟩:=c;unfold aD.sl at RR;simp only at *;have FIN:Hid (∀ (B:Nat) (au:Option Addr) (cu:Nat) (W W' W'':World),w.heap.size+3<=B->Below w.heap.size w W->W.grownBy W' (some b)->Ow K4 W B 42 (.slice au l.length cu) (l.set r.toNat (bV l o r x))->(∀ c:aD,c.n=f->c.file=file p (.slice au l.length cu)->c.l=l.set r.toNat (bV l o r x)->Mp W' F (.map (some b)) (put aD.n c C))->B<=W'.heap.size->ay (fun k=>k=w.heap.size+2) W' W''->Dj w s F d (bV l o r x) (put key (f,p,l.set r.toNat (bV l o r x)) (C.map aD.abs)) (.returned (.tuple #[aH (bV l o r x),.nilIface])) W''):=fun B au cu W W' W'' hB hb hgr ow mp hBW o2=>by
  have hlen2:(l.set r.toNat (bV l o r x)).length=l.length:=cz ..;have hfile:(⟨f,p,au,cu,l.set r.toNat (bV l o r x)⟩:aD).file=file p (.slice au l.length cu):=by unfold aD.file aD.sl;rw [hlen2]
  have ow':Ow K4 W B 42 (⟨f,p,au,cu,l.set r.toNat (bV l o r x)⟩:aD).sl (l.set r.toNat (bV l o r x)):=by unfold aD.sl;rw [hlen2];exact ow
  obtain ⟨S1,O1⟩:=S.acd (c:=⟨f,p,au,cu,l.set r.toNat (bV l o r x)⟩) hb (by omega) hgr (mp _ rfl hfile rfl) ow' hnm (Dk he) (qH hok (DI hok hx));rw [jJ] at S1;have O2:=O1.trans (o2.mono (G':=fun k=>k=w.heap.size+2) fun _ _ g=>g) fun k hk e=>by omega
  have S2:=S1.only (G:=fun k=>k=w.heap.size+2) (fun k hk e=>by
   rcases hk with hk | ⟨hk,_⟩
   ·have:=S.low k hk;omega
   ·omega) o2
  refine ⟨rfl,S2.wide (fun k hk=>?_) (Fx.low S.low O2.size),O2⟩
  rcases hk with hk | ⟨h1,h2⟩
  ·exact .inl hk
  ·exact .inr ⟨by omega,cd h2 o2.size⟩
 have HE:=Hh he;obtain ⟨q,hq⟩:∃ q,q=l.length:=⟨_,rfl⟩;rw [← hq] at RR L FIN;have HQ:=Hh hq;clear S hk A0 hn ho hgd hok hcm he hq hnm;unfold aH;unfold Ad.addr
 go_enter func74,ntmps74
 go_wp2_with fail;generalize (((w.alloc (.cells #[.int .i64 o,.int .i64 f,.int .i64 r] 59)).alloc (.cells #[.int .u8 x.1,.int .u8 x.2.1,.int .u8 x.2.2.1,.int .u8 x.2.2.2] 42)).alloc (.cells #[.int .u8 0,.int .u8 0,.int .u8 0,.int .u8 0] 42))=W at *;have c0:=Sd.aL (Fl.rc SS.row 0);have a1:=Sd.aL (Fl.rc S0.nP 1);have hlk:∀ P:Sd.By W,(Instr.lookup 137 (.map (some b)) (.int .i64 f) true).run prog P.world = .ok (.tuple #[.agg #[.int .i64 p,.slice a q cap],.bool true]) P.world:=fun P=>by
  have:=pG (SS.below P.below).mp HN true;rw [L.out,LB.out] at this;exact this
 refine Sg.mJ [(0,0),(0,1),(0,2),(0,3),(0,4),(0,5),(0,6),(0,7),(0,8),(0,9),(2,10),(1,11),(0,12)] [⟨10,8,#[.int .i64 0,.slice none 0 0],79,none,none⟩] (by kernel_rfl) (by kernel_rfl) (by kernel_rfl) (by decide) (by decide) ?_ ?_ ?_
 ·simp
 ·intro f hf
  simp only [cj,cY,fS] at hf;subst hf;exact Sg.Vz rfl rfl rfl fun ρ w=>by go_simp
 dsimp only [Sg.aP,List.getElem?_cons_succ,List.getElem?_cons_zero];have BW:=Hh ((aa W.heap.size W).drew)
 repeat (refine Sg.lit (fun xs=>?_);simp only [Sg.fill,cm,br];quiet_step (fail);refine bk ?_)
 refine Sg.pz (fun gF w7 hb hc row n7 hH hL=>?_);have B7:=aW BW hb;have R7:=Hh (row);clear hb hc row hH hL BW;refine Sg.jw (fun xs w9 hb hc=>⟨by rfl,fun K hK=>?_⟩);have B9:=aW B7 hb;have R9:=jf hb R7;obtain ⟨k0,k1,f0,f1⟩:=yH R9;have RA:=Hh (bg R9 p (.slice a q cap));have BA:=Hh (aQ (p:=p) (v:=.slice a q cap) B9 n7);have hsz:=fD w9 gF p (.slice a q cap);clear hb hc B7 R7 R9 B9;simp only [Sg.fill,br];go_simp;refine hK _ _ (Sd.Cl.of BA) (by rw [← hsz];exact ac _) (fun h=>absurd rfl h) ?_;clear hK K k0 k1 f0 f1 hsz
 show Sg.dG _ _ _ _ _ _ _ _ _ _ _ (fF w9 gF p (.slice a q cap))
 generalize fF w9 gF p (.slice a q cap)=wA at *
 repeat (refine Sg.lit (fun xs=>?_);simp only [Sg.fill,br];quiet_step (fail);refine bk ?_)
 refine Sg.done (fun wB hb hc=>?_);have BX:=aW BA hb;have G1:=Hh (jf hb RA);have S1:=Hh (S0.mono BX);have N7:=Hh (n7);clear hb hc BA RA c0 a1 hlk n7 S0;obtain ⟨b0,b1⟩:=pI G1;have a0:=Fl.rc S1.nP 0;have a2:=Fl.rc S1.nP 2;obtain ⟨x0,x1,x2,x3⟩:=AB S1.arg;have DO:=Hh (aeV wB p (.slice a q cap) l (RR.below S1.aI) OK o r x HE);rw [← HQ.out] at DO;have HB3:=Hh (S1.CL);clear BX G1 N7 L LB RR OK HE SS;generalize l.set r.toNat (bV l o r x)=l2 at *;generalize bV l o r x=y at *;unfold file aH at DO;go_wp2_with fail;refine DO.mono ?_;rintro e w3 ⟨ua,ucap,rfl,o3,b3⟩;obtain ⟨t1,t2,tB⟩:=Nw w3 p (.slice ua q ucap) y;have S3:=Hh ((S1.mono b3).mono tB);have T1:=Hh t1;have T2:=Hh t2;have O3:=Hh (o3.keep tB);have hw3:Hid (wB.heap.size<=w3.heap.size):=b3.size;clear t1 t2 tB b3 DO b0 b1 a0 a2 x0 x1 x2 x3 S1 o3;unfold aY at S3 T1 T2 O3;go_wp2_with fail;have TZ:Hid (w3.heap.size+2=((w3.alloc (.cells #[.int .i64 p,.slice ua q ucap] 79)).alloc (.cells #[.int .u8 y.1,.int .u8 y.2.1,.int .u8 y.2.2.1,.int .u8 y.2.2.2] 42)).heap.size):=by unfold Hid;simp
 generalize ((w3.alloc (.cells #[.int .i64 p,.slice ua q ucap] 79)).alloc (.cells #[.int .u8 y.1,.int .u8 y.2.1,.int .u8 y.2.2.1,.int .u8 y.2.2.2] 42))=Wq at *;have S5:=Hh (SW.below S3.aI);have C0:jB w s (.map (some b)) d o f r w3.heap.size p (.slice ua q ucap) Wq.drew:=⟨S5.row,S3.nP,T1⟩;have c0:=Sc.aA (C:=jB w s (.map (some b)) d o f r w3.heap.size p (.slice ua q ucap)) (a:=⟨s,0,none⟩) (fun W' h=>ah h.row 0);have a1:=Sc.aA (C:=jB w s (.map (some b)) d o f r w3.heap.size p (.slice ua q ucap)) (a:=⟨w.heap.size,1,none⟩) (v:=.int .i64 f) (fun W' h=>ah h.nP 1);have r0:=Sc.aA (C:=jB w s (.map (some b)) d o f r w3.heap.size p (.slice ua q ucap)) (a:=⟨w3.heap.size,0,none⟩) (fun W' h=>ah h.box 0);have r1:=Sc.aA (C:=jB w s (.map (some b)) d o f r w3.heap.size p (.slice ua q ucap)) (a:=⟨w3.heap.size,1,none⟩) (fun W' h=>ah h.box 1);have ne:Nonempty (Sc.In (jB w s (.map (some b)) d o f r w3.heap.size p (.slice ua q ucap))):=⟨⟨_,C0⟩⟩;refine Sc.start (jB w s (.map (some b)) d o f r w3.heap.size p (.slice ua q ucap)) [(false,0),(false,1),(false,2),(false,3),(false,4),(false,5),(false,6),(true,7)] (by kernel_rfl) (by kernel_rfl) (by kernel_rfl) C0 ?_;dsimp only [Sd.aP,List.getElem?_cons_succ,List.getElem?_cons_zero]
 repeat (refine Sd.lit ?_;quiet_step (fail);refine bk ?_)
 have BD:Below Wq.heap.size Wq Wq.drew:=(aa _ _).drew;have S6:=Hh (S3.mono BD);have M6:=Hh (S5.below BD).mp;have R6:=Hh (S5.below BD).row;have T6:Hid (Wq.drew.heap[w3.heap.size]? = _):=T1;have T7:Hid (Wq.drew.heap[w3.heap.size+1]? = _):=T2;have O6:=Hh (O3.keep BD);have Z6:Hid (w3.heap.size+2=Wq.drew.heap.size):=TZ;clear c0 a1 r0 r1 C0 S3 S5 T1 T2 O3 TZ BD;generalize Wq.drew=Wy at *;refine Sd.call (by rfl) (fun K hK=>?_);have hcl:C.length < maxLen:=by unfold maxLen;omega
 have hll2:Hid (l2.length=q):=by
  have:=O6.out;unfold Ow World.ownsRow at this
  rcases this.2 with ⟨e,h0⟩ | ⟨g,cp,cur,e,_⟩
  ·injection e with _ e _;exact h0.trans e.symm
  ·injection e with _ e _;exact e.symm
 have hfl:(⟨f,p,ua,ucap,l2⟩:aD).file = .agg #[.int .i64 p,.slice ua q ucap]:=by unfold aD.file aD.sl Fl.file;rw [hll2.out]
 refine wH _ _ _ rfl rfl M6 ⟨f,p,ua,ucap,l2⟩ rfl (by rw [hfl];rfl) HN.out hcl (fun w4 m4 g4=>?_);have hbne1:b≠w3.heap.size:=by have:=HB3.out;have:=hw3.out;omega
 have hbne2:b≠w3.heap.size+1:=by have:=HB3.out;have:=hw3.out;omega
 have RES:=Hh (fun W''=>FIN wB.heap.size ua ucap Wy w4 W'' HB3 S6.aI g4 O6 (fun c e1 e2 e3=>by
  obtain ⟨cn',cp,ca,cc,cl⟩:=c;simp only at e1 e3;subst e1 e3;unfold aD.file Fl.file aD.sl at e2;injection e2 with e2;have e4:=c8 (fun t:Array Value=>t[0]?) e2;have e5:=c8 (fun t:Array Value=>t[1]?) e2
  simp at e4 e5
  obtain ⟨rfl,_,rfl⟩:=e5;subst e4
  exact m4) (by have:=g4.size;have:=Z6.out;have:=hw3.out;omega))
 have old:∀ k,k < Wy.heap.size->k≠b->w4.heap[k]? = Wy.heap[k]?:=fun k hk hne=>g4.block k hk (by intro e;injection e with e;exact hne e);have N1:w4.heap[s]? = _:=(old s (bm R6) (fun e=>hne e.symm)).trans R6;have N2:w4.heap[w.heap.size]? = _:=(old _ (bm S6.nP) (by omega)).trans S6.out.nP;have N3:w4.heap[w3.heap.size]? = _:=(old _ (bm T6) (fun e=>hbne1 e.symm)).trans T6;have N4:=(old _ (bm T7) (fun e=>hbne2 e.symm)).trans T7;have N5:=(old _ (bm S6.res) (by omega)).trans S6.out.res;refine hK _ _ (Sc.Cl.of ⟨N1,N2,N3⟩) ?_;clear hK K m4 g4 FIN N1 N2 N3 old R6 M6 T6 T7 O6;refine Sd.done ?_;obtain ⟨y0,y1,y2,y3⟩:=AB N4;obtain ⟨d0,d1,d2,d3,k0,k1,k2,k3⟩:=xL N5;have R9:=Hh (aR N5 y);have O9:Hid (ay (fun k=>k=w.heap.size+2) w4 (bC w4 (w.heap.size+2) 0 y)):=by
  have O1:∀ W:World,∀ o v,ay (fun k=>k=w.heap.size+2) W (W.setCell ⟨w.heap.size+2,o,none⟩ v):=fun W o v=>ay.set (fun k=>k=w.heap.size+2) W (a:=⟨w.heap.size+2,o,none⟩) rfl v;exact (((O1 _ _ _).trans (O1 _ _ _) fun _ _ g=>g).trans (O1 _ _ _) fun _ _ g=>g).trans (O1 _ _ _) fun _ _ g=>g
 clear N4 N5 S6 HB3 hw3 Z6;go_wp2
 (try simp only [Exit.inBlock,Exit.then])
 exact bp (aS (p:=6) (r:=7) rfl _ _ (w.heap.size+2) y .nilIface rfl rfl R9) rfl (RES _ O9)
end Fs
namespace Ad
def Zq (o n:Int) (k:Bool):Prop:=o=0/\n=0/\k=true\/o=1/\n=64/\k=true\/o=2/\n=128/\k=true\/(o < 0\/2 < o)/\n=0/\k=false
theorem JP (w:World) (o n:Int) (k:Bool) (h:Zq o n k):Calls prog 101 #[.int .i64 o] w fun e w'=>e = .returned (.tuple #[.int .i64 n,.bool k])/\Below w.heap.size w w':=by
 rcases h with ⟨rfl,rfl,rfl⟩ | ⟨rfl,rfl,rfl⟩ | ⟨rfl,rfl,rfl⟩ | ⟨h | h,rfl,rfl⟩
 all_goals
  go_enter func101,ntmps101
  go_wp2
  go_ret2
  exact ⟨rfl,aa _ _⟩
variable {o:Int}
theorem Te (h1:0<=o) (h2:o<=2):Zq o (64 * o) true:=by
 unfold Zq
 rcases (by omega:o=0\/o=1\/o=2) with rfl | rfl | rfl
 ·exact .inl ⟨rfl,rfl,rfl⟩
 ·exact .inr (.inl ⟨rfl,rfl,rfl⟩)
 ·exact .inr (.inr (.inl ⟨rfl,rfl,rfl⟩))
theorem Uf (h:¬ (0<=o/\o<=2)):Zq o 0 false:=.inr (.inr (.inr ⟨by omega,rfl,rfl⟩))
theorem bJ (w:World) (o f r:Int):Calls prog 73 #[addr o f r] w fun e w'=>e = .returned (.bool (eD o f r))/\Below w.heap.size w w':=by
 have B0:=Hh ((aa w.heap.size w).alloc (ac _) (.cells #[.int .i64 o,.int .i64 f,.int .i64 r] 59));unfold addr
 by_cases h0:0<=o/\o<=2
 ·have L:=Hh (Te h0.1 h0.2)
  obtain ⟨h1,h2⟩:=h0
  go_enter func73,ntmps73
  go_wp2_with fail;refine (JP _ o _ _ L).mono ?_;rintro e w1 ⟨rfl,b1⟩;have B1:=aW B0 b1;have c1:w1.cell? ⟨w.heap.size,1,none⟩=some (.int .i64 f):=(b1.cell (by simp)).trans (by go_simp);have c2:w1.cell? ⟨w.heap.size,2,none⟩=some (.int .i64 r):=(b1.cell (by simp)).trans (by go_simp);clear b1 B0 L
  by_cases k0:0<=f
  ·by_cases k1:f < 64
   ·by_cases k2:0<=r
    ·by_cases k3:r < 256
     ·go_wp2
      go_ret
      exact ⟨aC (by first | exact (bj (show good o f r from ⟨by omega,by omega,by omega,by omega,by omega,by omega⟩)).symm | exact (ai (show ¬ good o f r from fun g=>by obtain ⟨_,_,_,_,_,_⟩:=g;omega)).symm | exact cU.2 ⟨fun h=>absurd h (by omega),fun g=>absurd g.2.2.2.2.2 (by omega)⟩),B1.out⟩
     ·go_wp2
      go_ret
      exact ⟨aC (by first | exact (bj (show good o f r from ⟨by omega,by omega,by omega,by omega,by omega,by omega⟩)).symm | exact (ai (show ¬ good o f r from fun g=>by obtain ⟨_,_,_,_,_,_⟩:=g;omega)).symm | exact cU.2 ⟨fun h=>absurd h (by omega),fun g=>absurd g.2.2.2.2.2 (by omega)⟩),B1.out⟩
    ·go_wp2
     go_ret
     exact ⟨aC (by first | exact (bj (show good o f r from ⟨by omega,by omega,by omega,by omega,by omega,by omega⟩)).symm | exact (ai (show ¬ good o f r from fun g=>by obtain ⟨_,_,_,_,_,_⟩:=g;omega)).symm | exact cU.2 ⟨fun h=>absurd h (by omega),fun g=>absurd g.2.2.2.2.2 (by omega)⟩),B1.out⟩
   ·go_wp2
    go_ret
    exact ⟨aC (by first | exact (bj (show good o f r from ⟨by omega,by omega,by omega,by omega,by omega,by omega⟩)).symm | exact (ai (show ¬ good o f r from fun g=>by obtain ⟨_,_,_,_,_,_⟩:=g;omega)).symm | exact cU.2 ⟨fun h=>absurd h (by omega),fun g=>absurd g.2.2.2.2.2 (by omega)⟩),B1.out⟩
  ·go_wp2
   go_ret
   exact ⟨aC (by first | exact (bj (show good o f r from ⟨by omega,by omega,by omega,by omega,by omega,by omega⟩)).symm | exact (ai (show ¬ good o f r from fun g=>by obtain ⟨_,_,_,_,_,_⟩:=g;omega)).symm | exact cU.2 ⟨fun h=>absurd h (by omega),fun g=>absurd g.2.2.2.2.2 (by omega)⟩),B1.out⟩
 ·have L:=Hh (Uf h0)
  go_enter func73,ntmps73
  go_wp2_with fail;refine (JP _ o _ _ L).mono ?_;rintro e w1 ⟨rfl,b1⟩;have B1:=aW B0 b1;have c1:w1.cell? ⟨w.heap.size,1,none⟩=some (.int .i64 f):=(b1.cell (by simp)).trans (by go_simp);have c2:w1.cell? ⟨w.heap.size,2,none⟩=some (.int .i64 r):=(b1.cell (by simp)).trans (by go_simp);clear b1 B0 L;go_wp2
  go_ret
  exact ⟨aC (by first | exact (bj (show good o f r from ⟨by omega,by omega,by omega,by omega,by omega,by omega⟩)).symm | exact (ai (show ¬ good o f r from fun g=>by obtain ⟨_,_,_,_,_,_⟩:=g;omega)).symm | exact cU.2 ⟨fun h=>absurd h (by omega),fun g=>absurd g.2.2.2.2.2 (by omega)⟩),B1.out⟩
end Ad
namespace Fs
open Go.Maps
variable {w:World} {s:Nat} {F:Nat->Prop} {m:Value} {C:List aD} {d:Int}
theorem Pt (S:jS w s F m C d) (o f r:Int) (x:R4) (hx:bQ x) (hn:eD o f r=true) :
 (∃ k,k≠0/\dE (C.map aD.abs) o f r=k/\Calls prog 74 #[.pointer (some ⟨s,0,none⟩),Ad.addr o f r,aH x] w (Ce w f k)) \/
 (dE (C.map aD.abs) o f r=0/\Calls prog 74 #[.pointer (some ⟨s,0,none⟩),Ad.addr o f r,aH x] w (Dj w s F d (dV (C.map aD.abs) o f r x) (dA (C.map aD.abs) o f r x))):=by
 have hg:=of_decide_eq_true hn;have wf:Wf f:=WalkArith.wf_i64 (by unfold Ad.good at hg;omega)
 cases hk:look aD.n f C with
 | none=>exact .inl ⟨3,by decide,by unfold dE;rw [aw hn,iO,hk];rfl,U5 S o f r x wf hk⟩
 | some c =>
   have e:dE (C.map aD.abs) o f r=jC c.p c.l o r:=by unfold dE;rw [aw hn,iO,hk];rfl
   by_cases h0:jC c.p c.l o r=0
   ·refine .inr ⟨e.trans h0,?_⟩
    have e1:dV (C.map aD.abs) o f r x=bV c.l o r x:=by
     unfold dV;rw [e,h0,iO,hk]
     rfl
    have e2:dA (C.map aD.abs) o f r x=put key (f,c.p,c.l.set r.toNat (bV c.l o r x)) (C.map aD.abs):=by
     unfold dA;rw [e,h0,iO,hk]
     rfl
    rw [e1,e2]
    rcases S.mp with ⟨_,rfl⟩ | ⟨b,rfl,_,_⟩
    ·cases hk
    ·exact ac5 S o f r x hx wf hk h0
   ·exact .inl ⟨_,h0,e,Zp S o f r _ x wf hk rfl h0⟩
theorem jS.count (h:jS w s F m C d) (d':Int):jS (w.setCell ⟨s,1,none⟩ (.int .i64 d')) s F m C d'/\ay F w (w.setCell ⟨s,1,none⟩ (.int .i64 d')):=by
 have O:ay (fun k=>k=s) w (w.setCell ⟨s,1,none⟩ (.int .i64 d')):=ay.set (fun k=>k=s) w (a:=⟨s,1,none⟩) rfl _;refine ⟨⟨?_,h.oZ,h.mp.kept fun b hb=>?_,fun c hc=>aG (G:=fun k=>k=s) (h.own c hc) (fun k hk e=>(h.off hc).1 (e ▸ hk)) O,h.mine,h.apart,h.ok,fun k hk=>cd (h.low k hk) O.size⟩,O.mono fun k _ e=>e ▸ h.oZ⟩
 ·have:=Rw.aB (j:=1) h.row (.int .i64 d')
  rw [this]
  simp
 ·subst hb
  exact bt w _ _ b h.wG
def iP (w:World) (s:Nat) (F:Nat->Prop) (d:Int) (y:R4) (k:Int) (A':aU) (e:Ending) (w':World):Prop:=e = .returned (.tuple #[aH y,.int .i64 k])/\St w' s (Fx F w w') A' d/\ay F w w'
theorem qO (W:World) (g:Nat) (y:R4):ay (fun k=>k=g) W (bC W g 0 y):=by
 have O1:∀ W:World,∀ o v,ay (fun k=>k=g) W (W.setCell ⟨g,o,none⟩ v):=fun W o v=>ay.set (fun k=>k=g) W (a:=⟨g,o,none⟩) rfl v;exact (((O1 _ _ _).trans (O1 _ _ _) fun _ _ g=>g).trans (O1 _ _ _) fun _ _ g=>g).trans (O1 _ _ _) fun _ _ g=>g
def Sj (w:World) (k:Int) (e:Ending) (w':World):Prop:=e = .returned (.tuple #[aH z4,.int .i64 k])/\Below w.heap.size w w'
theorem afq (w:World) (s:Nat) (o f r:Int) (x:R4) (hn:eD o f r=false):Calls prog 44 #[.pointer (some ⟨s,0,none⟩),Ad.addr o f r,aH x] w (Sj w 1):=by
 have A0:=gG w o f r x;have S0:=Hh (A0);have GA:∀ W,Calls prog 73 #[Ad.addr o f r] W fun e w'=>e = .returned (.bool false)/\Below W.heap.size W w':=fun W=>by have:=Ad.bJ W o f r;rwa [hn] at this
 have HG:=Hh GA;clear A0 GA hn;unfold aH;unfold Ad.addr at *
 go_enter func44,ntmps44
 have AC:=S0.out;obtain ⟨a0,a1,a2⟩:=D6 AC.nP;clear AC;go_wp2_with fail;generalize (((w.alloc (.cells #[.int .i64 o,.int .i64 f,.int .i64 r] 59)).alloc (.cells #[.int .u8 x.1,.int .u8 x.2.1,.int .u8 x.2.2.1,.int .u8 x.2.2.2] 42)).alloc (.cells #[.int .u8 0,.int .u8 0,.int .u8 0,.int .u8 0] 42))=W at *;refine (HG _).mono ?_;rintro e w1 ⟨rfl,b1⟩;have S2:=Hh (S0.mono b1);clear b1 HG S0 a0 a1 a2;obtain ⟨d0,d1,d2,d3,k0,k1,k2,k3⟩:=xL S2.res;have R3:=Hh (aR S2.res z4);have B3:=Hh (aJ (o:=0) (r:=z4) S2.aI (show w.heap.size<=w.heap.size+2 by omega));clear S2;go_wp2
 (try simp only [Exit.inBlock,Exit.then])
 exact bp (aS (p:=6) (r:=7) rfl _ _ (w.heap.size+2) z4 (.int .i64 1) rfl rfl R3) rfl ⟨rfl,B3⟩
theorem XK (w:World) (s:Nat) (o f r k:Int) (x:R4) (hg:fq w) (h5:k≠5) (hn:eD o f r=true) (ha:∀ W,Below w.heap.size w W->w.heap.size+3<=W.heap.size->Calls prog 74 #[.pointer (some ⟨s,0,none⟩),Ad.addr o f r,aH x] W (Ce W f k)) :
 Calls prog 44 #[.pointer (some ⟨s,0,none⟩),Ad.addr o f r,aH x] w (Sj w k):=by
 have A0:=gG w o f r x;have S0:=Hh (A0);have HGL:=Hh hg;have H5:=Hh (ai h5);clear hg h5;have GA:∀ W,Calls prog 73 #[Ad.addr o f r] W fun e w'=>e = .returned (.bool true)/\Below W.heap.size W w':=fun W=>by have:=Ad.bJ W o f r;rwa [hn] at this
 have HG:=Hh GA;have HA:=Hh ha;clear A0 GA hn ha;unfold aH at *;unfold Ad.addr at *
 go_enter func44,ntmps44
 have AC:=S0.out;obtain ⟨a0,a1,a2⟩:=D6 AC.nP;clear AC;go_wp2_with fail;generalize (((w.alloc (.cells #[.int .i64 o,.int .i64 f,.int .i64 r] 59)).alloc (.cells #[.int .u8 x.1,.int .u8 x.2.1,.int .u8 x.2.2.1,.int .u8 x.2.2.2] 42)).alloc (.cells #[.int .u8 0,.int .u8 0,.int .u8 0,.int .u8 0] 42))=W at *;refine (HG _).mono ?_;rintro e w1 ⟨rfl,b1⟩;have S1:=Hh (S0.mono b1);clear b1 HG S0 a0 a1 a2;obtain ⟨a0,a1,a2⟩:=D6 S1.nP;obtain ⟨x0,x1,x2,x3⟩:=AB S1.arg;go_wp2_with fail;refine (HA w1 S1.aI S1.CL).mono ?_;rintro e w2 ⟨rfl,b2⟩;have B2:=Hh (((aa w2.heap.size w2).alloc (ac _) (.cells #[.int .u8 0,.int .u8 0,.int .u8 0,.int .u8 0] 42)));have S2:=Hh ((S1.mono b2).mono B2);clear b2 S1 a0 a1 a2 x0 x1 x2 x3 HA;unfold aH z4 ji flt;go_wp2_with fail;clear B2;generalize (w2.alloc (.cells #[.int .u8 0,.int .u8 0,.int .u8 0,.int .u8 0] 42))=W2 at *;have IS:=Hh (UE f k W2);rw [H5.out] at IS;unfold ji flt at IS;refine IS.mono ?_;rintro e w4 ⟨rfl,b4⟩;have S4:=Hh (S2.mono b4);clear b4 IS S2;go_wp2_with fail;have NU:=yO f k w4 (HGL.below S4.aI);unfold ji flt at NU;refine NU.mono ?_;rintro e w5 ⟨rfl,b5⟩;have S5:=Hh (S4.mono b5);clear b5 S4 NU;obtain ⟨d0,d1,d2,d3,k0,k1,k2,k3⟩:=xL S5.res;have R3:=Hh (aR S5.res z4);have B3:=Hh (aJ (o:=0) (r:=z4) S5.aI (show w.heap.size<=w.heap.size+2 by omega));clear S5;go_wp2
 (try simp only [Exit.inBlock,Exit.then])
 exact bp (aS (p:=6) (r:=7) rfl _ _ (w.heap.size+2) z4 (.int .i64 k) rfl rfl R3) rfl ⟨rfl,B3⟩
theorem aft (S:jS w s F m C d) (o f r:Int) (x:R4) (hg:fq w) (h0:¬ F 0) (hd:0<=d/\d < 1000000) (hn:eD o f r=true) (ha:∀ W,Below w.heap.size w W->w.heap.size+3<=W.heap.size->Calls prog 74 #[.pointer (some ⟨s,0,none⟩),Ad.addr o f r,aH x] W (Ce W f 5)) :
 Calls prog 44 #[.pointer (some ⟨s,0,none⟩),Ad.addr o f r,aH x] w (iP w s F (d+1) z4 5 (C.map aD.abs)):=by
 have A0:=gG w o f r x;have S0:=Hh (A0);have HGL:=Hh hg;have SS:=Hh S;have HF0:=Hh h0;have W0:IntKind.i64.wrap (d+1)=d+1:=cG _ (by omega);clear hg S h0 hd;have GA:∀ W,Calls prog 73 #[Ad.addr o f r] W fun e w'=>e = .returned (.bool true)/\Below W.heap.size W w':=fun W=>by have:=Ad.bJ W o f r;rwa [hn] at this
 have HG:=Hh GA;have HA:=Hh ha;clear A0 GA hn ha;unfold aH at *;unfold Ad.addr at *
 go_enter func44,ntmps44
 have AC:=S0.out;obtain ⟨a0,a1,a2⟩:=D6 AC.nP;clear AC;go_wp2_with fail;generalize (((w.alloc (.cells #[.int .i64 o,.int .i64 f,.int .i64 r] 59)).alloc (.cells #[.int .u8 x.1,.int .u8 x.2.1,.int .u8 x.2.2.1,.int .u8 x.2.2.2] 42)).alloc (.cells #[.int .u8 0,.int .u8 0,.int .u8 0,.int .u8 0] 42))=W at *;refine (HG _).mono ?_;rintro e w1 ⟨rfl,b1⟩;have S1:=Hh (S0.mono b1);clear b1 HG S0 a0 a1 a2;obtain ⟨a0,a1,a2⟩:=D6 S1.nP;obtain ⟨x0,x1,x2,x3⟩:=AB S1.arg;go_wp2_with fail;refine (HA w1 S1.aI S1.CL).mono ?_;rintro e w2 ⟨rfl,b2⟩;have B2:=Hh (((aa w2.heap.size w2).alloc (ac _) (.cells #[.int .u8 0,.int .u8 0,.int .u8 0,.int .u8 0] 42)));have S2:=Hh ((S1.mono b2).mono B2);clear b2 S1 a0 a1 a2 x0 x1 x2 x3 HA;unfold aH z4 ji flt;go_wp2_with fail;clear B2;generalize (w2.alloc (.cells #[.int .u8 0,.int .u8 0,.int .u8 0,.int .u8 0] 42))=W2 at *;have IS:=Hh (UE f 5 W2);rw [show decide ((5:Int)=5)=true from rfl] at IS;unfold ji flt at IS;refine IS.mono ?_;rintro e w4 ⟨rfl,b4⟩;have S4:=Hh (S2.mono b4);clear b4 IS S2;have T4:=SS.below S4.aI;have c1:=Fl.rc T4.row 1;have f1:=aj T4.row 1;obtain ⟨t5,t6⟩:=T4.count (d+1);have T5:=Hh t5;have O5:=Hh t6;have GL5:=Hh ((HGL.below S4.aI).only HF0 t6);have N5:Hid (Kv w o f r x (w4.setCell ⟨s,1,none⟩ (.int .i64 (d+1))))\/True:=.inr trivial;have hsl:=SS.low s SS.oZ;have A5:Hid ((w4.setCell ⟨s,1,none⟩ (.int .i64 (d+1))).heap[w.heap.size+2]? = some (.cells (aY z4) 42 (0,0))):=(bt w4 ⟨s,1,none⟩ _ _ (by show w.heap.size+2≠s;omega)).trans S4.out.res;have BB:=Hh ((ay.of_below S4.aI).trans t6 fun _ _ g=>g);clear T4 t5 t6 N5 S4;go_wp2_with fail;clear c1 f1;generalize w4.setCell ⟨s,1,none⟩ (.int .i64 (d+1))=w5 at *;have NU:=yO f 5 w5 GL5;unfold ji flt at NU;refine NU.mono ?_;rintro e w6 ⟨rfl,b6⟩;have T6:=Hh (T5.below b6);have A6:=Hh (jf b6 A5);have O6:=Hh (BB.then b6);clear b6 NU T5 A5 BB O5;obtain ⟨d0,d1,d2,d3,k0,k1,k2,k3⟩:=xL A6;have R3:=Hh (aR A6 z4);have O7:=O6.trans (qO w6 (w.heap.size+2) z4) fun k hk e=>by omega
 have FIN:Hid (iP w s F (d+1) z4 5 (C.map aD.abs) (.returned (.tuple #[aH z4,.int .i64 5])) (bC w6 (w.heap.size+2) 0 z4)):=⟨rfl,⟨m,C,(T6.only (G:=fun k=>k=w.heap.size+2) (fun k hk e=>by have:=SS.out.low k hk;omega) (qO w6 (w.heap.size+2) z4)).wide (fun k hk=>.inl hk) (Fx.low SS.out.low O7.size),rfl⟩,O7⟩;clear A6 O6 O7 T6;go_wp2
 (try simp only [Exit.inBlock,Exit.then])
 exact bp (aS (p:=6) (r:=7) rfl _ _ (w.heap.size+2) z4 (.int .i64 5) rfl rfl R3) rfl FIN
theorem KY (w:World) (s:Nat) (F:Nat->Prop) (d:Int) (A':aU) (y:R4) (o f r:Int) (x:R4) (hF:∀ k,F k->k < w.heap.size) (hn:eD o f r=true) (ha:∀ W,Below w.heap.size w W->w.heap.size+3<=W.heap.size->Calls prog 74 #[.pointer (some ⟨s,0,none⟩),Ad.addr o f r,aH x] W (Dj W s F d y A')) :
 Calls prog 44 #[.pointer (some ⟨s,0,none⟩),Ad.addr o f r,aH x] w (iP w s F d y 0 A'):=by
 have A0:=gG w o f r x;have S0:=Hh (A0);have HF:=Hh hF;clear hF;have GA:∀ W,Calls prog 73 #[Ad.addr o f r] W fun e w'=>e = .returned (.bool true)/\Below W.heap.size W w':=fun W=>by have:=Ad.bJ W o f r;rwa [hn] at this
 have HG:=Hh GA;have HA:=Hh ha;clear A0 GA hn ha;unfold aH at *;unfold Ad.addr at *
 go_enter func44,ntmps44
 have AC:=S0.out;obtain ⟨a0,a1,a2⟩:=D6 AC.nP;clear AC;go_wp2_with fail;generalize (((w.alloc (.cells #[.int .i64 o,.int .i64 f,.int .i64 r] 59)).alloc (.cells #[.int .u8 x.1,.int .u8 x.2.1,.int .u8 x.2.2.1,.int .u8 x.2.2.2] 42)).alloc (.cells #[.int .u8 0,.int .u8 0,.int .u8 0,.int .u8 0] 42))=W at *;refine (HG _).mono ?_;rintro e w1 ⟨rfl,b1⟩;have S1:=Hh (S0.mono b1);clear b1 HG S0 a0 a1 a2;obtain ⟨a0,a1,a2⟩:=D6 S1.nP;obtain ⟨x0,x1,x2,x3⟩:=AB S1.arg;go_wp2_with fail;refine (HA w1 S1.aI S1.CL).mono ?_;rintro e w2 ⟨rfl,t2,o2⟩;have hwl:=cE S1.CL o2.size;have RW:w2.heap[w.heap.size+2]? = some (.cells (aY z4) 42 (0,0)):=(o2.block _ (by have:=S1.out.CL;omega) (fun g=>by have:=HF.out _ g;omega)).trans S1.out.res;obtain ⟨g1,g2,g3⟩:=sD w2 y;have B2:=Hh g2;have T2:=Hh (t2.below g2);have A6:=Hh ((g2.block _ (by omega)).trans RW);have Y6:=Hh g1;have hF2:Hid (∀ k,Fx F w1 w2 k->k≠w.heap.size+2/\(F k\/w.heap.size<=k)):=fun k hk=>by
  have:=S1.CL
  rcases hk with hk | ⟨hk,_⟩
  ·have:=HF.out k hk
   exact ⟨by omega,.inl hk⟩
  ·exact ⟨by omega,.inr (by omega)⟩
 have O6:=Hh (((ay.of_below S1.aI).trans o2 fun _ _ g=>g).then g2);clear g1 g2 g3 t2 o2 S1 a0 a1 a2 x0 x1 x2 x3 HA RW B2;unfold aH;have Y4:Hid (aY y=#[.int .u8 y.1,.int .u8 y.2.1,.int .u8 y.2.2.1,.int .u8 y.2.2.2]):=rfl;rw [Y4.out] at T2 A6 Y6 O6;have y0:=Fl.rc Y6 0;go_upto_region 5 with fail;clear y0;generalize (w2.alloc (.cells #[.int .u8 y.1,.int .u8 y.2.1,.int .u8 y.2.2.1,.int .u8 y.2.2.2] 42))=w6 at *;obtain ⟨y0,y1,y2,y3⟩:=AB Y6;obtain ⟨d0,d1,d2,d3,k0,k1,k2,k3⟩:=xL A6;have R3:=Hh (aR A6 y);have O7:=O6.trans (qO w6 (w.heap.size+2) y) fun k hk e=>by omega
 have FIN:Hid (iP w s F d y 0 A' (.returned (.tuple #[aH y,.int .i64 0])) (bC w6 (w.heap.size+2) 0 y)):=by
  have T7:=T2.only (G:=fun k=>k=w.heap.size+2) (fun k hk e=>(hF2 k hk).1 e) (qO w6 (w.heap.size+2) y);refine ⟨rfl,T7.wide (fun k hk=>?_) (Fx.low HF O7.size),O7⟩
  rcases (hF2.out k hk).2 with h | h
  ·exact .inl h
  ·exact .inr ⟨h,T7.low k hk⟩
 clear A6 O6 O7 T2 hF2;go_wp2
 (try simp only [Exit.inBlock,Exit.then])
 exact bp (aS (p:=6) (r:=7) rfl _ _ (w.heap.size+2) y (.int .i64 0) rfl rfl R3) rfl FIN
theorem sJ {A:aU} (S:St w s F A d) (hg:fq w) (h0:¬ F 0) (hd:0<=d/\d < 1000000) (o f r:Int) (x:R4) (hx:bQ x) :
 Calls prog 44 #[.pointer (some ⟨s,0,none⟩),Ad.addr o f r,aH x] w (iP w s F (dD A o f r d) (dV A o f r x) (dE A o f r) (dA A o f r x)):=by
 obtain ⟨m,C,h,rfl⟩:=S;have no:∀ k e w',dE (C.map aD.abs) o f r=k->k≠0->k≠5->Sj w k e w'->iP w s F (dD (C.map aD.abs) o f r d) (dV (C.map aD.abs) o f r x) (dE (C.map aD.abs) o f r) (dA (C.map aD.abs) o f r x) e w':=fun k e w' hk h0 h5 ⟨he,b⟩=>by
  have e1:dV (C.map aD.abs) o f r x=z4:=by unfold dV;split;rfl;rw [hk,am h0]
  have e2:dA (C.map aD.abs) o f r x=C.map aD.abs:=by unfold dA;split;rfl;rw [hk,am h0]
  have e3:dD (C.map aD.abs) o f r d=d:=by unfold dD;rw [hk,am h5]
  rw [e1,e2,e3,hk];exact ⟨he,St.fx ⟨m,C,h,rfl⟩ b,ay.of_below b⟩
 cases hn:eD o f r with
 | false=>exact (afq w s o f r x hn).mono fun e w'=>no 1 e w' (by unfold dE;rw [am (by rw [hn];decide)]) (by decide) (by decide)
 | true =>
   by_cases hz:dE (C.map aD.abs) o f r=0
   ·have e3:dD (C.map aD.abs) o f r d=d:=by unfold dD;rw [hz,am (by decide)]
    rw [e3,hz];refine KY w s F d _ _ o f r x h.low hn fun W hb _=>?_
    rcases Pt (h.below hb) o f r x hx hn with ⟨k,h1,h2,_⟩ | ⟨_,h3⟩
    ·exact absurd (h2.symm.trans hz) h1
    ·exact h3
   ·have ask:∀ W,Below w.heap.size w W->w.heap.size+3<=W.heap.size->Calls prog 74 #[.pointer (some ⟨s,0,none⟩),Ad.addr o f r,aH x] W (Ce W f (dE (C.map aD.abs) o f r)):=fun W hb _=>by
     rcases Pt (h.below hb) o f r x hx hn with ⟨k,h1,h2,h3⟩ | ⟨h3,_⟩
     ·rw [h2];exact h3
     ·exact absurd h3 hz
    by_cases h5:dE (C.map aD.abs) o f r=5
    ·have e1:dV (C.map aD.abs) o f r x=z4:=by unfold dV;split;rfl;rw [h5,am (by decide)]
     have e2:dA (C.map aD.abs) o f r x=C.map aD.abs:=by unfold dA;split;rfl;rw [h5,am (by decide)]
     have e3:dD (C.map aD.abs) o f r d=d+1:=by unfold dD;rw [h5,aw rfl]
     rw [e1,e2,e3];rw [h5] at ask ⊢;exact aft h o f r x hg h0 hd hn ask
    ·exact (XK w s o f r _ x hg h5 hn ask).mono fun e w'=>no _ e w' rfl hz h5
end Fs
namespace Fl
theorem j4 {fn:Func} {p:Tmp} (h:fn.results=#[.cell p 79]) (tmps:Array Value) (w:World) (g:Nat) (q:Int) (v:Value) (hp:tmps.getD p undef = .pointer (some ⟨g,0,none⟩)) (hrow:w.heap[g]? = some (.cells #[.int .i64 q,v] 79 (0,0))) :
 (results fn tmps).run prog w = .ok (file q v) w:=results_cell_row h tmps w g _ #[.int .i64 q,v] _ _ hp hrow underlying79 rfl (by show _=some 2;kernel_rfl)
end Fl
namespace Fs
open Go.Maps
open Fl (j4 aC)
def L0:List R4:=[(3,2,165,164),z4,z4,z4]
def L1:List R4:=[(3,2,165,164),z4,(9,0,0,0),z4]
def A0:aU:=[(7,2,L0)]
theorem Li (w:World):St (w.alloc (.cells #[.map none,.int .i64 0] 139)) w.heap.size (fun k=>k=w.heap.size) [] 0 :=
 ⟨.map none,[],⟨bc w _,rfl,.inl ⟨rfl,rfl⟩,nofun,nofun,fW,eB.nil,fun k hk=>by subst hk;simp⟩,rfl⟩
variable {w:World} {s off i r:Nat} {F:Nat->Prop} {d n a b q:Int}
theorem Fy {A:aU} (S:St w s F A d) (hn:Wf n) (r:Int):Calls prog 175 #[.pointer (some ⟨s,0,none⟩),.int .i64 n,.int .i64 r] w (dw w (gV A n r) (gB A n r)):=by
 obtain ⟨m,C,h,rfl⟩:=S;exact aam h hn r
theorem abm (h:a=b):Ending.returned (.int .i64 a) = .returned (.int .i64 b):=by rw [h]
variable {L:List aD} {c:aD}
theorem at3 {b:Nat} (h:At E3 w b off L) (hc:L[i]? = some c) :
 w.cell? ⟨b,off+i * 3,none⟩=some (.int .i64 c.n)/\w.cell? ⟨b,off+i * 3+1,none⟩=some (.int .i64 c.p)/\w.cell? ⟨b,off+i * 3+2,none⟩=some c.sl:=by
 have hi:=(bs.1 hc).1;have e:L.getD i E3.Ox=c:=by rw [af,hc];rfl
 exact ⟨h i hi 0 _ (by rw [e];rfl),h i hi 1 _ (by rw [e];rfl),h i hi 2 _ (by rw [e];rfl)⟩
def Ix (L:List aD) (n q:Int):Prop:=(q = -1/\∀ x∈L,x.n≠n)\/∃ i:Nat,∃ c,q=i/\L[i]? = some c/\c.n=n/\∀ j,j < i->∀ e,L[j]? = some e->e.n≠n
theorem Fa (h:look aD.n n L=none):Ix L n (-1):=.inl ⟨rfl,eO.1 h⟩
theorem yF (hs:rM aD.n L) (h:look aD.n n L=some c):∃ i:Nat,L[i]? = some c/\Ix L n i:=by
 obtain ⟨hm,hn⟩:=gL h;obtain ⟨i,hi⟩:=dj hm;refine ⟨i,hi,.inr ⟨i,c,rfl,hi,hn,fun j hj e he=>?_⟩⟩;obtain ⟨hi1,hi2⟩:=bs.1 hi;obtain ⟨hj1,hj2⟩:=bs.1 he;have:=eS.1 hs j i hj1 hi1 hj;rw [hi2,hj2] at this
 omega
variable {v:Value}
theorem lW (R:rH w r F v L d) (hq:Ix L n q) :
 Calls prog 54 #[.pointer (some ⟨r,0,none⟩),.int .i64 n] w fun e w'=>e = .returned (.int .i64 q)/\Below w.heap.size w w':=by
 have c0:=Fl.rc R.row 0;have hlen:=R.len;obtain ⟨a,cap,rfl,_,_,h3⟩:=R.list.rd;have H3:=Hh h3;have HQ:=Hh hq;clear R h3 hq;generalize hn:L.length=N at *;have HN:=Hh hn;have C0:=Hh c0;clear hn c0
 go_enter func54,ntmps54
 go_wp2
 go_loopw [5] (fun i wr=>∃ k:Nat,k<=N/\i = .int .i64 k/\Hid (∀ j,j < k->∀ e,L[j]? = some e->e.n≠n)/\Hid (Below w.heap.size w wr)) (fun i _=>N - (intOf i).toNat)
 case atStart=>exact ⟨0,cg _,rfl,fun j hj=>by omega,aa _ _⟩
 case round =>
  obtain ⟨k,hk,rfl,hb,B⟩:=hrel;have c0:=iI B C0
  by_cases hlt:k < N
  ·have hkL:k < L.length:=by have:=HN.out;omega
   obtain ⟨c,hc⟩:∃ c,L[k]? = some c:=⟨_,aq hkL⟩;obtain ⟨b,off,rfl,hA⟩:=H3 (by omega);obtain ⟨x0,_,_⟩:=at3 (hA.below B) hc
   by_cases he:c.n=n
   ·have E:Hid (q=k):=by
     rcases HQ.out with ⟨_,h⟩ | ⟨i,c',e1,h1,h2,h3⟩
     ·exact absurd he (h c (cN hc))
     ·have:i=k:=by
       rcases Nat.lt_trichotomy i k with h | h | h
       ·exact absurd h2 (hb i h c' h1)
       ·exact h
       ·exact absurd he (h3 k h c hc)
      show q=k
      rw [e1,this]
    clear hc hkL hA;generalize c.n=cn at *;subst he;go_wp2
    go_ret
    exact ⟨abm E.symm,B⟩
   ·have NB:Hid (∀ j,j < k+1->∀ e,L[j]? = some e->e.n≠n):=fun j hj e hje=>by
     by_cases ej:j=k
     ·subst ej
      rw [hc] at hje;obtain rfl:=cP hje;exact he
     ·exact hb j (by omega) e hje
    clear hc hkL hA;generalize c.n=cn at *;go_wp2
    go_roundw
    case rel=>exact ⟨k+1,by omega,by go_num,NB,B⟩
    case measure=>simp [intOf];omega
  ·obtain rfl:k=N:=by omega
   have E:Hid (q = -1):=by
    rcases HQ.out with ⟨h,_⟩ | ⟨i,c',e1,h1,h2,h3⟩
    ·exact h
    ·have:=(bs.1 h1).1
     exact absurd h2 (hb i (by have:=HN.out;omega) c' h1)
   go_wp2
   go_ret
   exact ⟨abm E.symm,B⟩
theorem QK (R:rH w r F v L d) (k:Int) (hq:Ix L n (-1)) :
 Calls prog 68 #[.pointer (some ⟨r,0,none⟩),.int .i64 n,.int .i64 k] w (dw w z4 false):=by
 obtain ⟨h1,hB,hz⟩:=vC w;have H1:=Hh h1;have HB:=Hh hB;have HZ:=Hh hz;have RR:=Hh R;have HX:=Hh (lW (R.below hB) hq);clear h1 hB hz R hq RR;unfold aY z4 at H1 HB HZ HX
 go_enter func68,ntmps68
 go_wp2_with fail;generalize (w.alloc (.cells #[.int .u8 0,.int .u8 0,.int .u8 0,.int .u8 0] 42))=W at *;refine HX.mono ?_;rintro e w1 ⟨rfl,b1⟩;have hz:=HZ.out;have G:w1.heap[w.heap.size]? = some (.cells (aY z4) 42 (0,0)):=(b1.block _ (by omega)).trans H1.out;have B1:=aW HB b1;obtain ⟨d0,d1,d2,d3,k0,k1,k2,k3⟩:=xL G;have R2:=Hh (aR G z4);have B2:=Hh (aJ (o:=0) (r:=z4) B1 (show w.heap.size<=w.heap.size by omega));clear b1 HX HB H1 HZ hz G B1;go_wp2
 (try simp only [Exit.inBlock,Exit.then])
 exact bp (aS (p:=6) (r:=7) rfl _ _ w.heap.size z4 (.bool false) rfl rfl R2) rfl ⟨rfl,B2⟩
theorem YU (R:rH w r F v L d) (k:Int) (hi:L[i]? = some c) (hq:Ix L n i) (hk:¬ (0<=k/\k < c.l.length)) :
 Calls prog 68 #[.pointer (some ⟨r,0,none⟩),.int .i64 n,.int .i64 k] w (dw w z4 false):=by
 obtain ⟨h1,hB,hz⟩:=vC w;have H1:=Hh h1;have HB:=Hh hB;have HZ:=Hh hz;have RR:=Hh R;have HX:=Hh (lW (R.below hB) hq);have hlen:=R.len;have hiL:=(bs.1 hi).1;obtain ⟨a,cap,rfl,_,_,h3⟩:=R.list.rd;obtain ⟨b,off,rfl,hA⟩:=h3 (by omega);have A3:=Hh (at3 hA hi);have FR:=Hh (R.list.file c (cN hi));have CR:=Hh (ah R.row 0);have hlt:=hiL;obtain ⟨cn,cp,ca,cc,cl⟩:=c;unfold aD.sl at A3 FR;simp only at *;have HK:=Hh hk;clear hk;generalize hcl:cl.length=q at *;clear hcl FR;clear h1 hB hz R hq h3 hA hi RR hiL;generalize L.length=N at *;unfold aY z4 at H1 HB HZ HX
 go_enter func68,ntmps68
 go_wp2_with fail;generalize (w.alloc (.cells #[.int .u8 0,.int .u8 0,.int .u8 0,.int .u8 0] 42))=W at *;refine HX.mono ?_;rintro e w1 ⟨rfl,b1⟩;have hz:=HZ.out;have G:w1.heap[w.heap.size]? = some (.cells (aY z4) 42 (0,0)):=(b1.block _ (by omega)).trans H1.out;have B1:=aW HB b1;have CELL:=Hh (fun (p:Addr) (u:Value) (h:w.cell? p=some u)=>iI B1 h);have c0:w1.cell? ⟨r,0,none⟩=some (.slice (some ⟨b,off,none⟩) N cap):=CELL _ _ CR;have c2:=CELL.out _ _ A3.out.2.2;obtain ⟨d0,d1,d2,d3,k0,k1,k2,k3⟩:=xL G
 by_cases hk0:k < 0
 ·have R2:=Hh (aR G z4)
  have B2:=Hh (aJ (o:=0) (r:=z4) B1 (show w.heap.size<=w.heap.size by omega));clear b1 HX HB H1 HZ hz G B1 CELL A3 CR;go_wp2
  (try simp only [Exit.inBlock,Exit.then])
  exact bp (aS (p:=6) (r:=7) rfl _ _ w.heap.size z4 (.bool false) rfl rfl R2) rfl ⟨rfl,B2⟩
 ·have hkq:(q:Int)<=k:=by have:=HK.out;omega
  have R2:=Hh (aR G z4);have B2:=Hh (aJ (o:=0) (r:=z4) B1 (show w.heap.size<=w.heap.size by omega));clear b1 HX HB H1 HZ hz G B1 CELL A3 CR;go_wp2
  (try simp only [Exit.inBlock,Exit.then])
  exact bp (aS (p:=6) (r:=7) rfl _ _ w.heap.size z4 (.bool false) rfl rfl R2) rfl ⟨rfl,B2⟩
theorem Xa (R:rH w r F v L d) (k:Nat) (hi:L[i]? = some c) (hq:Ix L n i) (hk:k < c.l.length) :
 Calls prog 68 #[.pointer (some ⟨r,0,none⟩),.int .i64 n,.int .i64 (k:Int)] w (dw w (bD c.l k) true):=by
 obtain ⟨h1,hB,hz⟩:=vC w;have H1:=Hh h1;have HB:=Hh hB;have HZ:=Hh hz;have RR:=Hh R;have HX:=Hh (lW (R.below hB) hq);have hlen:=R.len;have hiL:=(bs.1 hi).1;obtain ⟨a,cap,rfl,_,_,h3⟩:=R.list.rd;obtain ⟨b,off,rfl,hA⟩:=h3 (by omega);have A3:=Hh (at3 hA hi);have FR:=Hh (R.list.file c (cN hi));have CR:=Hh (ah R.row 0);have hlt:=hiL;obtain ⟨cn,cp,ca,cc,cl⟩:=c;unfold aD.sl at A3 FR;simp only at *;have hk0:=hk;obtain ⟨fa,fcap,ef,_,_,f3⟩:=FR.out;obtain ⟨fb,fo,ef2,fA⟩:=f3 (by omega);obtain ⟨rfl,rfl⟩:ca=some ⟨fb,fo,none⟩/\cc=fcap:=by injection ef with e1 _ e3;exact ⟨e1.trans ef2,e3⟩
 have F4:=Hh (wM fA k hk0);clear ef ef2 f3 fA FR hk;generalize bD cl k=y at *;generalize hcl:cl.length=q at *;clear hcl;clear h1 hB hz R hq h3 hA hi RR hiL;generalize L.length=N at *;unfold aY z4 at H1 HB HZ HX
 go_enter func68,ntmps68
 go_wp2_with fail;generalize (w.alloc (.cells #[.int .u8 0,.int .u8 0,.int .u8 0,.int .u8 0] 42))=W at *;refine HX.out.mono ?_;rintro e w1 ⟨rfl,b1⟩;have hz:=HZ.out;have G:w1.heap[w.heap.size]? = some (.cells (aY z4) 42 (0,0)):=(b1.block _ (by omega)).trans H1.out;have B1:=Hh (HB.out.trans (b1.mono HB.out.size));have CELL:=Hh (fun (p:Addr) (u:Value) (h:w.cell? p=some u)=>(B1.out.cell (bo _ _ h)).trans h);have c0:w1.cell? ⟨r,0,none⟩=some (.slice (some ⟨b,off,none⟩) N cap):=CELL.out _ _ CR.out;have c2:=CELL.out _ _ A3.out.2.2;have d0:=Fl.rc G 0;have d1:=Fl.rc G 1;have d2:=Fl.rc G 2;have d3:=Fl.rc G 3;have k0:=aj G 0;have k1:=aj G 1;have k2:=aj G 2;have k3:=aj G 3;obtain ⟨y0,y1,y2,y3⟩:=F4.out;have q0:=CELL.out _ _ y0;have q1:=CELL.out _ _ y1;have q2:=CELL.out _ _ y2;have q3:=CELL.out _ _ y3;clear y0 y1 y2 y3 F4;have R2:=Hh (aR G y);have B2:=Hh (aJ (o:=0) (r:=y) B1 (show w.heap.size<=w.heap.size by omega));clear b1 HX HB H1 HZ hz G B1 CELL A3 CR;go_wp2
 (try simp only [Exit.inBlock,Exit.then])
 exact bp (aS (p:=6) (r:=7) rfl _ _ w.heap.size y (.bool true) rfl rfl R2) rfl ⟨rfl,B2⟩
theorem DT (h:eB (L.map aD.abs)):rM aD.n L:=(tq (κ:=aD.n) (κ':=key) rQ).1 h.zL
theorem vB (R:rH w r F v L d) (n k:Int) :
 Calls prog 68 #[.pointer (some ⟨r,0,none⟩),.int .i64 n,.int .i64 k] w (dw w (gV (L.map aD.abs) n k) (gB (L.map aD.abs) n k)):=by
 cases hk:look aD.n n L with
 | none =>
   rw [Pj hk,qx hk];exact QK R k (Fa hk)
 | some c =>
   obtain ⟨i,hi,hq⟩:=yF (DT R.ok) hk
   by_cases hr:0<=k/\k < c.l.length
   ·obtain ⟨j,rfl⟩:∃ j:Nat,k=j:=⟨k.toNat,by omega⟩
    rw [yD hk,iT hk,aw hr,bj hr,ch];exact Xa R j hi hq (by omega)
   ·rw [yD hk,iT hk,am hr,ai hr]
    exact YU R k hi hq hr
attribute [local irreducible] Sd.bA wpQuiet Sg.dG
variable {B g N cap:Nat} {w' W:World}
theorem ay.qG (h:Below B w w'):ay (fun k=>B<=k) w w':=⟨h.os,h.tape,h.output,h.size,fun k _ hn=>h.block k (by omega)⟩
def Gd (F:Nat->Prop) (r:Nat) (W:World) (c:aD):Prop:=Rd K4 W c.sl c.l/\(0 < c.l.length->∀ k,c.sl.ownBlock=some k->¬ (F k\/k=r))
theorem rH.next {v':Value} {L':List aD} {d':Int} (R:rH w r F v L d) (hF:∀ k,F k->k < w.heap.size) (O:ay (fun k=>k=r) w W) (row:W.heap[r]? = some (.cells #[v',.int .i64 d'] 50 (0,0)))
 (own:Ow E3 W w.heap.size 81 v' L') (mem:∀ c∈L',c∈L\/Gd F r W c) (ok:eB (L'.map aD.abs)):rH W r F v' L' d':=by
 have hr:=bm R.row;refine ⟨row,R.off,⟨own.rd,fun _ k hk g=>?_,fun c hc=>?_,fun c hc=>?_⟩,ok⟩
 ·have:=(pN own k hk).1
  rcases g with g | g
  ·have:=hF k g;omega
  ·omega
 ·rcases mem c hc with h | h
  ·exact gN (G:=fun k=>k=r) (R.list.file c h) (fun h0 k hk e=>R.list.xP c h h0 k hk (.inr e)) O
  ·exact h.1
 ·rcases mem c hc with h | h
  ·exact R.list.xP c h
  ·exact h.2
theorem VX (hF:∀ k,F k->k < B) (hr:r < B) (o:Ow K4 W B 42 c.sl c.l):Gd F r W c:=⟨o.rd,fun _ k hk g=>by
 have:=(pN o k hk).1
 rcases g with g | g
 ·have:=hF k g;omega
 ·omega⟩
theorem qJ {c':aD} (h:Ow E3 w B 81 (.slice (some ⟨g,0,none⟩) N cap) L) (hN:N=L.length) (hi:L[i]? = some c) (hn:c'.n=c.n) (hp:c'.p=c.p) :
 Ow E3 ((w.setCell ⟨g,i * 3+1,none⟩ (.int .i64 c'.p)).setCell ⟨g,i * 3+2,none⟩ c'.sl) B 81 (.slice (some ⟨g,0,none⟩) N cap) (L.set i c'):=by
 subst hN;obtain ⟨hl,he⟩:=bs.1 hi;have e:L.getD i E3.Ox=c:=by rw [af,hi];rfl
 have h1:=h.set i 1 hl (by decide) (.int .i64 c'.p) c (by rw [e,hp];rfl);have e1:L.set i c=L:=by rw [← he];exact List.set_getElem_self hl
 rw [e1] at h1
 have h2:=h1.set i 2 hl (by decide) c'.sl c' (by
  rw [e]
  show [Value.int .i64 c'.n,.int .i64 c'.p,c'.sl] = [Value.int .i64 c.n,.int .i64 c.p,c'.sl]
  rw [hn,hp])
 exact h2
theorem Mf (h:Ow E3 w B 81 (.slice (some ⟨g,0,none⟩) N cap) L) (hi:L[i]? = some c) :
 (w.cell? ⟨g,i * 3,none⟩=some (.int .i64 c.n)/\w.cell? ⟨g,i * 3+1,none⟩=some (.int .i64 c.p)/\w.cell? ⟨g,i * 3+2,none⟩=some c.sl)/\(∀ j,w.frozen? ⟨g,j,none⟩=false)/\B<=g/\g < w.heap.size:=by
 obtain ⟨g',cap',eg,h1,h2,_,_,hf,hA⟩:=h.form (by have:=(bs.1 hi).1;omega);have e:g=g':=by
  injection eg with e1;injection e1 with e1;injection e1 with e1 _ _
 subst e;have c:=at3 hA hi;simp only [cQ] at c;exact ⟨c,hf,h1,h2⟩
def mM (w:World) (r:Nat) (F:Nat->Prop) (d:Int) (b:Bool) (A':aU) (e:Ending) (w':World):Prop:=e = .returned (.bool b)/\Rs w' r F A' d/\ay (fun k=>k=r) w w'
theorem On (w:World) (r:Value) (n k:Int) (x y:R4) (b:Bool) (hb:b=false\/b=true/\k=0) (hh:∀ W,Below w.heap.size w W->Calls prog 68 #[r,.int .i64 n,.int .i64 k] W (dw W y b)) :
 Calls prog 39 #[r,.int .i64 n,.int .i64 k,aH x] w fun e w'=>e = .returned (.bool false)/\Below w.heap.size w w':=by
 obtain ⟨h1,hB,hz⟩:=sD w x;have HB:=Hh hB;have HH:=Hh (hh _ hB);clear h1 hB hz hh;unfold aH;unfold aY at HB HH
 rcases hb with rfl | ⟨rfl,rfl⟩
 ·go_enter func39,ntmps39
  go_wp2_with fail;refine HH.mono ?_;rintro e w1 ⟨rfl,b1⟩;have B1:=aW HB b1;have B2:=Hh (B1.alloc B1.size (.cells #[.int .u8 y.1,.int .u8 y.2.1,.int .u8 y.2.2.1,.int .u8 y.2.2.2] 42));clear b1 HH HB;unfold aH;go_wp2
  go_ret
  exact ⟨rfl,B2⟩
 ·go_enter func39,ntmps39
  go_wp2_with fail;refine HH.mono ?_;rintro e w1 ⟨rfl,b1⟩;have B1:=aW HB b1;have B2:=Hh (B1.alloc B1.size (.cells #[.int .u8 y.1,.int .u8 y.2.1,.int .u8 y.2.2.1,.int .u8 y.2.2.2] 42));clear b1 HH HB;unfold aH;go_wp2
  go_ret
  exact ⟨rfl,B2⟩
structure RC (r:Nat) (v:Value) (d:Int) (g:Nat) (p:Int) (u:Value) (W:World):Prop where
 row:W.heap[r]? = some (.cells #[v,.int .i64 d] 50 (0,0))
 box:W.heap[g]? = some (.cells #[.int .i64 p,u] 79 (0,0))
theorem VH (R:rH w r F v L d) (hF:∀ k,F k->k < w.heap.size) (k:Nat) (x:R4) (hx:bQ x) (hi:L[i]? = some c) (hq:Ix L n i) (hk:k < c.l.length) (hk0:k≠0) (y:R4) (hh:∀ W,Below w.heap.size w W->Calls prog 68 #[.pointer (some ⟨r,0,none⟩),.int .i64 n,.int .i64 k] W (dw W y true)) :
 Calls prog 39 #[.pointer (some ⟨r,0,none⟩),.int .i64 n,.int .i64 (k:Int),aH x] w (mM w r F d true ((L.set i (⟨c.n,c.p,none,0,c.l.set k x⟩:aD)).map aD.abs)):=by
 obtain ⟨h1,hB,hz⟩:=sD w x;have HB:=Hh hB;have H1:=Hh h1;have HH:=Hh (hh _ hB);have IX:=Hh (fun W (hb:Below w.heap.size w W)=>lW (R.below hb) hq);have RR:=Hh R;have HI:=Hh hi;have HF:=Hh hF;have hlen:=R.len;have hil:i < L.length:=(bs.1 hi).1;have hrl:r < w.heap.size:=bm R.row;have hmem:=cN hi;have hcm:c.abs∈L.map aD.abs:=List.mem_map_of_mem hmem;have FR:=Hh (R.list.file c hmem);have FO:=Hh (R.list.xP c hmem);have GDC:=Hh (R.ok.good _ hcm);obtain ⟨va,vcap,rfl,_⟩:=R.list.rd.slice;have FIN:Hid (∀ (ua:Option Addr) (uc:Nat) (v':Value) (W:World),ay (fun k=>k=r) w W->W.heap[r]? = some (.cells #[v',.int .i64 d] 50 (0,0))->Ow E3 W w.heap.size 81 v' (L.set i (⟨c.n,c.p,ua,uc,c.l.set k x⟩:aD))->Ow K4 W w.heap.size 42 (⟨c.n,c.p,ua,uc,c.l.set k x⟩:aD).sl (c.l.set k x)->mM w r F d true ((L.set i (⟨c.n,c.p,none,0,c.l.set k x⟩:aD)).map aD.abs) (.returned (.bool true)) W):=fun ua uc v' W O row own new=>by
  have e:(L.set i (⟨c.n,c.p,ua,uc,c.l.set k x⟩:aD)).map aD.abs=(L.set i (⟨c.n,c.p,none,0,c.l.set k x⟩:aD)).map aD.abs:=by rw [List.map_set,List.map_set];rfl
  have ok:eB ((L.set i (⟨c.n,c.p,none,0,c.l.set k x⟩:aD)).map aD.abs):=by
   have e3:put aD.n (⟨c.n,c.p,none,0,c.l.set k x⟩:aD) L=L.set i (⟨c.n,c.p,none,0,c.l.set k x⟩:aD):=jN (DT R.ok) hi rfl;rw [← e3,jJ];exact R.ok.put (R.ok.nm _ hcm) (vG (R.ok.good _ hcm) hk0) (qH (R.ok.ok _ hcm) hx)
  refine ⟨rfl,⟨v',_,R.next hF O row own (fun e he=>?_) (by rw [e];exact ok),e⟩,O⟩
  rcases List.mem_or_eq_of_mem_set he with h | rfl
  ·exact .inl h
  ·exact .inr (VX hF hrl new)
 clear h1 hB hz hh R hi hq hF hmem hcm hx;unfold aD.sl at FR FO;generalize hN:L.length=N at *;have HN:=Hh hN;have hr0:((k:Int) == 0)=false:=by simpa using hk0
 have HK0:=Hh hk0;clear hN hk0;unfold aH;unfold aY at H1 HB HH
 go_enter func39,ntmps39
 go_wp2_with fail;generalize (w.alloc (.cells #[.int .u8 x.1,.int .u8 x.2.1,.int .u8 x.2.2.1,.int .u8 x.2.2.2] 42))=W0 at *;refine HH.mono ?_;rintro e w1 ⟨rfl,b1⟩;have B2:=Hh ((aW HB b1).alloc (aW HB b1).size (.cells #[.int .u8 y.1,.int .u8 y.2.1,.int .u8 y.2.2.1,.int .u8 y.2.2.2] 42));have H2:=Hh ((cA w1 (.cells #[.int .u8 y.1,.int .u8 y.2.1,.int .u8 y.2.2.1,.int .u8 y.2.2.2] 42) w.heap.size (by have:=b1.size;have:=bm H1.out;omega)).trans (jf b1 H1.out));clear b1 HH HB H1;unfold aH;go_wp2_with fail;clear hr0;generalize (w1.alloc (.cells #[.int .u8 y.1,.int .u8 y.2.1,.int .u8 y.2.2.1,.int .u8 y.2.2.2] 42))=W2 at *;refine (IX _ B2).mono ?_;rintro e w3 ⟨rfl,b3⟩;have B3:=aW B2 b3;have H3:=Hh (jf b3 H2);clear b3 B2 H2 IX;have B4:=Hh (B3.alloc B3.size (.cells #[] 81));have R4':=RR.below B4;have c0:=Fl.rc R4'.row 0;have RDL:=Hh R4'.list.rd;have OM:=Hh (Rw.Ow.made (K:=E3) w3 w3.heap.size 81 (ac _));clear R4'
 go_wp2_with (at_builtin;refine Rw.rW (K:=E3) underlying47 lG rfl (by omega) rfl _ _ rfl w3.heap.size _ _ rfl OM.out _ L rfl RDL.out ?c1 ?c2 ?_)
 case c1=>simp only [dm];have:=HN.out;omega
 case c2=>simp
 intro v5 w5 o5 b5
 obtain ⟨g5,cap5,e5⟩:∃ g cap,v5 = .slice (some ⟨g,0,none⟩) N cap:=by
  obtain ⟨g,cap,e,_⟩:=o5.form (by have:=HN.out;omega);rw [HN.out] at e;exact ⟨g,cap,e⟩
 subst e5;have B5:=Hh (B4.trans (b5.mono B3.size));have Rw5:=(B5.block r hrl).trans RR.row;have c5:=Fl.rc Rw5 0;have f5:=aj Rw5 0;have Row6:=Hh (Rw.aB (j:=0) Rw5 (.slice (some ⟨g5,0,none⟩) N cap5));have O6:Hid (ay (fun k=>k=r) w (w5.setCell ⟨r,0,none⟩ (.slice (some ⟨g5,0,none⟩) N cap5))):=(ay.of_below B5).trans (ay.set (fun k=>k=r) w5 (a:=⟨r,0,none⟩) rfl _) fun _ _ g=>g;have OW6:=Hh (o5.far (p:=⟨r,0,none⟩) Rw5 (by decide) (.slice (some ⟨g5,0,none⟩) N cap5));have Bx6:=Hh ((bt w5 ⟨r,0,none⟩ (.slice (some ⟨g5,0,none⟩) N cap5) w.heap.size (by show w.heap.size≠r;omega)).trans ((b5.block _ (by have:=bm H3.out;exact this)).trans ((cA w3 (.cells #[] 81) w.heap.size (bm H3.out)).trans H3.out)));have hw3:Hid (w.heap.size<=w3.heap.size):=B3.size;clear b5 o5 B5 Rw5 B4 B3 H3 OM RDL c0;go_upto_region 6 with fail;clear c5 f5;generalize w5.setCell ⟨r,0,none⟩ (.slice (some ⟨g5,0,none⟩) N cap5)=w6 at *;obtain ⟨⟨_,q1,q2⟩,_,hg5,_⟩:=Mf OW6 HI;have HG5:=Hh hg5;have c6:=Fl.rc Row6 0;unfold aD.sl at q2;have B7:=Hh ((aa w6.heap.size w6).alloc (ac _) (.cells #[.int .i64 c.p,.slice c.a c.l.length c.cap] 79));have N7:=Hh (bc w6 (.cells #[.int .i64 c.p,.slice c.a c.l.length c.cap] 79));clear hg5;go_upto_region 7 with fail;clear q1 q2 c6;have hz7:Hid ((w6.alloc (.cells #[.int .i64 c.p,.slice c.a c.l.length c.cap] 79)).heap.size=w6.heap.size+1):=by unfold Hid;simp
 generalize (w6.alloc (.cells #[.int .i64 c.p,.slice c.a c.l.length c.cap] 79))=w7 at *;have FR7:=Hh ((gN FR (G:=fun k=>k=r) (fun h0 k hk e=>FO h0 k hk (.inr e)) (O6.then B7)).below ((aa w7.heap.size w7).alloc (ac _) (.cells #[] 42)));have OM:=Hh (Rw.Ow.made (K:=K4) w7 w7.heap.size 42 (ac _));have BA:=Hh (cA w7 (.cells #[] 42));have k7:(w7.alloc (.cells #[] 42)).cell? ⟨w6.heap.size,1,none⟩=some (.slice c.a c.l.length c.cap):=ah ((BA _ (by have:=hz7.out;omega)).trans N7.out) 1
 go_wp2_with (at_builtin;refine Rw.rW (K:=K4) underlying77 Ba rfl (by omega) rfl _ _ rfl w7.heap.size _ _ rfl OM.out _ c.l rfl FR7.out ?c1 ?c2 ?_)
 case c1=>simp only [dm];have:=GDC.out.2.2.2.1;have e:c.abs.2.2=c.l:=rfl;rw [e] at this;omega
 case c2=>simp
 intro u8 w8 o8 b8
 obtain ⟨g8,cap8,e8⟩:∃ g cap,u8 = .slice (some ⟨g,0,none⟩) c.l.length cap:=by
  obtain ⟨g,cap,e,_⟩:=o8.form (by omega);exact ⟨g,cap,e⟩
 subst e8;have B8:Below w7.heap.size w7 w8:=((aa w7.heap.size w7).alloc (ac _) _).trans b8;have N8:=Hh ((B8.block w6.heap.size (by have:=hz7.out;omega)).trans N7.out);have k8:=Fl.rc N8 1;have f8:=aj N8 1;have hs67:Hid (w6.heap.size < w7.heap.size):=by have:=hz7.out;show _ < _;omega
 have hwr6:Hid (w.heap.size<=w6.heap.size):=O6.size;have Bx8:=Hh ((B8.block _ (by have:=bm Bx6.out;have:=hs67.out;omega)).trans (jf B7.out Bx6.out));have Row8:=Hh ((B8.block r (by have:=hwr6.out;have:=hs67.out;omega)).trans ((B7.out.block r (by have:=hwr6.out;omega)).trans Row6.out));have OW8:=Hh ((OW6.keep B7).keep B8);have O8:=Hh o8;have n86:(Value.slice (some ⟨g8,0,none⟩) c.l.length cap8).ownBlock≠some w6.heap.size:=o8.range (.inl hs67);have n56:(Value.slice (some ⟨g5,0,none⟩) N cap5).ownBlock≠some w6.heap.size:=by
  intro e
  have:=(pN OW6 w6.heap.size e).2
  omega
 have L8:Hid (ay (fun k=>k=r) w w8):=(O6.then B7).then B8;have Row9:=Hh ((bt w8 ⟨w6.heap.size,1,none⟩ (.slice (some ⟨g8,0,none⟩) c.l.length cap8) r (by have:=hwr6.out;show r≠w6.heap.size;omega)).trans Row8.out);have Bx9:=Hh ((bt w8 ⟨w6.heap.size,1,none⟩ (.slice (some ⟨g8,0,none⟩) c.l.length cap8) w.heap.size (by have:=bm Bx6.out;show w.heap.size≠w6.heap.size;omega)).trans Bx8.out);have N9:=Hh (Rw.aB (j:=1) N8 (.slice (some ⟨g8,0,none⟩) c.l.length cap8));have OW9:=Hh (OW8.off (p:=⟨w6.heap.size,1,none⟩) n56 (.slice (some ⟨g8,0,none⟩) c.l.length cap8));have O9:=Hh (O8.off (p:=⟨w6.heap.size,1,none⟩) n86 (.slice (some ⟨g8,0,none⟩) c.l.length cap8));have L9:Hid (ay (fun k=>k=r) w (w8.setCell ⟨w6.heap.size,1,none⟩ (.slice (some ⟨g8,0,none⟩) c.l.length cap8))):=L8.trans (ay.qG (B:=w.heap.size) ((aa w.heap.size w8).setCell (p:=⟨w6.heap.size,1,none⟩) hwr6 _)) fun k hk g=>by omega
 clear B8 b8 o8 k7 BA OM FR7 Bx6 Bx8 Row6 Row8 OW6 OW8 O8 L8 N7 B7 n86 n56 O6;go_upto_region 8 with fail;clear k8 f8 N8;generalize w8.setCell ⟨w6.heap.size,1,none⟩ (.slice (some ⟨g8,0,none⟩) c.l.length cap8)=w9 at *;have k9:=Fl.rc N9 1;obtain ⟨x0,x1,x2,x3⟩:=AB Bx9;obtain ⟨⟨d0,d1,d2,d3⟩,hfr,hg8,_⟩:=pV O9 k hk;have f0:=hfr (k * 4);have f1:=hfr (k * 4+1);have f2:=hfr (k * 4+2);have f3:=hfr (k * 4+3);have g8r:r≠g8:=by have:=hwr6.out;have:=hs67.out;omega
 have g86:w6.heap.size≠g8:=by have:=hs67.out;omega
 have g85:(Value.slice (some ⟨g5,0,none⟩) N cap5).ownBlock≠some g8:=by
  intro e
  obtain rfl:g5=g8:=by simpa [Value.ownBlock] using e
  obtain ⟨_,_,_,h5,_,_⟩:=OW9.form (by have:=HN.out;omega);obtain ⟨cur,hh⟩:∃ cur,w9.heap[g5]? = some (.cells cur 81 (0,0)):=by
   obtain ⟨_,h2⟩:=OW9
   rcases h2 with ⟨e,_⟩ | ⟨g,cap,cur,e,_,hh,_⟩
   ·cases e
   ·obtain rfl:g5=g:=by injection e with e;injection e with e;injection e
    exact ⟨cur,hh⟩
  exact O9.apart hh (by decide) rfl
 have Row10:=Hh (aK (g:=g8) (o:=k * 4) (r:=x) Row9 g8r);have N10:=Hh (aK (g:=g8) (o:=k * 4) (r:=x) N9 g86);have OW10:Hid (Ow E3 (bC w9 g8 (k * 4) x) w3.heap.size 81 (.slice (some ⟨g5,0,none⟩) N cap5) L):=(((OW9.off (p:=⟨g8,k * 4,none⟩) g85 _).off (p:=⟨g8,k * 4+1,none⟩) g85 _).off (p:=⟨g8,k * 4+2,none⟩) g85 _).off (p:=⟨g8,k * 4+3,none⟩) g85 _;have O10:=Hh (gJ O9 rfl k hk x);have L10:Hid (ay (fun k=>k=r) w (bC w9 g8 (k * 4) x)):=L9.trans (ay.qG (B:=w.heap.size) (aJ (o:=k * 4) (r:=x) (aa w.heap.size w9) (by have:=hwr6.out;have:=hs67.out;omega))) fun k hk g=>by omega
 have hg58:Hid (g5≠g8):=fun e=>g85 (by rw [e];rfl);have hg56:Hid (g5≠w6.heap.size):=by
  intro e
  obtain ⟨_,h2⟩:=OW9
  rcases h2 with ⟨e2,_⟩ | ⟨g,cap,cur,e2,_,hh,_⟩
  ·cases e2
  ·obtain rfl:g5=g:=by injection e2 with e2;injection e2 with e2;injection e2
   rw [e,N9.out] at hh;injection hh with hh;injection hh with _ hh _
   cases hh
 clear hfr hg8 g8r g86 g85 Row9 N9 OW9 O9 L9 Bx9;unfold bC at Row10 N10 OW10 O10 L10;go_wp2_with fail;clear d0 d1 d2 d3 f0 f1 f2 f3 x0 x1 x2 x3 k9;generalize (((w9.setCell ⟨g8,k * 4,none⟩ (.int .u8 x.1)).setCell ⟨g8,k * 4+1,none⟩ (.int .u8 x.2.1)).setCell ⟨g8,k * 4+2,none⟩ (.int .u8 x.2.2.1)).setCell ⟨g8,k * 4+3,none⟩ (.int .u8 x.2.2.2)=w10 at *;have C0:RC r (.slice (some ⟨g5,0,none⟩) N cap5) d w6.heap.size c.p (.slice (some ⟨g8,0,none⟩) c.l.length cap8) w10.drew:=⟨Row10,N10⟩;have c0:=Sc.aA (C:=RC r (.slice (some ⟨g5,0,none⟩) N cap5) d w6.heap.size c.p (.slice (some ⟨g8,0,none⟩) c.l.length cap8)) (a:=⟨r,0,none⟩) (fun W' h=>ah h.row 0);have r0:=Sc.aA (C:=RC r (.slice (some ⟨g5,0,none⟩) N cap5) d w6.heap.size c.p (.slice (some ⟨g8,0,none⟩) c.l.length cap8)) (a:=⟨w6.heap.size,0,none⟩) (fun W' h=>ah h.box 0);have r1:=Sc.aA (C:=RC r (.slice (some ⟨g5,0,none⟩) N cap5) d w6.heap.size c.p (.slice (some ⟨g8,0,none⟩) c.l.length cap8)) (a:=⟨w6.heap.size,1,none⟩) (fun W' h=>ah h.box 1);have ne:Nonempty (Sc.In (RC r (.slice (some ⟨g5,0,none⟩) N cap5) d w6.heap.size c.p (.slice (some ⟨g8,0,none⟩) c.l.length cap8))):=⟨⟨_,C0⟩⟩;refine Sc.start (RC r (.slice (some ⟨g5,0,none⟩) N cap5) d w6.heap.size c.p (.slice (some ⟨g8,0,none⟩) c.l.length cap8)) [(false,0),(false,1),(false,2),(false,3),(false,4),(false,5),(false,6),(false,7),(true,8)] (by kernel_rfl) (by kernel_rfl) (by kernel_rfl) C0 ?_;dsimp only [Sd.aP,List.getElem?_cons_succ,List.getElem?_cons_zero]
 repeat (refine Sd.lit ?_;quiet_step (fail);refine bk ?_)
 have OW11:Hid (Ow E3 w10.drew w3.heap.size 81 (.slice (some ⟨g5,0,none⟩) N cap5) L):=OW10;have O11:Hid (Ow K4 w10.drew w7.heap.size 42 (.slice (some ⟨g8,0,none⟩) c.l.length cap8) (c.l.set k x)):=O10;have L11:Hid (ay (fun k=>k=r) w w10.drew):=L10.then ((aa _ _).drew);have Row11:Hid (w10.drew.heap[r]? = _):=Row10;have N11:Hid (w10.drew.heap[w6.heap.size]? = _):=N10;clear c0 r0 r1 C0 OW10 O10 L10 Row10 N10;generalize w10.drew=w11 at *;refine Sd.call (by rfl) (fun K hK=>?_);obtain ⟨⟨_,q1,q2⟩,hfr,_,_⟩:=Mf OW11 HI;unfold aD.sl at q2;have f1:=hfr (i * 3+1);have f2:=hfr (i * 3+2);have hg5r:g5≠r:=by have:=HG5.out;have:=hw3.out;omega
 have RES:Hid (mM w r F d true ((L.set i (⟨c.n,c.p,none,0,c.l.set k x⟩:aD)).map aD.abs) (.returned (.bool true)) ((w11.setCell ⟨g5,i * 3+1,none⟩ (.int .i64 c.p)).setCell ⟨g5,i * 3+2,none⟩ (.slice (some ⟨g8,0,none⟩) c.l.length cap8))):=by
  have esl:(⟨c.n,c.p,some ⟨g8,0,none⟩,cap8,c.l.set k x⟩:aD).sl = .slice (some ⟨g8,0,none⟩) c.l.length cap8:=by unfold aD.sl;rw [cz]
  have hn8:∀ j,(Value.slice (some ⟨g8,0,none⟩) c.l.length cap8).ownBlock≠some (⟨g5,j,none⟩:Addr).block:=fun j e=>by
   have:g8=g5:=by simpa [Value.ownBlock] using e
   exact hg58 this.symm
  refine FIN (some ⟨g8,0,none⟩) cap8 (.slice (some ⟨g5,0,none⟩) N cap5) _ ?_ ?_ ?_ ?_
  ·have hwg:w.heap.size<=g5:=by have:=HG5.out;have:=hw3.out;omega
   exact L11.trans (ay.qG (B:=w.heap.size) (((aa w.heap.size w11).setCell (p:=⟨g5,i * 3+1,none⟩) hwg _).setCell (p:=⟨g5,i * 3+2,none⟩) hwg _)) fun k hk g=>by omega
  ·exact (bt _ ⟨g5,i * 3+2,none⟩ _ r (fun e=>hg5r e.symm)).trans ((bt _ ⟨g5,i * 3+1,none⟩ _ r (fun e=>hg5r e.symm)).trans Row11)
  ·have:=qJ (c':=⟨c.n,c.p,some ⟨g8,0,none⟩,cap8,c.l.set k x⟩) OW11 HN.symm HI rfl rfl
   rw [esl] at this;exact this.low hw3
  ·rw [esl]
   exact ((O11.off (hn8 _) _).off (hn8 _) _).low (by have:=hwr6.out;have:=hs67.out;omega)
 have Row12:RC r (.slice (some ⟨g5,0,none⟩) N cap5) d w6.heap.size c.p (.slice (some ⟨g8,0,none⟩) c.l.length cap8) ((w11.setCell ⟨g5,i * 3+1,none⟩ (.int .i64 c.p)).setCell ⟨g5,i * 3+2,none⟩ (.slice (some ⟨g8,0,none⟩) c.l.length cap8)) :=
  ⟨(bt _ ⟨g5,i * 3+2,none⟩ _ r (fun e=>hg5r e.symm)).trans ((bt _ ⟨g5,i * 3+1,none⟩ _ r (fun e=>hg5r e.symm)).trans Row11),
   (bt _ ⟨g5,i * 3+2,none⟩ _ w6.heap.size (fun e=>hg56 e.symm)).trans ((bt _ ⟨g5,i * 3+1,none⟩ _ w6.heap.size (fun e=>hg56 e.symm)).trans N11)⟩
 clear hfr hg5r FIN OW11 O11 L11 Row11 N11;go_simp;refine hK _ _ (Sc.Cl.of Row12) ?_;clear hK K q1 q2 f1 f2 Row12;generalize (w11.setCell ⟨g5,i * 3+1,none⟩ (.int .i64 c.p)).setCell ⟨g5,i * 3+2,none⟩ (.slice (some ⟨g8,0,none⟩) c.l.length cap8)=w12 at *;refine Sd.done ?_;go_wp2
 go_ret
 exact RES
theorem sw {A:aU} (R:Rs w r F A d) (hF:∀ k,F k->k < w.heap.size) (n k:Int) (x:R4) (hx:bQ x) :
 Calls prog 39 #[.pointer (some ⟨r,0,none⟩),.int .i64 n,.int .i64 k,aH x] w (mM w r F d (sB A n k) (sA A n k x)):=by
 obtain ⟨v,L,h,rfl⟩:=R;have no:∀ e w',sB (L.map aD.abs) n k=false->(e = .returned (.bool false)/\Below w.heap.size w w')->mM w r F d (sB (L.map aD.abs) n k) (sA (L.map aD.abs) n k x) e w':=fun e w' hb ⟨he,b⟩=>by
  unfold mM;rw [hb,abD hb x];exact ⟨he,⟨v,L,h.below b,rfl⟩,ay.of_below b⟩
 cases hb:gB (L.map aD.abs) n k with
 | false=>exact (On w _ n k x _ false (.inl rfl) fun W hbl=>by have:=vB (h.below hbl) n k;rwa [hb] at this).mono fun e w'=>no e w' (by unfold sB;rw [hb];rfl)
 | true =>
   by_cases h0:k=0
   ·exact (On w _ n k x _ true (.inr ⟨rfl,h0⟩) fun W hbl=>by have:=vB (h.below hbl) n k;rwa [hb] at this).mono fun e w'=>no e w' (by unfold sB;rw [hb,h0];rfl)
   ·cases hk:look aD.n n L with
    | none=>rw [qx hk] at hb;cases hb
    | some c =>
      rw [iT hk] at hb;obtain ⟨h1,h2⟩:=of_decide_eq_true hb;obtain ⟨i,hi,hq⟩:=yF (DT h.ok) hk;rw [DN hk h1 h2 h0,Na hk h1 h2 h0];obtain ⟨j,rfl⟩:∃ j:Nat,k=j:=⟨k.toNat,by omega⟩;rw [ch];have e:(put aD.n (c.recs (c.l.set j x)) L).map aD.abs=(L.set i (⟨c.n,c.p,none,0,c.l.set j x⟩:aD)).map aD.abs:=by
       have e3:put aD.n (c.recs (c.l.set j x)) L=L.set i (c.recs (c.l.set j x)):=jN (DT h.ok) hi rfl;rw [e3,List.map_set,List.map_set]
       rfl
      rw [e];exact VH h hF j x hx hi hq (by omega) (by omega) _ fun W hbl=>by
       have:=vB (h.below hbl) n j;rw [iT hk,bj ⟨h1,h2⟩] at this;exact this
attribute [local irreducible] Sz.oH
theorem wF {α:Type} {Kd:Rw.Kind α} {P:Program} {K:Act->World->Prop} {E:TypeId} {o:Oper} {a:Act} {Q:Exit->Act->World->Prop} {T:TypeId} {z:Value} {bytes:Nat} (ht:P.underlying T=some (.slice E))
 (hi:(P.info? E).map (fun i=>(i.zero,i.size,i.bytes))=some (some z,Kd.n,bytes)) (hz:z.cells.size=Kd.n) (hby:bytes<=64) (s x:Operand)
 (ho:o.op = .call { callee:=.builtin .append,args:=#[s,x],argTypes:=#[T,T] }) (B:Nat) (v:Value) (l:List α) (hs:a.eval s=v) (hown:Ow Kd w B E v l)
 (u:Value) (y:List α) (hx:a.eval x=u) (hu:Rd Kd w u y) (hlen:l.length+y.length < 2199023255552) (hB:B<=w.heap.size)
 (h:∀ v' w',Ow Kd w' B E v' (l ++ y)->Below B w w'->K (a.put o.dst v') w'):o.wp P a w K Q:=by
 obtain ⟨i0,hi0,hz0,hz1,hz2⟩:=ew hi;obtain ⟨ad,cap,rfl,h1,h2,h3⟩:=hu;have hb:(l.length+y.length) * bytes<=140737488355328:=cE (gg (show l.length+y.length<=2199023255552 by omega) hby) (by omega)
 by_cases h0:0 < y.length
 ·obtain ⟨b,off,rfl,hA⟩:=h3 h0
  refine wp_append_own _ s x T ho B E i0 z Kd.n bytes ht hi0 hz0 hz1 hz2 hz Kd.pos v l.length (Kd.flat l) hs hown ⟨b,off,none⟩ y.length cap (Kd.flat y) hx (Rw.dQ Kd y) ?_ (Rw.JM Kd y) (by unfold maxLen;omega) hb hB ?_
  ·intro j u hj
   have e:(⟨b,off,none⟩:Addr).add j=⟨b,off+j,none⟩:=by simp [Addr.add]
   rw [e];exact hA.flat j u hj
  ·intro v' w' g2 g3 _
   refine h v' w' ?_ ((aa B w).grown g3 hB fun k hk=>(ci hown k hk).1)
   show w'.ownsRow B E Kd.n v' (l ++ y).length (Kd.flat (l ++ y))
   rw [Rw.ja,cI];exact g2
 ·have ey:y = []:=eI.1 (by omega)
  subst ey
  cases ad with
  | none =>
    obtain rfl:=h1.2 rfl;have hrun:=run_append_owned_none (P:=P) (w:=w) B T o.type E i0 Kd.n ht hi0 v l.length (Kd.flat l) hown;unfold Oper.wp;have hk:=h v w (by rw [List.append_nil];exact hown) (aa _ _);have hx':=hx
    simp [execOp,ho,resolve,invoke,builtin,hs,hx',hrun,Result.andThen]
    exact hk
  | some ad =>
    refine wp_append_own _ s x T ho B E i0 z Kd.n bytes ht hi0 hz0 hz1 hz2 hz Kd.pos v l.length (Kd.flat l) hs hown ad 0 cap [] hx (by simp) (by simp) (by simp) (by unfold maxLen;simp at hlen;omega) (by simpa using hb) hB ?_
    intro v' w' g2 g3 _
    refine h v' w' ?_ ((aa B w).grown g3 hB fun k hk=>(ci hown k hk).1)
    show w'.ownsRow B E Kd.n v' (l ++ []).length (Kd.flat (l ++ []))
    rw [List.append_nil]
    simpa using g2
theorem J8 (R:Rd E3 w v L) (k:Nat) (hk:k<=L.length):∃ ua uc,(∀ W,(Instr.sliceAt 47 v (some (.int .i64 (k:Int))) none none).run prog W = .ok (.slice ua (L.length - k) uc) W)/\Rd E3 w (.slice ua (L.length - k) uc) (L.drop k):=by
 obtain ⟨a,cap,rfl,⟨h1,h2⟩,h3,h4⟩:=R;have hl:(L.drop k).length=L.length - k:=eQ
 cases a with
 | none =>
   obtain rfl:=h2 rfl;have hL:L.length=0:=by omega
   obtain rfl:k=0:=by omega
   refine ⟨none,0,fun W=>?_,none,0,by rw [hl],⟨by rw [hl];omega,fun _=>rfl⟩,by unfold maxLen;omega,fun h=>by rw [hl] at h;omega⟩;rw [hL];go_simp
 | some a =>
   by_cases hc:cap=k
   ·refine ⟨some a,0,fun W=>?_,some a,0,by rw [hl],⟨by rw [hl];omega,nofun⟩,by unfold maxLen;omega,fun h=>by rw [hl] at h;omega⟩
    subst hc;have:L.length - cap=0:=by omega
    obtain ⟨b,off,sp⟩:=a;go_simp
   ·by_cases h0:0 < L.length
    ·obtain ⟨b,off,e,hA⟩:=h4 h0
     obtain rfl:a=⟨b,off,none⟩:=by injection e
     refine ⟨some ⟨b,off+k * 3,none⟩,cap - k,fun W=>?_,some ⟨b,off+k * 3,none⟩,cap - k,by rw [hl],⟨by rw [hl];omega,nofun⟩,by omega,fun h=>⟨b,off+k * 3,rfl,fun i hi j u hu=>?_⟩⟩
     ·go_simp
     ·rw [hl] at hi
      have hu':(E3.enc (L.getD (k+i) E3.Ox))[j]? = some u:=by rw [← hu,af,af,List.getElem?_drop]
      have c:=hA (k+i) (by omega) j u hu';have e:off+(k+i) * E3.n+j=off+k * 3+i * E3.n+j:=by show off+(k+i) * 3+j=off+k * 3+i * 3+j;omega
      rw [e] at c;exact c
    ·obtain rfl:k=0:=by omega
     have hL:L.length=0:=by omega
     obtain ⟨b,off,sp⟩:=a;refine ⟨some (Addr.add ⟨b,off,sp⟩ (0 * 3)),cap,fun W=>?_,some (Addr.add ⟨b,off,sp⟩ (0 * 3)),cap,by rw [hl],⟨by rw [hl];omega,nofun⟩,h3,fun h=>by rw [hl] at h;omega⟩;go_simp
def mG (w:World) (r:Nat) (F:Nat->Prop) (d z:Int) (A':aU) (e:Ending) (w':World):Prop:=e = .returned (.int .i64 z)/\Rs w' r F A' d/\ay (fun k=>k=r) w w'
theorem ab0 (w:World) (r:Nat) (n p:Int) (a:Option Addr) (q cap:Nat) (hn:¬ (0<=n/\n<=63)):Calls prog 26 #[.pointer (some ⟨r,0,none⟩),.int .i64 n,.agg #[.int .i64 p,.slice a q cap]] w fun e w'=>e = .returned (.int .i64 1)/\Below w.heap.size w w':=by
 by_cases h:n < 0
 ·go_enter func26,ntmps26
  go_wp2
  go_ret
  exact ⟨rfl,(aa w.heap.size w).alloc (ac _) _⟩
 ·have h2:63 < n:=by omega
  go_enter func26,ntmps26
  go_wp2
  go_ret
  exact ⟨rfl,(aa w.heap.size w).alloc (ac _) _⟩
theorem ade (w:World) (r:Nat) (n p:Int) (a:Option Addr) (q cap:Nat) (l:List R4) (R:Rd K4 w (.slice a q cap) l) (hn:0<=n/\n<=63) (hg:¬ aO p l):Calls prog 26 #[.pointer (some ⟨r,0,none⟩),.int .i64 n,.agg #[.int .i64 p,.slice a q cap]] w fun e w'=>e = .returned (.int .i64 2)/\Below w.heap.size w w':=by
 obtain ⟨h1,hB,hz⟩:=kN w p (.slice a q cap);have HB:=Hh hB;have GA:=bP _ p (.slice a q cap) l (R.below hB);rw [show aZ p l=false from ai hg] at GA;have HG:=Hh GA;have n1:=hn.1;have n2:=hn.2;clear h1 hB hz R GA hg hn;unfold file at HG
 go_enter func26,ntmps26
 go_wp2_with fail;refine HG.mono ?_;rintro e w1 ⟨rfl,b1⟩;have B1:=aW HB b1;clear b1 HG HB;go_wp2
 go_ret
 exact ⟨rfl,B1⟩
theorem Zg (RS:rH w r F v L d) (n p:Int) (a:Option Addr) (q cap:Nat) (l:List R4) (R:Rd K4 w (.slice a q cap) l) (hn:0<=n/\n<=63) (hg:aO p l) (hq:Ix L n i):Calls prog 26 #[.pointer (some ⟨r,0,none⟩),.int .i64 n,.agg #[.int .i64 p,.slice a q cap]] w fun e w'=>e = .returned (.int .i64 10)/\Below w.heap.size w w':=by
 obtain ⟨h1,hB,hz⟩:=kN w p (.slice a q cap);have HB:=Hh hB;have GA:=bP _ p (.slice a q cap) l (R.below hB);rw [show aZ p l=true from bj hg] at GA;have HG:=Hh GA;have IX:=Hh (fun W (hb:Below w.heap.size w W)=>lW (RS.below hb) hq);have n1:=hn.1;have n2:=hn.2;have hi0:¬ ((i:Int) < 0):=by omega
 clear h1 hB hz R GA hg hn RS hq;unfold file at HG
 go_enter func26,ntmps26
 go_wp2_with fail;refine HG.mono ?_;rintro e w1 ⟨rfl,b1⟩;have B1:=aW HB b1;clear b1 HG HB;go_wp2_with fail;refine (IX _ B1).mono ?_;rintro e w2 ⟨rfl,b2⟩;have B2:=aW B1 b2;clear b2 B1 IX;go_wp2
 go_ret
 exact ⟨rfl,B2⟩
def aeJ (w:World) (L:List aD) (n:Int) (v:Value) (k:Nat) (wr:World):Prop:=Ow E3 wr w.heap.size 81 v (L.take k)/\(∀ x∈L.take k,x.n < n)/\Below w.heap.size w wr
structure AC (r:Nat) (v:Value) (d:Int) (g:Nat) (p:Int) (u:Value) (W:World):Prop where
 row:W.heap[r]? = some (.cells #[v,.int .i64 d] 50 (0,0))
 box:W.heap[g]? = some (.cells #[.int .i64 p,u] 79 (0,0))
theorem ace (RS:rH w r F v L d) (hF:∀ k,F k->k < w.heap.size) (n p:Int) (a:Option Addr) (q cap:Nat) (l:List R4) (R:Rd K4 w (.slice a q cap) l) (ho:0 < l.length->∀ k,(Value.slice a q cap).ownBlock=some k->¬ (F k\/k=r)) (hn:0<=n/\n<=63) (hg:aO p l) (hl:dF l) (hc:look aD.n n L=none) :
 Calls prog 26 #[.pointer (some ⟨r,0,none⟩),.int .i64 n,.agg #[.int .i64 p,.slice a q cap]] w (mG w r F d 0 (put key (n,p,l) (L.map aD.abs))):=by
 have hql:q=l.length:=by
  obtain ⟨_,_,e,_⟩:=R;injection e
 subst hql;obtain ⟨h1,hB,hz⟩:=kN w p (.slice a l.length cap);have HB:=Hh hB;have H1:=Hh h1;have GA:=bP _ p (.slice a l.length cap) l (R.below hB);rw [show aZ p l=true from bj hg] at GA;have HG:=Hh GA;have IX:=Hh (fun W (hb:Below w.heap.size w W)=>lW (RS.below hb) (Fa hc));have RR:=Hh RS;have hrl:=bm RS.row;have hlen:=RS.len;have HS:=Hh (DT RS.ok);have HC:=Hh (eO.1 hc);have n1:=hn.1;have n2:=hn.2;have FIN:Hid (∀ (k:Nat) (v':Value) (W:World),(∀ x∈L.take k,x.n < n)->(∀ x,L[k]? = some x->n < x.n)->ay (fun k=>k=r) w W->W.heap[r]? = some (.cells #[v',.int .i64 d] 50 (0,0))->Ow E3 W w.heap.size 81 v' (L.take k ++ [(⟨n,p,a,cap,l⟩:aD)] ++ L.drop k)->mG w r F d 0 (put key (n,p,l) (L.map aD.abs)) (.returned (.int .i64 0)) W):=fun k v' W P1 P2 O row own=>by
  have e:put aD.n (⟨n,p,a,cap,l⟩:aD) L=L.take k ++ [(⟨n,p,a,cap,l⟩:aD)] ++ L.drop k:=by
   rw [yE hc,Ae (k:=k) P1 P2]
   simp
  have e2:(L.take k ++ [(⟨n,p,a,cap,l⟩:aD)] ++ L.drop k).map aD.abs=put key (n,p,l) (L.map aD.abs):=by rw [← e,jJ];rfl
  refine ⟨rfl,⟨v',_,RS.next hF O row own (fun c hc'=>?_) (by rw [e2];exact RS.ok.put hn hg hl),e2⟩,O⟩;rw [← e] at hc'
  rcases tY.1 hc' with rfl | ⟨h,_⟩
  ·exact .inr ⟨gN (G:=fun k=>k=r) R (fun h0 k hk e=>ho h0 k hk (.inr e)) O,ho⟩
  ·exact .inl h
 have RV:=Hh R;obtain ⟨va,vcap,rfl,_⟩:=RS.list.rd.slice;clear h1 hB hz R GA hg hn RS hc hF ho hl;generalize hN:L.length=N at *;have HN:=Hh hN;generalize hQ:l.length=q at *;have HQ:=Hh hQ;clear hN hQ;unfold file at HG;have hBN:=rD
 go_enter func26,ntmps26
 go_wp2_with fail;generalize (w.alloc (.cells #[.int .i64 p,.slice a q cap] 79))=W0 at *;refine HG.mono ?_;rintro e w1 ⟨rfl,b1⟩;have B1:=aW HB b1;have X1:=Hh ((b1.block _ (bm H1.out)).trans H1.out);clear b1 HG HB H1;go_wp2_with fail;refine (IX.out _ B1.out).mono ?_;rintro e w2 ⟨rfl,b2⟩;have B2:=Hh (B1.out.trans (b2.mono B1.out.size));have X2:=Hh ((b2.block _ (bm X1.out)).trans X1.out);clear b2 B1 IX X1;have OM:=Hh (Rw.Ow.made (K:=E3) w2 w2.heap.size 81 (ac _));have B3:=Hh ((aa w2.heap.size w2).alloc (ac _) (.cells #[] 81));go_wp2;generalize (w2.alloc (.cells #[] 81))=W3 at *;generalize (Value.slice (some ⟨w2.heap.size,0,none⟩) 0 0)=v3 at *
 go_loopw [7,8] (fun v i wr=>∃ k:Nat,k<=N/\i = .int .i64 k/\Hid (aeJ w2 L n v k wr)) (fun _ i _=>N - (intOf i).toNat)
 case atStart=>exact ⟨0,cg _,rfl,OM.out,by simp,B3.out⟩
 case round =>
  obtain ⟨k,hk,rfl,R⟩:=hrel;obtain ⟨oW,P1',bW⟩:=R.out;obtain ⟨va',vc',ev,_⟩:=oW.slice;have htk:(L.take k).length=k:=by rw [cH];have:=HN.out;omega
  rw [htk] at ev;subst ev;have OW:=Hh oW;have P1:=Hh P1';have B:=Hh bW;have R4':=RR.out.below (B2.out.trans (bW.mono B2.out.size));have c0:=Fl.rc R4'.row 0;have RL:=Hh R4'.list.rd;have HX2:Hid (w.heap.size < w2.heap.size):=bm X2.out;clear R oW P1' bW R4' htk
  by_cases hlt:k < N
  ·have hkL:k < L.length:=by have:=HN.out;omega
   obtain ⟨⟨cn,cp,ca,cc,cl⟩,hc⟩:∃ c:aD,L[k]? = some c:=⟨_,aq hkL⟩;obtain ⟨b,off,eb,hA⟩:∃ b off,va=some ⟨b,off,none⟩/\At E3 wr b off L:=by
    obtain ⟨a',c',e,_,_,h⟩:=RL;obtain ⟨b,off,e2,hA⟩:=h (by omega);injection e with e1;exact ⟨b,off,e1.trans e2,hA⟩
   subst eb;obtain ⟨x0,x1,x2⟩:=at3 hA hc;unfold aD.sl at x2;simp only at x0 x1 x2;have hcn:cn≠n:=HC _ (cN hc)
   by_cases hcl:cn < n
   ·have TK:Hid (L.take (k+1)=L.take k ++ [(⟨cn,cp,ca,cc,cl⟩:aD)]):=by rw [ed,hc];rfl
    have P1n:Hid (∀ x∈L.take (k+1),x.n < n):=fun x hx=>by
     rw [TK.out] at hx
     rcases eM.1 hx with hx | hx
     ·exact P1 x hx
     ·obtain rfl:=cM.1 hx
      exact hcl
    clear hc hA hkL;generalize hcq:cl.length=cq at *;have HCQ:=Hh hcq;clear hcq
    go_wp2_with (at_builtin;refine Rw.eT (K:=E3) underlying47 lG rfl (by omega) rfl _ _ rfl w2.heap.size _ (L.take k) rfl (OW.out.alloc _) _ (⟨cn,cp,ca,cc,cl⟩:aD) rfl ?d1 ?d2 ?d3 ?_)
    case d1 =>
     intro j u hu
     unfold E3 aD.sl at hu;simp only [HCQ.out] at hu
     match j,hu with
     | 0,hu=>simp at hu;subst hu;go_simp
     | 1,hu=>simp at hu;subst hu;go_simp
     | 2,hu=>simp at hu;subst hu;go_simp
     | j+3,hu=>simp at hu
    case d2=>rw [cH];omega
    case d3=>have:=B.size;simp;omega
    intro v' w4 o4 b4
    rw [← TK.out] at o4;have N2:Hid (aeJ w2 L n v' (k+1) w4):=⟨o4,P1n,(B.alloc B.size _).trans b4⟩;clear o4 b4;go_wp2
    go_roundw
    case rel=>exact ⟨k+1,by omega,by go_num,N2⟩
    case measure=>simp [intOf];omega
   ·have P2:Hid (∀ x,L[k]? = some x->n < x.n):=fun x hx=>by
     rw [hc] at hx;obtain rfl:=cP hx
     show n < cn
     omega
    clear hc hA hkL hcn RL;go_wp2_with fail;clear x0 x1 x2;clear c0;have X4:=Hh (jf B X2);have hw2:Hid (w.heap.size<=w2.heap.size):=B2.size;have BR:=aW B2 B;have Row4:=Hh ((BR.block r hrl).trans RR.row);have C0:AC r (.slice (some ⟨b,off,none⟩) N vcap) d w.heap.size p (.slice a q cap) wr.drew:=⟨Row4,X4⟩;have c0:=Sc.aA (C:=AC r (.slice (some ⟨b,off,none⟩) N vcap) d w.heap.size p (.slice a q cap)) (a:=⟨r,0,none⟩) (fun W' h=>ah h.row 0);have r0:=Sc.aA (C:=AC r (.slice (some ⟨b,off,none⟩) N vcap) d w.heap.size p (.slice a q cap)) (a:=⟨w.heap.size,0,none⟩) (fun W' h=>ah h.box 0);have r1:=Sc.aA (C:=AC r (.slice (some ⟨b,off,none⟩) N vcap) d w.heap.size p (.slice a q cap)) (a:=⟨w.heap.size,1,none⟩) (fun W' h=>ah h.box 1);have ne:Nonempty (Sc.In (AC r (.slice (some ⟨b,off,none⟩) N vcap) d w.heap.size p (.slice a q cap))):=⟨⟨_,C0⟩⟩;obtain ⟨ta,tc,htl,TR⟩:=J8 RR.list.rd k (by have:=HN.out;omega);have TRD:=Hh TR;rw [HN.out] at htl TRD;generalize N - k=mt at htl TRD;have OWR:Hid (Ow E3 wr.drew w2.heap.size 81 (.slice va' k vc') (L.take k)):=OW;have BRD:Hid (Below w2.heap.size w2 wr.drew):=B.drew;clear TR OW B BR Row4 X4 X2;refine Sz.start (AC r (.slice (some ⟨b,off,none⟩) N vcap) d w.heap.size p (.slice a q cap)) [(false,0),(false,1),(false,2),(false,3),(false,4),(false,7),(false,8),(false,9),(false,10),(false,11),(false,12),(true,5),(true,6),(true,13),(false,14),(false,15)] 16 (by kernel_rfl) (by kernel_rfl) (by kernel_rfl) rfl rfl C0 ?_;dsimp only [Sd.aP,List.getElem?_cons_succ,List.getElem?_cons_zero]
    repeat (refine Sz.lit ?_;quiet_step (fail);refine bk ?_)
    clear c0 r0 r1 htl;have C1:=Hh C0;clear C0;generalize wr.drew=w4 at *;refine Sz.call (by rfl) (fun K hK=>?_);go_simp;have ba:=cA w4 (.cells #[.int .i64 n,.int .i64 p,.slice a q cap] 81);have B5:=Hh (BRD.alloc BRD.size (.cells #[.int .i64 n,.int .i64 p,.slice a q cap] 81));have C5:AC r (.slice (some ⟨b,off,none⟩) N vcap) d w.heap.size p (.slice a q cap) (w4.alloc (.cells #[.int .i64 n,.int .i64 p,.slice a q cap] 81)):=⟨(ba r (bm C1.row)).trans C1.row,(ba _ (bm C1.box)).trans C1.box⟩;have O5:=Hh (OWR.alloc (.cells #[.int .i64 n,.int .i64 p,.slice a q cap] 81));have R5:Hid (Rd E3 (w4.alloc (.cells #[.int .i64 n,.int .i64 p,.slice a q cap] 81)) (.slice (some ⟨w4.heap.size,0,none⟩) 1 1) [(⟨n,p,a,cap,l⟩:aD)]):=by
     have:=(Rw.Ow.lit (K:=E3) w4 0 81 [(⟨n,p,a,cap,l⟩:aD)] (cg _) (by unfold maxLen;simp)).rd;have e:(E3.flat [(⟨n,p,a,cap,l⟩:aD)]).toArray=#[.int .i64 n,.int .i64 p,.slice a q cap]:=by unfold Rw.Kind.flat E3 aD.sl;rw [← HQ.out];rfl
     rw [e] at this;exact this
    refine hK _ _ (Sc.Cl.of C5) ?_;clear hK K ba;have hz5:Hid (w2.heap.size<=(w4.alloc (.cells #[.int .i64 n,.int .i64 p,.slice a q cap] 81)).heap.size):=B5.size;have C5':=Hh C5;clear C5 C1 OWR BRD;generalize (w4.alloc (.cells #[.int .i64 n,.int .i64 p,.slice a q cap] 81))=w5 at *;refine Sz.call (by rfl) (fun K hK=>?_);refine wF (Kd:=E3) underlying47 lG rfl (by omega) _ _ rfl w2.heap.size _ _ rfl O5.out _ _ rfl R5.out ?a1 hz5.out ?_
    case a1=>rw [cH];simp;omega
    intro v6 w6 o6 b6
    have hrw2:r < w2.heap.size:=by have:=hw2.out;omega
    have hxw2:=HX2.out;have C6:AC r (.slice (some ⟨b,off,none⟩) N vcap) d w.heap.size p (.slice a q cap) w6:=⟨(b6.block r hrw2).trans C5'.row,(b6.block _ hxw2).trans C5'.box⟩;have B6:=Hh (B5.trans b6);have O6:=Hh o6;obtain ⟨v6a,v6c,e6,_⟩:=o6.slice;refine hK _ _ (Sc.Cl.of C6) ?_;clear hK K o6 b6 B5 O5 R5 C5' hz5;have C6':=Hh C6;clear C6;have T6:=Hh (TRD.below (aW B2 B6));refine Sz.call (by rfl) (fun K hK=>?_);refine wF (Kd:=E3) underlying47 lG rfl (by omega) _ _ rfl w2.heap.size _ _ rfl O6.out _ _ rfl T6.out ?a2 B6.out.size ?_
    case a2=>rw [cI,cH,eQ];have:=HN.out;simp only [dl,dm];omega
    intro v7 w7 o7 b7
    obtain ⟨v7a,v7c,e7,_⟩:=o7.slice;obtain ⟨n7,rfl⟩:∃ n7,v7 = .slice v7a n7 v7c:=⟨_,e7⟩;clear e7;have C7:AC r (.slice (some ⟨b,off,none⟩) N vcap) d w.heap.size p (.slice a q cap) w7:=⟨(b7.block r hrw2).trans C6'.row,(b7.block _ hxw2).trans C6'.box⟩;have B7:=Hh (B6.trans b7);refine hK _ _ (Sc.Cl.of C7) ?_;clear hK K b7 B6 O6 T6 C6' e6;have c7:=Fl.rc C7.row 0;have f7:=aj C7.row 0;have BW:=aW B2 B7;have RES:Hid (mG w r F d 0 (put key (n,p,l) (L.map aD.abs)) (.returned (.int .i64 0)) (w7.setCell ⟨r,0,none⟩ (.slice v7a n7 v7c))):=by
     refine FIN k (.slice v7a n7 v7c) _ P1 P2 ((ay.of_below BW).trans (ay.set (fun k=>k=r) w7 (a:=⟨r,0,none⟩) rfl _) fun _ _ g=>g) ?_ ?_
     ·have:=Rw.aB (j:=0) C7.row (.slice v7a n7 v7c)
      rw [this]
      simp
     ·exact (o7.off (p:=⟨r,0,none⟩) (o7.range (.inl hrw2)) (.slice v7a n7 v7c)).low hw2
    clear C7 BW o7 B7 FIN
    repeat (refine Sz.lit ?_;quiet_step (fail);refine bk ?_)
    refine Sz.done ?_;go_simp;clear c7 f7;generalize (w7.setCell ⟨r,0,none⟩ (.slice v7a n7 v7c))=w8 at *;refine NoPanic.normal ?_;go_wp2
    go_ret
    exact RES
  ·obtain rfl:k=N:=by omega
   have P2:Hid (∀ x,L[k]? = some x->n < x.n):=fun x hx=>by
    have:=(bs.1 hx).1;have:=HN.out
    omega
   clear RL;go_wp2_with fail;clear c0;have X4:=Hh (jf B X2);have hw2:=Hh (B2.size);have BR:=aW B2 B;have Row4:=Hh ((BR.block r hrl).trans RR.row);have C0:AC r (.slice va k vcap) d w.heap.size p (.slice a q cap) wr.drew:=⟨Row4,X4⟩;have c0:=Sc.aA (C:=AC r (.slice va k vcap) d w.heap.size p (.slice a q cap)) (a:=⟨r,0,none⟩) (fun W' h=>ah h.row 0);have r0:=Sc.aA (C:=AC r (.slice va k vcap) d w.heap.size p (.slice a q cap)) (a:=⟨w.heap.size,0,none⟩) (fun W' h=>ah h.box 0);have r1:=Sc.aA (C:=AC r (.slice va k vcap) d w.heap.size p (.slice a q cap)) (a:=⟨w.heap.size,1,none⟩) (fun W' h=>ah h.box 1);have ne:Nonempty (Sc.In (AC r (.slice va k vcap) d w.heap.size p (.slice a q cap))):=⟨⟨_,C0⟩⟩;obtain ⟨ta,tc,htl,TR⟩:=J8 RR.list.rd k (by have:=HN.out;omega);have TRD:=Hh TR;rw [HN.out] at htl TRD;generalize k - k=mt at htl TRD;have OWR:Hid (Ow E3 wr.drew w2.heap.size 81 (.slice va' k vc') (L.take k)):=OW;have BRD:Hid (Below w2.heap.size w2 wr.drew):=B.drew;clear TR OW B BR Row4 X4 X2;refine Sz.start (AC r (.slice va k vcap) d w.heap.size p (.slice a q cap)) [(false,0),(false,1),(false,2),(false,3),(false,4),(false,7),(false,8),(false,9),(false,10),(false,11),(false,12),(true,5),(true,6),(true,13),(false,14),(false,15)] 16 (by kernel_rfl) (by kernel_rfl) (by kernel_rfl) rfl rfl C0 ?_;dsimp only [Sd.aP,List.getElem?_cons_succ,List.getElem?_cons_zero]
   repeat (refine Sz.lit ?_;quiet_step (fail);refine bk ?_)
   clear c0 r0 r1 htl;have C1:=Hh C0;clear C0;generalize wr.drew=w4 at *;refine Sz.call (by rfl) (fun K hK=>?_);go_simp;have ba:=cA w4 (.cells #[.int .i64 n,.int .i64 p,.slice a q cap] 81);have B5:=Hh (BRD.alloc BRD.size (.cells #[.int .i64 n,.int .i64 p,.slice a q cap] 81));have C5:AC r (.slice va k vcap) d w.heap.size p (.slice a q cap) (w4.alloc (.cells #[.int .i64 n,.int .i64 p,.slice a q cap] 81)):=⟨(ba r (bm C1.row)).trans C1.row,(ba _ (bm C1.box)).trans C1.box⟩;have O5:=Hh (OWR.alloc (.cells #[.int .i64 n,.int .i64 p,.slice a q cap] 81));have R5:Hid (Rd E3 (w4.alloc (.cells #[.int .i64 n,.int .i64 p,.slice a q cap] 81)) (.slice (some ⟨w4.heap.size,0,none⟩) 1 1) [(⟨n,p,a,cap,l⟩:aD)]):=by
    have:=(Rw.Ow.lit (K:=E3) w4 0 81 [(⟨n,p,a,cap,l⟩:aD)] (cg _) (by unfold maxLen;simp)).rd;have e:(E3.flat [(⟨n,p,a,cap,l⟩:aD)]).toArray=#[.int .i64 n,.int .i64 p,.slice a q cap]:=by unfold Rw.Kind.flat E3 aD.sl;rw [← HQ.out];rfl
    rw [e] at this;exact this
   refine hK _ _ (Sc.Cl.of C5) ?_;clear hK K ba;have hz5:Hid (w2.heap.size<=(w4.alloc (.cells #[.int .i64 n,.int .i64 p,.slice a q cap] 81)).heap.size):=B5.size;have C5':=Hh C5;clear C5 C1 OWR BRD;generalize (w4.alloc (.cells #[.int .i64 n,.int .i64 p,.slice a q cap] 81))=w5 at *;refine Sz.call (by rfl) (fun K hK=>?_);refine wF (Kd:=E3) underlying47 lG rfl (by omega) _ _ rfl w2.heap.size _ _ rfl O5.out _ _ rfl R5.out ?a1 hz5.out ?_
   case a1=>rw [cH];simp;omega
   intro v6 w6 o6 b6
   have hrw2:r < w2.heap.size:=by have:=hw2.out;omega
   have hxw2:=HX2.out;have C6:AC r (.slice va k vcap) d w.heap.size p (.slice a q cap) w6:=⟨(b6.block r hrw2).trans C5'.row,(b6.block _ hxw2).trans C5'.box⟩;have B6:=Hh (B5.trans b6);have O6:=Hh o6;obtain ⟨v6a,v6c,e6,_⟩:=o6.slice;refine hK _ _ (Sc.Cl.of C6) ?_;clear hK K o6 b6 B5 O5 R5 C5' hz5;have C6':=Hh C6;clear C6;have T6:=Hh (TRD.below (aW B2 B6));refine Sz.call (by rfl) (fun K hK=>?_);refine wF (Kd:=E3) underlying47 lG rfl (by omega) _ _ rfl w2.heap.size _ _ rfl O6.out _ _ rfl T6.out ?a2 B6.out.size ?_
   case a2=>rw [cI,cH,eQ];have:=HN.out;simp only [dl,dm];omega
   intro v7 w7 o7 b7
   obtain ⟨v7a,v7c,e7,_⟩:=o7.slice;obtain ⟨n7,rfl⟩:∃ n7,v7 = .slice v7a n7 v7c:=⟨_,e7⟩;clear e7;have C7:AC r (.slice va k vcap) d w.heap.size p (.slice a q cap) w7:=⟨(b7.block r hrw2).trans C6'.row,(b7.block _ hxw2).trans C6'.box⟩;have B7:=Hh (B6.trans b7);refine hK _ _ (Sc.Cl.of C7) ?_;clear hK K b7 B6 O6 T6 C6' e6;have c7:=Fl.rc C7.row 0;have f7:=aj C7.row 0;have BW:=aW B2 B7;have RES:Hid (mG w r F d 0 (put key (n,p,l) (L.map aD.abs)) (.returned (.int .i64 0)) (w7.setCell ⟨r,0,none⟩ (.slice v7a n7 v7c))):=by
    refine FIN k (.slice v7a n7 v7c) _ P1 P2 ((ay.of_below BW).trans (ay.set (fun k=>k=r) w7 (a:=⟨r,0,none⟩) rfl _) fun _ _ g=>g) ?_ ?_
    ·have:=Rw.aB (j:=0) C7.row (.slice v7a n7 v7c)
     rw [this]
     simp
    ·exact (o7.off (p:=⟨r,0,none⟩) (o7.range (.inl hrw2)) (.slice v7a n7 v7c)).low hw2
   clear C7 BW o7 B7 FIN
   repeat (refine Sz.lit ?_;quiet_step (fail);refine bk ?_)
   refine Sz.done ?_;go_simp;clear c7 f7;generalize (w7.setCell ⟨r,0,none⟩ (.slice v7a n7 v7c))=w8 at *;refine NoPanic.normal ?_;go_wp2
   go_ret
   exact RES
theorem yV {A:aU} (RS:Rs w r F A d) (hF:∀ k,F k->k < w.heap.size) (n p:Int) (v:Value) (l:List R4) (R:Rd K4 w v l) (ho:0 < l.length->∀ k,v.ownBlock=some k->¬ (F k\/k=r)) (hl:dF l) :
 Calls prog 26 #[.pointer (some ⟨r,0,none⟩),.int .i64 n,file p v] w (mG w r F d (gT A n p l) (lM A n p l)):=by
 obtain ⟨u,L,h,rfl⟩:=RS;obtain ⟨a,cap,rfl,_⟩:=R.slice;have no:∀ z e w',gT (L.map aD.abs) n p l=z->z≠0->(e = .returned (.int .i64 z)/\Below w.heap.size w w')->mG w r F d (gT (L.map aD.abs) n p l) (lM (L.map aD.abs) n p l) e w':=fun z e w' hz h0 ⟨he,b⟩=>by
  unfold mG lM;rw [hz,am h0];exact ⟨he,⟨u,L,h.below b,rfl⟩,ay.of_below b⟩
 by_cases hn:0<=n/\n<=63
 ·by_cases hg:aO p l
  ·cases hc:look aD.n n L with
   | some c =>
     obtain ⟨i,_,hq⟩:=yF (DT h.ok) hc;exact (Zg h n p a _ cap l R hn hg hq).mono fun e w'=>no 10 e w' (by unfold gT;rw [aw hn,aw hg,iy,hc];rfl) (by decide)
   | none =>
     have e0:gT (L.map aD.abs) n p l=0:=by unfold gT;rw [aw hn,aw hg,iy,hc];rfl
     unfold lM;rw [e0,aw rfl];exact ace h hF n p a _ cap l R ho hn hg hl hc
  ·exact (ade w r n p a _ cap l R hn hg).mono fun e w'=>no 2 e w' (by unfold gT;rw [aw hn,am hg]) (by decide)
 ·exact (ab0 w r n p a _ cap hn).mono fun e w'=>no 1 e w' (by unfold gT;rw [am hn]) (by decide)
end Fs
namespace Fl
attribute [local irreducible] Sd.bA wpQuiet Sg.dG
structure jX (w:World) (p:Int) (v:Value) (x:R4) (W:World):Prop where
 st:Start w p v x W
 no:W.heap[w.heap.size+4]? = some (.cells #[.int .i64 0,.slice none 0 0] 79 (0,0))
theorem jX.of (w:World) (p:Int) (v:Value) (x:R4):jX w p v x (((((w.alloc (.cells #[.int .i64 p,v] 79)).alloc (.cells (aY x) 42)).alloc (.cells #[.int .i64 0,.slice none 0 0] 79)).alloc (.cells (aY z4) 42)).alloc (.cells #[.int .i64 0,.slice none 0 0] 79)):=by
 have z4':∀ a b c d,((((w.alloc a).alloc b).alloc c).alloc d).heap.size=w.heap.size+4:=fun a b c d=>by simp
 refine ⟨(Start.of w p v x).mono ((aa _ _).alloc (ac _) _),?_⟩;have:=bc ((((w.alloc (.cells #[.int .i64 p,v] 79)).alloc (.cells (aY x) 42)).alloc (.cells #[.int .i64 0,.slice none 0 0] 79)).alloc (.cells (aY z4) 42)) (.cells #[.int .i64 0,.slice none 0 0] 79);rw [z4'] at this;exact this
theorem jX.mono {w W W':World} {p:Int} {v:Value} {x:R4} (h:jX w p v x W) (b:Below W.heap.size W W'):jX w p v x W':=⟨h.st.mono b,jf b h.no⟩
theorem VJ (w:World) (p:Int) (a:Option Addr) (n cap:Nat) (l:List R4) (R:Rd K4 w (.slice a n cap) l) (op rec:Int) (x:R4) (g:Bool) (hg:aZ p l=g) (d:Int) (hd:jC p l op rec=d) (hw:g=false/\d=2\/g=true/\d=1/\(op < 0\/0<=op/\2 < op)\/g=true/\d=4/\(op=0\/op=1\/op=2)/\(rec < 0\/0<=rec/\(n:Int)<=rec)):Calls prog 78 #[file p (.slice a n cap),.int .i64 op,.int .i64 rec,aH x] w (jr w p l op rec x):=by
 have S0:Hid (jX w p (.slice a n cap) x (((((w.alloc (.cells #[.int .i64 p,.slice a n cap] 79)).alloc (.cells #[.int .u8 x.1,.int .u8 x.2.1,.int .u8 x.2.2.1,.int .u8 x.2.2.2] 42)).alloc (.cells #[.int .i64 0,.slice none 0 0] 79)).alloc (.cells #[.int .u8 0,.int .u8 0,.int .u8 0,.int .u8 0] 42)).alloc (.cells #[.int .i64 0,.slice none 0 0] 79))):=Hh (jX.of w p _ x);have GR:=Hh (aM hg (bP _ p _ l (R.below S0.st.aI)));have E:Hid (∀ w',Below w.heap.size w w'->jr w p l op rec x (.returned (.tuple #[file 0 (.slice none 0 0),aH z4,.int .i64 d])) w'):=by
  have he:¬ jC p l op rec=0:=by omega
  exact fun w' h=>⟨.slice none 0 0,by rw [am he,am he,hd],by rw [am he];exact Ow.nil _ _ _,h⟩
 clear R hg hd;unfold file aH at *
 rcases hw with ⟨rfl,rfl⟩ | ⟨rfl,rfl,ho | ⟨ho,ho2⟩⟩ | ⟨rfl,rfl,rfl | rfl | rfl,hr | ⟨hr,hr2⟩⟩
 all_goals
  go_enter func78,ntmps78
  go_wp2_with fail;generalize ((((w.alloc (.cells #[.int .i64 p,.slice a n cap] 79)).alloc (.cells #[.int .u8 x.1,.int .u8 x.2.1,.int .u8 x.2.2.1,.int .u8 x.2.2.2] 42)).alloc (.cells #[.int .i64 0,.slice none 0 0] 79)).alloc (.cells #[.int .u8 0,.int .u8 0,.int .u8 0,.int .u8 0] 42)).alloc (.cells #[.int .i64 0,.slice none 0 0] 79)=W at *;refine GR.mono ?_;rintro e w1 ⟨rfl,b1⟩;have S1:=Hh (S0.mono b1);clear b1 S0 GR;obtain ⟨c0,c1⟩:=pI S1.st.res1;obtain ⟨d0,d1,d2,d3⟩:=AB S1.st.res2;obtain ⟨n0,n1⟩:=pI S1.no;obtain ⟨f0,f1⟩:=fz2 S1.st.res1;obtain ⟨k0,k1,k2,k3⟩:=fz4 S1.st.res2;have R1:=Hh (aK (g:=w.heap.size+3) (o:=0) (r:=z4) (bg S1.st.res1 0 (.slice none 0 0)) (by omega));have R2:=Hh (aR (cZ (g:=w.heap.size+2) (p:=0) (v:=.slice none 0 0) S1.st.res2 (by omega)) z4);have B2:=Hh (aJ (o:=0) (r:=z4) (aQ (p:=0) (v:=.slice none 0 0) S1.st.aI (show w.heap.size<=w.heap.size+2 by omega)) (show w.heap.size<=w.heap.size+3 by omega));obtain ⟨b0,b1'⟩:=pI S1.st.box;clear S1;go_wp2
  (try simp only [Exit.inBlock,Exit.then])
  exact bp (kM (p:=8) (q:=9) (r:=10) rfl _ _ (w.heap.size+2) (w.heap.size+3) 0 (.slice none 0 0) z4 _ rfl rfl rfl R1 R2) rfl (E _ B2)
theorem afh {p op rec:Int} (ho:0<=op/\op<=2) (hr:0<=rec) (hk:¬ (rec=0/\op=0\/0 < rec/\p / need op % 2=1)):op=0/\0 < rec/\p / 1 % 2=0\/op=1/\rec=0\/op=1/\0 < rec/\p / 2 % 2=0\/op=2/\rec=0\/op=2/\0 < rec/\p / 4 % 2=0:=by
 rcases (by omega:op=0\/op=1\/op=2) with rfl | rfl | rfl
 ·rw [show need 0=1 from rfl] at hk;omega
 ·rw [show need 1=2 from rfl] at hk;omega
 ·rw [show need 2=4 from rfl] at hk;omega
theorem aex (w:World) (p:Int) (a:Option Addr) (n cap:Nat) (l:List R4) (R:Rd K4 w (.slice a n cap) l) (op rec:Int) (x:R4) (hg:aO p l) (ho:0<=op/\op<=2) (hr:0<=rec/\rec < l.length) (hk:¬ (rec=0/\op=0\/0 < rec/\p / need op % 2=1)):Calls prog 78 #[file p (.slice a n cap),.int .i64 op,.int .i64 rec,aH x] w (jr w p l op rec x):=by
 have S0:Hid (jX w p (.slice a n cap) x (((((w.alloc (.cells #[.int .i64 p,.slice a n cap] 79)).alloc (.cells #[.int .u8 x.1,.int .u8 x.2.1,.int .u8 x.2.2.1,.int .u8 x.2.2.2] 42)).alloc (.cells #[.int .i64 0,.slice none 0 0] 79)).alloc (.cells #[.int .u8 0,.int .u8 0,.int .u8 0,.int .u8 0] 42)).alloc (.cells #[.int .i64 0,.slice none 0 0] 79))):=Hh (jX.of w p _ x);have GR:=Hh (aM (show aZ p l=true from bj hg) (bP _ p _ l (R.below S0.st.aI)));have E:Hid (∀ w',Below w.heap.size w w'->jr w p l op rec x (.returned (.tuple #[file 0 (.slice none 0 0),aH z4,.int .i64 5])) w'):=by
  have he:=VN hg ho hr hk;exact fun w' h=>⟨.slice none 0 0,by rw [he];rfl,by rw [he];exact Ow.nil _ _ _,h⟩
 have hn:n=l.length:=by
  obtain ⟨a',cap',e,_⟩:=R;injection e
 have p0:=hg.1;have p1:=hg.2.1;clear R hg;unfold file aH at *;obtain ⟨ho0,ho1⟩:=ho;obtain ⟨hr0,hr1⟩:=hr;rw [← hn] at hr1;have hop:=afh ⟨ho0,ho1⟩ hr0 hk;clear ho0 ho1 hk hn
 rcases hop with ⟨rfl,hr2,hq⟩ | ⟨rfl,rfl⟩ | ⟨rfl,hr2,hq⟩ | ⟨rfl,rfl⟩ | ⟨rfl,hr2,hq⟩
 case' inl =>
  have hq1:IntKind.i64.wrap p=p:=cG _ (by omega);have hq2:Int.tmod p 2=0:=by rw [dk p0];omega
  clear hq;have hz:¬ rec=0:=by omega
  have hz2:(rec == 0)=false:=by simpa using hz
 case' inr.inr.inl =>
  have hq1:IntKind.i64.wrap (Int.tdiv p 2)=p / 2:=by rw [df p0];exact cG _ (by omega)
  have hq2:Int.tmod (p / 2) 2=0:=by rw [dk (by omega)];exact hq
  clear hq;have hz:¬ rec=0:=by omega
  have hz2:(rec == 0)=false:=by simpa using hz
 case' inr.inr.inr.inr =>
  have hq1:IntKind.i64.wrap (Int.tdiv p 4)=p / 4:=by rw [df p0];exact cG _ (by omega)
  have hq2:Int.tmod (p / 4) 2=0:=by rw [dk (by omega)];exact hq
  clear hq;have hz:¬ rec=0:=by omega
  have hz2:(rec == 0)=false:=by simpa using hz
 all_goals
  go_enter func78,ntmps78
  go_wp2_with fail;generalize ((((w.alloc (.cells #[.int .i64 p,.slice a n cap] 79)).alloc (.cells #[.int .u8 x.1,.int .u8 x.2.1,.int .u8 x.2.2.1,.int .u8 x.2.2.2] 42)).alloc (.cells #[.int .i64 0,.slice none 0 0] 79)).alloc (.cells #[.int .u8 0,.int .u8 0,.int .u8 0,.int .u8 0] 42)).alloc (.cells #[.int .i64 0,.slice none 0 0] 79)=W at *;refine GR.mono ?_;rintro e w1 ⟨rfl,b1⟩;have S1:=Hh (S0.mono b1);clear b1 S0 GR;obtain ⟨b0,b1'⟩:=pI S1.st.box;go_upto_region 9 with fail;have S2:Hid (jX w p (.slice a n cap) x (w1.alloc (.cells #[.int .i64 1,.int .i64 2,.int .i64 4] 3))):=Hh (S1.mono ((aa _ _).alloc (ac _) _));clear b0 b1' S1;generalize w1.alloc (.cells #[.int .i64 1,.int .i64 2,.int .i64 4] 3)=w2 at *;have S1:=S2;clear S2;obtain ⟨c0,c1⟩:=pI S1.st.res1;obtain ⟨d0,d1,d2,d3⟩:=AB S1.st.res2;obtain ⟨n0,n1⟩:=pI S1.no;obtain ⟨f0,f1⟩:=fz2 S1.st.res1;obtain ⟨k0,k1,k2,k3⟩:=fz4 S1.st.res2;have R1:=Hh (aK (g:=w.heap.size+3) (o:=0) (r:=z4) (bg S1.st.res1 0 (.slice none 0 0)) (by omega));have R2:=Hh (aR (cZ (g:=w.heap.size+2) (p:=0) (v:=.slice none 0 0) S1.st.res2 (by omega)) z4);have B2:=Hh (aJ (o:=0) (r:=z4) (aQ (p:=0) (v:=.slice none 0 0) S1.st.aI (show w.heap.size<=w.heap.size+2 by omega)) (show w.heap.size<=w.heap.size+3 by omega));obtain ⟨b0,b1'⟩:=pI S1.st.box;clear S1;go_wp2
  (try simp only [Exit.inBlock,Exit.then])
  exact bp (kM (p:=8) (q:=9) (r:=10) rfl _ _ (w.heap.size+2) (w.heap.size+3) 0 (.slice none 0 0) z4 5 rfl rfl rfl R1 R2) rfl (E _ B2)
end Fl
