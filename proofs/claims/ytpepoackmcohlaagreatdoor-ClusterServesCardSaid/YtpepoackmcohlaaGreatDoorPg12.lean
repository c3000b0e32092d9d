import Derived.Test.YtpepoackmcohlaaGreatDoorPg11
set_option maxRecDepth 100000
set_option maxHeartbeats 8000000
namespace Go.Proofs.YtpepoackmcohlaaGreatDoor
open Go.Proofs.Tryz Go.RowKit
open Ck (Hd LL bZ eZ iV iZ kF ny qT sE sl tE zh)
open Fl (K4 R4 aC aH aM aR aY ah aj bC bQ dF file z4)
open Fs (Fx Rs St Wf aG aU ay dA dD dE dw eB gB gV yc)
open Pa (K2 KB KN S2 aN aV bU bX dx fQ ptr xV)
open Ro (E5 K5 bO bS fM fZ gH gQ iY vK z5)
open Rw (At Ow Rd)
open Ua (Row aX cB dB dJ dO dU iF kG pP tb te tp upd)
namespace Cu
open Go.Maps
open Fs (fq dV iP sJ aS qO)
attribute [local irreducible] Sd.bA wpQuiet Sz.oH
def Zy (w:World) (s:Nat) (F:Nat->Prop) (c:Cs) (t:Nat) (y:R4) (x:Int) (e:Ending) (w':World):Prop:=e = .returned (.tuple #[aH y,.int .i64 x])/\ClE w' s (Fx F w w') c t/\ay F w w'
section
variable {s t p:Nat} {F G:Nat->Prop} {c:Cs} {vn vq:Value} {L:List Nd} {Fs:Nat->Nat->Prop} {w w1 w':World}
theorem CZ (h:Cl w s F c t vn L p vq Fs) (b:Below w.heap.size w w') (y:R4) (x:Int):Zy w s F c t y x (.returned (.tuple #[aH y,.int .i64 x])) w':=⟨rfl,⟨vn,L,p,vq,Fs,(h.below b).fx w⟩,ay.of_below b⟩
structure Sv0 (w:World) (o f r:Int) (x:R4) (W:World):Prop where
 nP:W.heap[w.heap.size]? = some (.cells #[.int .i64 o,.int .i64 f,.int .i64 r] 59 (0,0))
 arg:W.heap[w.heap.size+1]? = some (.cells (aY x) 42 (0,0))
 res:W.heap[w.heap.size+2]? = some (.cells (aY z4) 42 (0,0))
 aI:Below w.heap.size w W
theorem Sv0.mono {W W':World} {o f r:Int} {x:R4} (h:Sv0 w o f r x W) (b:Below W.heap.size W W'):Sv0 w o f r x W' :=
 ⟨jf b h.nP,jf b h.arg,jf b h.res,h.aI.trans (b.mono h.aI.size)⟩
theorem DL (w:World) (o f r:Int) (x:R4):Sv0 w o f r x (((w.alloc (.cells #[.int .i64 o,.int .i64 f,.int .i64 r] 59)).alloc (.cells #[.int .u8 x.1,.int .u8 x.2.1,.int .u8 x.2.2.1,.int .u8 x.2.2.2] 42)).alloc (.cells #[.int .u8 0,.int .u8 0,.int .u8 0,.int .u8 0] 42)):=by
 have q:=Fs.gG w o f r x;exact ⟨q.nP,q.arg,q.res,q.aI⟩
variable {o f r n:Int} {x y:R4}
theorem Sv0.TD {W:World} (h:Sv0 w o f r x W):(bC W (w.heap.size+2) 0 y).heap[w.heap.size+2]? = some (.cells (aY y) 42 (0,0))/\Below w.heap.size w (bC W (w.heap.size+2) 0 y) :=
 ⟨aR h.res y,h.aI.trans ((qO W (w.heap.size+2) y).below h.aI.size fun k e=>by omega)⟩
theorem aew (hn:no c n):Bg c n o f r=1/\QY c n o f r x=z4/\Bf c n o f r x=c:=by
 have e:Bg c n o f r=1:=aw hn;refine ⟨e,?_,aw (.inl hn)⟩;unfold QY;rw [e,am (by decide)]
theorem ZS (hn:¬ no c n) (hv:bU c.V n=false):Bg c n o f r=13/\QY c n o f r x=z4/\Bf c n o f r x=c:=by
 have e:Bg c n o f r=13:=by unfold Bg;rw [am hn,hv,am dr]
 refine ⟨e,?_,aw (.inr hv)⟩;unfold QY;rw [e,am (by decide)]
theorem afj {A:aU} (h:dE A o f r≠0):dV A o f r x=z4:=by
 unfold dV
 split
 ·rfl
 ·rw [am h]
theorem ZX (hn:¬ no c n) (hv:bU c.V n=true):Bg c n o f r=dE (aN c.S n).1 o f r/\QY c n o f r x=dV (aN c.S n).1 o f r x/\Bf c n o f r x = { c with S:=jh c.S n (dA (aN c.S n).1 o f r x,dD (aN c.S n).1 o f r (aN c.S n).2) }:=by
 have e:Bg c n o f r=dE (aN c.S n).1 o f r:=by unfold Bg;rw [am hn,hv,aw rfl]
 refine ⟨e,?_,?_⟩
 ·unfold QY
  rw [e]
  by_cases h:dE (aN c.S n).1 o f r=0
  ·rw [aw h]
  ·rw [am h,afj h]
 ·unfold Bf
  rw [am (by rw [hv];rintro (g | g);exact hn g;cases g)]
theorem Tv (h:Cl w s F c t vn L p vq Fs) (o f r:Int) (x:R4) (hn:no c n):Calls prog 18 #[ptr s,.int .i64 n,Ad.addr o f r,aH x] w (Zy w s F c t z4 1):=by
 have S0:=Hh (DL w o f r x);have C1:=Hh (zU (h.below S0.aI) hn);have E:=Hh (fun w' b=>CZ h (w':=w') b z4 1);clear h hn;unfold ptr aH at *;unfold Ad.addr at *
 go_enter func18,ntmps18
 go_wp2_with fail;generalize (((w.alloc (.cells #[.int .i64 o,.int .i64 f,.int .i64 r] 59)).alloc (.cells #[.int .u8 x.1,.int .u8 x.2.1,.int .u8 x.2.2.1,.int .u8 x.2.2.2] 42)).alloc (.cells #[.int .u8 0,.int .u8 0,.int .u8 0,.int .u8 0] 42))=W at *;refine C1.mono ?_;rintro e w1 ⟨rfl,b1⟩;have S2:=Hh (S0.mono b1);clear b1 C1 S0;obtain ⟨d0,d1,d2,d3,k0,k1,k2,k3⟩:=xL S2.res;have R3:=Hh (S2.TD (y:=z4)).1;have G:=Hh (E _ (S2.TD (y:=z4)).2);clear S2 E;unfold aH at G;go_wp2
 (try simp only [Exit.inBlock,Exit.then])
 exact bp (aS (p:=8) (r:=9) rfl _ _ (w.heap.size+2) z4 (.int .i64 1) rfl rfl R3) rfl G
theorem Jz (h:Cl w s F c t vn L p vq Fs) {n:Nat} (o f r:Int) (x:R4) (hn:n < c.S.length) (hv:bU c.V n=false):Calls prog 18 #[ptr s,.int .i64 n,Ad.addr o f r,aH x] w (Zy w s F c t z4 13):=by
 have S0:=Hh (DL w o f r x);have C1:=Hh (jO (h.below S0.aI) hn);have E:=Hh (fun w' b=>CZ h (w':=w') b z4 13);obtain ⟨g,cap,rfl,-,hm,-⟩:=h.one hn;have D:=Hh (fun w1 (b:Below w.heap.size w w1)=>db (h.below b).cells.1 ((h.below b).nod hn).2.1);have lv:(iC L n).live=false:=by rw [h.lv n (by rw [h.len];exact hn)];exact hv
 rw [lv] at D;have p5:decide (c.S.length<=n)=false:=ai (by omega);clear h hv lv;generalize c.S.length=ln at *;unfold ptr aH at *;unfold Ad.addr at *
 go_enter func18,ntmps18
 go_wp2_with fail;generalize (((w.alloc (.cells #[.int .i64 o,.int .i64 f,.int .i64 r] 59)).alloc (.cells #[.int .u8 x.1,.int .u8 x.2.1,.int .u8 x.2.2.1,.int .u8 x.2.2.2] 42)).alloc (.cells #[.int .u8 0,.int .u8 0,.int .u8 0,.int .u8 0] 42))=W at *;refine C1.mono ?_;rintro e w1 ⟨rfl,b1⟩;have S2:=Hh (S0.mono b1);obtain ⟨y0,y1⟩:=D w1 S2.aI;clear b1 C1 S0 D;obtain ⟨d0,d1,d2,d3,k0,k1,k2,k3⟩:=xL S2.res;have R3:=Hh (S2.TD (y:=z4)).1;have G:=Hh (E _ (S2.TD (y:=z4)).2);clear S2 E;unfold aH at G;go_wp2
 (try simp only [Exit.inBlock,Exit.then])
 exact bp (aS (p:=8) (r:=9) rfl _ _ (w.heap.size+2) z4 (.int .i64 13) rfl rfl R3) rfl G
theorem Ig (h:Cl w s F c t vn L p vq Fs) {n:Nat} (o f r:Int) (x:R4) (hx:bQ x) (hg:fq w) (hG:¬ F 0) (hd:0<=(aN c.S n).2/\(aN c.S n).2 < 1000000) (hn:n < c.S.length) (hv:bU c.V n=true):Calls prog 18 #[ptr s,.int .i64 n,Ad.addr o f r,aH x] w (Zy w s F { c with S:=jh c.S n (dA (aN c.S n).1 o f r x,dD (aN c.S n).1 o f r (aN c.S n).2) } t (dV (aN c.S n).1 o f r x) (dE (aN c.S n).1 o f r)):=by
 have S0:=Hh (DL w o f r x);have C1:=Hh (jO (h.below S0.aI) hn);have hL:n < L.length:=by rw [h.len];exact hn
 obtain ⟨g,cap,rfl,-,hm,-⟩:=h.one hn;have D:=Hh (fun w1 (b:Below w.heap.size w w1)=>db (h.below b).cells.1 ((h.below b).nod hn));have lv:(iC L n).live=true:=by rw [h.lv n hL];exact hv
 rw [lv] at D;have p5:decide (c.S.length<=n)=false:=ai (by omega);have SD:=Hh (fun w1 (b:Below w.heap.size w w1)=>sJ ((h.below b).TD hn) (hg.below b) (fun e=>hG (h.ff n hL _ e)) hd o f r x hx);have LOWF:=Hh (h.st n hL).low;have NG:Hid (¬ Fs n s/\¬ Fs n g/\(∀ k,w.heap.size<=k->¬ Fs n k)):=Hh ⟨fun e=>(h.off n hL s e).1 rfl,fun e=>(h.off n hL g e).2.2.1 rfl,fun k hk e=>by have:=(h.st n hL).low k e;omega⟩;have NL:Hid (s < w.heap.size/\g < w.heap.size):=Hh ⟨h.slt,h.low g (h.fv g (.inl rfl))⟩
 have FIN:Hid (∀ w1 w2 w3 e,Below w.heap.size w w1->iP w1 (iC L n).s (Fs n) (dD (aN c.S n).1 o f r (aN c.S n).2) (dV (aN c.S n).1 o f r x) (dE (aN c.S n).1 o f r) (dA (aN c.S n).1 o f r x) e w2->ay (fun k=>k=w.heap.size+2) w2 w3->w.heap.size+2 < w1.heap.size->Zy w s F { c with S:=jh c.S n (dA (aN c.S n).1 o f r x,dD (aN c.S n).1 o f r (aN c.S n).2) } t (dV (aN c.S n).1 o f r x) (dE (aN c.S n).1 o f r) (.returned (.tuple #[aH (dV (aN c.S n).1 o f r x),.int .i64 (dE (aN c.S n).1 o f r)])) w3):=Hh (fun w1 w2 w3 e b1 ⟨_,d2,o2⟩ o3 hl=>by
  have z:=(h.below b1).store (i:=n) hL (x:=(dA (aN c.S n).1 o f r x,dD (aN c.S n).1 o f r (aN c.S n).2)) d2 o2;have hb:∀ k,Fx F w1 w2 k->¬ k=w.heap.size+2:=fun k q e=>by
   rcases q with q | q
   ·have:=h.low k q;omega
   ·omega
  have z3:=z.only (G:=fun k=>k=w.heap.size+2) hb o3;have z1:=b1.size;have z2:=o2.size;have z4:=o3.size;have oo:=((ay.of_below b1).trans (o2.mono fun k _ q=>h.ff n hL k q) fun _ _ q=>q).trans (G':=fun k=>k=w.heap.size+2) o3 fun k hk q=>by omega
  exact ⟨rfl,⟨_,_,_,_,_,z3.wide (fun k q=>by
   rcases q with q | q
   ·exact .inl q
   ·exact .inr ⟨by omega,by omega⟩) (Fx.low h.low oo.size)⟩,oo⟩)
 clear h hv lv hg hG hd hL;unfold iP at SD;have SDP:Hid (∀ w1,Below w.heap.size w w1->Calls prog 44 #[.pointer (some ⟨(iC L n).s,0,none⟩),Ad.addr o f r,aH x] w1 (iP w1 (iC L n).s (Fs n) (dD (aN c.S n).1 o f r (aN c.S n).2) (dV (aN c.S n).1 o f r x) (dE (aN c.S n).1 o f r) (dA (aN c.S n).1 o f r x))):=Hh (fun w1 b=>SD w1 b);clear SD;generalize ({ c with S:=jh c.S n (dA (aN c.S n).1 o f r x,dD (aN c.S n).1 o f r (aN c.S n).2) } : Cs)=c' at *;generalize dD (aN c.S n).1 o f r (aN c.S n).2=d' at *;generalize dV (aN c.S n).1 o f r x=y at *;generalize dE (aN c.S n).1 o f r=ee at *;generalize dA (aN c.S n).1 o f r x=A' at *;generalize c.S.length=ln at *;generalize (iC L n).s=q at *;unfold ptr aH at *;unfold Ad.addr at *
 go_enter func18,ntmps18
 go_wp2_with fail;generalize (((w.alloc (.cells #[.int .i64 o,.int .i64 f,.int .i64 r] 59)).alloc (.cells #[.int .u8 x.1,.int .u8 x.2.1,.int .u8 x.2.2.1,.int .u8 x.2.2.2] 42)).alloc (.cells #[.int .u8 0,.int .u8 0,.int .u8 0,.int .u8 0] 42))=W at *;refine C1.mono ?_;rintro e w1 ⟨rfl,b1⟩;have S2:=Hh (S0.mono b1);obtain ⟨y0,y1,y2,-⟩:=D w1 S2.aI;have Y0:=Hh y0;have Y1:=Hh y1;clear b1 C1 S0 D y1;go_upto_region 5 with fail;clear y0 y2;have BD:=Hh (aa w1.heap.size w1).drew;have hl2:=bm S2.res;have CD:=Hh (SDP w1.drew (S2.aI.trans (BD.mono S2.aI.size)));have S3:=Hh (S2.mono BD);have NX:Hid (¬ (fun k=>Fs n k\/k=w.heap.size+2) s/\¬ (fun k=>Fs n k\/k=w.heap.size+2) g/\¬ (fun k=>Fs n k\/k=w.heap.size+2) w.heap.size/\¬ (fun k=>Fs n k\/k=w.heap.size+2) (w.heap.size+1)):=Hh ⟨fun e=>e.elim NG.out.1 (fun e=>by have:=NL.out.1;omega),fun e=>e.elim NG.out.2.1 (fun e=>by have:=NL.out.2;omega),fun e=>e.elim (NG.out.2.2 _ (ac _)) (fun e=>by omega),fun e=>e.elim (NG.out.2.2 _ (by omega)) (fun e=>by omega)⟩;generalize hGG:(fun k=>Fs n k\/k=w.heap.size+2)=GG at NX;have HGG:=Hh hGG;clear hGG;have OD:Hid (ay GG w1 w1.drew):=Hh (ay.of_below BD);have s0:=Sc.aA (C:=fun W'=>ay GG w1 W') (a:=⟨s,0,none⟩) (fun W' oo=>oo.cell Y0 NX.out.1);have s1:=Sc.aA (C:=fun W'=>ay GG w1 W') (a:=⟨g,n * 3,none⟩) (fun W' oo=>oo.cell Y1 NX.out.2.1);have a0:=Sc.aA (C:=fun W'=>ay GG w1 W') (a:=⟨w.heap.size,0,none⟩) (fun W' oo=>oo.cell (ah S2.nP 0) NX.out.2.2.1);have a1:=Sc.aA (C:=fun W'=>ay GG w1 W') (a:=⟨w.heap.size,1,none⟩) (fun W' oo=>oo.cell (ah S2.nP 1) NX.out.2.2.1);have a2:=Sc.aA (C:=fun W'=>ay GG w1 W') (a:=⟨w.heap.size,2,none⟩) (fun W' oo=>oo.cell (ah S2.nP 2) NX.out.2.2.1);have x0:=Sc.aA (C:=fun W'=>ay GG w1 W') (a:=⟨w.heap.size+1,0,none⟩) (fun W' oo=>oo.cell (ah S2.arg 0) NX.out.2.2.2);have x1:=Sc.aA (C:=fun W'=>ay GG w1 W') (a:=⟨w.heap.size+1,1,none⟩) (fun W' oo=>oo.cell (ah S2.arg 1) NX.out.2.2.2);have x2:=Sc.aA (C:=fun W'=>ay GG w1 W') (a:=⟨w.heap.size+1,2,none⟩) (fun W' oo=>oo.cell (ah S2.arg 2) NX.out.2.2.2);have x3:=Sc.aA (C:=fun W'=>ay GG w1 W') (a:=⟨w.heap.size+1,3,none⟩) (fun W' oo=>oo.cell (ah S2.arg 3) NX.out.2.2.2);have ne:Nonempty (Sc.In (fun W'=>ay GG w1 W')):=⟨⟨_,OD⟩⟩;refine Sc.start (fun W'=>ay GG w1 W') [(false,0),(false,1),(false,2),(false,3),(false,4),(false,5),(false,6),(false,7),(false,8),(false,9),(true,10),(false,11),(false,12),(true,13),(false,14)] (by kernel_rfl) (by kernel_rfl) (by kernel_rfl) OD ?_;dsimp only [Sd.aP,List.getElem?_cons_succ,List.getElem?_cons_zero]
 iterate 10 (refine Sd.lit ?_;quiet_step (fail);refine bk ?_)
 clear s0 s1 a0 a1 a2 x0 x1 x2 x3;refine Sd.call (by rfl) (fun K hK=>?_);go_simp;refine CD.mono ?_;rintro e w5 hp;have P5:=Hh hp;obtain ⟨rfl,-,o5⟩:=hp;have O5:=Hh (OD.trans (o5.mono fun k _ q=>(by rw [← HGG.out];exact .inl q:GG k)) fun _ _ q=>q);have R5:=Hh ((o5.block _ (bm S3.res) (NG.out.2.2 _ (by omega))).trans S3.out.res);refine hK _ _ (Sc.Cl.of O5) ?_;clear hK K o5 CD;unfold aH
 iterate 2 (refine Sd.lit ?_;quiet_step (fail);refine bk ?_)
 obtain ⟨d0,d1,d2,d3,k0,k1,k2,k3⟩:=xL R5;have R6:=Hh (aR R5 y);have O6:=Hh (qO w5 (w.heap.size+2) y);have G:=Hh (FIN _ w5 _ _ (S2.aI.trans (BD.mono S2.aI.size)) P5 O6 (bm S3.res));refine Sd.call (by rfl) (fun K hK=>?_);go_simp;refine hK _ _ (Sc.Cl.of (O5.trans O6 fun k _ q=>by rw [← HGG.out];exact .inr q)) ?_;clear hK K d0 d1 d2 d3 k0 k1 k2 k3 FIN P5 O5 O6 S2 S3
 iterate 1 (refine Sd.lit ?_;quiet_step (fail);refine bk ?_)
 refine Sd.done ?_;unfold aH at G;go_wp2
 (try simp only [Exit.inBlock,Exit.then])
 exact bp (aS (p:=8) (r:=9) rfl _ _ (w.heap.size+2) y (.int .i64 ee) rfl rfl R6) rfl G
theorem Zy.late {y:R4} {x:Int} {e:Ending} (h:Zy w s F c t y x e w'):Zy w s F c (t+1) y x e w':=by
 obtain ⟨h1,⟨vn,L,p,vq,Fs,h2⟩,h3⟩:=h;exact ⟨h1,⟨vn,L,p,vq,Fs,h2.late⟩,h3⟩
theorem Ml (h:Cl w s F c t vn L p vq Fs) (ok:jB c t) (ht:t<=1000) (hg:fq w) (hG:¬ F 0) (n o f r:Int) (x:R4) (hx:bQ x):Calls prog 18 #[ptr s,.int .i64 n,Ad.addr o f r,aH x] w (Zy w s F (Bf c n o f r x) (t+1) (QY c n o f r x) (Bg c n o f r)):=by
 by_cases hn:no c n
 ·obtain ⟨e1,e2,e3⟩:=aew (o:=o) (f:=f) (r:=r) (x:=x) hn
  rw [e1,e2,e3];exact (Tv h o f r x hn).mono fun _ _ d=>d.late
 ·have hin:0<=n/\n < c.S.length:=by unfold no at hn;omega
  obtain ⟨nn,rfl⟩:∃ nn:Nat,n=nn:=⟨n.toNat,by omega⟩
  cases hv:bU c.V nn with
  | false =>
    obtain ⟨e1,e2,e3⟩:=ZS (o:=o) (f:=f) (r:=r) (x:=x) hn hv;rw [e1,e2,e3];exact (Jz h o f r x (by omega) hv).mono fun _ _ d=>d.late
  | true =>
    obtain ⟨e1,e2,e3⟩:=ZX (o:=o) (f:=f) (r:=r) (x:=x) hn hv;have hs:=ok.st nn (by omega);rw [e1,e2,e3];exact (Ig h o f r x hx hg hG ⟨hs.2.1,by omega⟩ (by omega) hv).mono fun _ _ d=>d.late
theorem Kn (w:World) (n o f r:Int) (x:R4):Calls prog 18 #[.pointer none,.int .i64 n,Ad.addr o f r,aH x] w fun e w'=>e = .returned (.tuple #[aH z4,.int .i64 1])/\Below w.heap.size w w':=by
 have S0:=Hh (DL w o f r x);have C1:=Hh (fun W=>zM W n);unfold aH at *;unfold Ad.addr at *
 go_enter func18,ntmps18
 go_wp2_with fail;generalize (((w.alloc (.cells #[.int .i64 o,.int .i64 f,.int .i64 r] 59)).alloc (.cells #[.int .u8 x.1,.int .u8 x.2.1,.int .u8 x.2.2.1,.int .u8 x.2.2.2] 42)).alloc (.cells #[.int .u8 0,.int .u8 0,.int .u8 0,.int .u8 0] 42))=W at *;refine (C1 _).mono ?_;rintro e w1 ⟨rfl,b1⟩;have S2:=Hh (S0.mono b1);clear b1 C1 S0;obtain ⟨d0,d1,d2,d3,k0,k1,k2,k3⟩:=xL S2.res;have R3:=Hh (S2.TD (y:=z4)).1;have G:=Hh (S2.TD (y:=z4)).2;clear S2;go_wp2
 (try simp only [Exit.inBlock,Exit.then])
 exact bp (aS (p:=8) (r:=9) rfl _ _ (w.heap.size+2) z4 (.int .i64 1) rfl rfl R3) rfl ⟨rfl,G⟩
end
end Cu
namespace Pa
open Go.Maps
theorem Nl {α:Type} {K:Rw.Kind α} {w:World} {v:Value} {l:List α} {a:Option Addr} {n cap k:Nat} (R:Rd K w v l) (e:v = .slice a n cap) (hk:k<=l.length) (h0:0 < k):Rd K w (.slice a k cap) (l.take k):=by
 obtain ⟨a',cap',e',⟨h1,h2⟩,h3,h4⟩:=R;rw [e] at e';injection e' with e1 e2 e3;subst e1 e3;have hl:(l.take k).length=k:=by rw [cH];omega
 refine ⟨a,cap,by rw [hl],⟨by rw [hl];omega,h2⟩,h3,fun _=>?_⟩;obtain ⟨b,off,rfl,hA⟩:=h4 (by omega);refine ⟨b,off,rfl,fun i hi j u hu=>?_⟩;rw [hl] at hi;refine hA i (by omega) j u ?_;rw [← hu,List.getD,List.getD,List.getElem?_take,aw hi]
end Pa
namespace Cu
open Fs (aD E3 at3 yj)
open Pa (Nl)
attribute [local irreducible] Sd.bA wpQuiet
def mO (e:aD):aD:={ e with l:=e.l.take 260 }
def Xe (p:Pl):Pl:=((p.1.take 12).map fun e=>(e.1,e.2.1,e.2.2.take 260),p.2)
def adM (l:List Pl):List Pl:=(l.take 6).map Xe
theorem aaR:(prog.info? 81).map (fun i=>(i.zero,i.size,i.bytes))=some (some (.agg #[.int .i64 0,.int .i64 0,.slice none 0 0]),3,40):=by kernel_rfl
theorem ads:(prog.info? 71).map (fun i=>(i.zero,i.size,i.bytes))=some (some (.agg #[.slice none 0 0,.int .i64 0]),2,32):=by kernel_rfl
def EW (w:World) (B:Nat) (L:List mF) (e:Ending) (w':World):Prop:=∃ v L',e = .returned v/\Cz w' v L' B/\dK L'=adM (dK L)/\Below w.heap.size w w'
theorem WG {w:World} {a:Option Addr} {cap:Nat} {l:List R4} (h:Rd K4 w (.slice a l.length cap) l):Rd K4 w (.slice a (l.take 260).length cap) (l.take 260):=by
 by_cases h1:260<=l.length
 ·have e:(l.take 260).length=260:=by rw [cH];omega
  rw [e];exact Nl h rfl h1 (by decide)
 ·rw [dq (by omega)]
  exact h
structure Nn (wo:World) (c:mF) (m g5 g6:Nat) (fa:Option Addr) (fc:Nat) (j:Nat) (o:Value) (wr:World):Prop where
 iN:wr.heap[g5]? = some (.cells #[.slice fa m fc,.int .i64 c.rate] 71 (0,0))
 JC:wr.heap[g6]? = some (.cells #[o,.int .i64 c.rate] 71 (0,0))
 own:Ow E3 wr wo.heap.size 81 o ((c.F.take j).map mO)
 aI:Below wo.heap.size wo wr
 lo:wo.heap.size<=g5/\wo.heap.size<=g6/\g5≠g6
section
variable {wo wr w2:World} {c:mF} {m g5 g6 fc j:Nat} {fa:Option Addr} {o o':Value}
theorem Nn.below (h:Nn wo c m g5 g6 fa fc j o wr) (b:Below wr.heap.size wr w2):Nn wo c m g5 g6 fa fc j o w2:=⟨jf b h.iN,jf b h.JC,h.own.keep b,h.aI.trans (b.mono h.aI.size),h.lo⟩
theorem Nn.off (h:Nn wo c m g5 g6 fa fc j o wr) {gx:Nat} (h0:wo.heap.size<=gx) (h5:gx≠g5) (h6:gx≠g6) (ho:o.ownBlock≠some gx) (k:Nat) (u:Value):Nn wo c m g5 g6 fa fc j o (wr.setCell ⟨gx,k,none⟩ u) :=
 ⟨(bt wr ⟨gx,k,none⟩ u g5 (fun e=>h5 e.symm)).trans h.iN,(bt wr ⟨gx,k,none⟩ u g6 (fun e=>h6 e.symm)).trans h.JC,h.own.off (p:=⟨gx,k,none⟩) ho u,h.aI.setCell h0 u,h.lo⟩
theorem Nn.push (h:Nn wo c m g5 g6 fa fc j o wr) {x:aD} (hx:c.F[j]? = some x) (own:Ow E3 w2 wo.heap.size 81 o' ((c.F.take j).map mO ++ [mO x])) (gr:wr.grownBy w2 o.ownBlock):w2.heap[g6]? = some (.cells #[o,.int .i64 c.rate] 71 (0,0))/\Nn wo c m g5 g6 fa fc (j+1) o' (w2.setCell ⟨g6,0,none⟩ o'):=by
 have r5:=(gr.block g5 (bm h.iN) (fun e=>h.own.apart h.iN (by decide) e.symm)).trans h.iN;have r6:=(gr.block g6 (bm h.JC) (fun e=>h.own.apart h.JC (by decide) e.symm)).trans h.JC;have b2:=h.aI.grown gr h.aI.size fun j e=>(ci h.own j e).1;have e:(c.F.take (j+1)).map mO=(c.F.take j).map mO ++ [mO x]:=by rw [ed,hx,ij];rfl
 refine ⟨r6,(bt w2 ⟨g6,0,none⟩ o' g5 h.lo.2.2).trans r5,Rw.aB (j:=0) r6 o',?_,b2.setCell h.lo.2.1 _,h.lo⟩;rw [e];exact own.far (p:=⟨g6,0,none⟩) r6 (by decide) _
end
theorem Ub (x:aD):(mO x).sl.ownBlock=x.sl.ownBlock:=by
 obtain ⟨n,p,a,cap,l⟩:=x;unfold mO aD.sl
 cases a <;> rfl
def ROk (w:World) (B:Nat) (e:aD):Prop:=(Rd K4 w e.sl e.l/\dF e.l)/\(0 < e.l.length->∀ k,e.sl.ownBlock=some k->k < B)
variable {w:World} {v:Value} {B:Nat}
theorem Z7 {L:List aD} (rd:Rd E3 w v L) (each:∀ c∈L,ROk w B c):xV w v L B:=by
 have at_:∀ i,i < L.length->fQ L i∈L:=fun i hi=>by
  unfold fQ;rw [af,aq hi];exact dg hi
 exact ⟨rd,fun i hi=>(each _ (at_ i hi)).1,fun i hi h0 k hk=>(each _ (at_ i hi)).2 h0 k hk⟩
theorem aaI {L:List mF} (rd:Rd KP w v L) (each:∀ c∈L,xV w (sl c.files) c.F B):Cz w v L B:=by
 refine ⟨rd,fun i hi=>each _ ?_⟩;unfold Be;rw [af,aq hi];exact dg hi
structure Ty (w:World) (B:Nat) (L:List mF) (k:Nat) (o:Value) (LD:List mF) (wr:World):Prop where
 own:Ow KP wr w.heap.size 71 o LD
 len:LD.length=k
 fil:∀ c∈LD,Ow E3 wr w.heap.size 81 (sl c.files) c.F
 Yc:∀ c∈LD,∀ e∈c.F,ROk w B e
 abs:dK LD=((dK L).take k).map Xe
 aI:Below w.heap.size w wr
section
variable {w wr w2:World} {B:Nat} {L LD:List mF} {k:Nat} {o o':Value} {x:mF}
theorem Ty.below (h:Ty w B L k o LD wr) (b:Below wr.heap.size wr w2):Ty w B L k o LD w2:=⟨h.own.keep b,h.len,fun c hc=>(h.fil c hc).keep b,h.Yc,h.abs,h.aI.trans (b.mono h.aI.size)⟩
theorem Ty.push (h:Ty w B L k o LD wr) (hk:k < L.length) (own:Ow KP w2 w.heap.size 71 o' (LD ++ [x])) (gr:wr.grownBy w2 o.ownBlock) (fx:Ow E3 wr w.heap.size 81 (sl x.files) x.F) (rx:∀ e∈x.F,ROk w B e) (ax:x.abs=Xe (Be L k).abs):Ty w B L (k+1) o' (LD ++ [x]) w2:=by
 have oq:=aV gr;refine ⟨own,by rw [cI,h.len];rfl,fun c hc=>?_,fun c hc=>?_,?_,h.aI.grown gr h.aI.size fun j e=>(ci h.own j e).1⟩
 ·rcases eM.1 hc with hc | hc
  ·exact aG (h.fil c hc) (fun k e=>Pa.bG (h.fil c hc) h.own (by decide) k e) oq
  ·rw [cM.1 hc]
   exact aG fx (fun k e=>Pa.bG fx h.own (by decide) k e) oq
 ·rcases eM.1 hc with hc | hc
  ·exact h.Yc c hc
  ·rw [cM.1 hc]
   exact rx
 ·have e1:dK (LD ++ [x])=dK LD ++ [x.abs]:=by unfold dK;rw [ij];rfl
  have e2:(dK L).take (k+1)=(dK L).take k ++ [(Be L k).abs]:=by
   rw [ed];have:(dK L)[k]? = some (Be L k).abs:=by
    unfold dK Be;rw [cX,aq hk,af,aq hk]
    rfl
   rw [this]
   rfl
  rw [e1,e2,ij,h.abs,ax]
  rfl
theorem Ty.fin (h:Ty w B L k o LD wr) (hk:k=L.length\/k=6) (h6:k<=6):EW w B L (.returned o) wr:=by
 refine ⟨o,LD,rfl,aaI h.own.rd fun c hc=>Z7 (h.fil c hc).rd fun e he=>⟨⟨(h.Yc c hc e he).1.1.below h.aI,(h.Yc c hc e he).1.2⟩,(h.Yc c hc e he).2⟩,?_,h.aI⟩;rw [h.abs];unfold adM
 congr 1
 rcases hk with e | e
 ·rw [dq (by rw [iR];omega),dq (by rw [iR];omega)]
 ·rw [e]
end
theorem abd (c:mF) (h:Hd):(⟨h,c.rate,(c.F.take 12).map mO⟩:mF).abs=Xe c.abs:=by
 show (((c.F.take 12).map mO).map aD.abs,c.rate)=(((c.F.map aD.abs).take 12).map _,c.rate)
 rw [← List.map_take,List.map_map,List.map_map]
 rfl
theorem Df {L:List mF} (H:Cz w v L B):Calls prog 7 #[v] w (EW w B L):=by
 have HF:=Hh H.file;obtain ⟨a,cap,rfl,_,hm,h3⟩:=H.rd;have H3:=Hh h3;clear h3 H;unfold maxLen at hm;have FIN:Hid (∀ k o LD wr,Ty w B L k o LD wr->k=L.length\/k=6->k<=6->EW w B L (.returned o) wr):=Hh (fun k o LD wr I h1 h2=>I.fin h1 h2);have I0:Hid (Ty w B L 0 (.slice (some ⟨w.heap.size,0,none⟩) 0 0) [] (w.alloc (.cells #[] 71))):=Hh ⟨Rw.Ow.made _ _ _ (ac _),rfl,fun c hc=>(cY hc).elim,fun c hc=>(cY hc).elim,rfl,(aa _ _).alloc (ac _) _⟩;generalize hn:L.length=n at *;have HN:=Hh hn;clear hn
 go_enter func7,ntmps7
 go_wp2
 go_loopw [4,3] (fun i o wr=>∃ (k:Nat) (LD:List mF) (p1:Value),k<=n/\k<=6/\i = .int .i64 k/\p1=o/\Hid (Ty w B L k o LD wr)) (fun i _ _=>6 - (intOf i).toNat)
 case atStart=>exact ⟨0,[],_,cg _,cg _,rfl,rfl,by simpa using I0⟩
 case round =>
  clear I0;obtain ⟨k,LD,o,hk,hk6,rfl,rfl,I⟩:=hrel
  by_cases hlt:k < n/\k < 6
  ·obtain ⟨hlt,h6⟩:=hlt
   have hkL:k < L.length:=by have:=HN.out;omega
   obtain ⟨b,off,rfl,hA⟩:=H3 (by omega);obtain ⟨x0,x1⟩:=Xh (hA.below I.aI) hkL;have HAA:=Hh hA;have FK:=Hh (HF k hlt);have KL:=Hh hkL;have LDL:=Hh I.len;clear hA hkL;obtain ⟨ao,co,eo,-,-⟩:=I.own.slice;generalize LD.length=ln at eo;subst eo;generalize hc:Be L k=c at *;have HC:=Hh hc;clear hc;obtain ⟨fa0,fc0,es,hmf⟩:=FK.rd.slice;have ES:=Hh es;rw [es] at x0;clear es;have Y0:=Hh (bc wr (.cells #[.slice fa0 c.F.length fc0,.int .i64 c.rate] 71));have BN:=Hh ((aa wr.heap.size wr).alloc (ac _) (.cells #[.slice fa0 c.F.length fc0,.int .i64 c.rate] 71))
   have FCAP:Hid (c.F.length<=fc0):=Hh (by
    obtain ⟨_,_,e,q,_⟩:=FK.rd;rw [ES.out] at e;injection e with _ _ e
    omega)
   unfold maxLen at hmf
   go_upto_if 27 with fail
   clear x0 x1;generalize (wr.alloc (.cells #[.slice fa0 c.F.length fc0,.int .i64 c.rate] 71))=W5 at *;have z0:=Fl.rc Y0 0;have f0:=aj Y0 0
   go_cut [4] from 10 to 67 (fun z wx=>Value.int .i64 k=z/\Hid (Below wr.heap.size wr wx/\wx.heap[wr.heap.size]? = some (.cells #[.slice fa0 (c.F.take 12).length fc0,.int .i64 c.rate] 71 (0,0))))
   case first =>
    by_cases hl:12 < c.F.length
    ·have e12:(c.F.take 12).length=12:=by rw [cH];omega
     have q1:decide (12 < (c.F.length:Int))=true:=bj (by omega);have fcap:=FCAP.out
     have P:Hid (Below wr.heap.size wr (W5.setCell ⟨wr.heap.size,0,none⟩ (.slice fa0 12 fc0))/\(W5.setCell ⟨wr.heap.size,0,none⟩ (.slice fa0 12 fc0)).heap[wr.heap.size]? = some (.cells #[.slice fa0 (c.F.take 12).length fc0,.int .i64 c.rate] 71 (0,0))):=Hh (by
      rw [e12]
      exact ⟨BN.setCell (ac _) (.slice fa0 12 fc0),Rw.aB (j:=0) Y0 (.slice fa0 12 fc0)⟩)
     clear e12 Y0 BN;generalize (c.F.take 12).length=fm at *;generalize c.F.length=fl at *;go_wp2
     go_meet
     exact ⟨rfl,P.out.1,P.out.2⟩
    ·have e12:c.F.take 12=c.F:=dq (by omega)
     have q1:decide (12 < (c.F.length:Int))=false:=ai (by omega);have q2:decide (12 < c.F.length)=false:=ai (by omega)
     have P:Hid (Below wr.heap.size wr W5/\W5.heap[wr.heap.size]? = some (.cells #[.slice fa0 (c.F.take 12).length fc0,.int .i64 c.rate] 71 (0,0))):=Hh (by
      rw [e12]
      exact ⟨BN,Y0⟩)
     clear e12 Y0 BN;generalize (c.F.take 12).length=fm at *;generalize c.F.length=fl at *;go_wp2
     go_meet
     exact ⟨rfl,P.out.1,P.out.2⟩
   case rest =>
    obtain ⟨e1,P⟩:=hcut;subst e1;clear z0 f0 Y0 BN
    have FR:=Hh (fun e (he:e∈c.F)=>(by
     obtain ⟨i,hi⟩:=dj he;have hl:=(bs.1 hi).1;have q:=FK.file i hl;have q2:=FK.low i hl;unfold fQ at q q2;rw [af,hi] at q q2
     exact ⟨q,q2⟩:ROk w B e))
    have FH:Hid (0 < c.F.length->∃ b off,fa0=some ⟨b,off,none⟩/\At E3 w b off c.F):=Hh (by
     obtain ⟨a',cap',e',_,_,h3⟩:=FK.rd;rw [ES.out] at e';injection e' with e1 _ _;subst e1
     exact h3)
    have MF:Hid ((c.F.take 12).length<=c.F.length/\(c.F.take 12).length<=12):=Hh (by rw [cH];omega)
    have TT:Hid ((c.F.take 12).map mO=(c.F.take (c.F.take 12).length).map mO):=Hh (by
     congr 1
     rw [cH]
     by_cases h:12<=c.F.length
     ·rw [Nat.min_eq_left h]
     ·rw [Nat.min_eq_right (by omega),dq (by omega),cW])
    generalize (c.F.take 12).length=m at *;obtain ⟨wo,hwo⟩:∃ x,x=wr:=⟨_,rfl⟩;have IW:Hid (Ty w B L k (.slice ao ln co) LD wo):=Hh (by rw [hwo];exact I.out);rw [← hwo] at P;rw [← hwo];clear I hwo
    rename_i W5x
    have x5r:=Fl.rc P.out.2 1
    have Q0:Hid (Nn wo c m wo.heap.size wc.heap.size fa0 fc0 0 (.slice none 0 0) (wc.alloc (.cells #[.slice none 0 0,.int .i64 c.rate] 71))):=Hh (by
     have b6:=(aa wc.heap.size wc).alloc (ac _) (.cells #[.slice none 0 0,.int .i64 c.rate] 71);have zz:=P.out.1.size;have zl:=bm P.out.2
     exact ⟨(b6.block _ zl).trans P.out.2,bc wc _,Rw.Ow.nil _ _ _,P.out.1.trans (b6.mono zz),ac _,zz,by omega⟩)
    go_upto_region 9 with fail;clear x5r P;generalize (wc.alloc (.cells #[.slice none 0 0,.int .i64 c.rate] 71))=w6 at *;generalize wc.heap.size=g6 at *;generalize wo.heap.size=g5 at Q0 ⊢;go_wp2
    go_loopw [7] (fun i wr2=>∃ (j:Nat) (o2:Value),j<=m/\i = .int .i64 j/\Hid (Nn wo c m g5 g6 fa0 fc0 j o2 wr2)) (fun i _=>m - (intOf i).toNat)
    case atStart=>exact ⟨0,_,cg _,rfl,Q0⟩
    case round =>
     clear Q0;obtain ⟨j,o2,hj,rfl,Q⟩:=hrel;have p0:=Fl.rc Q.iN 0
     by_cases hjm:j < m
     ·have hjF:j < c.F.length:=by have:=MF.out;omega
      have hc:c.F[j]? = some (fQ c.F j):=by
       unfold fQ;rw [aq hjF,af,aq hjF]
       rfl
      obtain ⟨b2,off2,rfl,hA⟩:=FH (by omega);obtain ⟨y0,y1,y2⟩:=at3 (hA.below (IW.aI.trans (Q.aI.mono IW.aI.size))) hc;have HAA2:=Hh hA;have RR:=Hh (FR _ (cN hc)).1;have HCJ:=Hh hc;clear hA hc hjF;generalize fQ c.F j=x at *;obtain ⟨cn,cp,ca,ccap,cl⟩:=x;unfold aD.sl at y2;simp only at y0 y1 y2;have Y1:=Hh (bc wr (.cells #[.int .i64 cn,.int .i64 cp,.slice ca cl.length ccap] 81));have BN2:=Hh ((aa wr.heap.size wr).alloc (ac _) (.cells #[.int .i64 cn,.int .i64 cp,.slice ca cl.length ccap] 81))
      have CAPC:Hid (cl.length<=ccap):=Hh (by
       obtain ⟨_,_,e,q,_⟩:=RR.out.1;unfold aD.sl at e;simp only at e q;injection e with _ _ e;rw [e]
       exact q.1)
      have CLM:Hid (ccap<=maxLen):=Hh (by
       obtain ⟨_,_,e,_,q,_⟩:=RR.out.1;unfold aD.sl at e;simp only at e;injection e with _ _ e;rw [e]
       exact q)
      have R26:=Hh (WG (l:=cl) (a:=ca) (cap:=ccap) RR.out.1);have Q7:=Hh (Q.below BN2);have GX:Hid (wo.heap.size<=wr.heap.size/\wr.heap.size≠g6/\wr.heap.size≠g5/\o2.ownBlock≠some wr.heap.size):=Hh ⟨Q.aI.size,fun e=>by have:=bm Q.out.JC;omega,fun e=>by have:=bm Q.out.iN;omega,fun e=>by have:=(ci Q.out.own _ e).2;omega⟩
      go_upto_if 51 with fail
      clear y0 y1 y2 p0;generalize (wr.alloc (.cells #[.int .i64 cn,.int .i64 cp,.slice ca cl.length ccap] 81))=W7 at *;clear Q BN2;generalize wr.heap.size=gx at *;have z2:=Fl.rc Y1 2;have f2:=aj Y1 2
      go_cut [7] from 35 to 63 (fun z wx=>Value.int .i64 j=z/\Hid (wx.heap[gx]? = some (.cells #[.int .i64 cn,.int .i64 cp,.slice ca (cl.take 260).length ccap] 81 (0,0))/\Nn wo c m g5 g6 (some ⟨b2,off2,none⟩) fc0 j o2 wx))
      case first =>
       by_cases hl:260 < cl.length
       ·have e12:(cl.take 260).length=260:=by rw [cH];omega
        have q1:decide (260 < (cl.length:Int))=true:=bj (by omega);have capc:=CAPC.out;have clm:=CLM.out;unfold maxLen at clm
        have P:Hid ((W7.setCell ⟨gx,2,none⟩ (.slice ca 260 ccap)).heap[gx]? = some (.cells #[.int .i64 cn,.int .i64 cp,.slice ca (cl.take 260).length ccap] 81 (0,0))/\Nn wo c m g5 g6 (some ⟨b2,off2,none⟩) fc0 j o2 (W7.setCell ⟨gx,2,none⟩ (.slice ca 260 ccap))):=Hh (by
         rw [e12]
         exact ⟨Rw.aB (j:=2) Y1 _,Q7.off GX.out.1 GX.out.2.2.1 GX.out.2.1 GX.out.2.2.2 2 _⟩)
        clear e12 Y1 Q7 RR R26 HCJ;generalize (cl.take 260).length=fm at *;generalize cl.length=fl at *;go_wp2
        go_meet
        exact ⟨rfl,P⟩
       ·have e12:cl.take 260=cl:=dq (by omega)
        have q1:decide (260 < (cl.length:Int))=false:=ai (by omega);have q2:decide (260 < cl.length)=false:=ai (by omega)
        have P:Hid (W7.heap[gx]? = some (.cells #[.int .i64 cn,.int .i64 cp,.slice ca (cl.take 260).length ccap] 81 (0,0))/\Nn wo c m g5 g6 (some ⟨b2,off2,none⟩) fc0 j o2 W7):=Hh (by
         rw [e12]
         exact ⟨Y1,Q7⟩)
        clear e12 Y1 Q7 RR R26 HCJ;generalize (cl.take 260).length=fm at *;generalize cl.length=fl at *;go_wp2
        go_meet
        exact ⟨rfl,P⟩
      case rest =>
       obtain ⟨e1,P⟩:=hcut;subst e1;clear z2 f2 Y1 Q7;have X8:=Hh P.out.1;have Q8:=Hh P.out.2;clear P;obtain ⟨oa,oc,eo,-,-⟩:=Q8.own.slice;have FLN:Hid (((c.F.take j).map mO).length<=12):=Hh (by rw [cy,cH];have:=MF.out;omega);generalize ((c.F.take j).map mO).length=fln at eo;subst eo;have c6:=Fl.rc Q8.JC 0;obtain ⟨z0,z1,z2⟩:=D6 X8;have LE:=Hh (bc wc (.cells #[.int .i64 cn,.int .i64 cp,.slice ca (cl.take 260).length ccap] 81));have QE:=Hh (Q8.below ((aa wc.heap.size wc).alloc (ac _) (.cells #[.int .i64 cn,.int .i64 cp,.slice ca (cl.take 260).length ccap] 81)));have CE:Hid (mO ⟨cn,cp,ca,ccap,cl⟩=⟨cn,cp,ca,ccap,cl.take 260⟩):=Hh rfl;clear Q8 X8;generalize hcr:cl.take 260=cr26 at *;generalize hrl:cr26.length=rl at *;have RLH:=Hh hrl;clear hcr hrl
       go_wp2_with (at_builtin;refine dx (K:=E3) underlying47 aaR rfl (by omega) rfl _ _ rfl wo.heap.size _ _ rfl QE.out.own _ (⟨cn,cp,ca,ccap,cr26⟩:aD) rfl ?d1 ?d2 ?d3 ?_)
       case d1 =>
        intro jj u hu
        have c:=ah LE jj
        match jj,hu with
        | 0,hu=>simp [E3] at hu;subst hu;first | exact c | rfl | go_simp
        | 1,hu=>simp [E3] at hu;subst hu;first | exact c | rfl | go_simp
        | 2,hu=>simp [E3,aD.sl,RLH.out] at hu;subst hu;first | exact c | rfl | go_simp
        | jj+3,hu=>simp [E3] at hu
       case d2=>first | (have:=FLN;omega) | (have:=FLN.out;simp only [cy] at this ⊢;omega) | (have:=FLN.out;simp at this ⊢;omega)
       case d3=>have:=QE.aI.size;simpa using this
       intro v9 w9 o9 g9 _
       rw [← CE.out] at o9
       (try rw [← List.map_take] at o9)
       obtain ⟨r9,q9⟩:=QE.push HCJ o9 (by simpa using g9);have Q9:=Hh q9;have c6':=ah r9 0;have f6':=aj r9 0;obtain ⟨v9a,v9c,n9,rfl⟩:∃ a c n,v9 = .slice a n c:=by obtain ⟨a,c,e,_⟩:=o9.slice;exact ⟨a,c,_,e⟩
       have m12:=MF.out.2;clear o9 g9 r9 q9 QE LE z0 z1 z2 c6 RR R26 HCJ CE;go_wp2
       go_roundw
       case rel=>exact ⟨j+1,_,by omega,by go_num,Q9⟩
       case measure=>simp [intOf];omega
     ·obtain rfl:j=m:=by omega
      obtain ⟨oa,oc,eo,-,-⟩:=Q.own.slice;have HO:=Hh eo;generalize ((c.F.take j).map mO).length=fln at eo HO;subst eo;obtain ⟨c60,c61⟩:=pI Q.JC;have IR:=Hh (IW.below (Q.aI.mono (ac _)));have LE:=Hh (bc wr (.cells #[.slice oa fln oc,.int .i64 c.rate] 71));have BE:=Hh ((aa wr.heap.size wr).alloc (ac _) (.cells #[.slice oa fln oc,.int .i64 c.rate] 71));have IE:=Hh (IR.below BE);have FX:Hid (Ow E3 (wr.alloc (.cells #[.slice oa fln oc,.int .i64 c.rate] 71)) w.heap.size 81 (sl (oa,fln,oc)) ((c.F.take 12).map mO)):=Hh (by rw [TT.out];exact (Q.out.own.keep BE.out).low IW.out.aI.size)
      have RX:Hid (∀ e∈(c.F.take 12).map mO,ROk w B e):=Hh (fun e he=>by
       obtain ⟨x,hx,rfl⟩:=dp.1 he;have q:=FR.out x (List.mem_of_mem_take hx)
       exact ⟨⟨WG (l:=x.l) q.1.1,fun r hr=>q.1.2 r (List.mem_of_mem_take hr)⟩,fun h0 k hk=>q.2 (by have h1:0 < (x.l.take 260).length:=h0;rw [cH] at h1;omega) k (by rw [← Ub x];exact hk)⟩)
      have AX:Hid ((⟨(oa,fln,oc),c.rate,(c.F.take 12).map mO⟩:mF).abs=Xe (Be L k).abs):=Hh (by rw [HC.out];exact abd c _);clear Q IR BE
      go_wp2_with (at_builtin;refine dx (K:=KP) underlying22 ads rfl (by omega) rfl _ _ rfl w.heap.size _ _ rfl IE.out.own _ (⟨(oa,fln,oc),c.rate,(c.F.take 12).map mO⟩:mF) rfl ?d1 ?d2 ?d3 ?_)
      case d1 =>
       intro jj u hu
       have c:=ah LE jj
       match jj,hu with
       | 0,hu=>simp [KP,sl] at hu;subst hu;first | exact c | rfl | go_simp
       | 1,hu=>simp [KP] at hu;subst hu;first | exact c | rfl | go_simp
       | jj+2,hu=>simp [KP] at hu
      case d2=>rw [LDL.out];omega
      case d3=>have:=IE.aI.size;simpa using this
      intro v9 w9 o9 g9 _
      (try rw [← List.map_take] at o9)
      have NEW:=Hh (IE.push KL o9 (by simpa using g9) FX.out RX.out AX.out);obtain ⟨v9a,v9c,n9,rfl⟩:∃ a c n,v9 = .slice a n c:=by obtain ⟨a,c,e,_⟩:=o9.slice;exact ⟨a,c,_,e⟩
      clear o9 g9 IE FX RX AX LE c60 c61;go_wp2
      go_roundw
      case rel=>exact ⟨k+1,_,_,by omega,by omega,by go_num,rfl,NEW⟩
      case measure=>simp [intOf];omega
  ·have E:=Hh (FIN k _ LD wr I (by omega) hk6)
   clear FIN I
   by_cases hkn:k < n
   ·have q1:¬ ((k:Int) < 6):=by omega
    go_wp2
    go_ret
    exact E
   ·go_wp2
    go_ret
    exact E
end Cu
namespace Cu
open Go.Maps
open Re (KI pW lC sN sL)
def VL (w:World) (A:aU) (e:Ending) (w':World):Prop:=∃ u,e = .returned (.tuple #[u,.bool (qF A)])/\Ow KI w' w.heap.size 3 u (jT A)/\Below w.heap.size w w'
theorem xQ {w:World} {r:Nat} {F:Nat->Prop} {A:aU} {d:Int} (R:Rs w r F A d) (hA:eB A):Calls prog 65 #[.pointer (some ⟨r,0,none⟩)] w (VL w A):=by
 have C1:=Hh (mh R 40);have OK:=Hh (Jb hA 40);have HB:Hid (fB A 40=true->(decide (sN (fP A 40) (fR A 40)=0))=qF A):=Hh (fun h=>by unfold qF;rw [h];rfl);have HN:Hid (fB A 40=false->false=qF A):=Hh (fun h=>by unfold qF;rw [h];rfl);have HL:Hid (sL (fP A 40) (fR A 40)=jT A):=Hh rfl;unfold mg at C1;clear R hA
 go_enter func65,ntmps65
 go_wp2_with fail;refine C1.mono ?_;rintro e w1 ⟨v,rfl,rv,b1⟩;have B1:=Hh b1;have RV:=Hh rv;obtain ⟨a,cap,rfl,_⟩:=RV.slice;have BA:=Hh (b1.alloc b1.size (.cells #[.int .i64 (fP A 40),.slice a (fR A 40).length cap] 79));have C2:=Hh (lC (w1.alloc (.cells #[.int .i64 (fP A 40),.slice a (fR A 40).length cap] 79)) (fP A 40) _ (fR A 40) (RV.below ((aa w1.heap.size w1).alloc (ac _) _)) OK);unfold pW at C2;clear rv b1 C1 B1 RV OK;unfold file at *;generalize (fR A 40).length=n at *;have FIN:Hid (∀ u b w',b=qF A->Ow KI w' w.heap.size 3 u (jT A)->Below w.heap.size w w'->VL w A (.returned (.tuple #[u,.bool b])) w'):=Hh (fun u b w' h r bb=>⟨u,by rw [h],r,bb⟩);rw [HL.out] at C2;generalize sN (fP A 40) (fR A 40)=sn at *;generalize fP A 40=fp at *;generalize fB A 40=fb at *;generalize jT A=l at *;generalize qF A=q at *;go_wp2_with fail;refine C2.mono ?_;rintro e w2 ⟨u,rfl,ru,b2⟩;have RU:=Hh (ru.low BA.size);have B2:=aW BA b2;obtain ⟨ua,uc,rfl,_⟩:=RU.slice;clear ru b2 C2 BA
 cases fb with
 | true =>
   have E:=Hh (FIN _ _ w2 (HB rfl) RU B2);clear FIN HB HN HL RU;generalize l.length=ln at *
   by_cases hs:sn=0
   ·rw [bj hs] at E
    have q1:=ic.2 hs;clear hs;go_wp2
    go_ret2
    exact E
   ·rw [ai hs] at E
    have q1:=cx.2 hs;have q2:decide (sn=0)=false:=ai hs;clear hs;go_wp2
    go_ret2
    exact E
 | false =>
   have E:=Hh (FIN _ _ w2 (HN rfl) RU B2);clear FIN HB HN HL RU;generalize l.length=ln at *;go_wp2
   go_ret2
   exact E
end Cu
namespace Ck
attribute [local irreducible] Sd.bA wpQuiet
theorem pF (w:World) (v:Value) (L:LL) (s:Int) (R:kF w v L):Calls prog 123 #[v,.int .i64 s] w (eZ w (sN s L) (sE s L)):=by
 obtain ⟨a,cap,rfl,_,hm,hA⟩:=R;have HA:=Hh hA;have HH:Hid (∀ k i w',jI (snd s) L k i->k < L.length->i < (bZ L k).length->snd s k (bO (bZ L k) i)=true->Below w.heap.size w w'->eZ w (sN s L) (sE s L) (.returned (.tuple #[.int .i64 (k:Int),fM (bO (bZ L k) i)])) w'):=fun k i w' h hk hi hq b=>by
  obtain ⟨e1,e2⟩:=oD h hk hi hq;unfold sN sE;rw [e1,e2];exact ⟨rfl,b⟩
 have HM:Hid (∀ w',lZ (snd s) L L.length->Below w.heap.size w w'->eZ w (sN s L) (sE s L) (.returned (.tuple #[.int .i64 (-1),fM z5])) w'):=fun w' h b=>by
  obtain ⟨e1,e2⟩:=qz h;unfold sN sE;rw [e1,e2];exact ⟨rfl,b⟩
 clear hA;generalize sN s L=rn at *;generalize sE s L=re at *;unfold maxLen at hm;generalize hn:L.length=n at *;have HN:=Hh hn;clear hn;have R0:Hid (iV (w.alloc (.cells #[.int .i64 0,.int .i64 0,.int .i64 0,.int .i64 0,.int .i64 0] 170)) w.heap.size z5):=bc w _;have B0:=Hh ((aa w.heap.size w).alloc (ac _) (.cells #[.int .i64 0,.int .i64 0,.int .i64 0,.int .i64 0,.int .i64 0] 170))
 go_enter func123,ntmps123
 go_wp2;generalize w.alloc (.cells #[.int .i64 0,.int .i64 0,.int .i64 0,.int .i64 0,.int .i64 0] 170)=w0 at *
 go_loopw [6] (fun i wr=>∃ k:Nat,k<=n/\i = .int .i64 k/\Hid (iV wr w.heap.size z5)/\Hid (Below w.heap.size w wr)/\Hid (lZ (snd s) L k)) (fun i _=>n - (intOf i).toNat)
 case atStart=>exact ⟨0,cg _,rfl,R0,B0,oI⟩
 case round =>
  obtain ⟨k,hk,rfl,rr,bw,hs⟩:=hrel
  by_cases hlt:k < n
  ·obtain ⟨b,off,rfl,A⟩:=HA (by omega)
   obtain ⟨u,c,a',cap',rfl,_,hm',hA'⟩:=A k hlt;have HC:=Hh c;have HA':=Hh hA';have HAA:=Hh A;have HK:=Hh (show k < L.length by rw [HN.out];exact hlt);clear hA' c A;unfold maxLen at hm';generalize hl:(bZ L k).length=m at *;have HL:=Hh hl;clear hl;have W0:=Hh (lU hs);clear hs;go_wp2
   go_loopw [7] (fun i wr=>∃ j:Nat,j<=m/\i = .int .i64 j/\Hid (iV wr w.heap.size z5)/\Hid (Below w.heap.size w wr)/\Hid (jI (snd s) L k j)) (fun i _=>m - (intOf i).toNat)
   case atStart=>exact ⟨0,cg _,rfl,rr,bw,W0⟩
   case round =>
    clear rr bw W0;obtain ⟨j,hj,rfl,rr,bw,hs⟩:=hrel;have lc:b < w.heap.size:=bo _ _ HC;have c':=(bw.cell lc).trans HC
    by_cases hjt:j < m
    ·obtain ⟨b',off',rfl,A'⟩:=HA' (by omega)
     have lH:=vK A' j (by rw [HL.out];exact hjt);rw [show (bZ L k).getD j z5=bO (bZ L k) j from rfl] at lH;have YES:=Hh (fun w' h hb=>HH k j w' hs (by have:=HK.out;rw [HN.out] at this;exact this) (by rw [HL.out];exact hjt) h hb);have NO:=Hh (fun h=>lY hs (by rw [HL.out];exact hjt) h);have PY:=fun h1 h2=>EK (s:=s) (n:=k) (x:=bO (bZ L k) j) h1 h2;have PN:=fun h=>Uq (s:=s) (n:=k) (x:=bO (bZ L k) j) h;have HAA':=Hh A';clear A' hs;generalize bO (bZ L k) j=x at *;obtain ⟨x1,x2,x3,x4,x5⟩:=x;simp only at PY PN lH;generalize snd s k (x1,x2,x3,x4,x5)=q at *;obtain ⟨i0,i1,i2,i3,i4⟩:=lH;have l0:b' < w.heap.size:=bo _ _ i0;have c0:=(bw.cell l0).trans i0;have c1:wr.cell? ⟨b',off'+j * 5+1,none⟩=_:=(bw.cell l0).trans i1;have II:=Hh (db (db i0 i1) (db (db i2 i3) i4));clear i0 i1 i2 i3 i4
     by_cases hq:x1=1/\x2=s
     ·have Y:=Hh (fun w' hb=>YES w' (PY hq.1 hq.2) hb)
      have h1:(x1 == 1)=true:=by simpa using hq.1
      have h2:(x2 == s)=true:=by simpa using hq.2
      clear PY PN YES NO hq;go_upto_region 8 with fail;clear c0 c1 c' h1 h2;have C0:Below w.heap.size w wr.drew:=bw.drew;have ne:Nonempty (Sc.In (fun W=>Below w.heap.size w W)):=⟨⟨_,C0⟩⟩;have k0:=Sc.aA (C:=fun W=>Below w.heap.size w W) (a:=⟨b,off+k,none⟩) (v:=.slice (some ⟨b',off',none⟩) m cap') (fun W h=>(h.cell lc).trans HC);have x0:=Sc.aA (C:=fun W=>Below w.heap.size w W) (a:=⟨b',off'+j * 5,none⟩) (v:=.int .i64 x1) (fun W h=>(h.cell l0).trans II.out.1.1);have x1':=Sc.aA (C:=fun W=>Below w.heap.size w W) (a:=⟨b',off'+j * 5+1,none⟩) (v:=.int .i64 x2) (fun W h=>(h.cell l0).trans II.out.1.2);have x2':=Sc.aA (C:=fun W=>Below w.heap.size w W) (a:=⟨b',off'+j * 5+2,none⟩) (v:=.int .i64 x3) (fun W h=>(h.cell l0).trans II.out.2.1.1);have x3':=Sc.aA (C:=fun W=>Below w.heap.size w W) (a:=⟨b',off'+j * 5+3,none⟩) (v:=.int .i64 x4) (fun W h=>(h.cell l0).trans II.out.2.1.2);have x4':=Sc.aA (C:=fun W=>Below w.heap.size w W) (a:=⟨b',off'+j * 5+4,none⟩) (v:=.int .i64 x5) (fun W h=>(h.cell l0).trans II.out.2.2);refine Sc.start (fun W=>Below w.heap.size w W) [(false,0),(false,1),(false,2),(false,3),(false,4),(false,5),(false,6),(false,7),(false,8),(true,9)] (by kernel_rfl) (by kernel_rfl) (by kernel_rfl) C0 ?_;dsimp only [Sd.aP,List.getElem?_cons_succ,List.getElem?_cons_zero]
      iterate 9 (refine Sd.lit ?_;quiet_step (fail);refine bk ?_)
      refine Sd.call (by rfl) (fun K hK=>?_);clear k0 x0 x1' x2' x3' x4' ne;have R2:Hid (iV wr.drew w.heap.size z5):=Hh rr;clear rr bw;generalize wr.drew=W2 at *;have d0:=Fl.rc R2 0;have d1:=Fl.rc R2 1;have d2:=Fl.rc R2 2;have d3:=Fl.rc R2 3;have d4:=Fl.rc R2 4;have f0:W2.frozen? ⟨w.heap.size,0,none⟩=false:=aj R2 0;have f1:W2.frozen? ⟨w.heap.size,1,none⟩=false:=aj R2 1;have f2:W2.frozen? ⟨w.heap.size,2,none⟩=false:=aj R2 2;have f3:W2.frozen? ⟨w.heap.size,3,none⟩=false:=aj R2 3;have f4:W2.frozen? ⟨w.heap.size,4,none⟩=false:=aj R2 4;have R3:Hid (iV (qT W2 w.heap.size (x1,x2,x3,x4,x5)) w.heap.size (x1,x2,x3,x4,x5)):=Hh (ny (y:=z5) R2 _);have B3:=iZ (g:=w.heap.size) (x:=(x1,x2,x3,x4,x5)) C0 (ac _);clear C0 R2;go_simp;refine hK _ _ (Sc.Cl.of B3) ?_;have B4:=Hh B3;clear hK K d0 d1 d2 d3 d4 f0 f1 f2 f3 f4 B3;refine Sd.done ?_
      show Exit.then _ _ _ _ (qT W2 w.heap.size (x1,x2,x3,x4,x5))
      generalize qT W2 w.heap.size (x1,x2,x3,x4,x5)=wS at *;go_wp2
      (try simp only [Exit.inBlock,Exit.then])
      exact bp (v:=.tuple #[.int .i64 (k:Int),fM (x1,x2,x3,x4,x5)]) (jP (p:=5) (r:=4) rfl _ _ w.heap.size k _ rfl rfl R3) rfl (Y _ B4)
     ·have ST:=Hh (NO (PN hq))
      clear PY PN YES NO
      by_cases h1:x1=1
      ·have h2:(x2 == s)=false:=by simpa [h1] using hq
       have h1':(x1 == 1)=true:=by simpa using h1
       clear hq h1;go_wp2
       go_roundw
       case rel=>exact ⟨j+1,by omega,by go_num,rr,bw,ST⟩
       case measure=>simp [intOf];omega
      ·have h1':(x1 == 1)=false:=by simpa using h1
       clear hq h1;go_wp2
       go_roundw
       case rel=>exact ⟨j+1,by omega,by go_num,rr,bw,ST⟩
       case measure=>simp [intOf];omega
    ·obtain rfl:j=m:=by omega
     have ST:=Hh (nW (by rw [HL.out];exact hs.out) HK.out);clear hs;go_wp2
     go_roundw
     case rel=>exact ⟨k+1,by omega,by go_num,rr,bw,ST⟩
     case measure=>simp [intOf];omega
  ·obtain rfl:k=n:=by omega
   have d0:=Fl.rc rr 0;have d1:=Fl.rc rr 1;have d2:=Fl.rc rr 2;have d3:=Fl.rc rr 3;have d4:=Fl.rc rr 4;have f0:wr.frozen? ⟨w.heap.size,0,none⟩=false:=aj rr 0;have f1:wr.frozen? ⟨w.heap.size,1,none⟩=false:=aj rr 1;have f2:wr.frozen? ⟨w.heap.size,2,none⟩=false:=aj rr 2;have f3:wr.frozen? ⟨w.heap.size,3,none⟩=false:=aj rr 3;have f4:wr.frozen? ⟨w.heap.size,4,none⟩=false:=aj rr 4;have R3:Hid (iV (qT wr w.heap.size z5) w.heap.size z5):=Hh (ny (y:=z5) rr z5);have B3:=Hh (iZ (g:=w.heap.size) (x:=z5) bw (ac _));have E:=Hh (HM _ hs B3);go_wp2
   (try simp only [Exit.inBlock,Exit.then])
   exact bp (v:=.tuple #[.int .i64 (-1),fM z5]) (jP (p:=5) (r:=4) rfl _ _ w.heap.size (-1) z5 rfl rfl R3) rfl E
end Ck
namespace Pa
open Go.Maps
open Ck (sN pF)
open Fl (aK aJ dz)
open Ua (Ik Cb nJ)
attribute [local irreducible] Sd.bA wpQuiet Sg.dG
variable {w wr w':World} {r g k:Nat}
theorem Yj {x:aU×Int} (H:Vg w r x) (n k:Int):Calls prog 68 #[.pointer (some ⟨r,0,none⟩),.int .i64 n,.int .i64 k] w (dw w (gV x.1 n k) (gB x.1 n k)):=yc H n k
structure RH (w:World) (g:Nat) (F:Nat->Bool) (wr:World):Prop where
 res:Row wr w.heap.size dM
 row:Row wr g F
 gt:w.heap.size < g
 aI:Below w.heap.size w wr
theorem RH.below {w wr wr':World} {g:Nat} {F:Nat->Bool} (h:RH w g F wr) (b:Below wr.heap.size wr wr'):RH w g F wr':=⟨h.res.below b h.res.lt,h.row.below b h.row.lt,h.gt,h.aI.trans (b.mono h.aI.size)⟩
theorem RH.set {F:Nat->Bool} (h:RH w g F wr) (G:Nat->Bool):RH w g G (wr.setRow g (dJ G)):=⟨(setRow_other wr g _ _ (by have:=h.gt;omega)).trans h.res,h.row.row G,h.gt,aX h.aI _ _ (by have:=h.gt;omega)⟩
theorem RH.to {w wr:World} {g:Nat} {F G:Nat->Bool} (h:RH w g F wr) (e:∀ i,i < 11->F i=G i):RH w g G wr:=⟨h.res,h.row.to e,h.gt,h.aI⟩
variable {S:bX} {T:LL} {V:List Bool} {P:List S2} {s:Int}
theorem aep (h:jF S T V s=false) (b:Below w.heap.size w w'):jd w (qw S T V s) (ni S T V P s) (jF S T V s) (.returned (.tuple #[.int .i64 (-1),.agg (dJ dM),.bool false])) w':=by
 refine ⟨?_,b⟩;unfold qw ni;rw [h]
 rfl
theorem adv (h:jF S T V s=true) (b:Below w.heap.size w w'):jd w (qw S T V s) (ni S T V P s) (jF S T V s) (.returned (.tuple #[.int .i64 (sN s T),.agg (dJ (sq P s (pP (Qf S T s) false) P.length)),.bool true])) w':=by
 refine ⟨?_,b⟩;unfold qw ni;rw [h]
 rfl
structure Lf (w:World) (g:Nat) (F:Nat->Bool) (W:World):Prop where
 row:Row W g F
 aI:Below w.heap.size w W
theorem KW {vs vt vl vp:Value} (H:Nr w vs vt vl S T V) (RP:Rd K2 w vp P) (s:Int):Calls prog 124 #[vs,vt,vl,vp,.int .i64 s] w (jd w (qw S T V s) (ni S T V P s) (jF S T V s)):=by
 have SA:=Hh (fun W b=>pF W vt T s (H.tb.below (w':=W) b));unfold eZ at SA;have NO:=Hh (fun h w' b=>aep (S:=S) (T:=T) (V:=V) (P:=P) (s:=s) (w:=w) (w':=w') h b);have YES:=Hh (fun h w' b=>adv (S:=S) (T:=T) (V:=V) (P:=P) (s:=s) (w:=w) (w':=w') h b);have R0:Hid (Row (w.alloc (.cells #[.bool false,.bool false,.bool false,.bool false,.bool false,.bool false,.bool false,.bool false,.bool false,.bool false,.bool false] 222)) w.heap.size dM):=Hh (Row.new w dM);have B0:Hid (Below w.heap.size w (w.alloc (.cells #[.bool false,.bool false,.bool false,.bool false,.bool false,.bool false,.bool false,.bool false,.bool false,.bool false,.bool false] 222))):=Hh ((aa w.heap.size w).alloc (ac _) _);obtain ⟨sa,cs,rfl,_⟩:=H.st.slice;obtain ⟨al,cl,el,_⟩:=H.lv.slice;rw [H.ll] at el;subst el;obtain ⟨ap,cp,rfl,_,hmp,hAP⟩:=RP;have HAP:=Hh hAP;unfold maxLen at hmp;clear hAP;generalize hnp:P.length=np at *;have HNP:=Hh hnp;clear hnp
 by_cases h0:0<=sN s T
 ·obtain ⟨n,hn,hlt,hmem,oke,hk1,hk2⟩:=iD H.ok h0
  obtain ⟨f0,r0,y0⟩:=(bS oke).2.2;have hnS:n < S.length:=by rw [← H.lt];exact hlt
  have hnV:n < V.length:=by rw [H.ll];exact hnS
  obtain ⟨b,off,cap,sp,e1,cS,hS⟩:=H.st.one hnS;injection e1 with e1 _ e2;subst e1 e2;obtain ⟨bl,ol,el2,AL⟩:∃ bl ol,al=some ⟨bl,ol,none⟩/\At KB w bl ol V:=by
   obtain ⟨a',c',e',_,_,h3⟩:=H.lv;injection e' with q1 _ q2;subst q1;exact h3 (by omega)
  subst el2;have cV:=Ka AL hnV
  have SB:Hid (jF S T V s=(bU V n && gB (aN S n).1 (sE s T).2.2.1 (sE s T).2.2.2.1)):=Hh (by
   unfold jF
   rw [hn,bj (Int.natCast_nonneg n),Bool.true_and])
  have SX:Hid (Qf S T s=rb (gV (aN S n).1 (sE s T).2.2.1 (sE s T).2.2.2.1) (sE s T).2.2.2.2):=Hh (by
   unfold Qf
   rw [hn])
  have ev:V.getD n false=bU V n:=rfl;rw [ev] at cV;rw [hn] at YES SA;have BY:Hid (mD (Qf S T s)):=Hh (by rw [SX.out];exact abP (abj hS.okA _ _) _);have SG:Hid (∀ W,Below w.heap.size w W->Calls prog 68 #[.pointer (some ⟨sp,0,none⟩),.int .i64 (sE s T).2.2.1,.int .i64 (sE s T).2.2.2.1] W (dw W (gV (aN S n).1 (sE s T).2.2.1 (sE s T).2.2.2.1) (gB (aN S n).1 (sE s T).2.2.1 (sE s T).2.2.2.1))):=Hh (fun W b=>Yj (hS.below b) _ _);clear hmem hS H h0 hk1 hk2 hlt oke hn;unfold dw at SG;generalize gV (aN S n).1 (sE s T).2.2.1 (sE s T).2.2.2.1=gv at *;generalize gB (aN S n).1 (sE s T).2.2.1 (sE s T).2.2.2.1=gb at *;unfold fM at SA;generalize Qf S T s=X at *;generalize sE s T=x at *;obtain ⟨q,s',f,r,y⟩:=x;simp only at y0 SX SA SG;obtain ⟨j,rfl⟩:∃ j:Nat,y=j:=⟨y.toNat,by omega⟩;have hj:j < 4:=by omega
  clear f0 r0 y0;generalize jF S T V s=a3 at *;generalize qw S T V s=a1 at *;generalize ni S T V P s=a2 at *;generalize S.length=N at *;have lS:b < w.heap.size:=bo _ _ cS;have lV:bl < w.heap.size:=bo _ _ cV;have CS:=Hh cS;have CV:=Hh cV;clear cS AL hnV
  go_enter func124,ntmps124
  go_wp2_with fail;generalize (w.alloc (.cells #[.bool false,.bool false,.bool false,.bool false,.bool false,.bool false,.bool false,.bool false,.bool false,.bool false,.bool false] 222))=W0 at *;refine (SA.out W0 B0.out).mono ?_;rintro e w1 ⟨rfl,b1⟩;have R1:=Hh (R0.out.below b1 R0.out.lt);have B1':=aW B0 b1;have R1':=Hh (R1.out.below ((aa w1.heap.size w1).alloc (ac _) (.cells #[.int .i64 q,.int .i64 s',.int .i64 f,.int .i64 r,.int .i64 (j:Int)] 170)) R1.out.lt);have X1:Hid ((w1.alloc (.cells #[.int .i64 q,.int .i64 s',.int .i64 f,.int .i64 r,.int .i64 (j:Int)] 170)).heap[w1.heap.size]? = some (.cells #[.int .i64 q,.int .i64 s',.int .i64 f,.int .i64 r,.int .i64 (j:Int)] 170 (0,0))):=Hh (bc w1 _);have B1:=Hh (B1'.alloc B1'.size (.cells #[.int .i64 q,.int .i64 s',.int .i64 f,.int .i64 r,.int .i64 (j:Int)] 170));have hg1:=R1.out.lt;go_upto_region 2 with fail;generalize (w1.alloc (.cells #[.int .i64 q,.int .i64 s',.int .i64 f,.int .i64 r,.int .i64 (j:Int)] 170))=W at *;clear b1 B1' SA R0 B0 R1;generalize w1.heap.size=g at *;have cV:=(B1.out.cell lV).trans CV.out
  cases hv:bU V n with
  | false =>
    rw [hv] at cV;have N2:=Hh (NO.out (by rw [SB.out,hv];rfl) (W.setRow w.heap.size (dJ dM)) (aX B1.out _ _ (ac _)));clear NO YES SB SX
    go_wp2_with ((with_reducible refine dB (o:=⟨none,_,_,_,_,_⟩) rfl _ _ rfl w.heap.size dM dM ?_ ?_ R1'.out ?_);(exact rfl);(exact rfl))
    (try simp only [Exit.inBlock,Exit.then])
    refine bp (jH rfl _ _ _ _ dM _ rfl rfl rfl (R1'.out.row dM)) rfl ?_;exact N2.out
  | true =>
    rw [hv] at cV;go_upto_region 4 with fail;have hgW:=bm X1.out;have cS:=Sd.aL ((B1.out.cell lS).trans CS.out);have x2:=Sd.aL (Fl.rc X1.out 2);have x3:=Sd.aL (Fl.rc X1.out 3);refine Sg.mJ [(0,0),(0,1),(0,2),(0,3),(0,4),(0,5),(0,6),(0,7),(1,8),(0,9),(0,10),(0,11),(2,12),(1,13),(0,14)] [⟨12,15,#[.int .u8 0,.int .u8 0,.int .u8 0,.int .u8 0],42,none,none⟩] (by kernel_rfl) (by kernel_rfl) (by kernel_rfl) (by decide) (by decide) ?_ ?_ ?_
    ·simp
    ·intro f hf
     simp only [cj,cY,fS] at hf;subst hf;exact Sg.Vz rfl rfl rfl fun ρ w=>by go_simp
    dsimp only [Sg.aP,List.getElem?_cons_succ,List.getElem?_cons_zero];have BW:=Hh ((aa W.heap.size W).drew);unfold ptr at cS
    repeat (refine Sg.lit (fun xs=>?_);simp only [Sg.fill,cm,br];quiet_step (fail);refine bk ?_)
    refine Sg.jw (fun xs w3 hb hc=>⟨by rfl,fun K hK=>?_⟩);have B3:=aW BW hb;clear hb hc BW;simp only [Sg.fill,cm,br];go_simp;refine (SG.out w3 (aW B1 B3)).mono ?_;rintro e4 w4 ⟨rfl,b4⟩;have B4:=aW B3 b4;refine hK _ _ (Sd.Cl.of B4.out) b4.size (fun _=>b4) ?_;clear hK K b4 B3 SG;unfold aH
    repeat (refine Sg.lit (fun xs=>?_);simp only [Sg.fill,cm,br];quiet_step (fail);refine bk ?_)
    refine Sg.pz (fun g7 w7 hb hc row n7 hH hL=>?_);have B7:=aW B4 hb;have R7:Hid (w7.heap[g7]? = some (.cells (aY z4) 42 (0,0))):=Hh row;clear hb hc row hH hL B4
    repeat (refine Sg.lit (fun xs=>?_);simp only [Sg.fill,br];quiet_step (fail);refine bk ?_)
    refine Sg.jw (fun xs w9 hb hc=>⟨by rfl,fun K hK=>?_⟩);have B9:=aW B7 hb;have R9:=jf hb R7.out;have d0:=Fl.rc R9 0;have d1:=Fl.rc R9 1;have d2:=Fl.rc R9 2;have d3:=Fl.rc R9 3;have f0:w9.frozen? ⟨g7,0,none⟩=false:=aj R9 0;have f1:w9.frozen? ⟨g7,1,none⟩=false:=aj R9 1;have f2:w9.frozen? ⟨g7,2,none⟩=false:=aj R9 2;have f3:w9.frozen? ⟨g7,3,none⟩=false:=aj R9 3;have RA:=aR R9 gv;have BA:=aJ (o:=0) (r:=gv) B9.out n7;have hsz:=dz w9 g7 0 gv;clear hb hc B7 R7 R9;simp only [Sg.fill,br];go_simp;refine hK _ _ (Sd.Cl.of BA) (by rw [← hsz];exact ac _) (fun h=>absurd rfl h) ?_;clear hK K d0 d1 d2 d3 f0 f1 f2 f3 hsz
    show Sg.dG _ _ _ _ _ _ _ _ _ _ _ (bC w9 g7 0 gv)
    have B10:=aW B1 BA;have X10:=Hh ((BA.block _ hgW).trans X1.out);have R10:=Hh RA;have F10:=Hh (R1'.out.below BA R1'.out.lt);clear BA RA cS x2 x3 B9 B1 X1 CS CV n7 R1' cV;generalize bC w9 g7 0 gv=wA at *
    repeat (refine Sg.lit (fun xs=>?_);simp only [Sg.fill,br];quiet_step (fail);refine bk ?_)
    refine Sg.done (fun wB hb hc=>?_);have BB:=aW B10 hb;have XB:=Hh (jf hb X10.out);have RB:=Hh (jf hb R10.out);have FB:=Hh (F10.out.below hb F10.out.lt);clear hb hc B10 X10 R10 F10
    cases hb:gb with
    | false =>
      have N2:=Hh (NO.out (by rw [SB.out,hv,hb];rfl) (wB.setRow w.heap.size (dJ dM)) (aX BB.out _ _ (ac _)));clear NO YES SB SX
      go_wp2_with ((with_reducible refine dB (o:=⟨none,_,_,_,_,_⟩) rfl _ _ rfl w.heap.size dM dM ?_ ?_ FB.out ?_);(exact rfl);(exact rfl))
      (try simp only [Exit.inBlock,Exit.then])
      refine bp (jH rfl _ _ _ _ dM _ rfl rfl rfl (FB.out.row dM)) rfl ?_;exact N2.out
    | true =>
      have N2:=Hh (YES.out (by rw [SB.out,hv,hb];rfl));clear NO YES SB;go_upto_region 7 with fail;have x4:=Fl.rc XB.out 4;have rj:wB.cell? ⟨g7,j,none⟩=some (.int .u8 X):=by rw [SX.out];exact (ah RB.out j).trans (OV gv hj)
      have PU:=Hh (Ik wB X false BY.out.1 BY.out.2);clear SX XB RB cV ev;go_wp2_with fail;refine PU.out.mono ?_;rintro e w11 ⟨rfl,b11⟩
      have J0:Hid (RH w w11.heap.size (pP X false) (w11.alloc (.cells (dJ (pP X false)) 222))):=Hh (by
       have r1:=FB.out.below b11 FB.out.lt;have b12:=aW BB b11
       exact ⟨r1.below ((aa w11.heap.size w11).alloc (ac _) _) r1.lt,Row.new w11 _,r1.lt,b12.alloc b12.size _⟩)
      clear b11 PU FB BB x4 rj
      go_wp2_with ((with_reducible refine dU (o:=⟨none,_,_,_,_,_⟩) rfl _ _ rfl (pP X false) ?_ ?_ ?_);(exact rfl);(exact rfl))
      generalize (w11.alloc (.cells (dJ (pP X false)) 222))=W12 at *;generalize w11.heap.size=gf at *;clear hj BY
      go_loopw [18] (fun i wr=>∃ k:Nat,k<=np/\i = .int .i64 k/\Hid (RH w gf (sq P s (pP X false) k) wr)) (fun i _=>np - (intOf i).toNat)
      case atStart=>exact ⟨0,cg _,rfl,J0⟩
      case round =>
       obtain ⟨k,hk,rfl,I⟩:=hrel;clear J0
       by_cases hlt:k < np
       ·obtain ⟨b',off',rfl,A1⟩:=HAP.out (by omega)
        obtain ⟨c0,c1⟩:=at2 (A1.below I.out.aI) (i:=k) (by have:=HNP.out;omega);have Y:=Hh (Fg P s (pP X false) (j:=k) (by have:=HNP.out;omega));have NN:=Hh (Gn P s (pP X false) (j:=k) (by have:=HNP.out;omega));generalize pat P k=z at *;obtain ⟨z1,z2⟩:=z;simp only at c0 c1 Y NN;clear A1
        by_cases h1:z1=s
        ·have YY:=Hh (Y.out h1)
         clear Y NN;have d1:(z1 != s)=false:=by simpa using h1
         generalize hG:sq P s (pP X false) k=G at *;have hgt:=I.out.gt;go_upto_region 12 with fail;clear c0 d1;have C1:=Hh c1;have k0:=Sd.aL (I.out.row.cell 0 (by omega));have k1:=Sd.aL (I.out.row.cell 1 (by omega));have k2:=Sd.aL (I.out.row.cell 2 (by omega));have k3:=Sd.aL (I.out.row.cell 3 (by omega));have k4:=Sd.aL (I.out.row.cell 4 (by omega));have k5:=Sd.aL (I.out.row.cell 5 (by omega));have k6:=Sd.aL (I.out.row.cell 6 (by omega));have k7:=Sd.aL (I.out.row.cell 7 (by omega));have k8:=Sd.aL (I.out.row.cell 8 (by omega));have k9:=Sd.aL (I.out.row.cell 9 (by omega));have k10:=Sd.aL (I.out.row.cell 10 (by omega))
         replace c1:=Sd.aL c1
         refine Sg.mJ [(0,0),(0,1),(0,2),(0,3),(0,4),(0,5),(1,6),(2,7),(1,8)] [⟨7,19,#[.bool false,.bool false,.bool false,.bool false,.bool false,.bool false,.bool false,.bool false,.bool false,.bool false,.bool false],222,none,none⟩] (by kernel_rfl) (by kernel_rfl) (by kernel_rfl) (by decide) (by decide) ?_ ?_ ?_
         ·simp
         ·intro f hf
          simp only [cj,cY,fS] at hf;subst hf;exact Sg.Vz rfl rfl rfl fun ρ w=>by go_simp
         dsimp only [Sg.aP,List.getElem?_cons_succ,List.getElem?_cons_zero];have BW:=Hh ((aa wr.heap.size wr).drew)
         repeat (refine Sg.lit (fun xs=>?_);simp only [Sg.fill,cm,br];quiet_step (fail);refine bk ?_)
         clear k0 k1 k2 k3 k4 k5 k6 k7 k8 k9 k10 c1;refine Sg.jw (fun xs w3 hb hc=>⟨by rfl,fun K hK=>?_⟩);have B3:=aW BW hb;clear hb hc BW;simp only [Sg.fill,cm,br];go_simp;have TA:=Cb w3 G z2;unfold dJ at TA;refine TA.mono ?_;rintro e4 w4 ⟨rfl,b4⟩;have B4:=aW B3 b4;refine hK _ _ (Sd.Cl.of B4.out) b4.size (fun _=>b4) ?_;clear hK K b4 B3 TA;refine Sg.pz (fun g7 w7 hb hc row n7 hH hL=>?_);have B7:=aW B4 hb;have R7:Hid (Row w7 g7 dM):=Hh row;clear hb hc row hH hL B4;refine Sg.jw (fun xs w9 hb hc=>⟨by rfl,fun K hK=>?_⟩);have B9:=aW B7 hb;have R9:=Hh (R7.out.below hb R7.out.lt);clear hb hc B7 R7;simp only [Sg.fill,br];refine wp_store_row 222 _ _ rfl g7 (dJ (Ua.turn G z2 11)) rfl rfl 222 _ R9.out (cB _) rfl (iF _) ?_;have RA:=R9.out.row (Ua.turn G z2 11);have BA:=aX B9.out g7 (dJ (Ua.turn G z2 11)) n7;refine hK _ _ (Sd.Cl.of BA) (by rw [size_setRow];exact ac _) (fun h=>absurd rfl h) ?_;have I9:=Hh (I.out.below BA);have hne:g7≠gf:=by have:=I.out.row.lt;omega
         have hge:w.heap.size<=g7:=cE I.out.aI.size n7;have hne2:g7≠w.heap.size:=by have:=I.out.res.lt;omega
         have R10:=Hh RA;clear hK K BA RA B9 R9 I n7 C1;generalize w9.setRow g7 (dJ (Ua.turn G z2 11))=wA at *;refine Sg.done (fun wB hb hc=>?_);have IB:=Hh (I9.out.below hb);have RB:=Hh (R10.out.below hb R10.out.lt);clear hb hc I9 R10;have q0:=IB.out.row.cell 0 (by omega);have q1:=RB.out.cell 0 (by omega);have q2:=RB.out.frozen 0;have R2:=Hh ((RB.out.jA 0 (by omega) (G 0)).to (fun i hi=>abU G z2 i hi));have I2:Hid (RH w gf G (wB.setCell ⟨g7,0,none⟩ (.bool (G 0)))):=Hh ⟨IB.out.res.far (by simpa using hne2.symm) _,IB.out.row.far (by simpa using hne.symm) _,IB.out.gt,IB.out.aI.setCell hge _⟩;go_upto_region 14 with fail;clear q0 q1 q2 RB IB;generalize (wB.setCell ⟨g7,0,none⟩ (.bool (G 0)))=W14 at *;have I3:=Hh (I2.out.set (tn G z2))
         go_wp2_with (first
          | ((with_reducible refine dO (o:=⟨some 79,_,_,_,_,_⟩) rfl _ rfl g7 (tn G z2) ?_ R2.out ?_);(exact rfl))
          | ((with_reducible refine dB (o:=⟨none,_,_,_,_,_⟩) rfl _ _ rfl gf (tn G z2) G ?_ ?_ I2.out.row ?_);(exact rfl);(exact rfl)))
         go_roundw
         case rel=>exact ⟨k+1,by omega,by go_num,by rw [YY.out];exact I3⟩
         case measure=>simp [intOf];omega
        ·have I2:Hid (RH w gf (sq P s (pP X false) (k+1)) wr):=Hh (by rw [NN.out h1];exact I.out)
         have d1:(z1 != s)=true:=by simpa using h1
         clear Y NN I;go_wp2
         go_roundw
         case rel=>exact ⟨k+1,by omega,by go_num,I2⟩
         case measure=>simp [intOf];omega
       ·obtain rfl:k=np:=by omega
        go_upto_region 15 with fail;clear hlt;generalize sq P s (pP X false) k=G at *;have hgt:=I.out.gt;have C0:Lf w gf G wr.drew:=⟨I.out.row,I.out.aI.trans ((aa wr.heap.size wr).drew.mono I.out.aI.size)⟩;have RS0:Row wr.drew w.heap.size dM:=I.out.res;have k0:=Sc.aA (C:=fun W=>Lf w gf G W) (a:=⟨gf,0,none⟩) (fun W' h=>h.row.cell 0 (by omega));have k1:=Sc.aA (C:=fun W=>Lf w gf G W) (a:=⟨gf,1,none⟩) (fun W' h=>h.row.cell 1 (by omega));have k2:=Sc.aA (C:=fun W=>Lf w gf G W) (a:=⟨gf,2,none⟩) (fun W' h=>h.row.cell 2 (by omega));have k3:=Sc.aA (C:=fun W=>Lf w gf G W) (a:=⟨gf,3,none⟩) (fun W' h=>h.row.cell 3 (by omega));have k4:=Sc.aA (C:=fun W=>Lf w gf G W) (a:=⟨gf,4,none⟩) (fun W' h=>h.row.cell 4 (by omega));have k5:=Sc.aA (C:=fun W=>Lf w gf G W) (a:=⟨gf,5,none⟩) (fun W' h=>h.row.cell 5 (by omega));have k6:=Sc.aA (C:=fun W=>Lf w gf G W) (a:=⟨gf,6,none⟩) (fun W' h=>h.row.cell 6 (by omega));have k7:=Sc.aA (C:=fun W=>Lf w gf G W) (a:=⟨gf,7,none⟩) (fun W' h=>h.row.cell 7 (by omega));have k8:=Sc.aA (C:=fun W=>Lf w gf G W) (a:=⟨gf,8,none⟩) (fun W' h=>h.row.cell 8 (by omega));have k9:=Sc.aA (C:=fun W=>Lf w gf G W) (a:=⟨gf,9,none⟩) (fun W' h=>h.row.cell 9 (by omega));have k10:=Sc.aA (C:=fun W=>Lf w gf G W) (a:=⟨gf,10,none⟩) (fun W' h=>h.row.cell 10 (by omega));have ne:Nonempty (Sc.In (fun W=>Lf w gf G W)):=⟨⟨_,C0⟩⟩;refine Sc.start (fun W=>Lf w gf G W) [(false,0),(false,1),(false,2),(true,3),(false,4)] (by kernel_rfl) (by kernel_rfl) (by kernel_rfl) C0 ?_;dsimp only [Sd.aP,List.getElem?_cons_succ,List.getElem?_cons_zero]
        repeat (refine Sd.lit ?_;quiet_step (fail);refine bk ?_)
        refine Sd.call (by rfl) (fun K hK=>?_);refine wp_store_row 222 _ _ rfl w.heap.size (dJ G) rfl rfl 222 _ RS0 (cB G) rfl (iF G) ?_;have C1:Lf w gf G (wr.drew.setRow w.heap.size (dJ G)):=⟨(setRow_other wr.drew w.heap.size gf _ (by omega)).trans C0.row,aX C0.aI _ _ (ac _)⟩;refine hK _ _ (Sc.Cl.of C1) ?_;have R2:=Hh (RS0.row G);clear hK K k0 k1 k2 k3 k4 k5 k6 k7 k8 k9 k10 C0 I RS0;generalize wr.drew.setRow w.heap.size (dJ G)=W9 at *;refine Sd.lit ?_
        quiet_step (fail)
        refine bk ?_;refine Sd.done ?_;have C2:=Hh C1;clear C1;go_wp2
        (try simp only [Exit.inBlock,Exit.then])
        refine bp (jH rfl _ _ _ _ G _ rfl rfl rfl R2.out) rfl ?_;exact N2.out _ C2.out.aI
 ·have SBF:jF S T V s=false:=by unfold jF;rw [ai h0];rfl
  have N2:=Hh (NO.out SBF);clear NO YES SBF H;generalize qw S T V s=a1 at *;generalize ni S T V P s=a2 at *;generalize jF S T V s=a3 at *;generalize sN s T=m at *;generalize sE s T=x at *;unfold fM at SA
  go_enter func124,ntmps124
  go_wp2_with fail;generalize (w.alloc (.cells #[.bool false,.bool false,.bool false,.bool false,.bool false,.bool false,.bool false,.bool false,.bool false,.bool false,.bool false] 222))=W0 at *;refine (SA.out W0 B0.out).mono ?_;rintro e w1 ⟨rfl,b1⟩;have B1':=aW B0 b1;have B1:=Hh (B1'.alloc B1'.size (.cells #[.int .i64 x.1,.int .i64 x.2.1,.int .i64 x.2.2.1,.int .i64 x.2.2.2.1,.int .i64 x.2.2.2.2] 170));have R1:=Hh ((R0.out.below b1 R0.out.lt).below ((aa w1.heap.size w1).alloc (ac _) (.cells #[.int .i64 x.1,.int .i64 x.2.1,.int .i64 x.2.2.1,.int .i64 x.2.2.2.1,.int .i64 x.2.2.2.2] 170)) (R0.out.below b1 R0.out.lt).lt);have hm0:m < 0:=by omega
  clear b1 SA B1'
  go_wp2_with ((with_reducible refine dB (o:=⟨none,_,_,_,_,_⟩) rfl _ _ rfl w.heap.size dM dM ?_ ?_ R1.out ?_);(exact rfl);(exact rfl))
  (try simp only [Exit.inBlock,Exit.then])
  refine bp (jH rfl _ _ _ _ dM _ rfl rfl rfl (R1.out.row dM)) rfl ?_;exact N2.out _ (aX B1.out _ _ (ac _))
def lK (b:Nat->Int) (q:Nat->Bool):Array Value:=#[.int .u8 (b 0),.int .u8 (b 1),.int .u8 (b 2),.int .u8 (b 3),.int .u8 (b 4),.int .u8 (b 5),.int .u8 (b 6),.int .u8 (b 7),.int .u8 (b 8),.int .u8 (b 9),.int .u8 (b 10),.int .u8 (b 11),.int .u8 (b 12),.int .u8 (b 13),.int .u8 (b 14),.int .u8 (b 15),.int .u8 (b 16),.bool (q 0),.bool (q 1),.bool (q 2),.bool (q 3),.bool (q 4),.bool (q 5),.bool (q 6),.bool (q 7),.bool (q 8),.bool (q 9),.bool (q 10),.bool (q 11),.bool (q 12),.bool (q 13),.bool (q 14),.bool (q 15),.bool (q 16)]
def updI (F:Nat->Int) (k:Nat) (x:Int) (i:Nat):Int:=if i=k then x else F i
def zI (_:Nat):Int:=0
theorem Oo (h:k < 17):k=0\/k=1\/k=2\/k=3\/k=4\/k=5\/k=6\/k=7\/k=8\/k=9\/k=10\/k=11\/k=12\/k=13\/k=14\/k=15\/k=16:=by omega
theorem Ur (b:Nat->Int) (q:Nat->Bool):(lK b q).size=34:=rfl
theorem Zw (b:Nat->Int) (q:Nat->Bool):(lK b q).all (·.oneCell')=true:=by simp [lK,Value.oneCell']
theorem aef (b:Nat->Int) (q:Nat->Bool) (h:k < 17):(lK b q)[k]? = some (.int .u8 (b k)):=by
 rcases Oo h with rfl | rfl | rfl | rfl | rfl | rfl | rfl | rfl | rfl | rfl | rfl | rfl | rfl | rfl | rfl | rfl | rfl <;> rfl
theorem aej (b:Nat->Int) (q:Nat->Bool) (h:k < 17):(lK b q)[17+k]? = some (.bool (q k)):=by
 rcases Oo h with rfl | rfl | rfl | rfl | rfl | rfl | rfl | rfl | rfl | rfl | rfl | rfl | rfl | rfl | rfl | rfl | rfl <;> rfl
theorem U9 (b:Nat->Int) (q:Nat->Bool) (h:k < 17) (x:Int):(lK b q).setIfInBounds k (.int .u8 x)=lK (updI b k x) q:=by
 rcases Oo h with rfl | rfl | rfl | rfl | rfl | rfl | rfl | rfl | rfl | rfl | rfl | rfl | rfl | rfl | rfl | rfl | rfl <;> rfl
theorem Yg (b:Nat->Int) (q:Nat->Bool) (h:k < 17) (x:Bool):(lK b q).setIfInBounds (17+k) (.bool x)=lK b (upd q k x):=by
 rcases Oo h with rfl | rfl | rfl | rfl | rfl | rfl | rfl | rfl | rfl | rfl | rfl | rfl | rfl | rfl | rfl | rfl | rfl <;> rfl
theorem Tg {b b':Nat->Int} {q q':Nat->Bool} (hb:∀ i,i < 17->b i=b' i) (hq:∀ i,i < 17->q i=q' i):lK b q=lK b' q':=by
 unfold lK;rw [hb 0 (by omega),hq 0 (by omega)];rw [hb 1 (by omega),hq 1 (by omega)];rw [hb 2 (by omega),hq 2 (by omega)];rw [hb 3 (by omega),hq 3 (by omega)];rw [hb 4 (by omega),hq 4 (by omega)];rw [hb 5 (by omega),hq 5 (by omega)];rw [hb 6 (by omega),hq 6 (by omega)];rw [hb 7 (by omega),hq 7 (by omega)];rw [hb 8 (by omega),hq 8 (by omega)];rw [hb 9 (by omega),hq 9 (by omega)];rw [hb 10 (by omega),hq 10 (by omega)];rw [hb 11 (by omega),hq 11 (by omega)];rw [hb 12 (by omega),hq 12 (by omega)];rw [hb 13 (by omega),hq 13 (by omega)];rw [hb 14 (by omega),hq 14 (by omega)];rw [hb 15 (by omega),hq 15 (by omega)];rw [hb 16 (by omega),hq 16 (by omega)]
def fC (w:World) (g:Nat) (b:Nat->Int) (q:Nat->Bool):Prop:=w.heap[g]? = some (.cells (lK b q) 179 (0,0))
section
variable {w w':World} {g:Nat} {b b':Nat->Int} {q q':Nat->Bool}
theorem fC.lt (h:fC w g b q):g < w.heap.size:=bm h
theorem fC.new (w:World) (b:Nat->Int) (q:Nat->Bool):fC (w.alloc (.cells (lK b q) 179)) w.heap.size b q:=bc w _
theorem fC.below {B:Nat} (h:fC w g b q) (hb:Below B w w') (hg:g < B):fC w' g b q:=(hb.block g hg).trans h
theorem fC.far (h:fC w g b q) {p:Addr} (hp:g≠p.block) (u:Value):fC (w.setCell p u) g b q:=(bt w p u g hp).trans h
theorem fC.row (h:fC w g b q) (b':Nat->Int) (q':Nat->Bool):fC (w.setRow g (lK b' q')) g b' q':=setRow_heap w g _ _ _ _ h
theorem fC.to (h:fC w g b q) (hb:∀ i,i < 17->b i=b' i) (hq:∀ i,i < 17->q i=q' i):fC w g b' q':=by unfold fC at *;rw [h,Tg hb hq]
theorem fC.cb (h:fC w g b q) (hk:k < 17):w.cell? ⟨g,k,none⟩=some (.int .u8 (b k)):=(ah h k).trans (aef b q hk)
theorem fC.cq (h:fC w g b q) (hk:k < 17):w.cell? ⟨g,17+k,none⟩=some (.bool (q k)):=(ah h (17+k)).trans (aej b q hk)
theorem fC.adO (h:fC w g b q) (hk:k < 17) (x:Int):fC (w.setCell ⟨g,k,none⟩ (.int .u8 x)) g (updI b k x) q:=by
 unfold fC at h ⊢;rw [Rw.aB h,U9 b q hk x]
theorem fC.afC (h:fC w g b q) (hk:k < 17) (x:Bool):fC (w.setCell ⟨g,17+k,none⟩ (.bool x)) g b (upd q k x):=by
 unfold fC at h ⊢;rw [Rw.aB h,Yg b q hk x]
end
theorem Jo (b:Nat->Int) (q:Nat->Bool):(prog.info? 179).map (·.size)=some (lK b q).size:=by rw [Ur];kernel_rfl
variable {ops:Array Oper} {rest:List Oper} {o:Oper} {a:Act} {Q:Exit->Act->World->Prop}
theorem Zk (hgd:o.guard=none) (x:Operand) (ho:o.op = .load 179 x)
 (g:Nat) (b:Nat->Int) (q:Nat->Bool) (hx:a.eval x = .pointer (some ⟨g,0,none⟩)) (hrow:fC w g b q) (h:wpList prog ops Q rest (a.put o.dst (.agg (lK b q))) w):wpList prog ops Q (o :: rest) a w :=
 wpList_load_row hgd _ x ho g hx _ _ _ _ hrow underlying179 rfl (Jo _ _) h
theorem Ah (hgd:o.guard=none) (x y:Operand) (ho:o.op = .store 179 x y)
 (g:Nat) (b b':Nat->Int) (q q':Nat->Bool) (hx:a.eval x = .pointer (some ⟨g,0,none⟩)) (hy:a.eval y = .agg (lK b q)) (hrow:fC w g b' q') (h:wpList prog ops Q rest (a.put o.dst undef) (w.setRow g (lK b q))):wpList prog ops Q (o :: rest) a w :=
 wpList_store_row hgd _ x y ho g _ hx hy _ _ hrow (Jo _ _) rfl (Zw _ _) h
theorem vJ (hgd:o.guard=none) (x y:Operand) (ho:o.op = .store 179 x y)
 (b:Nat->Int) (q:Nat->Bool) (hx:a.eval x = .pointer (some ⟨w.heap.size,0,none⟩)) (hy:a.eval y = .agg (lK b q)) (h:wpList prog ops Q rest (a.put o.dst undef) (w.alloc (.cells (lK b q) 179))) :
 wpList prog ops Q (o :: rest) a (w.alloc (.cells #[.int .u8 0,.int .u8 0,.int .u8 0,.int .u8 0,.int .u8 0,.int .u8 0,.int .u8 0,.int .u8 0,.int .u8 0,.int .u8 0,.int .u8 0,.int .u8 0,.int .u8 0,.int .u8 0,.int .u8 0,.int .u8 0,.int .u8 0,.bool false,.bool false,.bool false,.bool false,.bool false,.bool false,.bool false,.bool false,.bool false,.bool false,.bool false,.bool false,.bool false,.bool false,.bool false,.bool false,.bool false] 179)) :=
 Ah hgd x y ho _ b zI q dM hx hy (fC.new w zI dM) (by rw [World.setRow_alloc_new];exact h)
theorem Kq {fn:Func} {p:Tmp} (h:fn.results=#[.cell p 179]) (tmps:Array Value) (w:World) (g:Nat) (b:Nat->Int) (q:Nat->Bool) (hp:tmps.getD p undef = .pointer (some ⟨g,0,none⟩)) (hrow:fC w g b q) :
 (results fn tmps).run prog w = .ok (.agg (lK b q)) w:=results_cell_row h tmps w g _ _ _ _ hp hrow underlying179 rfl (Jo _ _)
def hb (h:Hr) (k:Nat):Int:=(h k).getD 0
def hq (h:Hr) (k:Nat):Bool:=(h k).isSome
theorem ab4 (h:Hr) (k:Nat) (y:Int) (i:Nat):updI (hb h) k y i=hb (nO h k y) i:=by
 unfold updI hb nO
 by_cases e:i=k
 ·subst e;simp
 ·rw [am e,am (by omega)]
theorem ac2 (h:Hr) (k:Nat) (y:Int) (i:Nat):upd (hq h) k true i=hq (nO h k y) i:=by
 unfold upd hq nO
 by_cases e:i=k
 ·subst e;simp
 ·rw [am e,am (by omega)]
structure HI (w:World) (h:Hr) (wr:World):Prop where
 res:fC wr w.heap.size zI dM
 tC:fC wr (w.heap.size+1) (hb h) (hq h)
 aI:Below w.heap.size w wr
theorem HI.below {w wr wr':World} {h:Hr} (H:HI w h wr) (b:Below wr.heap.size wr wr'):HI w h wr':=⟨H.res.below b H.res.lt,H.tC.below b H.tC.lt,H.aI.trans (b.mono H.aI.size)⟩
theorem HI.put {h:Hr} (H:HI w h wr) (hk:k < 17) (y:Int):HI w (nO h k y) ((wr.setCell ⟨w.heap.size+1,k,none⟩ (.int .u8 y)).setCell ⟨w.heap.size+1,17+k,none⟩ (.bool true)) :=
 ⟨(H.res.far (by simp) _).far (by simp) _,((H.tC.adO hk y).afC hk true).to (fun i _=>ab4 h k y i) (fun i _=>ac2 h k y i),(H.aI.setCell (by simp) _).setCell (by simp) _⟩
theorem Xt (w:World):HI w (fun _=>none) ((w.alloc (.cells (lK zI dM) 179)).alloc (.cells (lK zI dM) 179)):=by
 have b1:=(aa w.heap.size w).alloc (ac _) (.cells (lK zI dM) 179);have r:=fC.new (w.alloc (.cells (lK zI dM) 179)) zI dM;have e:(w.alloc (.cells (lK zI dM) 179)).heap.size=w.heap.size+1:=by simp
 rw [e] at r;exact ⟨(fC.new w zI dM).below ((aa _ _).alloc (ac _) _) (fC.new w zI dM).lt,r,b1.alloc b1.size _⟩
def yx (w:World) (h:Hr) (e:Ending) (w':World):Prop:=e = .returned (.agg (lK (hb h) (hq h)))/\Below w.heap.size w w'
end Pa
namespace Pa
open Go.Maps
open Fs (sA sB sw mM sW jW)
attribute [local irreducible] Sd.bA wpQuiet
variable {n k gx gv j r0:Nat}
theorem Vs {P:Program} {t e:TypeId} (h:P.underlying t=some (.array n e)) (hs:∀ W,(sizeOf e).run P W = .ok 1 W) (g off k:Nat) (hk:k < n) (W:World):(Instr.indexAt t (.pointer (some ⟨g,off,none⟩)) (.int .i64 (k:Int))).run P W = .ok (.pointer (some ⟨g,off+k,none⟩)) W:=by
 have:(0:Int)<=(k:Int)/\(k:Int) < (n:Int):=⟨by omega,by omega⟩
 simp [Instr.indexAt,run_underlying h,Instr.sureAddr,asIntOf,hs,Addr.add,hk]
theorem adh (g k:Nat) (hk:k < 4) (W:World):(Instr.indexAt 42 (.pointer (some ⟨g,0,none⟩)) (.int .i64 (k:Int))).run prog W = .ok (.pointer (some ⟨g,k,none⟩)) W:=by
 have:=Vs underlying42 sizeOf5 g 0 k hk W
 rwa [cQ] at this
theorem afo (g k:Nat) (hk:k < 17) (W:World):(Instr.indexAt 176 (.pointer (some ⟨g,0,none⟩)) (.int .i64 (k:Int))).run prog W = .ok (.pointer (some ⟨g,k,none⟩)) W:=by
 have:=Vs underlying176 sizeOf5 g 0 k hk W
 rwa [cQ] at this
theorem afB (g k:Nat) (hk:k < 17) (W:World):(Instr.indexAt 177 (.pointer (some ⟨g,17,none⟩)) (.int .i64 (k:Int))).run prog W = .ok (.pointer (some ⟨g,17+k,none⟩)) W:=Vs underlying177 sizeOf4 g 17 k hk W
variable {t l:List E5} {f r d:Int}
theorem abc (hk:k < t.length) (h:mt f r (bO t k)=true):fU (t.take (k+1)) f r=fU (t.take k) f r ++ [bO t k]:=by rw [kU hk,kV,aw h]
theorem adD (hk:k < t.length) (h:mt f r (bO t k)=false):fU (t.take (k+1)) f r=fU (t.take k) f r:=by rw [kU hk,kV,am (by simp [h])]
theorem Vh (h:Hr) (l:List E5) (x:E5) (v:R4):mix h (l ++ [x]) v=rs (mix h l v) x.2.2.2.2 ((h x.2.1).getD 0):=by unfold mix;rw [List.foldl_append];rfl
theorem Qj (h:Hr) (l:List E5) (x:E5):j3 h (l ++ [x])=(j3 h l && (h x.2.1).isSome):=by unfold j3;rw [List.all_append];simp
theorem Jy {h g:Hr} (ag:∀ s,(h s).isSome=true->(g s).getD 0=(h s).getD 0):∀ {l:List E5},j3 h l=true->∀ v:R4,mix g l v=mix h l v
 | [],_,_=>rfl
 | x :: r,ha,v=>by
   unfold j3 at ha;rw [List.all_cons,ce] at ha;rw [nH,nH,ag _ ha.1];exact Jy ag ha.2 _
structure RA (w:World) (r:Nat) (F:Nat->Prop) (x:aU×Int) (h g:Hr) (wr:World):Prop where
 rs:Rs wr r F x.1 x.2
 box:fC wr w.heap.size (hb g) (hq h)
 gt:w.heap.size < r
 aI:Below w.heap.size w wr
theorem RA.below {w wr wr':World} {r:Nat} {F:Nat->Prop} {x:aU×Int} {h g:Hr} (H:RA w r F x h g wr) (b:Below wr.heap.size wr wr'):RA w r F x h g wr':=⟨Fs.Rs.below H.rs b,H.box.below b H.box.lt,H.gt,H.aI.trans (b.mono H.aI.size)⟩
variable {w wr wr' w1:World} {F:Nat->Prop} {x x':aU×Int} {h g:Hr}
theorem RA.step {r:Nat} (H:RA w r F x h g wr) (rs:Rs wr' r F x'.1 x'.2) (o:ay (fun k=>k=r) wr wr'):RA w r F x' h g wr' :=
 ⟨rs,(o.block _ H.box.lt (by have:=H.gt;omega)).trans H.box,H.gt,H.aI.trans (o.below H.aI.size fun k e=>by have:=H.gt;omega)⟩
structure BI (w1:World) (gx gv:Nat) (x:E5) (v:R4) (wr:World):Prop where
 C9:wr.heap[gv]? = some (.cells (aY v) 42 (0,0))
 ge:w1.heap.size<=gv
 aI:Below w1.heap.size w1 wr
theorem BI.below {x:E5} {v:R4} (H:BI w1 gx gv x v wr) (b:Below wr.heap.size wr wr'):BI w1 gx gv x v wr':=⟨jf b H.C9,H.ge,H.aI.trans (b.mono H.aI.size)⟩
theorem BI.put {x:E5} {v:R4} (H:BI w1 gx gv x v wr) (hj:j < 4) (y:Int):BI w1 gx gv x (rs v j y) (wr.setCell ⟨gv,j,none⟩ (.int .u8 y)) :=
 ⟨by rw [Rw.aB H.C9,Ih v y hj],H.ge,H.aI.setCell (by exact H.ge) _⟩
def sV (w:World) (F:Nat->Prop) (x:aU×Int) (e:Ending) (w':World):Prop:=∃ r,e = .returned (ptr r)/\Rs w' r F x.1 x.2/\w.heap.size<=r/\Below w.heap.size w w'
variable {A:aU}
theorem aar {b:Bool} (e:(gB A f r && j3 h l)=b):mY h l f r A=if b=true then sA A f r (mix h l (gV A f r)) else A:=by unfold mY;rw [e]
theorem UM {r:Nat} (R:Rs w r F A d):eB A:=by obtain ⟨v,L,h,e⟩:=R;rw [← e];exact h.ok
theorem adg (hA:eB A) (f r:Int):bQ (gV A f r):=by
 unfold gV
 split
 ·exact Fl.jZ
 ·rename_i e he
  split
  ·exact Fl.iH (hA.find he).2.2.1 _
  ·exact Fl.jZ
structure RbC (gy:Nat) (y:E5) (gb:Nat) (h g:Hr) (W:World):Prop where
 y:W.heap[gy]? = some (.cells #[.int .i64 y.1,.int .i64 y.2.1,.int .i64 y.2.2.1,.int .i64 y.2.2.2.1,.int .i64 y.2.2.2.2] 170 (0,0))
 box:fC W gb (hb g) (hq h)
structure ExC (b o:Nat) (f r:Int) (W:World):Prop where
 f:W.cell? ⟨b,o+2,none⟩=some (.int .i64 f)
 r:W.cell? ⟨b,o+3,none⟩=some (.int .i64 r)
variable {v:Value}
theorem L5 (R:Rs w r0 F x.1 x.2) (hF:∀ k,F k->k < w.heap.size) (hd:0<=x.2/\x.2 < 900000) (RT:Rd K5 w v t) (ok:∀ y∈t,fZ y) (hl:t.length<=100) (hh:TI h) (hg:TI g) (ag:∀ s,(h s).isSome=true->(g s).getD 0=(h s).getD 0) :
 Calls prog 95 #[.pointer (some ⟨r0,0,none⟩),v,.agg (lK (hb g) (hq h))] w (sV w F (Oh h t x)):=by
 have B0:Hid (Below w.heap.size w (w.alloc (.cells (lK (hb g) (hq h)) 179))):=Hh ((aa w.heap.size w).alloc (ac _) _);have Y0:Hid (fC (w.alloc (.cells (lK (hb g) (hq h)) 179)) w.heap.size (hb g) (hq h)):=Hh (fC.new w _ _);have RC:=Hh (xw (x:=x) (Fs.Rs.below R B0.out) (F:=F) (fun k hk=>cd (hF k hk) B0.out.size));have hA:=Hh (UM R);have RT0:=Hh RT;have HFF:=Hh hF;obtain ⟨A,d⟩:=x;simp only at hd;obtain ⟨a,cap,rfl,_,hm,hA0⟩:=RT;have HA0:=Hh hA0;clear hA0;unfold maxLen at hm;clear R hF;generalize hn:t.length=n at *;have HN:=Hh hn;have OKT:=Hh ok;have HH:=Hh hh;have HGG:=Hh hg;have AG:=Hh ag;clear hn ok hh hg ag;unfold rX at RC;have hbx:=Y0.out.lt
 go_enter func95,ntmps95
 go_wp2_with fail;generalize (w.alloc (.cells (lK (hb g) (hq h)) 179))=W0 at *;refine RC.out.mono ?_;rintro e w1 ⟨r,rfl,rs1,hr1,b1⟩;have I0:Hid (RA w r F (dW h t (jU t 0) A,d) h g w1):=Hh ⟨by rw [Rt];exact rs1,Y0.out.below b1 Y0.out.lt,by omega,B0.out.trans (b1.mono B0.out.size)⟩;have hwr:w.heap.size<=r:=by omega
 clear rs1 hr1 b1 RC Y0 B0 hbx;unfold ptr;go_wp2
 go_loopw [8] (fun i wr=>∃ k:Nat,k<=n/\i = .int .i64 k/\Hid (RA w r F (dW h t (jU t k) A,d) h g wr)) (fun i _=>n - (intOf i).toNat)
 case atStart=>exact ⟨0,cg _,rfl,I0⟩
 case round =>
  obtain ⟨k,hk,rfl,I⟩:=hrel;clear I0
  by_cases hlt:k < n
  ·obtain ⟨b,off,rfl,A1⟩:=HA0.out (by omega)
   obtain ⟨c0,c1,c2,c3,c4⟩:=vK (A1.below I.out.aI) k (by have:=HN.out;omega);rw [show t.getD k z5=bO t k from rfl] at c0 c1 c2 c3 c4;have okx:=OKT.out _ (Ro.gQ (l:=t) (i:=k) (by have:=HN.out;omega));have Y2:=Hh (fun h2 h0 hy=>aaM (h:=h) (t:=t) hA.out (j:=k) (by have:=HN.out;omega) h2 h0 hy);have N2:=Hh (adB (h:=h) (t:=t) (A:=A) (j:=k) (by have:=HN.out;omega));generalize hX:bO t k=x at *;obtain ⟨xk,xs,xf,xr,xy⟩:=x;simp only at c0 c1 c2 c3 c4 Y2 N2;have I1:=Hh (I.out.below ((aa wr.heap.size wr).alloc (ac _) (.cells #[.int .i64 xk,.int .i64 xs,.int .i64 xf,.int .i64 xr,.int .i64 xy] 170)));have X1:Hid ((wr.alloc (.cells #[.int .i64 xk,.int .i64 xs,.int .i64 xf,.int .i64 xr,.int .i64 xy] 170)).heap[wr.heap.size]? = some (.cells #[.int .i64 xk,.int .i64 xs,.int .i64 xf,.int .i64 xr,.int .i64 xy] 170 (0,0))):=Hh (bc wr _);clear I
   by_cases h2:xk=2
   ·subst h2
    have hr0:xr≠0:=by unfold fZ Ro.place at okx;simp only at okx;omega
    have YY:=Hh (Y2.out rfl hr0 (abK OKT.out xf xr));have HO:=Hh (UM I1.out.rs);clear N2 Y2 hr0 okx;generalize hU:dW h t (jU t (k+1)) A=U' at *;have EUU:=Hh hU;clear hU;generalize dW h t (jU t k) A=U at *;have GG:=Hh (yc I1.out.rs xf xr);have GO:=Hh (adg HO.out xf xr);have RV:Hid (∀ b,(gB U xf xr && j3 h (fU t xf xr))=b->mY h (fU t xf xr) xf xr U=if b=true then sA U xf xr (mix h (fU t xf xr) (gV U xf xr)) else U):=Hh (fun b e=>aar e);unfold dw aH at GG;simp only at GG;generalize gV U xf xr=v0 at *;generalize gB U xf xr=gb at *;go_upto_region 7 with fail;have x2:=Fl.rc X1.out 2;have x3:=Fl.rc X1.out 3;have hgx:=bm X1.out;generalize (wr.alloc (.cells #[.int .i64 2,.int .i64 xs,.int .i64 xf,.int .i64 xr,.int .i64 xy] 170))=W1 at *;generalize wr.heap.size=gx at *;clear c0 c1 c2 c3 c4;go_wp2_with fail;refine GG.out.mono ?_;rintro e w2 ⟨rfl,b2⟩;have I2:=Hh (I1.out.below b2);have X2:=Hh ((b2.block _ hgx).trans X1.out);have J0:Hid (BI w2 gx w2.heap.size (2,xs,xf,xr,xy) (mix g (fU (t.take 0) xf xr) v0) (w2.alloc (.cells #[.int .u8 v0.1,.int .u8 v0.2.1,.int .u8 v0.2.2.1,.int .u8 v0.2.2.2] 42))):=Hh ⟨bc w2 _,ac _,(aa w2.heap.size w2).alloc (ac _) _⟩;have hgx2:=bm X2.out;clear b2 GG I1 X1 x2 x3 hgx;go_wp2;generalize (w2.alloc (.cells #[.int .u8 v0.1,.int .u8 v0.2.1,.int .u8 v0.2.2.1,.int .u8 v0.2.2.2] 42))=W2 at *;generalize hgv:w2.heap.size=gv at *;have HGV:=Hh hgv;clear hgv;have E0:gb=(gb && j3 h (fU (t.take 0) xf xr)):=by simp [fU,j3]
    have HE0:=Hh E0;clear E0
    rename World=>wz
    go_loopw [12,11] (fun i o wr3=>∃ m:Nat,m<=n/\i = .int .i64 m/\o = .bool (gb && j3 h (fU (t.take m) xf xr))/\Hid (BI w2 gx gv (2,xs,xf,xr,xy) (mix g (fU (t.take m) xf xr) v0) wr3)) (fun i _ _=>n - (intOf i).toNat)
    case atStart=>exact ⟨0,cg _,rfl,c8 Value.bool HE0.out,J0⟩
    case round =>
     rename_i wy wr
     obtain ⟨m,hm1,rfl,rfl,J⟩:=hrel;clear J0 HE0
     by_cases hlt2:m < n
     ·have BJ:=Hh (I2.out.aI.trans (J.out.aI.mono I2.out.aI.size))
      obtain ⟨c0,c1,c2,c3,c4⟩:=vK (A1.below BJ.out) m (by have:=HN.out;omega);rw [show t.getD m z5=bO t m from rfl] at c0 c1 c2 c3 c4;have oky:=OKT.out _ (Ro.gQ (l:=t) (i:=m) (by have:=HN.out;omega));have GY:=Hh (fun hm=>abc (t:=t) (k:=m) (by have:=HN.out;omega) (f:=xf) (r:=xr) hm);have GN:=Hh (fun hm=>adD (t:=t) (k:=m) (by have:=HN.out;omega) (f:=xf) (r:=xr) hm);generalize hY:bO t m=y at *;obtain ⟨yk,ys,yf,yr,yy⟩:=y;obtain ⟨_,⟨s0,s1⟩,_,_,⟨y0,y3⟩⟩:=bS oky;simp only at c0 c1 c2 c3 c4 s0 s1 y0 y3;have J1:=Hh (J.out.below ((aa wr.heap.size wr).alloc (ac _) (.cells #[.int .i64 yk,.int .i64 ys,.int .i64 yf,.int .i64 yr,.int .i64 yy] 170)));have YB:Hid ((wr.alloc (.cells #[.int .i64 yk,.int .i64 ys,.int .i64 yf,.int .i64 yr,.int .i64 yy] 170)).heap[wr.heap.size]? = some (.cells #[.int .i64 yk,.int .i64 ys,.int .i64 yf,.int .i64 yr,.int .i64 yy] 170 (0,0))):=Hh (bc wr _);have XB:=Hh ((J1.out.aI.block _ (by rw [HGV.out];exact hgx2)).trans X2.out);have xb2:=Fl.rc XB.out 2;have xb3:=Fl.rc XB.out 3;have hgv2:=bm J.out.C9;have J0s:=Hh (cd I2.out.box.lt J.out.aI.size);clear J oky BJ
      by_cases hM:(yk=2/\yf=xf)/\yr=xr
      ·obtain ⟨⟨rfl,rfl⟩,rfl⟩:=hM
       have GG:=Hh (GY.out (by simp [mt]));clear GY GN;obtain ⟨s,rfl⟩:∃ s:Nat,ys=s:=⟨ys.toNat,by omega⟩;obtain ⟨j,rfl⟩:∃ j:Nat,yy=j:=⟨yy.toNat,by omega⟩;have hs17:s < 17:=by omega
       have hj4:j < 4:=by omega
       have EO:Hid (∀ o,o=(gb && j3 h (fU (t.take m) yf yr))->(o && hq h s)=(gb && j3 h (fU (t.take (m+1)) yf yr))):=Hh (fun o e=>by rw [e,GG.out,Qj,Bool.and_assoc];rfl);have EM:Hid (rs (mix g (fU (t.take m) yf yr) v0) j (hb g s)=mix g (fU (t.take (m+1)) yf yr) v0):=Hh (by rw [GG.out,Vh];rfl);generalize hO:(gb && j3 h (fU (t.take m) yf yr))=o at *;generalize mix g (fU (t.take m) yf yr) v0=vv at *;have HO2:=Hh (EO.out o rfl);have BX:=Hh (I2.out.box.below J1.out.aI I2.out.box.lt);have hbl:=I2.out.box.lt;have bq:=BX.out.cq hs17;have iq:=afB w.heap.size s hs17;have hgy:=bm YB.out;have hbl2:w.heap.size < wr.heap.size:=by have:=J0s.out;omega
       clear EO
       cases o
       all_goals
        go_upto_region 14 with fail;clear bq iq c0 c1 c2 c3 c4 xb2 xb3;have C0:RbC wr.heap.size (2,s,yf,yr,j) w.heap.size h g (wr.alloc (.cells #[.int .i64 2,.int .i64 (s:Int),.int .i64 yf,.int .i64 yr,.int .i64 (j:Int)] 170)).drew:=⟨YB.out,BX.out⟩;have J3:=Hh (J1.out.below ((aa _ _).drew));have y1:=Sc.aA (C:=RbC wr.heap.size (2,s,yf,yr,j) w.heap.size h g) (a:=⟨wr.heap.size,1,none⟩) (fun W' h=>ah h.y 1);have y4:=Sc.aA (C:=RbC wr.heap.size (2,s,yf,yr,j) w.heap.size h g) (a:=⟨wr.heap.size,4,none⟩) (fun W' h=>ah h.y 4);have yb:=Sc.aA (C:=RbC wr.heap.size (2,s,yf,yr,j) w.heap.size h g) (a:=⟨w.heap.size,s,none⟩) (fun W' h=>h.box.cb hs17);have ib:=afo w.heap.size s hs17;have ir:=adh gv j hj4;have ne:Nonempty (Sc.In (RbC wr.heap.size (2,s,yf,yr,j) w.heap.size h g)):=⟨⟨_,C0⟩⟩;refine Sc.start (RbC wr.heap.size (2,s,yf,yr,j) w.heap.size h g) [(false,0),(false,1),(false,2),(false,3),(false,4),(false,5),(false,6),(false,7),(true,8)] (by kernel_rfl) (by kernel_rfl) (by kernel_rfl) C0 ?_;dsimp only [Sd.aP,List.getElem?_cons_succ,List.getElem?_cons_zero]
        repeat (refine Sd.lit ?_;quiet_step (fail);refine bk ?_)
        clear y1 y4 yb ib ir;have hgvb:w.heap.size≠gv:=by have:=I2.out.box.lt;have:=HGV.out;omega
        have hgvy:wr.heap.size≠gv:=by omega
        generalize (wr.alloc (.cells #[.int .i64 2,.int .i64 (s:Int),.int .i64 yf,.int .i64 yr,.int .i64 (j:Int)] 170)).drew=Wd at *;have sc:=(ah J3.out.C9 j).trans (G8 vv hj4);have sf:=aj J3.out.C9 j;have J4:=Hh (J3.out.put hj4 (hb g s));rw [EM.out] at J4;have C1:RbC wr.heap.size (2,s,yf,yr,j) w.heap.size h g (Wd.setCell ⟨gv,j,none⟩ (.int .u8 (hb g s))):=⟨(bt _ _ _ _ (by exact hgvy)).trans C0.y,C0.box.far (by exact hgvb) _⟩;refine Sd.call (by rfl) (fun K hK=>?_);go_simp;refine hK _ _ (Sc.Cl.of C1) ?_;clear hK K sc sf C0 C1 J3 J1 YB XB BX;refine Sd.done ?_;go_wp2
        go_roundw
        case rel=>exact ⟨m+1,by omega,by go_num,by rw [← HO2.out];rfl,J4⟩
        case measure=>simp [intOf];omega
      ·have GG:=Hh (GN.out (by
        unfold mt;rw [ai];rintro ⟨q1,q2,q3⟩
        exact hM ⟨⟨q1,q2⟩,q3⟩))
       have J2:Hid (BI w2 gx gv (2,xs,xf,xr,xy) (mix g (fU (t.take (m+1)) xf xr) v0) (wr.alloc (.cells #[.int .i64 yk,.int .i64 ys,.int .i64 yf,.int .i64 yr,.int .i64 yy] 170))):=Hh (by rw [GG.out];exact J1.out);have EO:Hid ((gb && j3 h (fU (t.take m) xf xr))=(gb && j3 h (fU (t.take (m+1)) xf xr))):=Hh (by rw [GG.out]);clear GY GN J1 GG;generalize hO:(gb && j3 h (fU (t.take m) xf xr))=o at *
       by_cases q1:yk=2
       ·by_cases q2:yf=xf
        ·have q3:yr≠xr:=fun e=>hM ⟨⟨q1,q2⟩,e⟩
         clear hM;subst q1;subst q2;have d3:(yr == xr)=false:=by simpa using q3
         go_wp2
         go_roundw
         case rel=>exact ⟨m+1,by omega,by go_num,by rw [EO.out],J2⟩
         case measure=>simp [intOf];omega
        ·clear hM
         subst q1;have d2:(yf == xf)=false:=by simpa using q2
         go_wp2
         go_roundw
         case rel=>exact ⟨m+1,by omega,by go_num,by rw [EO.out],J2⟩
         case measure=>simp [intOf];omega
       ·clear hM
        have d1:(yk == 2)=false:=by simpa using q1
        go_wp2
        go_roundw
        case rel=>exact ⟨m+1,by omega,by go_num,by rw [EO.out],J2⟩
        case measure=>simp [intOf];omega
     ·have hmn:m=n:=by omega
      have TK:t.take m=t:=by rw [hmn,← HN.out,cW]
      rw [TK] at J;have OE:Hid (∀ o,(gb && j3 h (fU (t.take m) xf xr))=o->(gb && j3 h (fU t xf xr))=o):=Hh (fun o e=>by rw [TK] at e;exact e);generalize hO:(gb && j3 h (fU (t.take m) xf xr))=o at *;have RVo:=Hh (RV.out o (OE.out o rfl));rw [YY.out] at RVo;have I3:=Hh (I2.out.below J.out.aI);have AL:Hid (o=true->mix g (fU t xf xr) v0=mix h (fU t xf xr) v0):=Hh (fun q=>Jy AG.out (by have:=OE.out o rfl;rw [q,ce] at this;exact this.2) v0);clear RV YY TK OE hO I2 hmn
      cases o with
      | true =>
        have EU:Hid (U'=sA U xf xr (mix g (fU t xf xr) v0)):=Hh (by rw [AL.out rfl,RVo.out];rfl);have ST:=Hh (sw I3.out.rs (fun k hk=>cd (HFF.out k hk) I3.out.aI.size) xf xr (mix g (fU t xf xr) v0) (Fp HGG.out _ GO.out));have XB:=Hh ((J.out.aI.block _ (by rw [HGV.out];exact hgx2)).trans X2.out)
        rename World=>wr
        have xb2:=Fl.rc XB.out 2;have xb3:=Fl.rc XB.out 3;have q0:=ah J.out.C9 0;have q1:=ah J.out.C9 1;have q2:=ah J.out.C9 2;have q3:=ah J.out.C9 3;unfold aY at q0 q1 q2 q3;unfold mM aH at ST;simp only at ST;clear RVo GO XB J AL;generalize mix g (fU t xf xr) v0=vv at *;go_wp2_with fail;refine ST.out.mono ?_;rintro e w9 ⟨rfl,rs9,o9⟩;have I4:=Hh (I3.out.step (x':=(U',d)) (by simp only;rw [EU.out];exact rs9) o9);clear rs9 o9 ST I3;go_wp2
        go_roundw
        case rel=>exact ⟨k+1,by omega,by go_num,by rw [EUU.out];exact I4⟩
        case measure=>simp [intOf];omega
      | false =>
        have EU:Hid (U'=U):=Hh (by rw [RVo.out];rfl);have I4:Hid (RA w r F (U',d) h g _):=Hh (by rw [EU.out];exact I3.out);clear RVo GO J I3 AL;go_wp2
        go_roundw
        case rel=>exact ⟨k+1,by omega,by go_num,by rw [EUU.out];exact I4⟩
        case measure=>simp [intOf];omega
   ·have d2:(xk != 2)=true:=by simpa using h2
    have I2:Hid (RA w r F (dW h t (jU t (k+1)) A,d) h g (wr.alloc (.cells #[.int .i64 xk,.int .i64 xs,.int .i64 xf,.int .i64 xr,.int .i64 xy] 170))):=Hh (by rw [← N2.out h2];exact I1.out);clear N2 Y2 I1 X1 okx;go_wp2
    go_roundw
    case rel=>exact ⟨k+1,by omega,by go_num,I2⟩
    case measure=>simp [intOf];omega
  ·have hkn:k=n:=by omega
   have IE:Hid (RA w r F (rJ t (oM h t A,d) 0) h g wr):=Hh (by
    have h1:=I.out;rw [hkn,← HN.out,aao] at h1
    exact h1)
   have XD:=Hh (fun k=>Gj (t:=t) (oM h t A,d) k);have XE:=Hh (xX (t:=t) h (A,d));have XY:=Hh (fun k hk h3=>MG (t:=t) (oM h t A,d) (j:=k) hk h3);have XN:=Hh (fun k hk h3=>XH (t:=t) (oM h t A,d) (j:=k) hk h3);clear I;generalize oM h t A=RR at *;go_wp2;clear hkn hlt hk;generalize (k:Int)=kk at *
   rename World=>wA
   go_loopw [14] (fun i wr2=>∃ k:Nat,k<=n/\i = .int .i64 k/\Hid (RA w r F (rJ t (RR,d) k) h g wr2)) (fun i _=>n - (intOf i).toNat)
   case atStart=>exact ⟨0,cg _,rfl,IE⟩
   case round =>
    obtain ⟨k,hk,rfl,I⟩:=hrel;clear IE
    by_cases hlt:k < n
    ·obtain ⟨b,off,rfl,A1⟩:=HA0.out (by omega)
     obtain ⟨i0,i1,i2,i3,i4⟩:=vK A1 k (by have:=HN.out;omega);rw [show t.getD k z5=bO t k from rfl] at i0 i1 i2 i3 i4;have lb:b < w.heap.size:=bo _ _ i0;have Y3:=Hh (XY.out k (by have:=HN.out;omega));have N3:=Hh (XN.out k (by have:=HN.out;omega));have DD:=XD.out k;generalize bO t k=x at *;obtain ⟨q,s',f',r',y⟩:=x;simp only at i0 i1 i2 i3 i4 Y3 N3;have c0:=(I.out.aI.cell lb).trans i0;have I2':=Hh i2;have I3':=Hh i3;clear A1 i0 i1 i2 i3 i4
     rename World=>wr
     by_cases h3:q=3
     ·subst h3
      have Y4:=Hh (Y3.out rfl);have hdd:0<=(rJ t (RR,d) k).2/\(rJ t (RR,d) k).2 < 1000000:=by have:=HN.out;omega
      clear Y3 N3 DD;go_upto_region 21 with fail;have C0:ExC b (off+k * 5) f' r' wr.drew:=⟨(I.out.aI.cell lb).trans I2'.out,(I.out.aI.cell lb).trans I3'.out⟩;have ID:=Hh (I.out.below ((aa wr.heap.size wr).drew));have DO:=Hh (sW ID.out.rs (fun k hk=>cd (HFF.out k hk) ID.out.aI.size) hdd 2 f' r' z4 Fl.jZ);unfold jW Ad.addr aH z4 at DO;have y2:=Sc.aA (C:=ExC b (off+k * 5) f' r') (a:=⟨b,off+k * 5+2,none⟩) (fun W' h=>h.f);have y3:=Sc.aA (C:=ExC b (off+k * 5) f' r') (a:=⟨b,off+k * 5+3,none⟩) (fun W' h=>h.r);have ne:Nonempty (Sc.In (ExC b (off+k * 5) f' r')):=⟨⟨_,C0⟩⟩;refine Sc.start (ExC b (off+k * 5) f' r') [(false,0),(false,1),(false,2),(false,3),(false,4),(false,5),(false,6),(false,7),(false,8),(false,9),(false,10),(false,11),(false,12),(true,13)] (by kernel_rfl) (by kernel_rfl) (by kernel_rfl) C0 ?_;dsimp only [Sd.aP,List.getElem?_cons_succ,List.getElem?_cons_zero]
      repeat (refine Sd.lit ?_;quiet_step (fail);refine bk ?_)
      clear y2 y3;generalize wr.drew=Wd at *;refine Sd.call (by rfl) (fun K hK=>?_);go_simp;refine DO.out.mono ?_;rintro e w9 ⟨rfl,rs9,o9⟩;have I9:=Hh (ID.out.step (x':=rJ t (RR,d) (k+1)) (by rw [Y4.out];exact rs9) o9);have hne:¬ b=r:=by omega
      refine hK _ _ (Sc.Cl.of ⟨o9.cell C0.f hne,o9.cell C0.r hne⟩) ?_;clear hK K rs9 o9 DO C0 ID;refine Sd.done ?_;go_wp2
      go_roundw
      case rel=>exact ⟨k+1,by omega,by go_num,I9⟩
      case measure=>simp [intOf];omega
     ·have d3:(q == 3)=false:=by simpa using h3
      have N4:=Hh (N3.out h3);have I9:Hid (RA w r F (rJ t (RR,d) (k+1)) h g wr):=Hh (by rw [N4.out];exact I.out);clear Y3 N3 DD N4 I;go_wp2
      go_roundw
      case rel=>exact ⟨k+1,by omega,by go_num,I9⟩
      case measure=>simp [intOf];omega
    ·obtain rfl:k=n:=by omega
     rename World=>wr
     have RES:Hid (sV w F (Oh h t (A,d)) (.returned (ptr r)) wr):=Hh ⟨r,rfl,by have h1:=I.out.rs;rw [← HN.out] at h1;rw [← XE.out];exact h1,hwr,I.out.aI⟩;go_wp2
     go_ret
     exact RES.out
theorem yR (R:Rs w r0 F x.1 x.2) (hF:∀ k,F k->k < w.heap.size) (hd:0<=x.2/\x.2 < 900000) (RT:Rd K5 w v t) (ok:∀ y∈t,fZ y) (hl:t.length<=100) (hh:TI h) :
 Calls prog 95 #[.pointer (some ⟨r0,0,none⟩),v,.agg (lK (hb h) (hq h))] w (sV w F (Oh h t x)):=L5 R hF hd RT ok hl hh hh fun _ _=>rfl
open Ck (sN)
attribute [local irreducible] Sg.dG
theorem aci:prog.built 179 []=some (lK zI dM):=by kernel_rfl
theorem VV (W:World):(Instr.build 179 #[]).run prog W = .ok (.agg (lK zI dM)) W:=run_build W _ _ _ aci
theorem adH (H:HI w h wr) (h0:∀ i,h i=none):HI w h (wr.setRow (w.heap.size+1) (lK zI dM)) :=
 ⟨(setRow_other wr _ _ _ (by omega)).trans H.res,(H.tC.row zI dM).to (fun i _=>by unfold hb zI;rw [h0];rfl) (fun i _=>by unfold hq dM;rw [h0];rfl),aX H.aI _ _ (by omega)⟩
theorem zC {vs vt vl vp:Value} {S:bX} {T:LL} {V:List Bool} {P:List S2} (H:Nr w vs vt vl S T V) (RP:Rd K2 w vp P):Calls prog 94 #[vs,vt,vl,vp] w (yx w (hr S T V P)):=by
 have FA:=Hh (fun W b s=>KW (H.below (w':=W) b) (RP.below b) s);have I0:Hid (HI w (Ci S T V P 1) ((w.alloc (.cells (lK zI dM) 179)).alloc (.cells (lK zI dM) 179))):=Hh (by rw [Dg];exact Xt w);have EE:Hid (Ci S T V P 17=hr S T V P):=Hh M5;unfold jd at FA;clear H RP;have hz:=VV;have R9:Hid (fC ((w.alloc (.cells #[.int .u8 0,.int .u8 0,.int .u8 0,.int .u8 0,.int .u8 0,.int .u8 0,.int .u8 0,.int .u8 0,.int .u8 0,.int .u8 0,.int .u8 0,.int .u8 0,.int .u8 0,.int .u8 0,.int .u8 0,.int .u8 0,.int .u8 0,.bool false,.bool false,.bool false,.bool false,.bool false,.bool false,.bool false,.bool false,.bool false,.bool false,.bool false,.bool false,.bool false,.bool false,.bool false,.bool false,.bool false] 179)).alloc (.cells #[.int .u8 0,.int .u8 0,.int .u8 0,.int .u8 0,.int .u8 0,.int .u8 0,.int .u8 0,.int .u8 0,.int .u8 0,.int .u8 0,.int .u8 0,.int .u8 0,.int .u8 0,.int .u8 0,.int .u8 0,.int .u8 0,.int .u8 0,.bool false,.bool false,.bool false,.bool false,.bool false,.bool false,.bool false,.bool false,.bool false,.bool false,.bool false,.bool false,.bool false,.bool false,.bool false,.bool false,.bool false] 179)) (w.heap.size+1) zI dM):=Hh (Xt w).tC;have I1:Hid (HI w (Ci S T V P 1) (((w.alloc (.cells #[.int .u8 0,.int .u8 0,.int .u8 0,.int .u8 0,.int .u8 0,.int .u8 0,.int .u8 0,.int .u8 0,.int .u8 0,.int .u8 0,.int .u8 0,.int .u8 0,.int .u8 0,.int .u8 0,.int .u8 0,.int .u8 0,.int .u8 0,.bool false,.bool false,.bool false,.bool false,.bool false,.bool false,.bool false,.bool false,.bool false,.bool false,.bool false,.bool false,.bool false,.bool false,.bool false,.bool false,.bool false] 179)).alloc (.cells #[.int .u8 0,.int .u8 0,.int .u8 0,.int .u8 0,.int .u8 0,.int .u8 0,.int .u8 0,.int .u8 0,.int .u8 0,.int .u8 0,.int .u8 0,.int .u8 0,.int .u8 0,.int .u8 0,.int .u8 0,.int .u8 0,.int .u8 0,.bool false,.bool false,.bool false,.bool false,.bool false,.bool false,.bool false,.bool false,.bool false,.bool false,.bool false,.bool false,.bool false,.bool false,.bool false,.bool false,.bool false] 179)).setRow (w.heap.size+1) (lK zI dM))):=Hh (adH I0.out (fun i=>by rw [Dg]));clear I0
 go_enter func94,ntmps94
 go_wp2_with ((with_reducible refine Ah (o:=⟨none,_,_,_,_,_⟩) rfl _ _ rfl (w.heap.size+1) zI zI dM dM ?_ ?_ R9.out ?_);(exact rfl);(exact rfl))
 clear hz R9;generalize ((w.alloc (.cells #[.int .u8 0,.int .u8 0,.int .u8 0,.int .u8 0,.int .u8 0,.int .u8 0,.int .u8 0,.int .u8 0,.int .u8 0,.int .u8 0,.int .u8 0,.int .u8 0,.int .u8 0,.int .u8 0,.int .u8 0,.int .u8 0,.int .u8 0,.bool false,.bool false,.bool false,.bool false,.bool false,.bool false,.bool false,.bool false,.bool false,.bool false,.bool false,.bool false,.bool false,.bool false,.bool false,.bool false,.bool false] 179)).alloc (.cells #[.int .u8 0,.int .u8 0,.int .u8 0,.int .u8 0,.int .u8 0,.int .u8 0,.int .u8 0,.int .u8 0,.int .u8 0,.int .u8 0,.int .u8 0,.int .u8 0,.int .u8 0,.int .u8 0,.int .u8 0,.int .u8 0,.int .u8 0,.bool false,.bool false,.bool false,.bool false,.bool false,.bool false,.bool false,.bool false,.bool false,.bool false,.bool false,.bool false,.bool false,.bool false,.bool false,.bool false,.bool false] 179)).setRow (w.heap.size+1) (lK zI dM)=W0 at *
 go_loopw [10] (fun i wr=>∃ k:Nat,1<=k/\k<=17/\i = .int .i64 k/\Hid (HI w (Ci S T V P k) wr)) (fun i _=>17 - (intOf i).toNat)
 case atStart=>exact ⟨1,by omega,by omega,rfl,I1⟩
 case round =>
  obtain ⟨k,hk1,hk,rfl,I⟩:=hrel;clear I1
  by_cases hlt:k < 17
  ·have FK:=Hh (FA.out wr I.out.aI (k:Int))
   have YY:=Hh (fun h=>Ny (S:=S) (T:=T) (V:=V) (P:=P) (k:=k) hk1 h);have NN:=Hh (fun h=>XZ (S:=S) (T:=T) (V:=V) (P:=P) (k:=k) h);have HB:Hid (xG S T V P k=(jF S T V k && decide (te (ni S T V P k)=0) && !tp (ni S T V P k))):=Hh rfl;have HV:Hid (xG S T V P k=true->FU S T V P k=tb (ni S T V P k)):=Hh (fun h=>by unfold FU;rw [aw h]);generalize hH:Ci S T V P (k+1)=h' at *;have EH:=Hh hH;clear hH;generalize Ci S T V P k=h at *;generalize xG S T V P (k:Int)=hbk at *;generalize FU S T V P (k:Int)=hvk at *;generalize ni S T V P (k:Int)=F at *;generalize qw S T V (k:Int)=m at *;generalize jF S T V (k:Int)=ok at *;go_wp2_with fail;refine FK.out.mono ?_;rintro e w1 ⟨rfl,b1⟩;have I2:=Hh ((I.out.below b1).below ((aa w1.heap.size w1).alloc (ac _) (.cells (dJ F) 222)));have R2:=Hh (Row.new w1 F);have TA:=Hh (kG (w1.alloc (.cells (dJ F) 222)) F);clear b1 FK I
   go_wp2_with (first
    | ((with_reducible refine dU (o:=⟨none,_,_,_,_,_⟩) rfl _ _ rfl F ?_ ?_ ?_);(exact rfl);(exact rfl))
    | ((with_reducible refine dO (o:=⟨some 33,_,_,_,_,_⟩) rfl _ rfl w1.heap.size F ?_ R2.out ?_);(exact rfl)))
   refine TA.out.mono ?_;rintro e w3 ⟨rfl,b3⟩;have I3:=Hh (I2.out.below b3);clear b3 TA I2 R2;generalize tb F=y at *;generalize tp F=p at *
   by_cases hall:(ok=true/\p=false)/\te F=0
   ·obtain ⟨⟨rfl,rfl⟩,he⟩:=hall
    have hT:hbk=true:=by rw [HB.out,bj he];rfl
    have EQ:=Hh (YY.out hT);rw [HV.out hT] at EQ;have I4:=Hh (I3.out.put hlt y);rw [EQ.out] at I4;have q0:=I3.out.tC.cb hlt;have q1:=((I3.out.tC.adO hlt y)).cq hlt;have r0:=aj I3.out.tC k;have r1:=aj (I3.out.tC.adO hlt y) (17+k);clear YY NN HB HV EQ hT I3;generalize te F=z at *;subst he;go_wp2
    go_roundw
    case rel=>exact ⟨k+1,by omega,by omega,by go_num,by rw [EH.out];exact I4⟩
    case measure=>simp [intOf];omega
   ·have hT:hbk=false:=by
     rw [HB.out]
     cases ok <;> cases p <;> simp at hall ⊢
     exact hall
    have EQ:=Hh (NN.out hT);have I4:=Hh I3.out;rw [EQ.out] at I4;clear YY NN HB HV EQ hT I3;generalize te F=z at *
    cases ok with
    | false =>
      clear hall;go_wp2
      go_roundw
      case rel=>exact ⟨k+1,by omega,by omega,by go_num,by rw [EH.out];exact I4⟩
      case measure=>simp [intOf];omega
    | true =>
      cases p with
      | true =>
        clear hall;go_wp2
        go_roundw
        case rel=>exact ⟨k+1,by omega,by omega,by go_num,by rw [EH.out];exact I4⟩
        case measure=>simp [intOf];omega
      | false =>
        have d0:(z == 0)=false:=by simpa using hall
        clear hall;go_wp2
        go_roundw
        case rel=>exact ⟨k+1,by omega,by omega,by go_num,by rw [EH.out];exact I4⟩
        case measure=>simp [intOf];omega
  ·obtain rfl:k=17:=by omega
   rw [EE.out] at I;have RES:Hid (yx w (hr S T V P) (.returned (.agg (lK (hb (hr S T V P)) (hq (hr S T V P))))) (wr.setRow w.heap.size (lK (hb (hr S T V P)) (hq (hr S T V P))))):=Hh ⟨rfl,aX I.out.aI _ _ (ac _)⟩;have RR:=Hh (I.out.res.row (hb (hr S T V P)) (hq (hr S T V P)));generalize hr S T V P=h at *
   go_wp2_with (first
    | ((with_reducible refine Zk (o:=⟨some 54,_,_,_,_,_⟩) rfl _ rfl (w.heap.size+1) (hb h) (hq h) ?_ I.out.tC ?_);(exact rfl))
    | ((with_reducible refine Ah (o:=⟨none,_,_,_,_,_⟩) rfl _ _ rfl w.heap.size (hb h) zI (hq h) dM ?_ ?_ I.out.res ?_);(exact rfl);(exact rfl)))
   (try simp only [Exit.inBlock,Exit.then])
   refine bp (Kq rfl _ _ w.heap.size (hb h) (hq h) rfl RR.out) rfl ?_;exact RES.out
end Pa
namespace Ck
attribute [local irreducible] Sd.bA wpQuiet Sg.dG
theorem aes (L:LL) (n:Nat) (x:E5):pc L n x=(decide (x.1=1) && decide (0<=sN x.2.1 (L.take n))):=by unfold pc;rw [Bool.decide_and]
theorem aeQ (L:LL) (n:Nat) (x:E5):pg L n x=(decide (x.1=2) && decide (sN x.2.1 L < 0)):=by unfold pg;rw [Bool.decide_and]
theorem xD (w:World) (v:Value) (L:LL) (R:kF w v L):Calls prog 93 #[v] w (gD w L):=by
 have RL:=Hh R;have SC:=Hh (fun (W:World) (v':Value) (M:LL) (s:Int) (r:kF W v' M)=>pF W v' M s r);have MA:=Hh (fun (W:World) (u:Value) (l:List E5) (r:Rd K5 W u l)=>Ro.jq W u l r);have TF:Hid (∀ w',0<=bI L->Below w.heap.size w w'->gD w L (.returned (.tuple #[.int .i64 (bI L),.int .i64 2])) w'):=fun w' h b=>by
  obtain ⟨e1,e2⟩:=Kt h;unfold gD;rw [e1,e2];exact ⟨rfl,b⟩
 have TC:Hid (∀ w',¬ 0<=bI L->0<=FT L->Below w.heap.size w w'->gD w L (.returned (.tuple #[.int .i64 (FT L),.int .i64 8])) w'):=fun w' h h2 b=>by
  obtain ⟨e1,e2⟩:=NZ h h2;unfold gD;rw [e1,e2];exact ⟨rfl,b⟩
 have TG:Hid (∀ w',¬ 0<=bI L->¬ 0<=FT L->0<=JY L->Below w.heap.size w w'->gD w L (.returned (.tuple #[.int .i64 (JY L),.int .i64 9])) w'):=fun w' h h2 h3 b=>by
  obtain ⟨e1,e2⟩:=Vj h h2 h3;unfold gD;rw [e1,e2];exact ⟨rfl,b⟩
 have TO:Hid (∀ w',¬ 0<=bI L->¬ 0<=FT L->¬ 0<=JY L->Below w.heap.size w w'->gD w L (.returned (.tuple #[.int .i64 (-1),.int .i64 0])) w'):=fun w' h h2 h3 b=>by
  obtain ⟨e1,e2⟩:=aeN h h2 h3;unfold gD;rw [e1,e2];exact ⟨rfl,b⟩
 have BH:Hid (∀ k,iJ bad L k->k < L.length->bad (bZ L k)=true->bI L=k):=fun k=>zZ;have BE:Hid (iJ bad L L.length->bI L = -1):=Ak;have BX:Hid (∀ k,iJ bad L k->k < L.length->bad (bZ L k)=false->iJ bad L (k+1)):=fun k=>xJ;have CH:Hid (∀ k i,jI (pc L) L k i->k < L.length->i < (bZ L k).length->pc L k (bO (bZ L k) i)=true->FT L=k):=fun k i h1 h2 h3 h4=>(oD h1 h2 h3 h4).1;have CE:Hid (lZ (pc L) L L.length->FT L = -1):=fun h=>(qz h).1;have GH:Hid (∀ k i,jI (pg L) L k i->k < L.length->i < (bZ L k).length->pg L k (bO (bZ L k) i)=true->JY L=k):=fun k i h1 h2 h3 h4=>(oD h1 h2 h3 h4).1;have GE:Hid (lZ (pg L) L L.length->JY L = -1):=fun h=>(qz h).1;obtain ⟨a,cap,rfl,⟨hcap,_⟩,hm,hA⟩:=R;have HA:=Hh hA;clear hA;generalize bI L=bn at *;generalize FT L=cn at *;generalize JY L=gn at *;unfold maxLen at hm;generalize hn:L.length=n at *;have HN:=Hh hn;clear hn
 go_enter func93,ntmps93
 go_wp2
 go_loopw [4] (fun i wr=>∃ k:Nat,k<=n/\i = .int .i64 k/\Hid (Below w.heap.size w wr)/\Hid (iJ bad L k)) (fun i _=>n - (intOf i).toNat)
 case atStart=>exact ⟨0,cg _,rfl,aa _ _,xC⟩
 case round =>
  obtain ⟨k,hk,rfl,bw,hs⟩:=hrel
  by_cases hlt:k < n
  ·obtain ⟨b,off,rfl,A⟩:=HA (by omega)
   obtain ⟨u,c,ru⟩:=A k hlt;have c':=iI bw c;have M:=Hh (MA wr u (bZ L k) (ru.below bw));obtain ⟨a',cap',rfl,_⟩:=ru;have AA:=Hh A;have YES:=fun h=>BH k hs hlt h;have NO:=fun h=>BX k hs hlt h;have hb:bad (bZ L k) = !gH (bZ L k):=rfl;rw [hb] at YES NO;clear A c hb;generalize gH (bZ L k)=q at *;generalize (bZ L k).length=m at *
   cases q with
   | true =>
     have N:=Hh (NO rfl);clear YES NO;go_wp2_with fail;refine M.mono ?_;rintro e w1 ⟨rfl,b1⟩;have B1:=aW bw b1;clear b1;go_wp2
     go_roundw
     case rel=>exact ⟨k+1,by omega,by go_num,B1,N⟩
     case measure=>simp [intOf];omega
   | false =>
     have Y:=Hh (YES rfl);have T:=Hh (fun w' hb=>TF w' (by rw [Y.out];omega) hb);rw [Y.out] at T;clear YES NO;go_wp2_with fail;refine M.mono ?_;rintro e w1 ⟨rfl,b1⟩;have B1:=aW bw b1;clear b1;go_wp2
     go_ret2
     exact T _ B1
  ·obtain rfl:k=n:=by omega
   have nb:=BE.out hs;have NB:=Hh (show ¬ 0<=bn by omega);clear nb hs TF BH BE BX;have B0:=bw;go_wp2
   go_loopw [5] (fun i wr=>∃ j:Nat,j<=k/\i = .int .i64 j/\Hid (Below w.heap.size w wr)/\Hid (lZ (pc L) L j)) (fun i _=>k - (intOf i).toNat)
   case atStart=>exact ⟨0,cg _,rfl,B0,oI⟩
   case round =>
    clear bw B0 hlt;obtain ⟨j,hj,rfl,bw,hs⟩:=hrel
    by_cases hlt:j < k
    ·obtain ⟨b,off,rfl,A⟩:=HA (by omega)
     obtain ⟨u,c,a',cap',rfl,_,hm',hA'⟩:=A j hlt;have HC:=Hh c;have HA':=Hh hA';have HAA:=Hh A;have HJ:=Hh (show j < L.length by rw [HN.out];exact hlt);have lc:=bo _ _ c;have c0:=(bw.cell lc).trans c;clear hA' c A;unfold maxLen at hm';generalize hl:(bZ L j).length=m at *;have HL:=Hh hl;clear hl;have W0:=Hh (lU hs);have B1:=bw;clear hs;go_wp2
     go_loopw [6] (fun i wr=>∃ i':Nat,i'<=m/\i = .int .i64 i'/\Hid (Below w.heap.size w wr)/\Hid (jI (pc L) L j i')) (fun i _=>m - (intOf i).toNat)
     case atStart=>exact ⟨0,cg _,rfl,B1,W0⟩
     case round =>
      clear c0 bw B1 W0;obtain ⟨i,hi,rfl,bw,hs⟩:=hrel;have c':=(bw.cell lc).trans HC
      by_cases hit:i < m
      ·obtain ⟨b',off',rfl,A'⟩:=HA' (by omega)
       have lH:=vK A' i (by rw [HL.out];exact hit);rw [show (bZ L j).getD i z5=bO (bZ L j) i from rfl] at lH;have YES:=Hh (fun h=>CH j i hs (by have:=HJ.out;rw [HN.out] at this;exact this) (by rw [HL.out];exact hit) h);have NO:=Hh (fun h=>lY hs (by rw [HL.out];exact hit) h);have PI:=aes L j (bO (bZ L j) i);have HAA':=Hh A';clear A' hs;generalize bO (bZ L j) i=x at *;have SJ:=Hh (fun W hb=>SC W (.slice (some ⟨b,off,none⟩) j cap) (L.take j) x.2.1 ((RL.below (w':=W) hb).take (by rw [HN.out];omega)));obtain ⟨x1,x2,x3,x4,x5⟩:=x;simp only at PI lH SJ;generalize pc L j (x1,x2,x3,x4,x5)=q at *;generalize sN x2 (L.take j)=sn at *;generalize sE x2 (L.take j)=se at *;obtain ⟨i0,i1,_,_,_⟩:=lH;have l0:b' < w.heap.size:=bo _ _ i0;have k0:wr.cell? ⟨b',off'+i * 5,none⟩=_:=(bw.cell l0).trans i0;have k1:wr.cell? ⟨b',off'+i * 5+1,none⟩=_:=(bw.cell l0).trans i1;have I0:=Hh i0;have P:=Hh PI;have hjc:j<=cap:=by omega
       clear PI i0 i1 k0;go_upto_region 12 with fail
       replace c':=Sd.aL c'
       replace k1:=Sd.aL k1
       refine Sg.mJ [(0,0),(0,1),(0,2),(0,3),(0,4),(0,5),(0,6),(0,7),(0,8),(0,9),(0,10),(1,11),(0,12),(0,13),(0,14),(2,15),(0,16),(1,17)] [⟨15,8,#[.int .i64 0,.int .i64 0,.int .i64 0,.int .i64 0,.int .i64 0],170,none,none⟩] (by kernel_rfl) (by kernel_rfl) (by kernel_rfl) (by decide) (by decide) ?_ ?_ ?_
       ·simp
       ·intro f hf
        simp only [cj,cY,fS] at hf;subst hf;exact Sg.Vz rfl rfl rfl fun ρ w=>by go_simp
       dsimp only [Sg.aP,List.getElem?_cons_succ,List.getElem?_cons_zero];have BW:=Hh ((aa wr.heap.size wr).drew)
       repeat (refine Sg.lit (fun xs=>?_);simp only [Sg.fill,cm,br];quiet_step (fail);refine bk ?_)
       refine Sg.jw (fun xs w3 hb hc=>⟨by rfl,fun K hK=>?_⟩);have B3:=aW BW hb;clear hb hc BW;simp only [Sg.fill,cm,br];go_simp;refine (SJ w3 (aW bw B3)).mono ?_;rintro e4 w4 ⟨rfl,b4⟩;have B4:=aW B3 b4;refine hK _ _ (Sd.Cl.of B4) b4.size (fun _=>b4) ?_;clear hK K b4 B3;unfold fM
       repeat (refine Sg.lit (fun xs=>?_);simp only [Sg.fill,cm,br];quiet_step (fail);refine bk ?_)
       refine Sg.pz (fun g7 w7 hb hc row n7 hH hL=>?_);have B7:=aW B4 hb;have R7:Hid (iV w7 g7 z5):=row;clear hb hc row hH hL B4
       repeat (refine Sg.lit (fun xs=>?_);simp only [Sg.fill,br];quiet_step (fail);refine bk ?_)
       refine Sg.jw (fun xs w9 hb hc=>⟨by rfl,fun K hK=>?_⟩);have B9:=aW B7 hb;have R9:=Hh (R7.below hb R7.lt);have d0:=Fl.rc R9 0;have d1:=Fl.rc R9 1;have d2:=Fl.rc R9 2;have d3:=Fl.rc R9 3;have d4:=Fl.rc R9 4;have f0:=aj R9 0;have f1:=aj R9 1;have f2:=aj R9 2;have f3:=aj R9 3;have f4:=aj R9 4;have BA:=iZ (g:=g7) (x:=se) B9 n7;have hsz:=PW w9 g7 se;clear hb hc B7 R7 R9;simp only [Sg.fill,br];go_simp;refine hK _ _ (Sd.Cl.of BA) (by rw [← hsz];exact ac _) (fun h=>absurd rfl h) ?_;clear hK K d0 d1 d2 d3 d4 f0 f1 f2 f3 f4 hsz
       show Sg.dG _ _ _ _ _ _ _ _ _ _ _ (qT w9 g7 se)
       have B10:=aW bw BA;clear BA c' k1 B9;generalize qT w9 g7 se=wA at *;refine Sg.done (fun wB hb hc=>?_);have BB:=aW B10 hb;clear hb hc B10 n7 SJ bw;have c':=(BB.cell lc).trans HC;have k0:=(BB.cell l0).trans I0
       by_cases h1:x1=1
       ·by_cases h2:0<=sn
        ·have Y:=YES.out (by rw [P.out,bj h1,bj h2];rfl)
         have T:=Hh (fun w' hb=>TC w' NB (by rw [Y];omega) hb);rw [Y] at T;have h1':(x1 == 1)=true:=by simpa using h1
         have h2':decide (0<=sn)=true:=bj h2;clear Y YES NO P h1 h2;go_wp2
         go_ret2
         exact T _ BB
        ·have ST:=Hh (NO (by rw [P.out,ai h2,Bool.and_false]))
         have h1':(x1 == 1)=true:=by simpa using h1
         have h2':decide (0<=sn)=false:=ai h2;clear YES NO P h1 h2;go_wp2
         go_roundw
         case rel=>exact ⟨i+1,by omega,by go_num,BB,ST⟩
         case measure=>simp [intOf];omega
       ·have ST:=Hh (NO (by rw [P.out,ai h1,Bool.false_and]))
        have h1':(x1 == 1)=false:=by simpa using h1
        clear YES NO P h1;go_wp2
        go_roundw
        case rel=>exact ⟨i+1,by omega,by go_num,BB,ST⟩
        case measure=>simp [intOf];omega
      ·obtain rfl:i=m:=by omega
       have ST:=Hh (nW (by rw [HL.out];exact hs.out) HJ.out);clear hs;go_wp2
       go_roundw
       case rel=>exact ⟨j+1,by omega,by go_num,bw,ST⟩
       case measure=>simp [intOf];omega
    ·obtain rfl:j=k:=by omega
     have nc:=CE.out hs;have NC:=Hh (show ¬ 0<=cn by omega);clear nc hs TC CH CE;have B0:=bw;go_wp2
     go_loopw [9] (fun i wr=>∃ k:Nat,k<=j/\i = .int .i64 k/\Hid (Below w.heap.size w wr)/\Hid (lZ (pg L) L k)) (fun i _=>j - (intOf i).toNat)
     case atStart=>exact ⟨0,cg _,rfl,B0,oI⟩
     case round =>
      clear bw B0 hlt;obtain ⟨k,hk,rfl,bw,hs⟩:=hrel
      by_cases hlt:k < j
      ·obtain ⟨b,off,rfl,A⟩:=HA (by omega)
       obtain ⟨u,c,a',cap',rfl,_,hm',hA'⟩:=A k hlt;have HC:=Hh c;have HA':=Hh hA';have HAA:=Hh A;have HJ:=Hh (show k < L.length by rw [HN.out];exact hlt);have lc:=bo _ _ c;have c0:wr.cell? ⟨b,off+k,none⟩=_:=(bw.cell lc).trans c;clear hA' c A;unfold maxLen at hm';generalize hl:(bZ L k).length=m at *;have HL:=Hh hl;clear hl;have W0:=Hh (lU hs);have B1:=bw;clear hs;go_wp2
       go_loopw [10] (fun i wr=>∃ i':Nat,i'<=m/\i = .int .i64 i'/\Hid (Below w.heap.size w wr)/\Hid (jI (pg L) L k i')) (fun i _=>m - (intOf i).toNat)
       case atStart=>exact ⟨0,cg _,rfl,B1,W0⟩
       case round =>
        clear c0 bw B1 W0;obtain ⟨i,hi,rfl,bw,hs⟩:=hrel;have c':wr.cell? ⟨b,off+k,none⟩=_:=(bw.cell lc).trans HC
        by_cases hit:i < m
        ·obtain ⟨b',off',rfl,A'⟩:=HA' (by omega)
         have lH:=vK A' i (by rw [HL.out];exact hit);rw [show (bZ L k).getD i z5=bO (bZ L k) i from rfl] at lH;have YES:=Hh (fun h=>GH k i hs (by have:=HJ.out;rw [HN.out] at this;exact this) (by rw [HL.out];exact hit) h);have NO:=Hh (fun h=>lY hs (by rw [HL.out];exact hit) h);have PI:=aeQ L k (bO (bZ L k) i);have HAA':=Hh A';clear A' hs;generalize bO (bZ L k) i=x at *;have SJ:=Hh (SC wr (.slice (some ⟨b,off,none⟩) j cap) L x.2.1 (RL.below bw));obtain ⟨x1,x2,x3,x4,x5⟩:=x;simp only at PI lH SJ;generalize pg L k (x1,x2,x3,x4,x5)=q at *;generalize sN x2 L=sn at *;generalize sE x2 L=se at *;obtain ⟨i0,i1,_,_,_⟩:=lH;have l0:b' < w.heap.size:=bo _ _ i0;have k1:wr.cell? ⟨b',off'+i * 5+1,none⟩=_:=(bw.cell l0).trans i1;have I0:=Hh i0;have P:=Hh PI;clear PI i0 i1;unfold eZ fM at SJ;go_wp2_with fail;refine SJ.mono ?_;rintro e4 w4 ⟨rfl,b4⟩;have bb:=b4.alloc b4.size (.cells #[.int .i64 se.1,.int .i64 se.2.1,.int .i64 se.2.2.1,.int .i64 se.2.2.2.1,.int .i64 se.2.2.2.2] 170);have BB:=aW bw bb;clear b4 bb SJ bw c' k1;go_upto_region 22 with fail;generalize w4.alloc (.cells #[.int .i64 se.1,.int .i64 se.2.1,.int .i64 se.2.2.1,.int .i64 se.2.2.2.1,.int .i64 se.2.2.2.2] 170)=wB at *;have c':=(BB.cell lc).trans HC;have k0:=(BB.cell l0).trans I0
         by_cases h1:x1=2
         ·by_cases h2:sn < 0
          ·have Y:=YES.out (by rw [P.out,bj h1,bj h2];rfl)
           have T:=Hh (fun w' hb=>TG w' NB NC (by rw [Y];omega) hb);rw [Y] at T;have h1':(x1 == 2)=true:=by simpa using h1
           have h2':decide (sn < 0)=true:=bj h2;clear Y YES NO P h1 h2;go_wp2
           go_ret2
           exact T _ BB
          ·have ST:=Hh (NO (by rw [P.out,ai h2,Bool.and_false]))
           have h1':(x1 == 2)=true:=by simpa using h1
           have h2':decide (sn < 0)=false:=ai h2;clear YES NO P h1 h2;go_wp2
           go_roundw
           case rel=>exact ⟨i+1,by omega,by go_num,BB,ST⟩
           case measure=>simp [intOf];omega
         ·have ST:=Hh (NO (by rw [P.out,ai h1,Bool.false_and]))
          have h1':(x1 == 2)=false:=by simpa using h1
          clear YES NO P h1;go_wp2
          go_roundw
          case rel=>exact ⟨i+1,by omega,by go_num,BB,ST⟩
          case measure=>simp [intOf];omega
        ·obtain rfl:i=m:=by omega
         have ST:=Hh (nW (by rw [HL.out];exact hs.out) HJ.out);clear hs;go_wp2
         go_roundw
         case rel=>exact ⟨k+1,by omega,by go_num,bw,ST⟩
         case measure=>simp [intOf];omega
      ·obtain rfl:k=j:=by omega
       have ng:=GE.out hs;have T:=Hh (fun w' hb=>TO w' NB NC (by omega) hb);go_wp2
       go_ret2
       exact T _ bw
end Ck
