import Derived.Test.YtpepoackmcohlaaGreatDoorPf11
set_option maxRecDepth 100000
set_option maxHeartbeats 8000000
namespace Go.Proofs.YtpepoackmcohlaaGreatDoor
open Go.Proofs.Tryz Go.RowKit
open Ck (Hd LL bQ eF iD iG jK lY qh sE sl tE zh)
open Fl (K4 R4 aH aV ah aj bN cZ file z4)
open Fs (E3 Fx Glob Only Rs St Wf aB aC aP bV dX gB gV sA sB wK)
open Pa (Ay K2 KB KN S2 aQ bO bU bX fq ptr sat)
open Ro (E5 K5 bF bK ent fH rZ z5)
open Rw (At Ow Rd)
open Ua (Row arr bR below_setRow cB dI dL gK jN nS tb te tp upd)
namespace Cu
open Go.Maps
attribute [local irreducible] Sd.aW wpQuiet Sz.nL
section
variable {s t p:Nat} {F G:Nat->Prop} {c:Cs} {vn vq:Value} {L:List Nd} {Fs:Nat->Nat->Prop} {w w1 w':World}
variable {x:Ac}
theorem Qi (hk:x.k=2) (hn:¬ no c x.n):(bU c.V x.n=true->aX x c=(if sB (sat c.S x.n).1 x.f x.r=true then 0 else 3)/\bE x c = { c with S:=jT c.S x.n (sA (sat c.S x.n).1 x.f x.r x.v,(sat c.S x.n).2) })/\(bU c.V x.n=false->aX x c=10/\bE x c=c):=by
 have hin:0<=x.n/\x.n < c.S.length:=by unfold no at hn;omega
 have he:aX x c=if bU c.V x.n=true then (if sB (sat c.S x.n).1 x.f x.r=true then 0 else 3) else 10:=by
  unfold aX;rw [aq (by omega),aq (by omega),aq (by rintro (g | g | g);omega;omega;exact hn g),aw hk]
 refine ⟨fun hv=>?_,fun hv=>?_⟩
 ·rw [hv,aw rfl] at he
  refine ⟨he,?_⟩;unfold bE
  cases g:sB (sat c.S x.n).1 x.f x.r with
  | true =>
    rw [g,aw rfl] at he;rw [aq (by omega),aq (by rw [he];simp),aq (by omega),aw hk]
  | false =>
    rw [g,aq eA] at he;rw [aq (by omega),aw (by rw [he];decide)];have e1:sA (sat c.S x.n).1 x.f x.r x.v=(sat c.S x.n).1:=by
     unfold sA
     split
     ·rfl
     ·rw [g];rfl
    have e2:jT c.S x.n (sA (sat c.S x.n).1 x.f x.r x.v,(sat c.S x.n).2)=c.S:=by
     rw [e1];unfold jT
     show c.S.set x.n.toNat (sat c.S x.n)=c.S
     unfold sat;rw [af,am (by omega)];exact List.set_getElem_self (by omega)
    rw [e2]
 ·rw [hv,aq eA] at he
  refine ⟨he,?_⟩;unfold bE;rw [aq (by omega),aw (by rw [he];decide)]
theorem Qt (hk:x.k=6) (hn:¬ no c x.n):aX x c=(if x.t < -2000\/2000 < x.t then 1 else 0)/\bE x c=c:=by
 have he:aX x c=if x.t < -2000\/2000 < x.t then 1 else 0:=by
  unfold aX;rw [aq (by omega),aq (by omega),aq (by rintro (g | g | g);omega;omega;exact hn g),aq (by omega),aq (by omega),aq (by omega)]
 refine ⟨he,?_⟩;unfold bE;rw [aq (by omega)]
 by_cases e:aX x c≠0
 ·rw [aw e]
 ·rw [aq e,aq (by omega),aq (by omega),aq (by omega),aq (by omega)]
theorem Cl.wr {nn:Nat} (h:Cl w s F c t vn L p vq Fs) (hn:nn < c.S.length) {q:Nat} (hq:q=(iI L nn).s) {f r:Int} {x:R4} {e:Ending} (hw:WrC w q (Fs nn) (sat c.S nn).1 (sat c.S nn).2 f r x e w'):kg w s F { c with S:=jT c.S nn (sA (sat c.S nn).1 f r x,(sat c.S nn).2) } t (if sB (sat c.S nn).1 f r=true then 0 else 3) e w':=by
 subst hq;obtain ⟨h1,h2,h3⟩:=hw;have hl:=h.len;exact ⟨h1,⟨_,_,_,_,_,h.store (i:=nn) (by omega) (x:=(sA (sat c.S nn).1 f r x,(sat c.S nn).2)) h2 h3⟩,h3.mono fun k _ g=>h.ff nn (by omega) k g⟩
theorem Pp (h:Cl w s F c t vn L p vq Fs) (x:Ac) (hk:x.k=2) (hn:¬ no c x.n) (hx:bN x.v) (hf:Wf x.f):Calls prog 11 #[ptr s,eG x] w (kg w s F (bE x c) (t+1) (aX x c)):=by
 have B0:=Hh ((aa w.heap.size w).alloc (ac _) (.cells (bC x) 44));have X0:=Hh (bh w (.cells (bC x) 44));have hn':0<=x.n/\x.n < c.S.length:=by unfold no at hn;omega
 obtain ⟨nn,hnn⟩:∃ nn:Nat,(nn:Int)=x.n:=⟨x.n.toNat,by omega⟩;have hnl:nn < c.S.length:=by omega
 obtain ⟨g,cap,rfl,hcap,hm,-⟩:=h.one hnl;have hL:=h.len;have C1:=Hh (nJ (h.below B0) (n:=nn) hnl);rw [hnn] at C1
 have CW:Hid (∀ W,Below (w.alloc (.cells (bC x) 44)).heap.size (w.alloc (.cells (bC x) 44)) W->Calls prog 34 #[.pointer (some ⟨g,nn * 3,none⟩),.int .i64 x.f,.int .i64 x.r,aH x.v] W (fun e w'=>kg W s F (bE x c) t (aX x c) e w'/\Only (Fs nn) W w')):=Hh (fun W b=>by
  have hh:=(h.below B0).below b;obtain ⟨q0,q1,_⟩:=hh.nod hnl;rw [hh.lv nn (by omega),hnn] at q1;obtain ⟨a1,a2⟩:=Qi hk hn
  cases hv:bU c.V x.n with
  | true =>
    rw [(a1 hv).1,(a1 hv).2];rw [hv] at q1;refine (JR (hh.sto hnl) g (nn * 3) q0 q1 (fun e=>(h.off nn (by omega) g e).2.2.1 rfl) hf x.r x.v hx).mono fun e w' hw=>⟨?_,hw.2.2⟩;rw [← hnn];exact hh.wr hnl rfl hw
  | false =>
    rw [(a2 hv).1,(a2 hv).2];rw [hv] at q1;refine (Nh W g (nn * 3) x.f x.r x.v q1).mono fun e w' hw=>?_;obtain ⟨rfl,b'⟩:=hw
    exact ⟨iM hh b' 10,Only.of_below b'⟩)
 have NG:Hid (¬ (Fs nn) s/\¬ (Fs nn) w.heap.size):=Hh ⟨fun e=>(h.off nn (by omega) s e).1 rfl,fun e=>by have:=(h.st nn (by omega)).low _ e;omega⟩;have E:=Hh (fun w1 (b:Below w.heap.size w w1) e w' (d:kg w1 s F (bE x c) t (aX x c) e w')=>(d.pre b h.low).late);have D0:=Hh (fun w1 b=>(h.below (w':=w1) b).cells.1);clear h hn hn' hL;generalize bE x c=c' at *;generalize aX x c=ae at *;generalize hGG:(Fs nn)=GG at *;clear hGG;have HNL:=Hh hnl;have p5:decide (c.S.length<=nn)=false:=ai (by omega);generalize c.S.length=ln at *;unfold eG bC at *;unfold ptr at *;obtain ⟨k,n,f,rr,v,s',m,tt⟩:=x;simp only at hk hnn B0 X0 C1 CW E ⊢;subst hk hnn
 (try unfold aH at CW)
 go_enter func11,ntmps11
 go_wp2_with fail;refine C1.mono ?_;rintro e w1 ⟨rfl,b1⟩;have BW:=aR B0 b1;have X1:=Hh (iP b1 X0);have CX:=Hh (fun W (b:Below w1.heap.size w1 W)=>CW W (b1.trans (b.mono b1.size)));have d0:=D0.out w1 BW;clear b1 C1 CW D0 X0 B0;generalize hgx:w.heap.size=gx at X1 NG ⊢;have HGX:=Hh hgx;clear hgx;have y0:=Fl.rc X1 0;have Q0:=Hh d0;go_upto_region 12 with fail;clear y0 d0;have BD:=Hh (aa w1.heap.size w1).drew;have OD:Hid (Only GG w1 w1.drew):=Hh (Only.of_below BD);have s0:=Sc.ay (C:=fun W'=>Only GG w1 W') (a:=⟨s,0,none⟩) (fun W' o=>o.cell Q0 NG.out.1);have x1:=Sc.ay (C:=fun W'=>Only GG w1 W') (a:=⟨gx,1,none⟩) (fun W' o=>o.cell (ah X1 1) NG.out.2);have x2:=Sc.ay (C:=fun W'=>Only GG w1 W') (a:=⟨gx,2,none⟩) (fun W' o=>o.cell (ah X1 2) NG.out.2);have x3:=Sc.ay (C:=fun W'=>Only GG w1 W') (a:=⟨gx,3,none⟩) (fun W' o=>o.cell (ah X1 3) NG.out.2);have x4:=Sc.ay (C:=fun W'=>Only GG w1 W') (a:=⟨gx,4,none⟩) (fun W' o=>o.cell (ah X1 4) NG.out.2);have x5:=Sc.ay (C:=fun W'=>Only GG w1 W') (a:=⟨gx,5,none⟩) (fun W' o=>o.cell (ah X1 5) NG.out.2);have x6:=Sc.ay (C:=fun W'=>Only GG w1 W') (a:=⟨gx,6,none⟩) (fun W' o=>o.cell (ah X1 6) NG.out.2);have x7:=Sc.ay (C:=fun W'=>Only GG w1 W') (a:=⟨gx,7,none⟩) (fun W' o=>o.cell (ah X1 7) NG.out.2);have ne:Nonempty (Sc.In (fun W'=>Only GG w1 W')):=⟨⟨_,OD⟩⟩;have CY:=Hh (CX w1.drew BD);clear CX Q0;refine Sc.start (fun W'=>Only GG w1 W') [(false,0),(false,1),(false,2),(false,3),(false,4),(false,5),(false,6),(false,7),(false,8),(false,9),(false,10),(false,11),(false,12),(true,13),(false,14)] (by kernel_rfl) (by kernel_rfl) (by kernel_rfl) OD ?_;dsimp only [Sd.aM,List.getElem?_cons_succ,List.getElem?_cons_zero]
 iterate 13 (refine Sd.lit ?_;quiet_step (fail);refine bk ?_)
 clear s0 x1 x2 x3 x4 x5 x6 x7;refine Sd.call (by rfl) (fun K hK=>?_);go_simp;refine CY.mono ?_;rintro e w5 ⟨d5,o5⟩;have R:=Hh (E w1.drew (aR BW BD) e w5 d5);obtain ⟨rfl,_,_⟩:=d5;refine hK _ _ (Sc.Cl.of (OD.trans o5 fun k _ g=>g)) ?_;clear hK K o5 CY E
 iterate 1 (refine Sd.lit ?_;quiet_step (fail);refine bk ?_)
 refine Sd.done ?_;go_wp2
 go_ret
 exact R
theorem Pz (h:Cl w s F c t vn L p vq Fs) (x:Ac) (hk:x.k=6) (hn:¬ no c x.n):Calls prog 11 #[ptr s,eG x] w (kg w s F (bE x c) (t+1) (aX x c)):=by
 have B0:=Hh ((aa w.heap.size w).alloc (ac _) (.cells (bC x) 44));have X0:=Hh (bh w (.cells (bC x) 44));have hn':0<=x.n/\x.n < c.S.length:=by unfold no at hn;omega
 obtain ⟨nn,hnn⟩:∃ nn:Nat,(nn:Int)=x.n:=⟨x.n.toNat,by omega⟩;have hnl:nn < c.S.length:=by omega
 obtain ⟨g,cap,rfl,hcap,hm,-⟩:=h.one hnl;have hL:=h.len;have C1:=Hh (nJ (h.below B0) (n:=nn) hnl);rw [hnn] at C1
 have CW:Hid (∀ W,Below (w.alloc (.cells (bC x) 44)).heap.size (w.alloc (.cells (bC x) 44)) W->Calls prog 37 #[.pointer (some ⟨g,nn * 3,none⟩),.int .i64 x.t] W (fun e w'=>kg W s F (bE x c) t (aX x c) e w'/\Only (fun k=>k=g) W w')):=Hh (fun W b=>by
  have hh:=(h.below B0).below b;obtain ⟨_,_,q2⟩:=hh.nod hnl;obtain ⟨a1,a2⟩:=Qt hk hn;rw [a1,a2];have fz:W.frozen? ⟨g,nn * 3+2,none⟩=false:=by
   obtain ⟨g',cap',e',_,_,_,_,_,fz⟩:=hh.one hnl;injection e' with e1 _ _;injection e1 with e1;injection e1 with e1 _ _;subst e1;exact fz _
  by_cases hx : -2000<=x.t/\x.t<=2000
  ·rw [aq (by omega)]
   refine (Jh W g (nn * 3) x.t _ q2 fz (DC.2 hx)).mono fun e w' hw=>?_;obtain ⟨rfl,rfl⟩:=hw;have z:=hh.WT rfl hnl hx;exact ⟨qy z.1 z.2 0,Only.set (fun k=>k=g) W (a:=⟨g,nn * 3+2,none⟩) rfl _⟩
  ·rw [aw (by omega)]
   have hc:WE x.t=false:=by
    cases hc:WE x.t with
    | false=>rfl
    | true=>exact absurd (DC.1 hc) hx
   refine (Pb W g (nn * 3) x.t hc).mono fun e w' hw=>?_;obtain ⟨rfl,rfl⟩:=hw
   exact ⟨iM hh (aa _ _) 1,Only.refl _ _⟩)
 have NG:Hid (¬ (fun k=>k=g) s/\¬ (fun k=>k=g) w.heap.size):=Hh ⟨fun e=>h.vs.1 (by rw [e];rfl),fun e=>by have:=h.low g (h.fv g (.inl rfl));omega⟩;have E:=Hh (fun w1 (b:Below w.heap.size w w1) e w' (d:kg w1 s F (bE x c) t (aX x c) e w')=>(d.pre b h.low).late);have D0:=Hh (fun w1 b=>(h.below (w':=w1) b).cells.1);clear h hn hn' hL;generalize bE x c=c' at *;generalize aX x c=ae at *;generalize hGG:(fun k=>k=g)=GG at *;clear hGG;have HNL:=Hh hnl;have p5:decide (c.S.length<=nn)=false:=ai (by omega);generalize c.S.length=ln at *;unfold eG bC at *;unfold ptr at *;obtain ⟨k,n,f,rr,v,s',m,tt⟩:=x;simp only at hk hnn B0 X0 C1 CW E ⊢;subst hk hnn
 (try unfold aH at CW)
 go_enter func11,ntmps11
 go_wp2_with fail;refine C1.mono ?_;rintro e w1 ⟨rfl,b1⟩;have BW:=aR B0 b1;have X1:=Hh (iP b1 X0);have CX:=Hh (fun W (b:Below w1.heap.size w1 W)=>CW W (b1.trans (b.mono b1.size)));have d0:=D0.out w1 BW;clear b1 C1 CW D0 X0 B0;generalize hgx:w.heap.size=gx at X1 NG ⊢;have HGX:=Hh hgx;clear hgx;have y0:=Fl.rc X1 0;have Q0:=Hh d0;go_upto_region 18 with fail;clear y0 d0;have BD:=Hh (aa w1.heap.size w1).drew;have OD:Hid (Only GG w1 w1.drew):=Hh (Only.of_below BD);have s0:=Sc.ay (C:=fun W'=>Only GG w1 W') (a:=⟨s,0,none⟩) (fun W' o=>o.cell Q0 NG.out.1);have x1:=Sc.ay (C:=fun W'=>Only GG w1 W') (a:=⟨gx,1,none⟩) (fun W' o=>o.cell (ah X1 1) NG.out.2);have x10:=Sc.ay (C:=fun W'=>Only GG w1 W') (a:=⟨gx,10,none⟩) (fun W' o=>o.cell (ah X1 10) NG.out.2);have ne:Nonempty (Sc.In (fun W'=>Only GG w1 W')):=⟨⟨_,OD⟩⟩;have CY:=Hh (CX w1.drew BD);clear CX Q0;refine Sc.start (fun W'=>Only GG w1 W') [(false,0),(false,1),(false,2),(false,3),(false,4),(false,5),(false,6),(false,7),(false,8),(true,9),(false,10)] (by kernel_rfl) (by kernel_rfl) (by kernel_rfl) OD ?_;dsimp only [Sd.aM,List.getElem?_cons_succ,List.getElem?_cons_zero]
 iterate 9 (refine Sd.lit ?_;quiet_step (fail);refine bk ?_)
 clear s0 x1 x10;refine Sd.call (by rfl) (fun K hK=>?_);go_simp;refine CY.mono ?_;rintro e w5 ⟨d5,o5⟩;have R:=Hh (E w1.drew (aR BW BD) e w5 d5);obtain ⟨rfl,_,_⟩:=d5;refine hK _ _ (Sc.Cl.of (OD.trans o5 fun k _ g=>g)) ?_;clear hK K o5 CY E
 iterate 1 (refine Sd.lit ?_;quiet_step (fail);refine bk ?_)
 refine Sd.done ?_;go_wp2
 go_ret
 exact R
theorem Nw (h:Cl w s F c t vn L p vq Fs) (ok:kC c t) (ht:t<=1000) (hg:Glob w) (hG:¬ F 0) (x:Ac) (hk:x.k=1):Calls prog 11 #[ptr s,eG x] w (kg w s F (bE x c) (t+1) (aX x c)):=by
 have B0:=Hh ((aa w.heap.size w).alloc (ac _) (.cells (bC x) 44));have e1:aX x c=rE c:=aw hk;have e2:bE x c=rC c:=aw hk;rw [e1,e2];have C2:=Hh (Kb (h.below B0) ok ht (hg.below B0) hG);have E:=Hh (fun e w' (d:kg (w.alloc (.cells (bC x) 44)) s F (rC c) (t+1) (rE c) e w')=>d.pre B0 h.low);clear h ok hg e1 e2;generalize rC c=c' at *;generalize rE c=ae at *;unfold eG bC at *;unfold ptr at *;obtain ⟨k,n,f,rr,v,s',m,tt⟩:=x;simp only at hk B0 C2 E ⊢;subst hk
 go_enter func11,ntmps11
 go_wp2_with fail;refine C2.mono ?_;rintro e w2 d;have G:=Hh (E e w2 d);obtain ⟨rfl,_,_⟩:=d;clear E C2;go_wp2
 go_ret
 exact G
theorem Kr (h:Cl w s F c t vn L p vq Fs) (ok:kC c t) (sy:wU c) (ht:t<=1000) (hg:Glob w) (hG:¬ F 0) (x:Ac) (hx:bN x.v) (hf:Wf x.f):Calls prog 11 #[ptr s,eG x] w (kg w s F (bE x c) (t+1) (aX x c)):=by
 by_cases h1:x.k=1
 ·exact Nw h ok ht hg hG x h1
 by_cases h3:x.k=3
 ·exact QM h ok x h3
 by_cases hn:no c x.n
 ·exact Sr h x h1 h3 hn
 by_cases h2:x.k=2
 ·exact Pp h x h2 hn hx hf
 by_cases h4:x.k=4
 ·exact Oa h ok sy x h4 hn
 by_cases h5:x.k=5
 ·exact Hg h ok sy x h5 hn
 by_cases h6:x.k=6
 ·exact Pz h x h6 hn
 ·exact UL h x h1 h3 (by omega) hn
end
end Cu
namespace Cu
open Fs (dF)
def CH (w0:World) (s:Nat) (c:Cs) (t:Nat) (W:World):Prop:=∃ F,ClE W s F c t/\(∀ k,F k->w0.heap.size<=k)/\Below w0.heap.size w0 W
section
variable {w0 W w':World} {s t:Nat} {c:Cs}
theorem CH.below (h:CH w0 s c t W) (b:Below W.heap.size W w'):CH w0 s c t w':=by
 obtain ⟨F,⟨vn,L,p,vq,Fs,h1⟩,h2,h3⟩:=h;exact ⟨F,⟨vn,L,p,vq,Fs,h1.below b⟩,h2,h3.trans (b.mono h3.size)⟩
theorem CH.aG (h:CH w0 s c t W):Below w0.heap.size w0 W:=by obtain ⟨_,_,_,h⟩:=h;exact h
theorem U9 (h:CH w0 s c t W) (hg:Glob w0) (ok:kC c t) (sy:wU c) (ht:t<=1000) (x:Ac) (hx:bN x.v) (hf:Wf x.f):Calls prog 11 #[ptr s,eG x] W fun e w'=>e = .returned (.int .i64 (aX x c))/\CH w0 s (bE x c) (t+1) w':=by
 obtain ⟨F,⟨vn,L,p,vq,Fs,h1⟩,h2,h3⟩:=h;have gl:=bj _ _ hg;refine (Kr h1 ok sy ht (hg.below h3) (fun g=>by have:=h2 _ g;exact absurd gl (by show ¬ 0 < _;omega)) x hx hf).mono fun e w' d=>⟨d.1,Fx F W w',d.2.1,fun k g=>?_,h3.trans (d.2.2.below h3.size h2)⟩;have:=h3.size
 rcases g with g | g
 ·exact h2 k g
 ·omega
variable {n B:Nat}
theorem zC (h:CH w0 s c t W) (hn:n < c.S.length):Calls prog 15 #[ptr s,.int .i64 n] W (dF W (sat c.S n).1):=by
 obtain ⟨F,⟨vn,L,p,vq,Fs,h1⟩,_,_⟩:=h;exact Bl h1 hn
theorem Lg (h:CH w0 s c t W) (n:Int):Calls prog 17 #[ptr s,.int .i64 n] W fun e w'=>e = .returned (.int .i64 (Wt.rl c.P n))/\Below W.heap.size W w':=by
 obtain ⟨F,⟨vn,L,p,vq,Fs,h1⟩,_,_⟩:=h;exact Qo h1 n
variable {v:Value} {L:List lF}
theorem JL (H:C8 W v L B) (e0:newE (dw L)=0) (b:Below w0.heap.size w0 W):Calls prog 6 #[v] W fun e w'=>∃ s,e = .returned (.tuple #[.pointer (some ⟨s,0,none⟩),.int .i64 0])/\CH w0 s (newC (dw L)) 0 w':=by
 refine (Gy H).mono fun e w' d=>?_;obtain ⟨b',⟨_,s,F,rfl,cl,lo⟩ | ⟨h,_⟩⟩:=d
 ·exact ⟨s,rfl,F,cl,fun k g=>cG b.size (lo k g),b.trans (b'.mono b.size)⟩
 ·exact absurd e0 h
theorem abb {z:Int} (H:C8 W v L B) (e0:newE (dw L)=z) (hz:z≠0):Calls prog 6 #[v] W fun e w'=>e = .returned (.tuple #[.pointer none,.int .i64 z])/\Below W.heap.size W w':=by
 refine (Gy H).mono fun e w' d=>?_;obtain ⟨b',⟨h,_⟩ | ⟨_,rfl⟩⟩:=d
 ·exact absurd (e0.symm.trans h) hz
 ·exact ⟨by rw [e0],b'⟩
end
variable {w:World} {v:Value}
theorem JA {L:List aB} (rd:Rd E3 w v L) (each:∀ c∈L,Rd K4 w c.sl c.l/\cZ c.l):Ay w v L w.heap.size:=by
 have at_:∀ i,i < L.length->fq L i∈L:=fun i hi=>by
  unfold fq;rw [af,am hi];exact dk hi
 exact ⟨rd,fun i hi=>each _ (at_ i hi),fun i hi h0 k hk=>Fs.oN (each _ (at_ i hi)).1 h0 k hk⟩
theorem VC {L:List lF} (rd:Rd KP w v L) (each:∀ c∈L,Ay w (sl c.files) c.F w.heap.size):C8 w v L w.heap.size:=by
 refine ⟨rd,fun i hi=>each _ ?_⟩;unfold zQ;rw [af,am hi];exact dk hi
theorem xQ (k n f r a b c d:Int) (w:World):(Instr.build 44 #[(0,.int .i64 k),(1,.int .i64 n),(2,.int .i64 f),(3,.int .i64 r),(4,.agg #[.int .u8 a,.int .u8 b,.int .u8 c,.int .u8 d])]).run prog w = .ok (.agg #[.int .i64 k,.int .i64 n,.int .i64 f,.int .i64 r,.int .u8 a,.int .u8 b,.int .u8 c,.int .u8 d,.int .i64 0,.int .i64 0,.int .i64 0]) w:=by kernel_rfl
theorem zM (k:Int) (w:World):(Instr.build 44 #[(0,.int .i64 k)]).run prog w = .ok (.agg #[.int .i64 k,.int .i64 0,.int .i64 0,.int .i64 0,.int .u8 0,.int .u8 0,.int .u8 0,.int .u8 0,.int .i64 0,.int .i64 0,.int .i64 0]) w:=by kernel_rfl
end Cu
namespace Pa
open Go.Maps
theorem Mo {α:Type} {K:Rw.Kind α} {w:World} {v:Value} {l:List α} {a:Option Addr} {n cap k:Nat} (R:Rd K w v l) (e:v = .slice a n cap) (hk:k<=l.length) (h0:0 < k):Rd K w (.slice a k cap) (l.take k):=by
 obtain ⟨a',cap',e',⟨h1,h2⟩,h3,h4⟩:=R;rw [e] at e';injection e' with e1 e2 e3;subst e1 e3;have hl:(l.take k).length=k:=by rw [cH];omega
 refine ⟨a,cap,by rw [hl],⟨by rw [hl];omega,h2⟩,h3,fun _=>?_⟩;obtain ⟨b,off,rfl,hA⟩:=h4 (by omega);refine ⟨b,off,rfl,fun i hi j u hu=>?_⟩;rw [hl] at hi;refine hA i (by omega) j u ?_;rw [← hu,List.getD,List.getD,List.getElem?_take,aw hi]
end Pa
namespace Cu
open Fs (at3 vZ)
open Pa (Mo)
attribute [local irreducible] Sd.aW wpQuiet
def lN (e:aB):aB:={ e with l:=e.l.take 260 }
def Rq (p:Pl):Pl:=((p.1.take 12).map fun e=>(e.1,e.2.1,e.2.2.take 260),p.2)
def abF (l:List Pl):List Pl:=(l.take 6).map Rq
theorem YS:(prog.info? 81).map (fun i=>(i.zero,i.size,i.bytes))=some (some (.agg #[.int .i64 0,.int .i64 0,.slice none 0 0]),3,40):=by kernel_rfl
theorem abX:(prog.info? 71).map (fun i=>(i.zero,i.size,i.bytes))=some (some (.agg #[.slice none 0 0,.int .i64 0]),2,32):=by kernel_rfl
def Dg (w:World) (B:Nat) (L:List lF) (e:Ending) (w':World):Prop:=∃ v L',e = .returned v/\C8 w' v L' B/\dw L'=abF (dw L)/\Below w.heap.size w w'
theorem Tg {w:World} {a:Option Addr} {cap:Nat} {l:List R4} (h:Rd K4 w (.slice a l.length cap) l):Rd K4 w (.slice a (l.take 260).length cap) (l.take 260):=by
 by_cases h1:260<=l.length
 ·have e:(l.take 260).length=260:=by rw [cH];omega
  rw [e];exact Mo h rfl h1 (by decide)
 ·rw [dg (by omega)]
  exact h
structure Mq (wo:World) (c:lF) (m g5 g6:Nat) (fa:Option Addr) (fc:Nat) (j:Nat) (o:Value) (wr:World):Prop where
 gU:wr.heap[g5]? = some (.cells #[.slice fa m fc,.int .i64 c.rate] 71 (0,0))
 He:wr.heap[g6]? = some (.cells #[o,.int .i64 c.rate] 71 (0,0))
 own:Ow E3 wr wo.heap.size 81 o ((c.F.take j).map lN)
 aG:Below wo.heap.size wo wr
 lo:wo.heap.size<=g5/\wo.heap.size<=g6/\g5≠g6
section
variable {wo wr w2:World} {c:lF} {m g5 g6 fc j:Nat} {fa:Option Addr} {o o':Value}
theorem Mq.below (h:Mq wo c m g5 g6 fa fc j o wr) (b:Below wr.heap.size wr w2):Mq wo c m g5 g6 fa fc j o w2:=⟨iP b h.gU,iP b h.He,h.own.keep b,h.aG.trans (b.mono h.aG.size),h.lo⟩
theorem Mq.off (h:Mq wo c m g5 g6 fa fc j o wr) {gx:Nat} (h0:wo.heap.size<=gx) (h5:gx≠g5) (h6:gx≠g6) (ho:o.ownBlock≠some gx) (k:Nat) (u:Value):Mq wo c m g5 g6 fa fc j o (wr.setCell ⟨gx,k,none⟩ u) :=
 ⟨(bp wr ⟨gx,k,none⟩ u g5 (fun e=>h5 e.symm)).trans h.gU,(bp wr ⟨gx,k,none⟩ u g6 (fun e=>h6 e.symm)).trans h.He,h.own.off (p:=⟨gx,k,none⟩) ho u,h.aG.setCell h0 u,h.lo⟩
theorem Mq.push (h:Mq wo c m g5 g6 fa fc j o wr) {x:aB} (hx:c.F[j]? = some x) (own:Ow E3 w2 wo.heap.size 81 o' ((c.F.take j).map lN ++ [lN x])) (gr:wr.grownBy w2 o.ownBlock):w2.heap[g6]? = some (.cells #[o,.int .i64 c.rate] 71 (0,0))/\Mq wo c m g5 g6 fa fc (j+1) o' (w2.setCell ⟨g6,0,none⟩ o'):=by
 have r5:=(gr.block g5 (bm h.gU) (fun e=>h.own.apart h.gU (by decide) e.symm)).trans h.gU;have r6:=(gr.block g6 (bm h.He) (fun e=>h.own.apart h.He (by decide) e.symm)).trans h.He;have b2:=h.aG.grown gr h.aG.size fun j e=>(ci h.own j e).1;have e:(c.F.take (j+1)).map lN=(c.F.take j).map lN ++ [lN x]:=by rw [dr,hx,gc];rfl
 refine ⟨r6,(bp w2 ⟨g6,0,none⟩ o' g5 h.lo.2.2).trans r5,Rw.heap_setCell_same (j:=0) r6 o',?_,b2.setCell h.lo.2.1 _,h.lo⟩;rw [e];exact own.far (p:=⟨g6,0,none⟩) r6 (by decide) _
end
theorem Wo (x:aB):(lN x).sl.ownBlock=x.sl.ownBlock:=by
 obtain ⟨n,p,a,cap,l⟩:=x;unfold lN aB.sl
 cases a <;> rfl
def ROk (w:World) (B:Nat) (e:aB):Prop:=(Rd K4 w e.sl e.l/\cZ e.l)/\(0 < e.l.length->∀ k,e.sl.ownBlock=some k->k < B)
variable {w:World} {v:Value} {B:Nat}
theorem YP {L:List aB} (rd:Rd E3 w v L) (each:∀ c∈L,ROk w B c):Ay w v L B:=by
 have at_:∀ i,i < L.length->fq L i∈L:=fun i hi=>by
  unfold fq;rw [af,am hi];exact dk hi
 exact ⟨rd,fun i hi=>(each _ (at_ i hi)).1,fun i hi h0 k hk=>(each _ (at_ i hi)).2 h0 k hk⟩
theorem YA {L:List lF} (rd:Rd KP w v L) (each:∀ c∈L,Ay w (sl c.files) c.F B):C8 w v L B:=by
 refine ⟨rd,fun i hi=>each _ ?_⟩;unfold zQ;rw [af,am hi];exact dk hi
structure QV (w:World) (B:Nat) (L:List lF) (k:Nat) (o:Value) (LD:List lF) (wr:World):Prop where
 own:Ow KP wr w.heap.size 71 o LD
 len:LD.length=k
 fil:∀ c∈LD,Ow E3 wr w.heap.size 81 (sl c.files) c.F
 UE:∀ c∈LD,∀ e∈c.F,ROk w B e
 abs:dw LD=((dw L).take k).map Rq
 aG:Below w.heap.size w wr
section
variable {w wr w2:World} {B:Nat} {L LD:List lF} {k:Nat} {o o':Value} {x:lF}
theorem QV.below (h:QV w B L k o LD wr) (b:Below wr.heap.size wr w2):QV w B L k o LD w2:=⟨h.own.keep b,h.len,fun c hc=>(h.fil c hc).keep b,h.UE,h.abs,h.aG.trans (b.mono h.aG.size)⟩
theorem QV.push (h:QV w B L k o LD wr) (hk:k < L.length) (own:Ow KP w2 w.heap.size 71 o' (LD ++ [x])) (gr:wr.grownBy w2 o.ownBlock) (fx:Ow E3 wr w.heap.size 81 (sl x.files) x.F) (rx:∀ e∈x.F,ROk w B e) (ax:x.abs=Rq (zQ L k).abs):QV w B L (k+1) o' (LD ++ [x]) w2:=by
 have oq:=aQ gr;refine ⟨own,by rw [cI,h.len];rfl,fun c hc=>?_,fun c hc=>?_,?_,h.aG.grown gr h.aG.size fun j e=>(ci h.own j e).1⟩
 ·rcases eV.1 hc with hc | hc
  ·exact aC (h.fil c hc) (fun k e=>Pa.aZ (h.fil c hc) h.own (by decide) k e) oq
  ·rw [cW.1 hc]
   exact aC fx (fun k e=>Pa.aZ fx h.own (by decide) k e) oq
 ·rcases eV.1 hc with hc | hc
  ·exact h.UE c hc
  ·rw [cW.1 hc]
   exact rx
 ·have e1:dw (LD ++ [x])=dw LD ++ [x.abs]:=by unfold dw;rw [gc];rfl
  have e2:(dw L).take (k+1)=(dw L).take k ++ [(zQ L k).abs]:=by
   rw [dr];have:(dw L)[k]? = some (zQ L k).abs:=by
    unfold dw zQ;rw [cN,am hk,af,am hk]
    rfl
   rw [this]
   rfl
  rw [e1,e2,gc,h.abs,ax]
  rfl
theorem QV.fin (h:QV w B L k o LD wr) (hk:k=L.length\/k=6) (h6:k<=6):Dg w B L (.returned o) wr:=by
 refine ⟨o,LD,rfl,YA h.own.rd fun c hc=>YP (h.fil c hc).rd fun e he=>⟨⟨(h.UE c hc e he).1.1.below h.aG,(h.UE c hc e he).1.2⟩,(h.UE c hc e he).2⟩,?_,h.aG⟩;rw [h.abs];unfold abF
 congr 1
 rcases hk with e | e
 ·rw [dg (by rw [iw];omega),dg (by rw [iw];omega)]
 ·rw [e]
end
theorem Zn (c:lF) (h:Hd):(⟨h,c.rate,(c.F.take 12).map lN⟩:lF).abs=Rq c.abs:=by
 show (((c.F.take 12).map lN).map aB.abs,c.rate)=(((c.F.map aB.abs).take 12).map _,c.rate)
 rw [← List.map_take,List.map_map,List.map_map]
 rfl
theorem Fv {L:List lF} (H:C8 w v L B):Calls prog 20 #[v] w (Dg w B L):=by
 have HF:=Hh H.file;obtain ⟨a,cap,rfl,_,hm,h3⟩:=H.rd;have H3:=Hh h3;clear h3 H;unfold maxLen at hm;have FIN:Hid (∀ k o LD wr,QV w B L k o LD wr->k=L.length\/k=6->k<=6->Dg w B L (.returned o) wr):=Hh (fun k o LD wr I h1 h2=>I.fin h1 h2);have I0:Hid (QV w B L 0 (.slice (some ⟨w.heap.size,0,none⟩) 0 0) [] (w.alloc (.cells #[] 71))):=Hh ⟨Rw.Ow.made _ _ _ (ac _),rfl,fun c hc=>(cY hc).elim,fun c hc=>(cY hc).elim,rfl,(aa _ _).alloc (ac _) _⟩;generalize hn:L.length=n at *;have HN:=Hh hn;clear hn
 go_enter func20,ntmps20
 go_wp2
 go_loopw [4,3] (fun i o wr=>∃ (k:Nat) (LD:List lF) (p1:Value),k<=n/\k<=6/\i = .int .i64 k/\p1=o/\Hid (QV w B L k o LD wr)) (fun i _ _=>6 - (intOf i).toNat)
 case atStart=>exact ⟨0,[],_,bt _,bt _,rfl,rfl,by simpa using I0⟩
 case round =>
  clear I0;obtain ⟨k,LD,o,hk,hk6,rfl,rfl,I⟩:=hrel
  by_cases hlt:k < n/\k < 6
  ·obtain ⟨hlt,h6⟩:=hlt
   have hkL:k < L.length:=by have:=HN.out;omega
   obtain ⟨b,off,rfl,hA⟩:=H3 (by omega);obtain ⟨x0,x1⟩:=Sy (hA.below I.aG) hkL;have HAA:=Hh hA;have FK:=Hh (HF k hlt);have KL:=Hh hkL;have LDL:=Hh I.len;clear hA hkL;obtain ⟨ao,co,eo,-,-⟩:=I.own.slice;generalize LD.length=ln at eo;subst eo;generalize hc:zQ L k=c at *;have HC:=Hh hc;clear hc;obtain ⟨fa0,fc0,es,hmf⟩:=FK.rd.slice;have ES:=Hh es;rw [es] at x0;clear es;have Y0:=Hh (bh wr (.cells #[.slice fa0 c.F.length fc0,.int .i64 c.rate] 71));have BN:=Hh ((aa wr.heap.size wr).alloc (ac _) (.cells #[.slice fa0 c.F.length fc0,.int .i64 c.rate] 71))
   have FCAP:Hid (c.F.length<=fc0):=Hh (by
    obtain ⟨_,_,e,q,_⟩:=FK.rd;rw [ES.out] at e;injection e with _ _ e
    omega)
   unfold maxLen at hmf
   go_upto_if 27 with fail
   clear x0 x1;generalize (wr.alloc (.cells #[.slice fa0 c.F.length fc0,.int .i64 c.rate] 71))=W5 at *;have z0:=Fl.rc Y0 0;have f0:=aj Y0 0
   go_cut [4] from 10 to 67 (fun z wx=>Value.int .i64 k=z/\Hid (Below wr.heap.size wr wx/\wx.heap[wr.heap.size]? = some (.cells #[.slice fa0 (c.F.take 12).length fc0,.int .i64 c.rate] 71 (0,0))))
   case first =>
    by_cases hl:12 < c.F.length
    ·have e12:(c.F.take 12).length=12:=by rw [cH];omega
     have q1:decide (12 < (c.F.length:Int))=true:=bi (by omega);have fcap:=FCAP.out
     have P:Hid (Below wr.heap.size wr (W5.setCell ⟨wr.heap.size,0,none⟩ (.slice fa0 12 fc0))/\(W5.setCell ⟨wr.heap.size,0,none⟩ (.slice fa0 12 fc0)).heap[wr.heap.size]? = some (.cells #[.slice fa0 (c.F.take 12).length fc0,.int .i64 c.rate] 71 (0,0))):=Hh (by
      rw [e12]
      exact ⟨BN.setCell (ac _) (.slice fa0 12 fc0),Rw.heap_setCell_same (j:=0) Y0 (.slice fa0 12 fc0)⟩)
     clear e12 Y0 BN;generalize (c.F.take 12).length=fm at *;generalize c.F.length=fl at *;go_wp2
     go_meet
     exact ⟨rfl,P.out.1,P.out.2⟩
    ·have e12:c.F.take 12=c.F:=dg (by omega)
     have q1:decide (12 < (c.F.length:Int))=false:=ai (by omega);have q2:decide (12 < c.F.length)=false:=ai (by omega)
     have P:Hid (Below wr.heap.size wr W5/\W5.heap[wr.heap.size]? = some (.cells #[.slice fa0 (c.F.take 12).length fc0,.int .i64 c.rate] 71 (0,0))):=Hh (by
      rw [e12]
      exact ⟨BN,Y0⟩)
     clear e12 Y0 BN;generalize (c.F.take 12).length=fm at *;generalize c.F.length=fl at *;go_wp2
     go_meet
     exact ⟨rfl,P.out.1,P.out.2⟩
   case rest =>
    obtain ⟨e1,P⟩:=hcut;subst e1;clear z0 f0 Y0 BN
    have FR:=Hh (fun e (he:e∈c.F)=>(by
     obtain ⟨i,hi⟩:=dq he;have hl:=(bs.1 hi).1;have q:=FK.file i hl;have q2:=FK.low i hl;unfold fq at q q2;rw [af,hi] at q q2
     exact ⟨q,q2⟩:ROk w B e))
    have FH:Hid (0 < c.F.length->∃ b off,fa0=some ⟨b,off,none⟩/\At E3 w b off c.F):=Hh (by
     obtain ⟨a',cap',e',_,_,h3⟩:=FK.rd;rw [ES.out] at e';injection e' with e1 _ _;subst e1
     exact h3)
    have MF:Hid ((c.F.take 12).length<=c.F.length/\(c.F.take 12).length<=12):=Hh (by rw [cH];omega)
    have TT:Hid ((c.F.take 12).map lN=(c.F.take (c.F.take 12).length).map lN):=Hh (by
     congr 1
     rw [cH]
     by_cases h:12<=c.F.length
     ·rw [Nat.min_eq_left h]
     ·rw [Nat.min_eq_right (by omega),dg (by omega),cU])
    generalize (c.F.take 12).length=m at *;obtain ⟨wo,hwo⟩:∃ x,x=wr:=⟨_,rfl⟩;have IW:Hid (QV w B L k (.slice ao ln co) LD wo):=Hh (by rw [hwo];exact I.out);rw [← hwo] at P;rw [← hwo];clear I hwo
    rename_i W5x
    have x5r:=Fl.rc P.out.2 1
    have Q0:Hid (Mq wo c m wo.heap.size wc.heap.size fa0 fc0 0 (.slice none 0 0) (wc.alloc (.cells #[.slice none 0 0,.int .i64 c.rate] 71))):=Hh (by
     have b6:=(aa wc.heap.size wc).alloc (ac _) (.cells #[.slice none 0 0,.int .i64 c.rate] 71);have zz:=P.out.1.size;have zl:=bm P.out.2
     exact ⟨(b6.block _ zl).trans P.out.2,bh wc _,Rw.Ow.nil _ _ _,P.out.1.trans (b6.mono zz),ac _,zz,by omega⟩)
    go_upto_region 9 with fail;clear x5r P;generalize (wc.alloc (.cells #[.slice none 0 0,.int .i64 c.rate] 71))=w6 at *;generalize wc.heap.size=g6 at *;generalize wo.heap.size=g5 at Q0 ⊢;go_wp2
    go_loopw [7] (fun i wr2=>∃ (j:Nat) (o2:Value),j<=m/\i = .int .i64 j/\Hid (Mq wo c m g5 g6 fa0 fc0 j o2 wr2)) (fun i _=>m - (intOf i).toNat)
    case atStart=>exact ⟨0,_,bt _,rfl,Q0⟩
    case round =>
     clear Q0;obtain ⟨j,o2,hj,rfl,Q⟩:=hrel;have p0:=Fl.rc Q.gU 0
     by_cases hjm:j < m
     ·have hjF:j < c.F.length:=by have:=MF.out;omega
      have hc:c.F[j]? = some (fq c.F j):=by
       unfold fq;rw [am hjF,af,am hjF]
       rfl
      obtain ⟨b2,off2,rfl,hA⟩:=FH (by omega);obtain ⟨y0,y1,y2⟩:=at3 (hA.below (IW.aG.trans (Q.aG.mono IW.aG.size))) hc;have HAA2:=Hh hA;have RR:=Hh (FR _ (cL hc)).1;have HCJ:=Hh hc;clear hA hc hjF;generalize fq c.F j=x at *;obtain ⟨cn,cp,ca,ccap,cl⟩:=x;unfold aB.sl at y2;simp only at y0 y1 y2;have Y1:=Hh (bh wr (.cells #[.int .i64 cn,.int .i64 cp,.slice ca cl.length ccap] 81));have BN2:=Hh ((aa wr.heap.size wr).alloc (ac _) (.cells #[.int .i64 cn,.int .i64 cp,.slice ca cl.length ccap] 81))
      have CAPC:Hid (cl.length<=ccap):=Hh (by
       obtain ⟨_,_,e,q,_⟩:=RR.out.1;unfold aB.sl at e;simp only at e q;injection e with _ _ e;rw [e]
       exact q.1)
      have CLM:Hid (ccap<=maxLen):=Hh (by
       obtain ⟨_,_,e,_,q,_⟩:=RR.out.1;unfold aB.sl at e;simp only at e;injection e with _ _ e;rw [e]
       exact q)
      have R26:=Hh (Tg (l:=cl) (a:=ca) (cap:=ccap) RR.out.1);have Q7:=Hh (Q.below BN2);have GX:Hid (wo.heap.size<=wr.heap.size/\wr.heap.size≠g6/\wr.heap.size≠g5/\o2.ownBlock≠some wr.heap.size):=Hh ⟨Q.aG.size,fun e=>by have:=bm Q.out.He;omega,fun e=>by have:=bm Q.out.gU;omega,fun e=>by have:=(ci Q.out.own _ e).2;omega⟩
      go_upto_if 51 with fail
      clear y0 y1 y2 p0;generalize (wr.alloc (.cells #[.int .i64 cn,.int .i64 cp,.slice ca cl.length ccap] 81))=W7 at *;clear Q BN2;generalize wr.heap.size=gx at *;have z2:=Fl.rc Y1 2;have f2:=aj Y1 2
      go_cut [7] from 35 to 63 (fun z wx=>Value.int .i64 j=z/\Hid (wx.heap[gx]? = some (.cells #[.int .i64 cn,.int .i64 cp,.slice ca (cl.take 260).length ccap] 81 (0,0))/\Mq wo c m g5 g6 (some ⟨b2,off2,none⟩) fc0 j o2 wx))
      case first =>
       by_cases hl:260 < cl.length
       ·have e12:(cl.take 260).length=260:=by rw [cH];omega
        have q1:decide (260 < (cl.length:Int))=true:=bi (by omega);have capc:=CAPC.out;have clm:=CLM.out;unfold maxLen at clm
        have P:Hid ((W7.setCell ⟨gx,2,none⟩ (.slice ca 260 ccap)).heap[gx]? = some (.cells #[.int .i64 cn,.int .i64 cp,.slice ca (cl.take 260).length ccap] 81 (0,0))/\Mq wo c m g5 g6 (some ⟨b2,off2,none⟩) fc0 j o2 (W7.setCell ⟨gx,2,none⟩ (.slice ca 260 ccap))):=Hh (by
         rw [e12]
         exact ⟨Rw.heap_setCell_same (j:=2) Y1 _,Q7.off GX.out.1 GX.out.2.2.1 GX.out.2.1 GX.out.2.2.2 2 _⟩)
        clear e12 Y1 Q7 RR R26 HCJ;generalize (cl.take 260).length=fm at *;generalize cl.length=fl at *;go_wp2
        go_meet
        exact ⟨rfl,P⟩
       ·have e12:cl.take 260=cl:=dg (by omega)
        have q1:decide (260 < (cl.length:Int))=false:=ai (by omega);have q2:decide (260 < cl.length)=false:=ai (by omega)
        have P:Hid (W7.heap[gx]? = some (.cells #[.int .i64 cn,.int .i64 cp,.slice ca (cl.take 260).length ccap] 81 (0,0))/\Mq wo c m g5 g6 (some ⟨b2,off2,none⟩) fc0 j o2 W7):=Hh (by
         rw [e12]
         exact ⟨Y1,Q7⟩)
        clear e12 Y1 Q7 RR R26 HCJ;generalize (cl.take 260).length=fm at *;generalize cl.length=fl at *;go_wp2
        go_meet
        exact ⟨rfl,P⟩
      case rest =>
       obtain ⟨e1,P⟩:=hcut;subst e1;clear z2 f2 Y1 Q7;have X8:=Hh P.out.1;have Q8:=Hh P.out.2;clear P;obtain ⟨oa,oc,eo,-,-⟩:=Q8.own.slice;have FLN:Hid (((c.F.take j).map lN).length<=12):=Hh (by rw [cm,cH];have:=MF.out;omega);generalize ((c.F.take j).map lN).length=fln at eo;subst eo;have c6:=Fl.rc Q8.He 0;obtain ⟨z0,z1,z2⟩:=DK X8;have LE:=Hh (bh wc (.cells #[.int .i64 cn,.int .i64 cp,.slice ca (cl.take 260).length ccap] 81));have QE:=Hh (Q8.below ((aa wc.heap.size wc).alloc (ac _) (.cells #[.int .i64 cn,.int .i64 cp,.slice ca (cl.take 260).length ccap] 81)));have CE:Hid (lN ⟨cn,cp,ca,ccap,cl⟩=⟨cn,cp,ca,ccap,cl.take 260⟩):=Hh rfl;clear Q8 X8;generalize hcr:cl.take 260=cr26 at *;generalize hrl:cr26.length=rl at *;have RLH:=Hh hrl;clear hcr hrl
       go_wp2_with (at_builtin;refine bX (K:=E3) underlying47 YS rfl (by omega) rfl _ _ rfl wo.heap.size _ _ rfl QE.out.own _ (⟨cn,cp,ca,ccap,cr26⟩:aB) rfl ?d1 ?d2 ?d3 ?_)
       case d1 =>
        intro jj u hu
        have c:=ah LE jj
        match jj,hu with
        | 0,hu=>simp [E3] at hu;subst hu;first | exact c | rfl | go_simp
        | 1,hu=>simp [E3] at hu;subst hu;first | exact c | rfl | go_simp
        | 2,hu=>simp [E3,aB.sl,RLH.out] at hu;subst hu;first | exact c | rfl | go_simp
        | jj+3,hu=>simp [E3] at hu
       case d2=>first | (have:=FLN;omega) | (have:=FLN.out;simp only [cm] at this ⊢;omega) | (have:=FLN.out;simp at this ⊢;omega)
       case d3=>have:=QE.aG.size;simpa using this
       intro v9 w9 o9 g9 _
       rw [← CE.out] at o9
       (try rw [← List.map_take] at o9)
       obtain ⟨r9,q9⟩:=QE.push HCJ o9 (by simpa using g9);have Q9:=Hh q9;have c6':=ah r9 0;have f6':=aj r9 0;obtain ⟨v9a,v9c,n9,rfl⟩:∃ a c n,v9 = .slice a n c:=by obtain ⟨a,c,e,_⟩:=o9.slice;exact ⟨a,c,_,e⟩
       have m12:=MF.out.2;clear o9 g9 r9 q9 QE LE z0 z1 z2 c6 RR R26 HCJ CE;go_wp2
       go_roundw
       case rel=>exact ⟨j+1,_,by omega,by go_num,Q9⟩
       case measure=>simp [intOf];omega
     ·obtain rfl:j=m:=by omega
      obtain ⟨oa,oc,eo,-,-⟩:=Q.own.slice;have HO:=Hh eo;generalize ((c.F.take j).map lN).length=fln at eo HO;subst eo;obtain ⟨c60,c61⟩:=nN Q.He;have IR:=Hh (IW.below (Q.aG.mono (ac _)));have LE:=Hh (bh wr (.cells #[.slice oa fln oc,.int .i64 c.rate] 71));have BE:=Hh ((aa wr.heap.size wr).alloc (ac _) (.cells #[.slice oa fln oc,.int .i64 c.rate] 71));have IE:=Hh (IR.below BE);have FX:Hid (Ow E3 (wr.alloc (.cells #[.slice oa fln oc,.int .i64 c.rate] 71)) w.heap.size 81 (sl (oa,fln,oc)) ((c.F.take 12).map lN)):=Hh (by rw [TT.out];exact (Q.out.own.keep BE.out).low IW.out.aG.size)
      have RX:Hid (∀ e∈(c.F.take 12).map lN,ROk w B e):=Hh (fun e he=>by
       obtain ⟨x,hx,rfl⟩:=dC.1 he;have q:=FR.out x (List.mem_of_mem_take hx)
       exact ⟨⟨Tg (l:=x.l) q.1.1,fun r hr=>q.1.2 r (List.mem_of_mem_take hr)⟩,fun h0 k hk=>q.2 (by have h1:0 < (x.l.take 260).length:=h0;rw [cH] at h1;omega) k (by rw [← Wo x];exact hk)⟩)
      have AX:Hid ((⟨(oa,fln,oc),c.rate,(c.F.take 12).map lN⟩:lF).abs=Rq (zQ L k).abs):=Hh (by rw [HC.out];exact Zn c _);clear Q IR BE
      go_wp2_with (at_builtin;refine bX (K:=KP) underlying22 abX rfl (by omega) rfl _ _ rfl w.heap.size _ _ rfl IE.out.own _ (⟨(oa,fln,oc),c.rate,(c.F.take 12).map lN⟩:lF) rfl ?d1 ?d2 ?d3 ?_)
      case d1 =>
       intro jj u hu
       have c:=ah LE jj
       match jj,hu with
       | 0,hu=>simp [KP,sl] at hu;subst hu;first | exact c | rfl | go_simp
       | 1,hu=>simp [KP] at hu;subst hu;first | exact c | rfl | go_simp
       | jj+2,hu=>simp [KP] at hu
      case d2=>rw [LDL.out];omega
      case d3=>have:=IE.aG.size;simpa using this
      intro v9 w9 o9 g9 _
      (try rw [← List.map_take] at o9)
      have NEW:=Hh (IE.push KL o9 (by simpa using g9) FX.out RX.out AX.out);obtain ⟨v9a,v9c,n9,rfl⟩:∃ a c n,v9 = .slice a n c:=by obtain ⟨a,c,e,_⟩:=o9.slice;exact ⟨a,c,_,e⟩
      clear o9 g9 IE FX RX AX LE c60 c61;go_wp2
      go_roundw
      case rel=>exact ⟨k+1,_,_,by omega,by omega,by go_num,rfl,NEW⟩
      case measure=>simp [intOf];omega
  ·have E:=Hh (FIN k _ LD wr I (by omega) hk6)
   clear FIN I
   by_cases hkn:k < n
   ·have q1:¬ ((k:Int) < 6):=by omega
    go_wp2
    go_ret
    exact E
   ·go_wp2
    go_ret
    exact E
end Cu
namespace Cu
open Go.Maps
open Re (KI oK jZ sN sL)
def UJ (w:World) (A:aP) (e:Ending) (w':World):Prop:=∃ u,e = .returned (.tuple #[u,.bool (pM A)])/\Ow KI w' w.heap.size 3 u (jA A)/\Below w.heap.size w w'
theorem wF {w:World} {r:Nat} {F:Nat->Prop} {A:aP} {d:Int} (R:Rs w r F A d) (hA:dX A):Calls prog 65 #[.pointer (some ⟨r,0,none⟩)] w (UJ w A):=by
 have C1:=Hh (kM R 40);have OK:=Hh (F8 hA 40);have HB:Hid (fB A 40=true->(decide (sN (fP A 40) (fR A 40)=0))=pM A):=Hh (fun h=>by unfold pM;rw [h];rfl);have HN:Hid (fB A 40=false->false=pM A):=Hh (fun h=>by unfold pM;rw [h];rfl);have HL:Hid (sL (fP A 40) (fR A 40)=jA A):=Hh rfl;unfold kZ at C1;clear R hA
 go_enter func65,ntmps65
 go_wp2_with fail;refine C1.mono ?_;rintro e w1 ⟨v,rfl,rv,b1⟩;have B1:=Hh b1;have RV:=Hh rv;obtain ⟨a,cap,rfl,_⟩:=RV.slice;have BA:=Hh (b1.alloc b1.size (.cells #[.int .i64 (fP A 40),.slice a (fR A 40).length cap] 79));have C2:=Hh (jZ (w1.alloc (.cells #[.int .i64 (fP A 40),.slice a (fR A 40).length cap] 79)) (fP A 40) _ (fR A 40) (RV.below ((aa w1.heap.size w1).alloc (ac _) _)) OK);unfold oK at C2;clear rv b1 C1 B1 RV OK;unfold file at *;generalize (fR A 40).length=n at *;have FIN:Hid (∀ u b w',b=pM A->Ow KI w' w.heap.size 3 u (jA A)->Below w.heap.size w w'->UJ w A (.returned (.tuple #[u,.bool b])) w'):=Hh (fun u b w' h r bb=>⟨u,by rw [h],r,bb⟩);rw [HL.out] at C2;generalize sN (fP A 40) (fR A 40)=sn at *;generalize fP A 40=fp at *;generalize fB A 40=fb at *;generalize jA A=l at *;generalize pM A=q at *;go_wp2_with fail;refine C2.mono ?_;rintro e w2 ⟨u,rfl,ru,b2⟩;have RU:=Hh (ru.low BA.size);have B2:=aR BA b2;obtain ⟨ua,uc,rfl,_⟩:=RU.slice;clear ru b2 C2 BA
 cases fb with
 | true =>
   have E:=Hh (FIN _ _ w2 (HB rfl) RU B2);clear FIN HB HN HL RU;generalize l.length=ln at *
   by_cases hs:sn=0
   ·rw [bi hs] at E
    have q1:=ik.2 hs;clear hs;go_wp2
    go_ret2
    exact E
   ·rw [ai hs] at E
    have q1:=cz.2 hs;have q2:decide (sn=0)=false:=ai hs;clear hs;go_wp2
    go_ret2
    exact E
 | false =>
   have E:=Hh (FIN _ _ w2 (HN rfl) RU B2);clear FIN HB HN HL RU;generalize l.length=ln at *;go_wp2
   go_ret2
   exact E
end Cu
namespace Ck
open Ro (fV fJ iH)
open Fl (aA aK)
attribute [local irreducible] Sd.aW wpQuiet
theorem nZ (w:World) (v:Value) (L:LL) (s:Int) (R:jK w v L):Calls prog 123 #[v,.int .i64 s] w (eF w (sN s L) (sE s L)):=by
 obtain ⟨a,cap,rfl,_,hm,hA⟩:=R;have HA:=Hh hA;have HH:Hid (∀ k i w',jf (snd s) L k i->k < L.length->i < (bQ L k).length->snd s k (bF (bQ L k) i)=true->Below w.heap.size w w'->eF w (sN s L) (sE s L) (.returned (.tuple #[.int .i64 (k:Int),ent (bF (bQ L k) i)])) w'):=fun k i w' h hk hi hq b=>by
  obtain ⟨e1,e2⟩:=nk h hk hi hq;unfold sN sE;rw [e1,e2];exact ⟨rfl,b⟩
 have HM:Hid (∀ w',kS (snd s) L L.length->Below w.heap.size w w'->eF w (sN s L) (sE s L) (.returned (.tuple #[.int .i64 (-1),ent z5])) w'):=fun w' h b=>by
  obtain ⟨e1,e2⟩:=pO h;unfold sN sE;rw [e1,e2];exact ⟨rfl,b⟩
 clear hA;generalize sN s L=rn at *;generalize sE s L=re at *;unfold maxLen at hm;generalize hn:L.length=n at *;have HN:=Hh hn;clear hn;have R0:Hid (iG (w.alloc (.cells #[.int .i64 0,.int .i64 0,.int .i64 0,.int .i64 0,.int .i64 0] 170)) w.heap.size z5):=bh w _;have B0:=Hh ((aa w.heap.size w).alloc (ac _) (.cells #[.int .i64 0,.int .i64 0,.int .i64 0,.int .i64 0,.int .i64 0] 170))
 go_enter func123,ntmps123
 go_wp2;generalize w.alloc (.cells #[.int .i64 0,.int .i64 0,.int .i64 0,.int .i64 0,.int .i64 0] 170)=w0 at *
 go_loopw [6] (fun i wr=>∃ k:Nat,k<=n/\i = .int .i64 k/\Hid (iG wr w.heap.size z5)/\Hid (Below w.heap.size w wr)/\Hid (kS (snd s) L k)) (fun i _=>n - (intOf i).toNat)
 case atStart=>exact ⟨0,bt _,rfl,R0,B0,ahead_zero⟩
 case round =>
  obtain ⟨k,hk,rfl,rr,bw,hs⟩:=hrel
  by_cases hlt:k < n
  ·obtain ⟨b,off,rfl,A⟩:=HA (by omega)
   obtain ⟨u,c,a',cap',rfl,_,hm',hA'⟩:=A k hlt;have HC:=Hh c;have HA':=Hh hA';have HAA:=Hh A;have HK:=Hh (show k < L.length by rw [HN.out];exact hlt);clear hA' c A;unfold maxLen at hm';generalize hl:(bQ L k).length=m at *;have HL:=Hh hl;clear hl;have W0:=Hh (kW hs);clear hs;go_wp2
   go_loopw [7] (fun i wr=>∃ j:Nat,j<=m/\i = .int .i64 j/\Hid (iG wr w.heap.size z5)/\Hid (Below w.heap.size w wr)/\Hid (jf (snd s) L k j)) (fun i _=>m - (intOf i).toNat)
   case atStart=>exact ⟨0,bt _,rfl,rr,bw,W0⟩
   case round =>
    clear rr bw W0;obtain ⟨j,hj,rfl,rr,bw,hs⟩:=hrel;have lc:b < w.heap.size:=bj _ _ HC;have c':=(bw.cell lc).trans HC
    by_cases hjt:j < m
    ·obtain ⟨b',off',rfl,A'⟩:=HA' (by omega)
     have kD:=rZ A' j (by rw [HL.out];exact hjt);rw [show (bQ L k).getD j z5=bF (bQ L k) j from rfl] at kD;have YES:=Hh (fun w' h hb=>HH k j w' hs (by have:=HK.out;rw [HN.out] at this;exact this) (by rw [HL.out];exact hjt) h hb);have NO:=Hh (fun h=>kL hs (by rw [HL.out];exact hjt) h);have PY:=fun h1 h2=>Cm (s:=s) (n:=k) (x:=bF (bQ L k) j) h1 h2;have PN:=fun h=>Rc (s:=s) (n:=k) (x:=bF (bQ L k) j) h;have HAA':=Hh A';clear A' hs;generalize bF (bQ L k) j=x at *;obtain ⟨x1,x2,x3,x4,x5⟩:=x;simp only at PY PN kD;generalize snd s k (x1,x2,x3,x4,x5)=q at *;obtain ⟨i0,i1,i2,i3,i4⟩:=kD;have l0:b' < w.heap.size:=bj _ _ i0;have c0:=(bw.cell l0).trans i0;have c1:wr.cell? ⟨b',off'+j * 5+1,none⟩=_:=(bw.cell l0).trans i1;have II:=Hh (di (di i0 i1) (di (di i2 i3) i4));clear i0 i1 i2 i3 i4
     by_cases hq:x1=1/\x2=s
     ·have Y:=Hh (fun w' hb=>YES w' (PY hq.1 hq.2) hb)
      have h1:(x1 == 1)=true:=by simpa using hq.1
      have h2:(x2 == s)=true:=by simpa using hq.2
      clear PY PN YES NO hq;go_upto_region 8 with fail;clear c0 c1 c' h1 h2;have C0:Below w.heap.size w wr.drew:=bw.drew;have ne:Nonempty (Sc.In (fun W=>Below w.heap.size w W)):=⟨⟨_,C0⟩⟩;have k0:=Sc.ay (C:=fun W=>Below w.heap.size w W) (a:=⟨b,off+k,none⟩) (v:=.slice (some ⟨b',off',none⟩) m cap') (fun W h=>(h.cell lc).trans HC);have x0:=Sc.ay (C:=fun W=>Below w.heap.size w W) (a:=⟨b',off'+j * 5,none⟩) (v:=.int .i64 x1) (fun W h=>(h.cell l0).trans II.out.1.1);have x1':=Sc.ay (C:=fun W=>Below w.heap.size w W) (a:=⟨b',off'+j * 5+1,none⟩) (v:=.int .i64 x2) (fun W h=>(h.cell l0).trans II.out.1.2);have x2':=Sc.ay (C:=fun W=>Below w.heap.size w W) (a:=⟨b',off'+j * 5+2,none⟩) (v:=.int .i64 x3) (fun W h=>(h.cell l0).trans II.out.2.1.1);have x3':=Sc.ay (C:=fun W=>Below w.heap.size w W) (a:=⟨b',off'+j * 5+3,none⟩) (v:=.int .i64 x4) (fun W h=>(h.cell l0).trans II.out.2.1.2);have x4':=Sc.ay (C:=fun W=>Below w.heap.size w W) (a:=⟨b',off'+j * 5+4,none⟩) (v:=.int .i64 x5) (fun W h=>(h.cell l0).trans II.out.2.2);refine Sc.start (fun W=>Below w.heap.size w W) [(false,0),(false,1),(false,2),(false,3),(false,4),(false,5),(false,6),(false,7),(false,8),(true,9)] (by kernel_rfl) (by kernel_rfl) (by kernel_rfl) C0 ?_;dsimp only [Sd.aM,List.getElem?_cons_succ,List.getElem?_cons_zero]
      iterate 9 (refine Sd.lit ?_;quiet_step (fail);refine bk ?_)
      refine Sd.call (by rfl) (fun K hK=>?_);clear k0 x0 x1' x2' x3' x4' ne;have R2:Hid (iG wr.drew w.heap.size z5):=Hh rr;clear rr bw;generalize wr.drew=W2 at *;have d0:=Fl.rc R2 0;have d1:=Fl.rc R2 1;have d2:=Fl.rc R2 2;have d3:=Fl.rc R2 3;have d4:=Fl.rc R2 4;have f0:W2.frozen? ⟨w.heap.size,0,none⟩=false:=aj R2 0;have f1:W2.frozen? ⟨w.heap.size,1,none⟩=false:=aj R2 1;have f2:W2.frozen? ⟨w.heap.size,2,none⟩=false:=aj R2 2;have f3:W2.frozen? ⟨w.heap.size,3,none⟩=false:=aj R2 3;have f4:W2.frozen? ⟨w.heap.size,4,none⟩=false:=aj R2 4;have R3:Hid (iG (qh W2 w.heap.size (x1,x2,x3,x4,x5)) w.heap.size (x1,x2,x3,x4,x5)):=Hh (lY (y:=z5) R2 _);have B3:=iD (g:=w.heap.size) (x:=(x1,x2,x3,x4,x5)) C0 (ac _);clear C0 R2;go_simp;refine hK _ _ (Sc.Cl.of B3) ?_;have B4:=Hh B3;clear hK K d0 d1 d2 d3 d4 f0 f1 f2 f3 f4 B3;refine Sd.done ?_
      show Exit.then _ _ _ _ (qh W2 w.heap.size (x1,x2,x3,x4,x5))
      generalize qh W2 w.heap.size (x1,x2,x3,x4,x5)=wS at *;go_wp2
      (try simp only [Exit.inBlock,Exit.then])
      exact bo (v:=.tuple #[.int .i64 (k:Int),ent (x1,x2,x3,x4,x5)]) (jq (p:=5) (r:=4) rfl _ _ w.heap.size k _ rfl rfl R3) rfl (Y _ B4)
     ·have ST:=Hh (NO (PN hq))
      clear PY PN YES NO
      by_cases h1:x1=1
      ·have h2:(x2 == s)=false:=by simpa [h1] using hq
       have h1':(x1 == 1)=true:=by simpa using h1
       clear hq h1;go_wp2
       go_roundw
       case rel=>exact ⟨j+1,by omega,by go_num,rr,bw,ST⟩
       case measure=>simp [intOf];omega
      ·have h1':(x1 == 1)=false:=by simpa using h1
       clear hq h1;go_wp2
       go_roundw
       case rel=>exact ⟨j+1,by omega,by go_num,rr,bw,ST⟩
       case measure=>simp [intOf];omega
    ·obtain rfl:j=m:=by omega
     have ST:=Hh (mO (by rw [HL.out];exact hs.out) HK.out);clear hs;go_wp2
     go_roundw
     case rel=>exact ⟨k+1,by omega,by go_num,rr,bw,ST⟩
     case measure=>simp [intOf];omega
  ·obtain rfl:k=n:=by omega
   have d0:=Fl.rc rr 0;have d1:=Fl.rc rr 1;have d2:=Fl.rc rr 2;have d3:=Fl.rc rr 3;have d4:=Fl.rc rr 4;have f0:wr.frozen? ⟨w.heap.size,0,none⟩=false:=aj rr 0;have f1:wr.frozen? ⟨w.heap.size,1,none⟩=false:=aj rr 1;have f2:wr.frozen? ⟨w.heap.size,2,none⟩=false:=aj rr 2;have f3:wr.frozen? ⟨w.heap.size,3,none⟩=false:=aj rr 3;have f4:wr.frozen? ⟨w.heap.size,4,none⟩=false:=aj rr 4;have R3:Hid (iG (qh wr w.heap.size z5) w.heap.size z5):=Hh (lY (y:=z5) rr z5);have B3:=Hh (iD (g:=w.heap.size) (x:=z5) bw (ac _));have E:=Hh (HM _ hs B3);go_wp2
   (try simp only [Exit.inBlock,Exit.then])
   exact bo (v:=.tuple #[.int .i64 (-1),ent z5]) (jq (p:=5) (r:=4) rfl _ _ w.heap.size (-1) z5 rfl rfl R3) rfl E
end Ck
namespace Pa
open Go.Maps
open Ck (sN nZ)
open Fl (bA aS aI aJ dH)
open Ua (Es AO l6)
attribute [local irreducible] Sd.aW wpQuiet Sg.cK
variable {w w':World} {r g k:Nat}
theorem Rk {x:aP×Int} (H:US w r x) (n k:Int):Calls prog 68 #[.pointer (some ⟨r,0,none⟩),.int .i64 n,.int .i64 k] w (bV w (gV x.1 n k) (gB x.1 n k)):=wK H n k
structure MW (w:World) (g:Nat) (F:Nat->Bool) (wr:World):Prop where
 res:Row wr w.heap.size dz
 row:Row wr g F
 gt:w.heap.size < g
 aG:Below w.heap.size w wr
theorem MW.below {w wr wr':World} {g:Nat} {F:Nat->Bool} (h:MW w g F wr) (b:Below wr.heap.size wr wr'):MW w g F wr':=⟨h.res.below b h.res.lt,h.row.below b h.row.lt,h.gt,h.aG.trans (b.mono h.aG.size)⟩
theorem MW.set {wr:World} {F:Nat->Bool} (h:MW w g F wr) (G:Nat->Bool):MW w g G (wr.setRow g (arr G)):=⟨(setRow_other wr g _ _ (by have:=h.gt;omega)).trans h.res,h.row.row G,h.gt,below_setRow h.aG _ _ (by have:=h.gt;omega)⟩
theorem MW.to {w wr:World} {g:Nat} {F G:Nat->Bool} (h:MW w g F wr) (e:∀ i,i < 11->F i=G i):MW w g G wr:=⟨h.res,h.row.to e,h.gt,h.aG⟩
variable {S:bO} {T:LL} {V:List Bool} {P:List S2} {s:Int}
theorem acX (h:je S T V s=false) (b:Below w.heap.size w w'):iJ w (pq S T V s) (l5 S T V P s) (je S T V s) (.returned (.tuple #[.int .i64 (-1),.agg (arr dz),.bool false])) w':=by
 refine ⟨?_,b⟩;unfold pq l5;rw [h]
 rfl
theorem abO (h:je S T V s=true) (b:Below w.heap.size w w'):iJ w (pq S T V s) (l5 S T V P s) (je S T V s) (.returned (.tuple #[.int .i64 (sN s T),.agg (arr (sq P s (nS (Qf S T s) false) P.length)),.bool true])) w':=by
 refine ⟨?_,b⟩;unfold pq l5;rw [h]
 rfl
structure JQ (w:World) (g:Nat) (F:Nat->Bool) (W:World):Prop where
 row:Row W g F
 aG:Below w.heap.size w W
theorem IU {vs vt vl vp:Value} (H:Nr w vs vt vl S T V) (RP:Rd K2 w vp P) (s:Int):Calls prog 124 #[vs,vt,vl,vp,.int .i64 s] w (iJ w (pq S T V s) (l5 S T V P s) (je S T V s)):=by
 have SA:=Hh (fun W b=>nZ W vt T s (H.tb.below (w':=W) b));unfold eF at SA;have NO:=Hh (fun h w' b=>acX (S:=S) (T:=T) (V:=V) (P:=P) (s:=s) (w:=w) (w':=w') h b);have YES:=Hh (fun h w' b=>abO (S:=S) (T:=T) (V:=V) (P:=P) (s:=s) (w:=w) (w':=w') h b);have R0:Hid (Row (w.alloc (.cells #[.bool false,.bool false,.bool false,.bool false,.bool false,.bool false,.bool false,.bool false,.bool false,.bool false,.bool false] 222)) w.heap.size dz):=Hh (Row.new w dz);have B0:Hid (Below w.heap.size w (w.alloc (.cells #[.bool false,.bool false,.bool false,.bool false,.bool false,.bool false,.bool false,.bool false,.bool false,.bool false,.bool false] 222))):=Hh ((aa w.heap.size w).alloc (ac _) _);obtain ⟨sa,cs,rfl,_⟩:=H.st.slice;obtain ⟨al,cl,el,_⟩:=H.lv.slice;rw [H.ll] at el;subst el;obtain ⟨ap,cp,rfl,_,hmp,hAP⟩:=RP;have HAP:=Hh hAP;unfold maxLen at hmp;clear hAP;generalize hnp:P.length=np at *;have HNP:=Hh hnp;clear hnp
 by_cases h0:0<=sN s T
 ·obtain ⟨n,hn,hlt,hmem,oke,hk1,hk2⟩:=gL H.ok h0
  obtain ⟨f0,r0,y0⟩:=(bK oke).2.2;have hnS:n < S.length:=by rw [← H.lt];exact hlt
  have hnV:n < V.length:=by rw [H.ll];exact hnS
  obtain ⟨b,off,cap,sp,e1,cS,hS⟩:=H.st.one hnS;injection e1 with e1 _ e2;subst e1 e2;obtain ⟨bl,ol,el2,AL⟩:∃ bl ol,al=some ⟨bl,ol,none⟩/\At KB w bl ol V:=by
   obtain ⟨a',c',e',_,_,h3⟩:=H.lv;injection e' with q1 _ q2;subst q1;exact h3 (by omega)
  subst el2;have cV:=Mf AL hnV
  have SB:Hid (je S T V s=(bU V n && gB (sat S n).1 (sE s T).2.2.1 (sE s T).2.2.2.1)):=Hh (by
   unfold je
   rw [hn,bi (Int.natCast_nonneg n),Bool.true_and])
  have SX:Hid (Qf S T s=rb (gV (sat S n).1 (sE s T).2.2.1 (sE s T).2.2.2.1) (sE s T).2.2.2.2):=Hh (by
   unfold Qf
   rw [hn])
  have ev:V.getD n false=bU V n:=rfl;rw [ev] at cV;rw [hn] at YES SA;have BY:Hid (lD (Qf S T s)):=Hh (by rw [SX.out];exact ZM (ZT hS.Zf _ _) _);have SG:Hid (∀ W,Below w.heap.size w W->Calls prog 68 #[.pointer (some ⟨sp,0,none⟩),.int .i64 (sE s T).2.2.1,.int .i64 (sE s T).2.2.2.1] W (bV W (gV (sat S n).1 (sE s T).2.2.1 (sE s T).2.2.2.1) (gB (sat S n).1 (sE s T).2.2.1 (sE s T).2.2.2.1))):=Hh (fun W b=>Rk (hS.below b) _ _);clear hmem hS H h0 hk1 hk2 hlt oke hn;unfold bV at SG;generalize gV (sat S n).1 (sE s T).2.2.1 (sE s T).2.2.2.1=gv at *;generalize gB (sat S n).1 (sE s T).2.2.1 (sE s T).2.2.2.1=gb at *;unfold ent at SA;generalize Qf S T s=X at *;generalize sE s T=x at *;obtain ⟨q,s',f,r,y⟩:=x;simp only at y0 SX SA SG;obtain ⟨j,rfl⟩:∃ j:Nat,y=j:=⟨y.toNat,by omega⟩;have hj:j < 4:=by omega
  clear f0 r0 y0;generalize je S T V s=a3 at *;generalize pq S T V s=a1 at *;generalize l5 S T V P s=a2 at *;generalize S.length=N at *;have lS:b < w.heap.size:=bj _ _ cS;have lV:bl < w.heap.size:=bj _ _ cV;have CS:=Hh cS;have CV:=Hh cV;clear cS AL hnV
  go_enter func124,ntmps124
  go_wp2_with fail;generalize (w.alloc (.cells #[.bool false,.bool false,.bool false,.bool false,.bool false,.bool false,.bool false,.bool false,.bool false,.bool false,.bool false] 222))=W0 at *;refine (SA.out W0 B0.out).mono ?_;rintro e w1 ⟨rfl,b1⟩;have R1:=Hh (R0.out.below b1 R0.out.lt);have B1':=aR B0 b1;have R1':=Hh (R1.out.below ((aa w1.heap.size w1).alloc (ac _) (.cells #[.int .i64 q,.int .i64 s',.int .i64 f,.int .i64 r,.int .i64 (j:Int)] 170)) R1.out.lt);have X1:Hid ((w1.alloc (.cells #[.int .i64 q,.int .i64 s',.int .i64 f,.int .i64 r,.int .i64 (j:Int)] 170)).heap[w1.heap.size]? = some (.cells #[.int .i64 q,.int .i64 s',.int .i64 f,.int .i64 r,.int .i64 (j:Int)] 170 (0,0))):=Hh (bh w1 _);have B1:=Hh (B1'.alloc B1'.size (.cells #[.int .i64 q,.int .i64 s',.int .i64 f,.int .i64 r,.int .i64 (j:Int)] 170));have hg1:=R1.out.lt;go_upto_region 2 with fail;generalize (w1.alloc (.cells #[.int .i64 q,.int .i64 s',.int .i64 f,.int .i64 r,.int .i64 (j:Int)] 170))=W at *;clear b1 B1' SA R0 B0 R1;generalize w1.heap.size=g at *;have cV:=(B1.out.cell lV).trans CV.out
  cases hv:bU V n with
  | false =>
    rw [hv] at cV;have N2:=Hh (NO.out (by rw [SB.out,hv];rfl) (W.setRow w.heap.size (arr dz)) (below_setRow B1.out _ _ (ac _)));clear NO YES SB SX
    go_wp2_with ((with_reducible refine cB (o:=⟨none,_,_,_,_,_⟩) rfl _ _ rfl w.heap.size dz dz ?_ ?_ R1'.out ?_);(exact rfl);(exact rfl))
    (try simp only [Exit.inBlock,Exit.then])
    refine bo (jd rfl _ _ _ _ dz _ rfl rfl rfl (R1'.out.row dz)) rfl ?_;exact N2.out
  | true =>
    rw [hv] at cV;go_upto_region 4 with fail;have hgW:=bm X1.out;have cS:=Sd.aD ((B1.out.cell lS).trans CS.out);have x2:=Sd.aD (Fl.rc X1.out 2);have x3:=Sd.aD (Fl.rc X1.out 3);refine Sg.startP [(0,0),(0,1),(0,2),(0,3),(0,4),(0,5),(0,6),(0,7),(1,8),(0,9),(0,10),(0,11),(2,12),(1,13),(0,14)] [⟨12,15,#[.int .u8 0,.int .u8 0,.int .u8 0,.int .u8 0],42,none,none⟩] (by kernel_rfl) (by kernel_rfl) (by kernel_rfl) (by decide) (by decide) ?_ ?_ ?_
    ·simp
    ·intro f hf
     simp only [cj,cY,fX] at hf;subst hf;exact Sg.UW rfl rfl rfl fun ρ w=>by go_simp
    dsimp only [Sg.aM,List.getElem?_cons_succ,List.getElem?_cons_zero];have BW:=Hh ((aa W.heap.size W).drew);unfold ptr at cS
    repeat (refine Sg.lit (fun xs=>?_);simp only [Sg.fill,cy,br];quiet_step (fail);refine bk ?_)
    refine Sg.iX (fun xs w3 hb hc=>⟨by rfl,fun K hK=>?_⟩);have B3:=aR BW hb;clear hb hc BW;simp only [Sg.fill,cy,br];go_simp;refine (SG.out w3 (aR B1 B3)).mono ?_;rintro e4 w4 ⟨rfl,b4⟩;have B4:=aR B3 b4;refine hK _ _ (Sd.Cl.of B4.out) b4.size (fun _=>b4) ?_;clear hK K b4 B3 SG;unfold aH
    repeat (refine Sg.lit (fun xs=>?_);simp only [Sg.fill,cy,br];quiet_step (fail);refine bk ?_)
    refine Sg.nW (fun g7 w7 hb hc row n7 hH hL=>?_);have B7:=aR B4 hb;have R7:Hid (w7.heap[g7]? = some (.cells (aV z4) 42 (0,0))):=Hh row;clear hb hc row hH hL B4
    repeat (refine Sg.lit (fun xs=>?_);simp only [Sg.fill,br];quiet_step (fail);refine bk ?_)
    refine Sg.iX (fun xs w9 hb hc=>⟨by rfl,fun K hK=>?_⟩);have B9:=aR B7 hb;have R9:=iP hb R7.out;have d0:=Fl.rc R9 0;have d1:=Fl.rc R9 1;have d2:=Fl.rc R9 2;have d3:=Fl.rc R9 3;have f0:w9.frozen? ⟨g7,0,none⟩=false:=aj R9 0;have f1:w9.frozen? ⟨g7,1,none⟩=false:=aj R9 1;have f2:w9.frozen? ⟨g7,2,none⟩=false:=aj R9 2;have f3:w9.frozen? ⟨g7,3,none⟩=false:=aj R9 3;have RA:=aS R9 gv;have BA:=aJ (o:=0) (r:=gv) B9.out n7;have hsz:=dH w9 g7 0 gv;clear hb hc B7 R7 R9;simp only [Sg.fill,br];go_simp;refine hK _ _ (Sd.Cl.of BA) (by rw [← hsz];exact ac _) (fun h=>absurd rfl h) ?_;clear hK K d0 d1 d2 d3 f0 f1 f2 f3 hsz
    show Sg.cK _ _ _ _ _ _ _ _ _ _ _ (bA w9 g7 0 gv)
    have B10:=aR B1 BA;have X10:=Hh ((BA.block _ hgW).trans X1.out);have R10:=Hh RA;have F10:=Hh (R1'.out.below BA R1'.out.lt);clear BA RA cS x2 x3 B9 B1 X1 CS CV n7 R1' cV;generalize bA w9 g7 0 gv=wA at *
    repeat (refine Sg.lit (fun xs=>?_);simp only [Sg.fill,br];quiet_step (fail);refine bk ?_)
    refine Sg.done (fun wB hb hc=>?_);have BB:=aR B10 hb;have XB:=Hh (iP hb X10.out);have RB:=Hh (iP hb R10.out);have FB:=Hh (F10.out.below hb F10.out.lt);clear hb hc B10 X10 R10 F10
    cases hb:gb with
    | false =>
      have N2:=Hh (NO.out (by rw [SB.out,hv,hb];rfl) (wB.setRow w.heap.size (arr dz)) (below_setRow BB.out _ _ (ac _)));clear NO YES SB SX
      go_wp2_with ((with_reducible refine cB (o:=⟨none,_,_,_,_,_⟩) rfl _ _ rfl w.heap.size dz dz ?_ ?_ FB.out ?_);(exact rfl);(exact rfl))
      (try simp only [Exit.inBlock,Exit.then])
      refine bo (jd rfl _ _ _ _ dz _ rfl rfl rfl (FB.out.row dz)) rfl ?_;exact N2.out
    | true =>
      have N2:=Hh (YES.out (by rw [SB.out,hv,hb];rfl));clear NO YES SB;go_upto_region 7 with fail;have x4:=Fl.rc XB.out 4;have rj:wB.cell? ⟨g7,j,none⟩=some (.int .u8 X):=by rw [SX.out];exact (ah RB.out j).trans (MO gv hj)
      have PU:=Hh (Es wB X false BY.out.1 BY.out.2);clear SX XB RB cV ev;go_wp2_with fail;refine PU.out.mono ?_;rintro e w11 ⟨rfl,b11⟩
      have J0:Hid (MW w w11.heap.size (nS X false) (w11.alloc (.cells (arr (nS X false)) 222))):=Hh (by
       have r1:=FB.out.below b11 FB.out.lt;have b12:=aR BB b11
       exact ⟨r1.below ((aa w11.heap.size w11).alloc (ac _) _) r1.lt,Row.new w11 _,r1.lt,b12.alloc b12.size _⟩)
      clear b11 PU FB BB x4 rj
      go_wp2_with ((with_reducible refine dL (o:=⟨none,_,_,_,_,_⟩) rfl _ _ rfl (nS X false) ?_ ?_ ?_);(exact rfl);(exact rfl))
      generalize (w11.alloc (.cells (arr (nS X false)) 222))=W12 at *;generalize w11.heap.size=gf at *;clear hj BY
      go_loopw [18] (fun i wr=>∃ k:Nat,k<=np/\i = .int .i64 k/\Hid (MW w gf (sq P s (nS X false) k) wr)) (fun i _=>np - (intOf i).toNat)
      case atStart=>exact ⟨0,bt _,rfl,J0⟩
      case round =>
       obtain ⟨k,hk,rfl,I⟩:=hrel;clear J0
       by_cases hlt:k < np
       ·obtain ⟨b',off',rfl,A1⟩:=HAP.out (by omega)
        obtain ⟨c0,c1⟩:=at2 (A1.below I.out.aG) (i:=k) (by have:=HNP.out;omega);have Y:=Hh (Cj P s (nS X false) (j:=k) (by have:=HNP.out;omega));have NN:=Hh (Fj P s (nS X false) (j:=k) (by have:=HNP.out;omega));generalize pat P k=z at *;obtain ⟨z1,z2⟩:=z;simp only at c0 c1 Y NN;clear A1
        by_cases h1:z1=s
        ·have YY:=Hh (Y.out h1)
         clear Y NN;have d1:(z1 != s)=false:=by simpa using h1
         generalize hG:sq P s (nS X false) k=G at *;have hgt:=I.out.gt;go_upto_region 12 with fail;clear c0 d1;have C1:=Hh c1;have k0:=Sd.aD (I.out.row.cell 0 (by omega));have k1:=Sd.aD (I.out.row.cell 1 (by omega));have k2:=Sd.aD (I.out.row.cell 2 (by omega));have k3:=Sd.aD (I.out.row.cell 3 (by omega));have k4:=Sd.aD (I.out.row.cell 4 (by omega));have k5:=Sd.aD (I.out.row.cell 5 (by omega));have k6:=Sd.aD (I.out.row.cell 6 (by omega));have k7:=Sd.aD (I.out.row.cell 7 (by omega));have k8:=Sd.aD (I.out.row.cell 8 (by omega));have k9:=Sd.aD (I.out.row.cell 9 (by omega));have k10:=Sd.aD (I.out.row.cell 10 (by omega))
         replace c1:=Sd.aD c1
         refine Sg.startP [(0,0),(0,1),(0,2),(0,3),(0,4),(0,5),(1,6),(2,7),(1,8)] [⟨7,19,#[.bool false,.bool false,.bool false,.bool false,.bool false,.bool false,.bool false,.bool false,.bool false,.bool false,.bool false],222,none,none⟩] (by kernel_rfl) (by kernel_rfl) (by kernel_rfl) (by decide) (by decide) ?_ ?_ ?_
         ·simp
         ·intro f hf
          simp only [cj,cY,fX] at hf;subst hf;exact Sg.UW rfl rfl rfl fun ρ w=>by go_simp
         dsimp only [Sg.aM,List.getElem?_cons_succ,List.getElem?_cons_zero];have BW:=Hh ((aa wr.heap.size wr).drew)
         repeat (refine Sg.lit (fun xs=>?_);simp only [Sg.fill,cy,br];quiet_step (fail);refine bk ?_)
         clear k0 k1 k2 k3 k4 k5 k6 k7 k8 k9 k10 c1;refine Sg.iX (fun xs w3 hb hc=>⟨by rfl,fun K hK=>?_⟩);have B3:=aR BW hb;clear hb hc BW;simp only [Sg.fill,cy,br];go_simp;have TA:=AO w3 G z2;unfold arr at TA;refine TA.mono ?_;rintro e4 w4 ⟨rfl,b4⟩;have B4:=aR B3 b4;refine hK _ _ (Sd.Cl.of B4.out) b4.size (fun _=>b4) ?_;clear hK K b4 B3 TA;refine Sg.nW (fun g7 w7 hb hc row n7 hH hL=>?_);have B7:=aR B4 hb;have R7:Hid (Row w7 g7 dz):=Hh row;clear hb hc row hH hL B4;refine Sg.iX (fun xs w9 hb hc=>⟨by rfl,fun K hK=>?_⟩);have B9:=aR B7 hb;have R9:=Hh (R7.out.below hb R7.out.lt);clear hb hc B7 R7;simp only [Sg.fill,br];refine wp_store_row 222 _ _ rfl g7 (arr (Ua.turn G z2 11)) rfl rfl 222 _ R9.out (bR _) rfl (gK _) ?_;have RA:=R9.out.row (Ua.turn G z2 11);have BA:=below_setRow B9.out g7 (arr (Ua.turn G z2 11)) n7;refine hK _ _ (Sd.Cl.of BA) (by rw [size_setRow];exact ac _) (fun h=>absurd rfl h) ?_;have I9:=Hh (I.out.below BA);have hne:g7≠gf:=by have:=I.out.row.lt;omega
         have hge:w.heap.size<=g7:=cG I.out.aG.size n7;have hne2:g7≠w.heap.size:=by have:=I.out.res.lt;omega
         have R10:=Hh RA;clear hK K BA RA B9 R9 I n7 C1;generalize w9.setRow g7 (arr (Ua.turn G z2 11))=wA at *;refine Sg.done (fun wB hb hc=>?_);have IB:=Hh (I9.out.below hb);have RB:=Hh (R10.out.below hb R10.out.lt);clear hb hc I9 R10;have q0:=IB.out.row.cell 0 (by omega);have q1:=RB.out.cell 0 (by omega);have q2:=RB.out.frozen 0;have R2:=Hh ((RB.out.iZ 0 (by omega) (G 0)).to (fun i hi=>abC G z2 i hi));have I2:Hid (MW w gf G (wB.setCell ⟨g7,0,none⟩ (.bool (G 0)))):=Hh ⟨IB.out.res.far (by simpa using hne2.symm) _,IB.out.row.far (by simpa using hne.symm) _,IB.out.gt,IB.out.aG.setCell hge _⟩;go_upto_region 14 with fail;clear q0 q1 q2 RB IB;generalize (wB.setCell ⟨g7,0,none⟩ (.bool (G 0)))=W14 at *;have I3:=Hh (I2.out.set (tn G z2))
         go_wp2_with (first
          | ((with_reducible refine dI (o:=⟨some 79,_,_,_,_,_⟩) rfl _ rfl g7 (tn G z2) ?_ R2.out ?_);(exact rfl))
          | ((with_reducible refine cB (o:=⟨none,_,_,_,_,_⟩) rfl _ _ rfl gf (tn G z2) G ?_ ?_ I2.out.row ?_);(exact rfl);(exact rfl)))
         go_roundw
         case rel=>exact ⟨k+1,by omega,by go_num,by rw [YY.out];exact I3⟩
         case measure=>simp [intOf];omega
        ·have I2:Hid (MW w gf (sq P s (nS X false) (k+1)) wr):=Hh (by rw [NN.out h1];exact I.out)
         have d1:(z1 != s)=true:=by simpa using h1
         clear Y NN I;go_wp2
         go_roundw
         case rel=>exact ⟨k+1,by omega,by go_num,I2⟩
         case measure=>simp [intOf];omega
       ·obtain rfl:k=np:=by omega
        go_upto_region 15 with fail;clear hlt;generalize sq P s (nS X false) k=G at *;have hgt:=I.out.gt;have C0:JQ w gf G wr.drew:=⟨I.out.row,I.out.aG.trans ((aa wr.heap.size wr).drew.mono I.out.aG.size)⟩;have RS0:Row wr.drew w.heap.size dz:=I.out.res;have k0:=Sc.ay (C:=fun W=>JQ w gf G W) (a:=⟨gf,0,none⟩) (fun W' h=>h.row.cell 0 (by omega));have k1:=Sc.ay (C:=fun W=>JQ w gf G W) (a:=⟨gf,1,none⟩) (fun W' h=>h.row.cell 1 (by omega));have k2:=Sc.ay (C:=fun W=>JQ w gf G W) (a:=⟨gf,2,none⟩) (fun W' h=>h.row.cell 2 (by omega));have k3:=Sc.ay (C:=fun W=>JQ w gf G W) (a:=⟨gf,3,none⟩) (fun W' h=>h.row.cell 3 (by omega));have k4:=Sc.ay (C:=fun W=>JQ w gf G W) (a:=⟨gf,4,none⟩) (fun W' h=>h.row.cell 4 (by omega));have k5:=Sc.ay (C:=fun W=>JQ w gf G W) (a:=⟨gf,5,none⟩) (fun W' h=>h.row.cell 5 (by omega));have k6:=Sc.ay (C:=fun W=>JQ w gf G W) (a:=⟨gf,6,none⟩) (fun W' h=>h.row.cell 6 (by omega));have k7:=Sc.ay (C:=fun W=>JQ w gf G W) (a:=⟨gf,7,none⟩) (fun W' h=>h.row.cell 7 (by omega));have k8:=Sc.ay (C:=fun W=>JQ w gf G W) (a:=⟨gf,8,none⟩) (fun W' h=>h.row.cell 8 (by omega));have k9:=Sc.ay (C:=fun W=>JQ w gf G W) (a:=⟨gf,9,none⟩) (fun W' h=>h.row.cell 9 (by omega));have k10:=Sc.ay (C:=fun W=>JQ w gf G W) (a:=⟨gf,10,none⟩) (fun W' h=>h.row.cell 10 (by omega));have ne:Nonempty (Sc.In (fun W=>JQ w gf G W)):=⟨⟨_,C0⟩⟩;refine Sc.start (fun W=>JQ w gf G W) [(false,0),(false,1),(false,2),(true,3),(false,4)] (by kernel_rfl) (by kernel_rfl) (by kernel_rfl) C0 ?_;dsimp only [Sd.aM,List.getElem?_cons_succ,List.getElem?_cons_zero]
        repeat (refine Sd.lit ?_;quiet_step (fail);refine bk ?_)
        refine Sd.call (by rfl) (fun K hK=>?_);refine wp_store_row 222 _ _ rfl w.heap.size (arr G) rfl rfl 222 _ RS0 (bR G) rfl (gK G) ?_;have C1:JQ w gf G (wr.drew.setRow w.heap.size (arr G)):=⟨(setRow_other wr.drew w.heap.size gf _ (by omega)).trans C0.row,below_setRow C0.aG _ _ (ac _)⟩;refine hK _ _ (Sc.Cl.of C1) ?_;have R2:=Hh (RS0.row G);clear hK K k0 k1 k2 k3 k4 k5 k6 k7 k8 k9 k10 C0 I RS0;generalize wr.drew.setRow w.heap.size (arr G)=W9 at *;refine Sd.lit ?_
        quiet_step (fail)
        refine bk ?_;refine Sd.done ?_;have C2:=Hh C1;clear C1;go_wp2
        (try simp only [Exit.inBlock,Exit.then])
        refine bo (jd rfl _ _ _ _ G _ rfl rfl rfl R2.out) rfl ?_;exact N2.out _ C2.out.aG
 ·have SBF:je S T V s=false:=by unfold je;rw [ai h0];rfl
  have N2:=Hh (NO.out SBF);clear NO YES SBF H;generalize pq S T V s=a1 at *;generalize l5 S T V P s=a2 at *;generalize je S T V s=a3 at *;generalize sN s T=m at *;generalize sE s T=x at *;unfold ent at SA
  go_enter func124,ntmps124
  go_wp2_with fail;generalize (w.alloc (.cells #[.bool false,.bool false,.bool false,.bool false,.bool false,.bool false,.bool false,.bool false,.bool false,.bool false,.bool false] 222))=W0 at *;refine (SA.out W0 B0.out).mono ?_;rintro e w1 ⟨rfl,b1⟩;have B1':=aR B0 b1;have B1:=Hh (B1'.alloc B1'.size (.cells #[.int .i64 x.1,.int .i64 x.2.1,.int .i64 x.2.2.1,.int .i64 x.2.2.2.1,.int .i64 x.2.2.2.2] 170));have R1:=Hh ((R0.out.below b1 R0.out.lt).below ((aa w1.heap.size w1).alloc (ac _) (.cells #[.int .i64 x.1,.int .i64 x.2.1,.int .i64 x.2.2.1,.int .i64 x.2.2.2.1,.int .i64 x.2.2.2.2] 170)) (R0.out.below b1 R0.out.lt).lt);have hm0:m < 0:=by omega
  clear b1 SA B1'
  go_wp2_with ((with_reducible refine cB (o:=⟨none,_,_,_,_,_⟩) rfl _ _ rfl w.heap.size dz dz ?_ ?_ R1.out ?_);(exact rfl);(exact rfl))
  (try simp only [Exit.inBlock,Exit.then])
  refine bo (jd rfl _ _ _ _ dz _ rfl rfl rfl (R1.out.row dz)) rfl ?_;exact N2.out _ (below_setRow B1.out _ _ (ac _))
def kJ (b:Nat->Int) (q:Nat->Bool):Array Value:=#[.int .u8 (b 0),.int .u8 (b 1),.int .u8 (b 2),.int .u8 (b 3),.int .u8 (b 4),.int .u8 (b 5),.int .u8 (b 6),.int .u8 (b 7),.int .u8 (b 8),.int .u8 (b 9),.int .u8 (b 10),.int .u8 (b 11),.int .u8 (b 12),.int .u8 (b 13),.int .u8 (b 14),.int .u8 (b 15),.int .u8 (b 16),.bool (q 0),.bool (q 1),.bool (q 2),.bool (q 3),.bool (q 4),.bool (q 5),.bool (q 6),.bool (q 7),.bool (q 8),.bool (q 9),.bool (q 10),.bool (q 11),.bool (q 12),.bool (q 13),.bool (q 14),.bool (q 15),.bool (q 16)]
def updI (F:Nat->Int) (k:Nat) (x:Int) (i:Nat):Int:=if i=k then x else F i
def zI (_:Nat):Int:=0
theorem Me (h:k < 17):k=0\/k=1\/k=2\/k=3\/k=4\/k=5\/k=6\/k=7\/k=8\/k=9\/k=10\/k=11\/k=12\/k=13\/k=14\/k=15\/k=16:=by omega
theorem Wj (b:Nat->Int) (q:Nat->Bool):(kJ b q).size=34:=rfl
theorem Ym (b:Nat->Int) (q:Nat->Bool):(kJ b q).all (·.oneCell')=true:=by simp [kJ,Value.oneCell']
theorem ady (b:Nat->Int) (q:Nat->Bool) (h:k < 17):(kJ b q)[k]? = some (.int .u8 (b k)):=by
 rcases Me h with rfl | rfl | rfl | rfl | rfl | rfl | rfl | rfl | rfl | rfl | rfl | rfl | rfl | rfl | rfl | rfl | rfl <;> rfl
theorem ac7 (b:Nat->Int) (q:Nat->Bool) (h:k < 17):(kJ b q)[17+k]? = some (.bool (q k)):=by
 rcases Me h with rfl | rfl | rfl | rfl | rfl | rfl | rfl | rfl | rfl | rfl | rfl | rfl | rfl | rfl | rfl | rfl | rfl <;> rfl
theorem Rn (b:Nat->Int) (q:Nat->Bool) (h:k < 17) (x:Int):(kJ b q).setIfInBounds k (.int .u8 x)=kJ (updI b k x) q:=by
 rcases Me h with rfl | rfl | rfl | rfl | rfl | rfl | rfl | rfl | rfl | rfl | rfl | rfl | rfl | rfl | rfl | rfl | rfl <;> rfl
theorem Tj (b:Nat->Int) (q:Nat->Bool) (h:k < 17) (x:Bool):(kJ b q).setIfInBounds (17+k) (.bool x)=kJ b (upd q k x):=by
 rcases Me h with rfl | rfl | rfl | rfl | rfl | rfl | rfl | rfl | rfl | rfl | rfl | rfl | rfl | rfl | rfl | rfl | rfl <;> rfl
theorem QG {b b':Nat->Int} {q q':Nat->Bool} (hb:∀ i,i < 17->b i=b' i) (hq:∀ i,i < 17->q i=q' i):kJ b q=kJ b' q':=by
 unfold kJ;rw [hb 0 (by omega),hq 0 (by omega)];rw [hb 1 (by omega),hq 1 (by omega)];rw [hb 2 (by omega),hq 2 (by omega)];rw [hb 3 (by omega),hq 3 (by omega)];rw [hb 4 (by omega),hq 4 (by omega)];rw [hb 5 (by omega),hq 5 (by omega)];rw [hb 6 (by omega),hq 6 (by omega)];rw [hb 7 (by omega),hq 7 (by omega)];rw [hb 8 (by omega),hq 8 (by omega)];rw [hb 9 (by omega),hq 9 (by omega)];rw [hb 10 (by omega),hq 10 (by omega)];rw [hb 11 (by omega),hq 11 (by omega)];rw [hb 12 (by omega),hq 12 (by omega)];rw [hb 13 (by omega),hq 13 (by omega)];rw [hb 14 (by omega),hq 14 (by omega)];rw [hb 15 (by omega),hq 15 (by omega)];rw [hb 16 (by omega),hq 16 (by omega)]
def eH (w:World) (g:Nat) (b:Nat->Int) (q:Nat->Bool):Prop:=w.heap[g]? = some (.cells (kJ b q) 179 (0,0))
section
variable {w w':World} {g:Nat} {b b':Nat->Int} {q q':Nat->Bool}
theorem eH.lt (h:eH w g b q):g < w.heap.size:=bm h
theorem eH.new (w:World) (b:Nat->Int) (q:Nat->Bool):eH (w.alloc (.cells (kJ b q) 179)) w.heap.size b q:=bh w _
theorem eH.below {B:Nat} (h:eH w g b q) (hb:Below B w w') (hg:g < B):eH w' g b q:=(hb.block g hg).trans h
theorem eH.far (h:eH w g b q) {p:Addr} (hp:g≠p.block) (u:Value):eH (w.setCell p u) g b q:=(bp w p u g hp).trans h
theorem eH.row (h:eH w g b q) (b':Nat->Int) (q':Nat->Bool):eH (w.setRow g (kJ b' q')) g b' q':=setRow_heap w g _ _ _ _ h
theorem eH.to (h:eH w g b q) (hb:∀ i,i < 17->b i=b' i) (hq:∀ i,i < 17->q i=q' i):eH w g b' q':=by unfold eH at *;rw [h,QG hb hq]
theorem eH.cb (h:eH w g b q) (hk:k < 17):w.cell? ⟨g,k,none⟩=some (.int .u8 (b k)):=(ah h k).trans (ady b q hk)
theorem eH.cq (h:eH w g b q) (hk:k < 17):w.cell? ⟨g,17+k,none⟩=some (.bool (q k)):=(ah h (17+k)).trans (ac7 b q hk)
theorem eH.abW (h:eH w g b q) (hk:k < 17) (x:Int):eH (w.setCell ⟨g,k,none⟩ (.int .u8 x)) g (updI b k x) q:=by
 unfold eH at h ⊢;rw [Rw.heap_setCell_same h,Rn b q hk x]
theorem eH.adP (h:eH w g b q) (hk:k < 17) (x:Bool):eH (w.setCell ⟨g,17+k,none⟩ (.bool x)) g b (upd q k x):=by
 unfold eH at h ⊢;rw [Rw.heap_setCell_same h,Tj b q hk x]
end
theorem Et (b:Nat->Int) (q:Nat->Bool):(prog.info? 179).map (·.size)=some (kJ b q).size:=by rw [Wj];kernel_rfl
variable {ops:Array Oper} {rest:List Oper} {o:Oper} {a:Act} {Q:Exit->Act->World->Prop}
theorem Zw (hgd:o.guard=none) (x:Operand) (ho:o.op = .load 179 x)
 (g:Nat) (b:Nat->Int) (q:Nat->Bool) (hx:a.eval x = .pointer (some ⟨g,0,none⟩)) (hrow:eH w g b q) (h:wpList prog ops Q rest (a.put o.dst (.agg (kJ b q))) w):wpList prog ops Q (o :: rest) a w :=
 wpList_load_row hgd _ x ho g hx _ _ _ _ hrow underlying179 rfl (Et _ _) h
theorem xN (hgd:o.guard=none) (x y:Operand) (ho:o.op = .store 179 x y)
 (g:Nat) (b b':Nat->Int) (q q':Nat->Bool) (hx:a.eval x = .pointer (some ⟨g,0,none⟩)) (hy:a.eval y = .agg (kJ b q)) (hrow:eH w g b' q') (h:wpList prog ops Q rest (a.put o.dst undef) (w.setRow g (kJ b q))):wpList prog ops Q (o :: rest) a w :=
 wpList_store_row hgd _ x y ho g _ hx hy _ _ hrow (Et _ _) rfl (Ym _ _) h
theorem qU (hgd:o.guard=none) (x y:Operand) (ho:o.op = .store 179 x y)
 (b:Nat->Int) (q:Nat->Bool) (hx:a.eval x = .pointer (some ⟨w.heap.size,0,none⟩)) (hy:a.eval y = .agg (kJ b q)) (h:wpList prog ops Q rest (a.put o.dst undef) (w.alloc (.cells (kJ b q) 179))) :
 wpList prog ops Q (o :: rest) a (w.alloc (.cells #[.int .u8 0,.int .u8 0,.int .u8 0,.int .u8 0,.int .u8 0,.int .u8 0,.int .u8 0,.int .u8 0,.int .u8 0,.int .u8 0,.int .u8 0,.int .u8 0,.int .u8 0,.int .u8 0,.int .u8 0,.int .u8 0,.int .u8 0,.bool false,.bool false,.bool false,.bool false,.bool false,.bool false,.bool false,.bool false,.bool false,.bool false,.bool false,.bool false,.bool false,.bool false,.bool false,.bool false,.bool false] 179)) :=
 xN hgd x y ho _ b zI q dz hx hy (eH.new w zI dz) (by rw [World.setRow_alloc_new];exact h)
theorem JW {fn:Func} {p:Tmp} (h:fn.results=#[.cell p 179]) (tmps:Array Value) (w:World) (g:Nat) (b:Nat->Int) (q:Nat->Bool) (hp:tmps.getD p undef = .pointer (some ⟨g,0,none⟩)) (hrow:eH w g b q) :
 (results fn tmps).run prog w = .ok (.agg (kJ b q)) w:=results_cell_row h tmps w g _ _ _ _ hp hrow underlying179 rfl (Et _ _)
def hb (h:Hr) (k:Nat):Int:=(h k).getD 0
def hq (h:Hr) (k:Nat):Bool:=(h k).isSome
theorem ab9 (h:Hr) (k:Nat) (y:Int) (i:Nat):updI (hb h) k y i=hb (hput h k y) i:=by
 unfold updI hb hput
 by_cases e:i=k
 ·subst e;simp
 ·rw [aq e,aq (by omega)]
theorem abI (h:Hr) (k:Nat) (y:Int) (i:Nat):upd (hq h) k true i=hq (hput h k y) i:=by
 unfold upd hq hput
 by_cases e:i=k
 ·subst e;simp
 ·rw [aq e,aq (by omega)]
structure HI (w:World) (h:Hr) (wr:World):Prop where
 res:eH wr w.heap.size zI dz
 qC:eH wr (w.heap.size+1) (hb h) (hq h)
 aG:Below w.heap.size w wr
theorem HI.below {w wr wr':World} {h:Hr} (H:HI w h wr) (b:Below wr.heap.size wr wr'):HI w h wr':=⟨H.res.below b H.res.lt,H.qC.below b H.qC.lt,H.aG.trans (b.mono H.aG.size)⟩
theorem HI.put {wr:World} {h:Hr} (H:HI w h wr) (hk:k < 17) (y:Int):HI w (hput h k y) ((wr.setCell ⟨w.heap.size+1,k,none⟩ (.int .u8 y)).setCell ⟨w.heap.size+1,17+k,none⟩ (.bool true)) :=
 ⟨(H.res.far (by simp) _).far (by simp) _,((H.qC.abW hk y).adP hk true).to (fun i _=>ab9 h k y i) (fun i _=>abI h k y i),(H.aG.setCell (by simp) _).setCell (by simp) _⟩
theorem Ti (w:World):HI w (fun _=>none) ((w.alloc (.cells (kJ zI dz) 179)).alloc (.cells (kJ zI dz) 179)):=by
 have b1:=(aa w.heap.size w).alloc (ac _) (.cells (kJ zI dz) 179);have r:=eH.new (w.alloc (.cells (kJ zI dz) 179)) zI dz;have e:(w.alloc (.cells (kJ zI dz) 179)).heap.size=w.heap.size+1:=by simp
 rw [e] at r;exact ⟨(eH.new w zI dz).below ((aa _ _).alloc (ac _) _) (eH.new w zI dz).lt,r,b1.alloc b1.size _⟩
def wX (w:World) (h:Hr) (e:Ending) (w':World):Prop:=e = .returned (.agg (kJ (hb h) (hq h)))/\Below w.heap.size w w'
end Pa
namespace Pa
open Go.Maps
open Fs (dA dD dE qI lG FU lC)
attribute [local irreducible] Sd.aW wpQuiet
variable {n k gx gv j r0:Nat}
theorem Sq {P:Program} {t e:TypeId} (h:P.underlying t=some (.array n e)) (hs:∀ W,(sizeOf e).run P W = .ok 1 W) (g off k:Nat) (hk:k < n) (W:World):(Instr.indexAt t (.pointer (some ⟨g,off,none⟩)) (.int .i64 (k:Int))).run P W = .ok (.pointer (some ⟨g,off+k,none⟩)) W:=by
 have:(0:Int)<=(k:Int)/\(k:Int) < (n:Int):=⟨by omega,by omega⟩
 simp [Instr.indexAt,run_underlying h,Instr.sureAddr,asIntOf,hs,Addr.add,hk]
theorem abB (g k:Nat) (hk:k < 4) (W:World):(Instr.indexAt 42 (.pointer (some ⟨g,0,none⟩)) (.int .i64 (k:Int))).run prog W = .ok (.pointer (some ⟨g,k,none⟩)) W:=by
 have:=Sq underlying42 sizeOf5 g 0 k hk W
 rwa [cX] at this
theorem adR (g k:Nat) (hk:k < 17) (W:World):(Instr.indexAt 176 (.pointer (some ⟨g,0,none⟩)) (.int .i64 (k:Int))).run prog W = .ok (.pointer (some ⟨g,k,none⟩)) W:=by
 have:=Sq underlying176 sizeOf5 g 0 k hk W
 rwa [cX] at this
theorem ad9 (g k:Nat) (hk:k < 17) (W:World):(Instr.indexAt 177 (.pointer (some ⟨g,17,none⟩)) (.int .i64 (k:Int))).run prog W = .ok (.pointer (some ⟨g,17+k,none⟩)) W:=Sq underlying177 sizeOf4 g 17 k hk W
variable {t l:List E5} {f r d:Int}
theorem WO (hk:k < t.length) (h:mt f r (bF t k)=true):fD (t.take (k+1)) f r=fD (t.take k) f r ++ [bF t k]:=by rw [jW hk,jR,aw h]
theorem aaC (hk:k < t.length) (h:mt f r (bF t k)=false):fD (t.take (k+1)) f r=fD (t.take k) f r:=by rw [jW hk,jR,aq (by simp [h])]
theorem TH (h:Hr) (l:List E5) (x:E5) (v:R4):mix h (l ++ [x]) v=rs (mix h l v) x.2.2.2.2 ((h x.2.1).getD 0):=by unfold mix;rw [List.foldl_append];rfl
theorem Pt (h:Hr) (l:List E5) (x:E5):jE h (l ++ [x])=(jE h l && (h x.2.1).isSome):=by unfold jE;rw [List.all_append];simp
theorem Ep {h g:Hr} (ag:∀ s,(h s).isSome=true->(g s).getD 0=(h s).getD 0):∀ {l:List E5},jE h l=true->∀ v:R4,mix g l v=mix h l v
 | [],_,_=>rfl
 | x :: r,ha,v=>by
   unfold jE at ha;rw [List.all_cons,ce] at ha;rw [lU,lU,ag _ ha.1];exact Ep ag ha.2 _
structure RA (w:World) (r:Nat) (F:Nat->Prop) (x:aP×Int) (h g:Hr) (wr:World):Prop where
 rs:Rs wr r F x.1 x.2
 box:eH wr w.heap.size (hb g) (hq h)
 gt:w.heap.size < r
 aG:Below w.heap.size w wr
theorem RA.below {w wr wr':World} {r:Nat} {F:Nat->Prop} {x:aP×Int} {h g:Hr} (H:RA w r F x h g wr) (b:Below wr.heap.size wr wr'):RA w r F x h g wr':=⟨Fs.Rs.below H.rs b,H.box.below b H.box.lt,H.gt,H.aG.trans (b.mono H.aG.size)⟩
variable {w wr' w1:World} {F:Nat->Prop} {x x':aP×Int} {h g:Hr}
theorem RA.step {wr:World} {r:Nat} (H:RA w r F x h g wr) (rs:Rs wr' r F x'.1 x'.2) (o:Only (fun k=>k=r) wr wr'):RA w r F x' h g wr' :=
 ⟨rs,(o.block _ H.box.lt (by have:=H.gt;omega)).trans H.box,H.gt,H.aG.trans (o.below H.aG.size fun k e=>by have:=H.gt;omega)⟩
structure BI (w1:World) (gx gv:Nat) (x:E5) (v:R4) (wr:World):Prop where
 AB:wr.heap[gv]? = some (.cells (aV v) 42 (0,0))
 ge:w1.heap.size<=gv
 aG:Below w1.heap.size w1 wr
theorem BI.below {wr:World} {x:E5} {v:R4} (H:BI w1 gx gv x v wr) (b:Below wr.heap.size wr wr'):BI w1 gx gv x v wr':=⟨iP b H.AB,H.ge,H.aG.trans (b.mono H.aG.size)⟩
theorem BI.put {wr:World} {x:E5} {v:R4} (H:BI w1 gx gv x v wr) (hj:j < 4) (y:Int):BI w1 gx gv x (rs v j y) (wr.setCell ⟨gv,j,none⟩ (.int .u8 y)) :=
 ⟨by rw [Rw.heap_setCell_same H.AB,Ht v y hj],H.ge,H.aG.setCell (by exact H.ge) _⟩
def qM (w:World) (F:Nat->Prop) (x:aP×Int) (e:Ending) (w':World):Prop:=∃ r,e = .returned (ptr r)/\Rs w' r F x.1 x.2/\w.heap.size<=r/\Below w.heap.size w w'
variable {A:aP}
theorem XT {b:Bool} (e:(gB A f r && jE h l)=b):mh h l f r A=if b=true then sA A f r (mix h l (gV A f r)) else A:=by unfold mh;rw [e]
theorem Vx {r:Nat} (R:Rs w r F A d):dX A:=by obtain ⟨v,L,h,e⟩:=R;rw [← e];exact h.ok
theorem aa5 (hA:dX A) (f r:Int):bN (gV A f r):=by
 unfold gV
 split
 ·exact Fl.lZ
 ·rename_i e he
  split
  ·exact Fl.gN (hA.find he).2.2.1 _
  ·exact Fl.lZ
structure RbC (gy:Nat) (y:E5) (gb:Nat) (h g:Hr) (W:World):Prop where
 y:W.heap[gy]? = some (.cells #[.int .i64 y.1,.int .i64 y.2.1,.int .i64 y.2.2.1,.int .i64 y.2.2.2.1,.int .i64 y.2.2.2.2] 170 (0,0))
 box:eH W gb (hb g) (hq h)
structure ExC (b o:Nat) (f r:Int) (W:World):Prop where
 f:W.cell? ⟨b,o+2,none⟩=some (.int .i64 f)
 r:W.cell? ⟨b,o+3,none⟩=some (.int .i64 r)
variable {v:Value}
theorem IY (R:Rs w r0 F x.1 x.2) (hF:∀ k,F k->k < w.heap.size) (hd:0<=x.2/\x.2 < 900000) (RT:Rd K5 w v t) (ok:∀ y∈t,fH y) (hl:t.length<=100) (hh:QX h) (hg:QX g) (ag:∀ s,(h s).isSome=true->(g s).getD 0=(h s).getD 0) :
 Calls prog 95 #[.pointer (some ⟨r0,0,none⟩),v,.agg (kJ (hb g) (hq h))] w (qM w F (Mi h t x)):=by
 have B0:Hid (Below w.heap.size w (w.alloc (.cells (kJ (hb g) (hq h)) 179))):=Hh ((aa w.heap.size w).alloc (ac _) _);have Y0:Hid (eH (w.alloc (.cells (kJ (hb g) (hq h)) 179)) w.heap.size (hb g) (hq h)):=Hh (eH.new w _ _);have RC:=Hh (sJ (x:=x) (Fs.Rs.below R B0.out) (F:=F) (fun k hk=>cd (hF k hk) B0.out.size));have hA:=Hh (Vx R);have RT0:=Hh RT;have HFF:=Hh hF;obtain ⟨A,d⟩:=x;simp only at hd;obtain ⟨a,cap,rfl,_,hm,hA0⟩:=RT;have HA0:=Hh hA0;clear hA0;unfold maxLen at hm;clear R hF;generalize hn:t.length=n at *;have HN:=Hh hn;have OKT:=Hh ok;have HH:=Hh hh;have HGG:=Hh hg;have AG:=Hh ag;clear hn ok hh hg ag;unfold rM at RC;have hbx:=Y0.out.lt
 go_enter func95,ntmps95
 go_wp2_with fail;generalize (w.alloc (.cells (kJ (hb g) (hq h)) 179))=W0 at *;refine RC.out.mono ?_;rintro e w1 ⟨r,rfl,rs1,hr1,b1⟩;have I0:Hid (RA w r F (dN h t (seen t 0) A,d) h g w1):=Hh ⟨by rw [Qc];exact rs1,Y0.out.below b1 Y0.out.lt,by omega,B0.out.trans (b1.mono B0.out.size)⟩;have hwr:w.heap.size<=r:=by omega
 clear rs1 hr1 b1 RC Y0 B0 hbx;unfold ptr;go_wp2
 go_loopw [8] (fun i wr=>∃ k:Nat,k<=n/\i = .int .i64 k/\Hid (RA w r F (dN h t (seen t k) A,d) h g wr)) (fun i _=>n - (intOf i).toNat)
 case atStart=>exact ⟨0,bt _,rfl,I0⟩
 case round =>
  obtain ⟨k,hk,rfl,I⟩:=hrel;clear I0
  by_cases hlt:k < n
  ·obtain ⟨b,off,rfl,A1⟩:=HA0.out (by omega)
   obtain ⟨c0,c1,c2,c3,c4⟩:=rZ (A1.below I.out.aG) k (by have:=HN.out;omega);rw [show t.getD k z5=bF t k from rfl] at c0 c1 c2 c3 c4;have okx:=OKT.out _ (Ro.fV (l:=t) (i:=k) (by have:=HN.out;omega));have Y2:=Hh (fun h2 h0 hy=>Xw (h:=h) (t:=t) hA.out (j:=k) (by have:=HN.out;omega) h2 h0 hy);have N2:=Hh (abf (h:=h) (t:=t) (A:=A) (j:=k) (by have:=HN.out;omega));generalize hX:bF t k=x at *;obtain ⟨xk,xs,xf,xr,xy⟩:=x;simp only at c0 c1 c2 c3 c4 Y2 N2;have I1:=Hh (I.out.below ((aa wr.heap.size wr).alloc (ac _) (.cells #[.int .i64 xk,.int .i64 xs,.int .i64 xf,.int .i64 xr,.int .i64 xy] 170)));have X1:Hid ((wr.alloc (.cells #[.int .i64 xk,.int .i64 xs,.int .i64 xf,.int .i64 xr,.int .i64 xy] 170)).heap[wr.heap.size]? = some (.cells #[.int .i64 xk,.int .i64 xs,.int .i64 xf,.int .i64 xr,.int .i64 xy] 170 (0,0))):=Hh (bh wr _);clear I
   by_cases h2:xk=2
   ·subst h2
    have hr0:xr≠0:=by unfold fH Ro.place at okx;simp only at okx;omega
    have YY:=Hh (Y2.out rfl hr0 (aaj OKT.out xf xr));have HO:=Hh (Vx I1.out.rs);clear N2 Y2 hr0 okx;generalize hU:dN h t (seen t (k+1)) A=U' at *;have EUU:=Hh hU;clear hU;generalize dN h t (seen t k) A=U at *;have GG:=Hh (wK I1.out.rs xf xr);have GO:=Hh (aa5 HO.out xf xr);have RV:Hid (∀ b,(gB U xf xr && jE h (fD t xf xr))=b->mh h (fD t xf xr) xf xr U=if b=true then sA U xf xr (mix h (fD t xf xr) (gV U xf xr)) else U):=Hh (fun b e=>XT e);unfold bV aH at GG;simp only at GG;generalize gV U xf xr=v0 at *;generalize gB U xf xr=gb at *;go_upto_region 7 with fail;have x2:=Fl.rc X1.out 2;have x3:=Fl.rc X1.out 3;have hgx:=bm X1.out;generalize (wr.alloc (.cells #[.int .i64 2,.int .i64 xs,.int .i64 xf,.int .i64 xr,.int .i64 xy] 170))=W1 at *;generalize wr.heap.size=gx at *;clear c0 c1 c2 c3 c4;go_wp2_with fail;refine GG.out.mono ?_;rintro e w2 ⟨rfl,b2⟩;have I2:=Hh (I1.out.below b2);have X2:=Hh ((b2.block _ hgx).trans X1.out);have J0:Hid (BI w2 gx w2.heap.size (2,xs,xf,xr,xy) (mix g (fD (t.take 0) xf xr) v0) (w2.alloc (.cells #[.int .u8 v0.1,.int .u8 v0.2.1,.int .u8 v0.2.2.1,.int .u8 v0.2.2.2] 42))):=Hh ⟨bh w2 _,ac _,(aa w2.heap.size w2).alloc (ac _) _⟩;have hgx2:=bm X2.out;clear b2 GG I1 X1 x2 x3 hgx;go_wp2;generalize (w2.alloc (.cells #[.int .u8 v0.1,.int .u8 v0.2.1,.int .u8 v0.2.2.1,.int .u8 v0.2.2.2] 42))=W2 at *;generalize hgv:w2.heap.size=gv at *;have HGV:=Hh hgv;clear hgv;have E0:gb=(gb && jE h (fD (t.take 0) xf xr)):=by simp [fD,jE]
    have HE0:=Hh E0;clear E0
    rename World=>wz
    go_loopw [12,11] (fun i o wr3=>∃ m:Nat,m<=n/\i = .int .i64 m/\o = .bool (gb && jE h (fD (t.take m) xf xr))/\Hid (BI w2 gx gv (2,xs,xf,xr,xy) (mix g (fD (t.take m) xf xr) v0) wr3)) (fun i _ _=>n - (intOf i).toNat)
    case atStart=>exact ⟨0,bt _,rfl,c8 Value.bool HE0.out,J0⟩
    case round =>
     rename_i wy wr
     obtain ⟨m,hm1,rfl,rfl,J⟩:=hrel;clear J0 HE0
     by_cases hlt2:m < n
     ·have BJ:=Hh (I2.out.aG.trans (J.out.aG.mono I2.out.aG.size))
      obtain ⟨c0,c1,c2,c3,c4⟩:=rZ (A1.below BJ.out) m (by have:=HN.out;omega);rw [show t.getD m z5=bF t m from rfl] at c0 c1 c2 c3 c4;have oky:=OKT.out _ (Ro.fV (l:=t) (i:=m) (by have:=HN.out;omega));have GY:=Hh (fun hm=>WO (t:=t) (k:=m) (by have:=HN.out;omega) (f:=xf) (r:=xr) hm);have GN:=Hh (fun hm=>aaC (t:=t) (k:=m) (by have:=HN.out;omega) (f:=xf) (r:=xr) hm);generalize hY:bF t m=y at *;obtain ⟨yk,ys,yf,yr,yy⟩:=y;obtain ⟨_,⟨s0,s1⟩,_,_,⟨y0,y3⟩⟩:=bK oky;simp only at c0 c1 c2 c3 c4 s0 s1 y0 y3;have J1:=Hh (J.out.below ((aa wr.heap.size wr).alloc (ac _) (.cells #[.int .i64 yk,.int .i64 ys,.int .i64 yf,.int .i64 yr,.int .i64 yy] 170)));have YB:Hid ((wr.alloc (.cells #[.int .i64 yk,.int .i64 ys,.int .i64 yf,.int .i64 yr,.int .i64 yy] 170)).heap[wr.heap.size]? = some (.cells #[.int .i64 yk,.int .i64 ys,.int .i64 yf,.int .i64 yr,.int .i64 yy] 170 (0,0))):=Hh (bh wr _);have XB:=Hh ((J1.out.aG.block _ (by rw [HGV.out];exact hgx2)).trans X2.out);have xb2:=Fl.rc XB.out 2;have xb3:=Fl.rc XB.out 3;have hgv2:=bm J.out.AB;have J0s:=Hh (cd I2.out.box.lt J.out.aG.size);clear J oky BJ
      by_cases hM:(yk=2/\yf=xf)/\yr=xr
      ·obtain ⟨⟨rfl,rfl⟩,rfl⟩:=hM
       have GG:=Hh (GY.out (by simp [mt]));clear GY GN;obtain ⟨s,rfl⟩:∃ s:Nat,ys=s:=⟨ys.toNat,by omega⟩;obtain ⟨j,rfl⟩:∃ j:Nat,yy=j:=⟨yy.toNat,by omega⟩;have hs17:s < 17:=by omega
       have hj4:j < 4:=by omega
       have EO:Hid (∀ o,o=(gb && jE h (fD (t.take m) yf yr))->(o && hq h s)=(gb && jE h (fD (t.take (m+1)) yf yr))):=Hh (fun o e=>by rw [e,GG.out,Pt,Bool.and_assoc];rfl);have EM:Hid (rs (mix g (fD (t.take m) yf yr) v0) j (hb g s)=mix g (fD (t.take (m+1)) yf yr) v0):=Hh (by rw [GG.out,TH];rfl);generalize hO:(gb && jE h (fD (t.take m) yf yr))=o at *;generalize mix g (fD (t.take m) yf yr) v0=vv at *;have HO2:=Hh (EO.out o rfl);have BX:=Hh (I2.out.box.below J1.out.aG I2.out.box.lt);have hbl:=I2.out.box.lt;have bq:=BX.out.cq hs17;have iq:=ad9 w.heap.size s hs17;have hgy:=bm YB.out;have hbl2:w.heap.size < wr.heap.size:=by have:=J0s.out;omega
       clear EO
       cases o
       all_goals
        go_upto_region 14 with fail;clear bq iq c0 c1 c2 c3 c4 xb2 xb3;have C0:RbC wr.heap.size (2,s,yf,yr,j) w.heap.size h g (wr.alloc (.cells #[.int .i64 2,.int .i64 (s:Int),.int .i64 yf,.int .i64 yr,.int .i64 (j:Int)] 170)).drew:=⟨YB.out,BX.out⟩;have J3:=Hh (J1.out.below ((aa _ _).drew));have y1:=Sc.ay (C:=RbC wr.heap.size (2,s,yf,yr,j) w.heap.size h g) (a:=⟨wr.heap.size,1,none⟩) (fun W' h=>ah h.y 1);have y4:=Sc.ay (C:=RbC wr.heap.size (2,s,yf,yr,j) w.heap.size h g) (a:=⟨wr.heap.size,4,none⟩) (fun W' h=>ah h.y 4);have yb:=Sc.ay (C:=RbC wr.heap.size (2,s,yf,yr,j) w.heap.size h g) (a:=⟨w.heap.size,s,none⟩) (fun W' h=>h.box.cb hs17);have ib:=adR w.heap.size s hs17;have ir:=abB gv j hj4;have ne:Nonempty (Sc.In (RbC wr.heap.size (2,s,yf,yr,j) w.heap.size h g)):=⟨⟨_,C0⟩⟩;refine Sc.start (RbC wr.heap.size (2,s,yf,yr,j) w.heap.size h g) [(false,0),(false,1),(false,2),(false,3),(false,4),(false,5),(false,6),(false,7),(true,8)] (by kernel_rfl) (by kernel_rfl) (by kernel_rfl) C0 ?_;dsimp only [Sd.aM,List.getElem?_cons_succ,List.getElem?_cons_zero]
        repeat (refine Sd.lit ?_;quiet_step (fail);refine bk ?_)
        clear y1 y4 yb ib ir;have hgvb:w.heap.size≠gv:=by have:=I2.out.box.lt;have:=HGV.out;omega
        have hgvy:wr.heap.size≠gv:=by omega
        generalize (wr.alloc (.cells #[.int .i64 2,.int .i64 (s:Int),.int .i64 yf,.int .i64 yr,.int .i64 (j:Int)] 170)).drew=Wd at *;have sc:=(ah J3.out.AB j).trans (Ew vv hj4);have sf:=aj J3.out.AB j;have J4:=Hh (J3.out.put hj4 (hb g s));rw [EM.out] at J4;have C1:RbC wr.heap.size (2,s,yf,yr,j) w.heap.size h g (Wd.setCell ⟨gv,j,none⟩ (.int .u8 (hb g s))):=⟨(bp _ _ _ _ (by exact hgvy)).trans C0.y,C0.box.far (by exact hgvb) _⟩;refine Sd.call (by rfl) (fun K hK=>?_);go_simp;refine hK _ _ (Sc.Cl.of C1) ?_;clear hK K sc sf C0 C1 J3 J1 YB XB BX;refine Sd.done ?_;go_wp2
        go_roundw
        case rel=>exact ⟨m+1,by omega,by go_num,by rw [← HO2.out];rfl,J4⟩
        case measure=>simp [intOf];omega
      ·have GG:=Hh (GN.out (by
        unfold mt;rw [ai];rintro ⟨q1,q2,q3⟩
        exact hM ⟨⟨q1,q2⟩,q3⟩))
       have J2:Hid (BI w2 gx gv (2,xs,xf,xr,xy) (mix g (fD (t.take (m+1)) xf xr) v0) (wr.alloc (.cells #[.int .i64 yk,.int .i64 ys,.int .i64 yf,.int .i64 yr,.int .i64 yy] 170))):=Hh (by rw [GG.out];exact J1.out);have EO:Hid ((gb && jE h (fD (t.take m) xf xr))=(gb && jE h (fD (t.take (m+1)) xf xr))):=Hh (by rw [GG.out]);clear GY GN J1 GG;generalize hO:(gb && jE h (fD (t.take m) xf xr))=o at *
       by_cases q1:yk=2
       ·by_cases q2:yf=xf
        ·have q3:yr≠xr:=fun e=>hM ⟨⟨q1,q2⟩,e⟩
         clear hM;subst q1;subst q2;have d3:(yr == xr)=false:=by simpa using q3
         go_wp2
         go_roundw
         case rel=>exact ⟨m+1,by omega,by go_num,by rw [EO.out],J2⟩
         case measure=>simp [intOf];omega
        ·clear hM
         subst q1;have d2:(yf == xf)=false:=by simpa using q2
         go_wp2
         go_roundw
         case rel=>exact ⟨m+1,by omega,by go_num,by rw [EO.out],J2⟩
         case measure=>simp [intOf];omega
       ·clear hM
        have d1:(yk == 2)=false:=by simpa using q1
        go_wp2
        go_roundw
        case rel=>exact ⟨m+1,by omega,by go_num,by rw [EO.out],J2⟩
        case measure=>simp [intOf];omega
     ·have hmn:m=n:=by omega
      have TK:t.take m=t:=by rw [hmn,← HN.out,cU]
      rw [TK] at J;have OE:Hid (∀ o,(gb && jE h (fD (t.take m) xf xr))=o->(gb && jE h (fD t xf xr))=o):=Hh (fun o e=>by rw [TK] at e;exact e);generalize hO:(gb && jE h (fD (t.take m) xf xr))=o at *;have RVo:=Hh (RV.out o (OE.out o rfl));rw [YY.out] at RVo;have I3:=Hh (I2.out.below J.out.aG);have AL:Hid (o=true->mix g (fD t xf xr) v0=mix h (fD t xf xr) v0):=Hh (fun q=>Ep AG.out (by have:=OE.out o rfl;rw [q,ce] at this;exact this.2) v0);clear RV YY TK OE hO I2 hmn
      cases o with
      | true =>
        have EU:Hid (U'=sA U xf xr (mix g (fD t xf xr) v0)):=Hh (by rw [AL.out rfl,RVo.out];rfl);have ST:=Hh (qI I3.out.rs (fun k hk=>cd (HFF.out k hk) I3.out.aG.size) xf xr (mix g (fD t xf xr) v0) (Dm HGG.out _ GO.out));have XB:=Hh ((J.out.aG.block _ (by rw [HGV.out];exact hgx2)).trans X2.out)
        rename World=>wr
        have xb2:=Fl.rc XB.out 2;have xb3:=Fl.rc XB.out 3;have q0:=ah J.out.AB 0;have q1:=ah J.out.AB 1;have q2:=ah J.out.AB 2;have q3:=ah J.out.AB 3;unfold aV at q0 q1 q2 q3;unfold lG aH at ST;simp only at ST;clear RVo GO XB J AL;generalize mix g (fD t xf xr) v0=vv at *;go_wp2_with fail;refine ST.out.mono ?_;rintro e w9 ⟨rfl,rs9,o9⟩;have I4:=Hh (I3.out.step (x':=(U',d)) (by simp only;rw [EU.out];exact rs9) o9);clear rs9 o9 ST I3;go_wp2
        go_roundw
        case rel=>exact ⟨k+1,by omega,by go_num,by rw [EUU.out];exact I4⟩
        case measure=>simp [intOf];omega
      | false =>
        have EU:Hid (U'=U):=Hh (by rw [RVo.out];rfl);have I4:Hid (RA w r F (U',d) h g _):=Hh (by rw [EU.out];exact I3.out);clear RVo GO J I3 AL;go_wp2
        go_roundw
        case rel=>exact ⟨k+1,by omega,by go_num,by rw [EUU.out];exact I4⟩
        case measure=>simp [intOf];omega
   ·have d2:(xk != 2)=true:=by simpa using h2
    have I2:Hid (RA w r F (dN h t (seen t (k+1)) A,d) h g (wr.alloc (.cells #[.int .i64 xk,.int .i64 xs,.int .i64 xf,.int .i64 xr,.int .i64 xy] 170))):=Hh (by rw [← N2.out h2];exact I1.out);clear N2 Y2 I1 X1 okx;go_wp2
    go_roundw
    case rel=>exact ⟨k+1,by omega,by go_num,I2⟩
    case measure=>simp [intOf];omega
  ·have hkn:k=n:=by omega
   have IE:Hid (RA w r F (exU t (nG h t A,d) 0) h g wr):=Hh (by
    have h1:=I.out;rw [hkn,← HN.out,YL] at h1
    exact h1)
   have XD:=Hh (fun k=>Fy (t:=t) (nG h t A,d) k);have XE:=Hh (wL (t:=t) h (A,d));have XY:=Hh (fun k hk h3=>KV (t:=t) (nG h t A,d) (j:=k) hk h3);have XN:=Hh (fun k hk h3=>UI (t:=t) (nG h t A,d) (j:=k) hk h3);clear I;generalize nG h t A=RR at *;go_wp2;clear hkn hlt hk;generalize (k:Int)=kk at *
   rename World=>wA
   go_loopw [14] (fun i wr2=>∃ k:Nat,k<=n/\i = .int .i64 k/\Hid (RA w r F (exU t (RR,d) k) h g wr2)) (fun i _=>n - (intOf i).toNat)
   case atStart=>exact ⟨0,bt _,rfl,IE⟩
   case round =>
    obtain ⟨k,hk,rfl,I⟩:=hrel;clear IE
    by_cases hlt:k < n
    ·obtain ⟨b,off,rfl,A1⟩:=HA0.out (by omega)
     obtain ⟨i0,i1,i2,i3,i4⟩:=rZ A1 k (by have:=HN.out;omega);rw [show t.getD k z5=bF t k from rfl] at i0 i1 i2 i3 i4;have lb:b < w.heap.size:=bj _ _ i0;have Y3:=Hh (XY.out k (by have:=HN.out;omega));have N3:=Hh (XN.out k (by have:=HN.out;omega));have DD:=XD.out k;generalize bF t k=x at *;obtain ⟨q,s',f',r',y⟩:=x;simp only at i0 i1 i2 i3 i4 Y3 N3;have c0:=(I.out.aG.cell lb).trans i0;have I2':=Hh i2;have I3':=Hh i3;clear A1 i0 i1 i2 i3 i4
     rename World=>wr
     by_cases h3:q=3
     ·subst h3
      have Y4:=Hh (Y3.out rfl);have hdd:0<=(exU t (RR,d) k).2/\(exU t (RR,d) k).2 < 1000000:=by have:=HN.out;omega
      clear Y3 N3 DD;go_upto_region 21 with fail;have C0:ExC b (off+k * 5) f' r' wr.drew:=⟨(I.out.aG.cell lb).trans I2'.out,(I.out.aG.cell lb).trans I3'.out⟩;have ID:=Hh (I.out.below ((aa wr.heap.size wr).drew));have DO:=Hh (FU ID.out.rs (fun k hk=>cd (HFF.out k hk) ID.out.aG.size) hdd 2 f' r' z4 Fl.lZ);unfold lC Ad.addr aH z4 at DO;have y2:=Sc.ay (C:=ExC b (off+k * 5) f' r') (a:=⟨b,off+k * 5+2,none⟩) (fun W' h=>h.f);have y3:=Sc.ay (C:=ExC b (off+k * 5) f' r') (a:=⟨b,off+k * 5+3,none⟩) (fun W' h=>h.r);have ne:Nonempty (Sc.In (ExC b (off+k * 5) f' r')):=⟨⟨_,C0⟩⟩;refine Sc.start (ExC b (off+k * 5) f' r') [(false,0),(false,1),(false,2),(false,3),(false,4),(false,5),(false,6),(false,7),(false,8),(false,9),(false,10),(false,11),(false,12),(true,13)] (by kernel_rfl) (by kernel_rfl) (by kernel_rfl) C0 ?_;dsimp only [Sd.aM,List.getElem?_cons_succ,List.getElem?_cons_zero]
      repeat (refine Sd.lit ?_;quiet_step (fail);refine bk ?_)
      clear y2 y3;generalize wr.drew=Wd at *;refine Sd.call (by rfl) (fun K hK=>?_);go_simp;refine DO.out.mono ?_;rintro e w9 ⟨rfl,rs9,o9⟩;have I9:=Hh (ID.out.step (x':=exU t (RR,d) (k+1)) (by rw [Y4.out];exact rs9) o9);have hne:¬ b=r:=by omega
      refine hK _ _ (Sc.Cl.of ⟨o9.cell C0.f hne,o9.cell C0.r hne⟩) ?_;clear hK K rs9 o9 DO C0 ID;refine Sd.done ?_;go_wp2
      go_roundw
      case rel=>exact ⟨k+1,by omega,by go_num,I9⟩
      case measure=>simp [intOf];omega
     ·have d3:(q == 3)=false:=by simpa using h3
      have N4:=Hh (N3.out h3);have I9:Hid (RA w r F (exU t (RR,d) (k+1)) h g wr):=Hh (by rw [N4.out];exact I.out);clear Y3 N3 DD N4 I;go_wp2
      go_roundw
      case rel=>exact ⟨k+1,by omega,by go_num,I9⟩
      case measure=>simp [intOf];omega
    ·obtain rfl:k=n:=by omega
     rename World=>wr
     have RES:Hid (qM w F (Mi h t (A,d)) (.returned (ptr r)) wr):=Hh ⟨r,rfl,by have h1:=I.out.rs;rw [← HN.out] at h1;rw [← XE.out];exact h1,hwr,I.out.aG⟩;go_wp2
     go_ret
     exact RES.out
theorem yg (R:Rs w r0 F x.1 x.2) (hF:∀ k,F k->k < w.heap.size) (hd:0<=x.2/\x.2 < 900000) (RT:Rd K5 w v t) (ok:∀ y∈t,fH y) (hl:t.length<=100) (hh:QX h) :
 Calls prog 95 #[.pointer (some ⟨r0,0,none⟩),v,.agg (kJ (hb h) (hq h))] w (qM w F (Mi h t x)):=IY R hF hd RT ok hl hh hh fun _ _=>rfl
open Ck (sN)
attribute [local irreducible] Sg.cK
theorem abJ:prog.built 179 []=some (kJ zI dz):=by kernel_rfl
theorem RQ (W:World):(Instr.build 179 #[]).run prog W = .ok (.agg (kJ zI dz)) W:=run_build W _ _ _ abJ
theorem abq {wr:World} (H:HI w h wr) (h0:∀ i,h i=none):HI w h (wr.setRow (w.heap.size+1) (kJ zI dz)) :=
 ⟨(setRow_other wr _ _ _ (by omega)).trans H.res,(H.qC.row zI dz).to (fun i _=>by unfold hb zI;rw [h0];rfl) (fun i _=>by unfold hq dz;rw [h0];rfl),below_setRow H.aG _ _ (by omega)⟩
theorem ze {vs vt vl vp:Value} {S:bO} {T:LL} {V:List Bool} {P:List S2} (H:Nr w vs vt vl S T V) (RP:Rd K2 w vp P):Calls prog 94 #[vs,vt,vl,vp] w (wX w (hr S T V P)):=by
 have FA:=Hh (fun W b s=>IU (H.below (w':=W) b) (RP.below b) s);have I0:Hid (HI w (Aw S T V P 1) ((w.alloc (.cells (kJ zI dz) 179)).alloc (.cells (kJ zI dz) 179))):=Hh (by rw [Db];exact Ti w);have EE:Hid (Aw S T V P 17=hr S T V P):=Hh KU;unfold iJ at FA;clear H RP;have hz:=RQ;have R9:Hid (eH ((w.alloc (.cells #[.int .u8 0,.int .u8 0,.int .u8 0,.int .u8 0,.int .u8 0,.int .u8 0,.int .u8 0,.int .u8 0,.int .u8 0,.int .u8 0,.int .u8 0,.int .u8 0,.int .u8 0,.int .u8 0,.int .u8 0,.int .u8 0,.int .u8 0,.bool false,.bool false,.bool false,.bool false,.bool false,.bool false,.bool false,.bool false,.bool false,.bool false,.bool false,.bool false,.bool false,.bool false,.bool false,.bool false,.bool false] 179)).alloc (.cells #[.int .u8 0,.int .u8 0,.int .u8 0,.int .u8 0,.int .u8 0,.int .u8 0,.int .u8 0,.int .u8 0,.int .u8 0,.int .u8 0,.int .u8 0,.int .u8 0,.int .u8 0,.int .u8 0,.int .u8 0,.int .u8 0,.int .u8 0,.bool false,.bool false,.bool false,.bool false,.bool false,.bool false,.bool false,.bool false,.bool false,.bool false,.bool false,.bool false,.bool false,.bool false,.bool false,.bool false,.bool false] 179)) (w.heap.size+1) zI dz):=Hh (Ti w).qC;have I1:Hid (HI w (Aw S T V P 1) (((w.alloc (.cells #[.int .u8 0,.int .u8 0,.int .u8 0,.int .u8 0,.int .u8 0,.int .u8 0,.int .u8 0,.int .u8 0,.int .u8 0,.int .u8 0,.int .u8 0,.int .u8 0,.int .u8 0,.int .u8 0,.int .u8 0,.int .u8 0,.int .u8 0,.bool false,.bool false,.bool false,.bool false,.bool false,.bool false,.bool false,.bool false,.bool false,.bool false,.bool false,.bool false,.bool false,.bool false,.bool false,.bool false,.bool false] 179)).alloc (.cells #[.int .u8 0,.int .u8 0,.int .u8 0,.int .u8 0,.int .u8 0,.int .u8 0,.int .u8 0,.int .u8 0,.int .u8 0,.int .u8 0,.int .u8 0,.int .u8 0,.int .u8 0,.int .u8 0,.int .u8 0,.int .u8 0,.int .u8 0,.bool false,.bool false,.bool false,.bool false,.bool false,.bool false,.bool false,.bool false,.bool false,.bool false,.bool false,.bool false,.bool false,.bool false,.bool false,.bool false,.bool false] 179)).setRow (w.heap.size+1) (kJ zI dz))):=Hh (abq I0.out (fun i=>by rw [Db]));clear I0
 go_enter func94,ntmps94
 go_wp2_with ((with_reducible refine xN (o:=⟨none,_,_,_,_,_⟩) rfl _ _ rfl (w.heap.size+1) zI zI dz dz ?_ ?_ R9.out ?_);(exact rfl);(exact rfl))
 clear hz R9;generalize ((w.alloc (.cells #[.int .u8 0,.int .u8 0,.int .u8 0,.int .u8 0,.int .u8 0,.int .u8 0,.int .u8 0,.int .u8 0,.int .u8 0,.int .u8 0,.int .u8 0,.int .u8 0,.int .u8 0,.int .u8 0,.int .u8 0,.int .u8 0,.int .u8 0,.bool false,.bool false,.bool false,.bool false,.bool false,.bool false,.bool false,.bool false,.bool false,.bool false,.bool false,.bool false,.bool false,.bool false,.bool false,.bool false,.bool false] 179)).alloc (.cells #[.int .u8 0,.int .u8 0,.int .u8 0,.int .u8 0,.int .u8 0,.int .u8 0,.int .u8 0,.int .u8 0,.int .u8 0,.int .u8 0,.int .u8 0,.int .u8 0,.int .u8 0,.int .u8 0,.int .u8 0,.int .u8 0,.int .u8 0,.bool false,.bool false,.bool false,.bool false,.bool false,.bool false,.bool false,.bool false,.bool false,.bool false,.bool false,.bool false,.bool false,.bool false,.bool false,.bool false,.bool false] 179)).setRow (w.heap.size+1) (kJ zI dz)=W0 at *
 go_loopw [10] (fun i wr=>∃ k:Nat,1<=k/\k<=17/\i = .int .i64 k/\Hid (HI w (Aw S T V P k) wr)) (fun i _=>17 - (intOf i).toNat)
 case atStart=>exact ⟨1,by omega,by omega,rfl,I1⟩
 case round =>
  obtain ⟨k,hk1,hk,rfl,I⟩:=hrel;clear I1
  by_cases hlt:k < 17
  ·have FK:=Hh (FA.out wr I.out.aG (k:Int))
   have YY:=Hh (fun h=>Kt (S:=S) (T:=T) (V:=V) (P:=P) (k:=k) hk1 h);have NN:=Hh (fun h=>VR (S:=S) (T:=T) (V:=V) (P:=P) (k:=k) h);have HB:Hid (vX S T V P k=(je S T V k && decide (te (l5 S T V P k)=0) && !tp (l5 S T V P k))):=Hh rfl;have HV:Hid (vX S T V P k=true->DX S T V P k=tb (l5 S T V P k)):=Hh (fun h=>by unfold DX;rw [aw h]);generalize hH:Aw S T V P (k+1)=h' at *;have EH:=Hh hH;clear hH;generalize Aw S T V P k=h at *;generalize vX S T V P (k:Int)=hbk at *;generalize DX S T V P (k:Int)=hvk at *;generalize l5 S T V P (k:Int)=F at *;generalize pq S T V (k:Int)=m at *;generalize je S T V (k:Int)=ok at *;go_wp2_with fail;refine FK.out.mono ?_;rintro e w1 ⟨rfl,b1⟩;have I2:=Hh ((I.out.below b1).below ((aa w1.heap.size w1).alloc (ac _) (.cells (arr F) 222)));have R2:=Hh (Row.new w1 F);have TA:=Hh (jN (w1.alloc (.cells (arr F) 222)) F);clear b1 FK I
   go_wp2_with (first
    | ((with_reducible refine dL (o:=⟨none,_,_,_,_,_⟩) rfl _ _ rfl F ?_ ?_ ?_);(exact rfl);(exact rfl))
    | ((with_reducible refine dI (o:=⟨some 33,_,_,_,_,_⟩) rfl _ rfl w1.heap.size F ?_ R2.out ?_);(exact rfl)))
   refine TA.out.mono ?_;rintro e w3 ⟨rfl,b3⟩;have I3:=Hh (I2.out.below b3);clear b3 TA I2 R2;generalize tb F=y at *;generalize tp F=p at *
   by_cases hall:(ok=true/\p=false)/\te F=0
   ·obtain ⟨⟨rfl,rfl⟩,he⟩:=hall
    have hT:hbk=true:=by rw [HB.out,bi he];rfl
    have EQ:=Hh (YY.out hT);rw [HV.out hT] at EQ;have I4:=Hh (I3.out.put hlt y);rw [EQ.out] at I4;have q0:=I3.out.qC.cb hlt;have q1:=((I3.out.qC.abW hlt y)).cq hlt;have r0:=aj I3.out.qC k;have r1:=aj (I3.out.qC.abW hlt y) (17+k);clear YY NN HB HV EQ hT I3;generalize te F=z at *;subst he;go_wp2
    go_roundw
    case rel=>exact ⟨k+1,by omega,by omega,by go_num,by rw [EH.out];exact I4⟩
    case measure=>simp [intOf];omega
   ·have hT:hbk=false:=by
     rw [HB.out]
     cases ok <;> cases p <;> simp at hall ⊢
     exact hall
    have EQ:=Hh (NN.out hT);have I4:=Hh I3.out;rw [EQ.out] at I4;clear YY NN HB HV EQ hT I3;generalize te F=z at *
    cases ok with
    | false =>
      clear hall;go_wp2
      go_roundw
      case rel=>exact ⟨k+1,by omega,by omega,by go_num,by rw [EH.out];exact I4⟩
      case measure=>simp [intOf];omega
    | true =>
      cases p with
      | true =>
        clear hall;go_wp2
        go_roundw
        case rel=>exact ⟨k+1,by omega,by omega,by go_num,by rw [EH.out];exact I4⟩
        case measure=>simp [intOf];omega
      | false =>
        have d0:(z == 0)=false:=by simpa using hall
        clear hall;go_wp2
        go_roundw
        case rel=>exact ⟨k+1,by omega,by omega,by go_num,by rw [EH.out];exact I4⟩
        case measure=>simp [intOf];omega
  ·obtain rfl:k=17:=by omega
   rw [EE.out] at I;have RES:Hid (wX w (hr S T V P) (.returned (.agg (kJ (hb (hr S T V P)) (hq (hr S T V P))))) (wr.setRow w.heap.size (kJ (hb (hr S T V P)) (hq (hr S T V P))))):=Hh ⟨rfl,below_setRow I.out.aG _ _ (ac _)⟩;have RR:=Hh (I.out.res.row (hb (hr S T V P)) (hq (hr S T V P)));generalize hr S T V P=h at *
   go_wp2_with (first
    | ((with_reducible refine Zw (o:=⟨some 54,_,_,_,_,_⟩) rfl _ rfl (w.heap.size+1) (hb h) (hq h) ?_ I.out.qC ?_);(exact rfl))
    | ((with_reducible refine xN (o:=⟨none,_,_,_,_,_⟩) rfl _ _ rfl w.heap.size (hb h) zI (hq h) dz ?_ ?_ I.out.res ?_);(exact rfl);(exact rfl)))
   (try simp only [Exit.inBlock,Exit.then])
   refine bo (JW rfl _ _ w.heap.size (hb h) (hq h) rfl RR.out) rfl ?_;exact RES.out
end Pa
