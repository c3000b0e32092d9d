import Derived.Test.YtdbdacceecnpmaaGreatDoorQa11
import Derived.ProofKit
import Derived.OpenShut
import Derived.Test.YtdbdacceecnpmaaGreatDoorRows
import Derived.LaidMore
import Derived.Stop.Joined
set_option maxRecDepth 100000
set_option maxHeartbeats 32000000
namespace Go.Proofs.YtdbdacceecnpmaaGreatDoor
open Go.Proofs.Tryz
open Ck (Hd KS sl zh)
open Cu (Ac BO BU CH CJ Cs Iy KP Nn Qz bO bP eX gG jB jD jS lJ nL newC newE oV pU vL xA)
open Fl (K4 R4 aG aL ah aj bH dG hdr newL newP rat z4)
open Fs (E3 Fx Glob LJ Ls Only St Wf aA aB aT at3 bY dJ eO gB lg sA sB sD)
open Pa (Ae Ed Ej KB KN S2 Wm aX bU bW bX dO eG jK jP mX p9 ptr qY sH sat)
open Qe (q0)
open Re (KI bE dS qR)
open Ro (E5 K5)
open Rq (A7 Iz KU Ud Uj Y Yg dL dU fI good iR kJ lC may okV qA qV qb sj vB yA yV yb zQ)
open Rw (At Ow Rd)
namespace Ga
open Go.RowKit
def GX (w0:World) (g s:Nat) (H:Nat->Prop) (G:Gs) (t:Nat) (W:World):Prop:=GE W g s H G t/\(∀ k,H k->w0.heap.size<=k)/\Below w0.heap.size w0 W
section
variable {w0 W w':World} {g s t:Nat} {H J:Nat->Prop} {G:Gs}
theorem GX.only (h:GX w0 g s H G t W) (hn:∀ k,H k->¬ J k) (o:Only J W w') (hj:∀ k,J k->w0.heap.size<=k):GX w0 g s H G t w' :=
 ⟨h.1.only hn o,h.2.1,h.2.2.trans (o.below h.2.2.size hj)⟩
theorem GX.below (h:GX w0 g s H G t W) (b:Below W.heap.size W w'):GX w0 g s H G t w' :=
 ⟨h.1.only (J:=fun _=>False) (fun _ _ f=>f) (Only.of_below b),h.2.1,h.2.2.trans (b.mono h.2.2.size)⟩
theorem GX.late (h:GX w0 g s H G t W):GX w0 g s H G (t+1) W:=⟨h.1.late,h.2⟩
theorem GX.aD (h:GX w0 g s H G t W):Below w0.heap.size w0 W:=h.2.2
theorem GX.low (h:GX w0 g s H G t W):∀ k,H k->k < W.heap.size:=by
 obtain ⟨⟨F,B,h1,h2,h3,h4,h5⟩,_⟩:=h;exact h5
theorem GX.ch (h:GX w0 g s H G t W):CH w0 s G.c t W:=by
 obtain ⟨⟨F,B,h1,h2,h3,h4,h5⟩,h6,h7⟩:=h;exact ⟨F,h1,fun k f=>h6 k (h4 k (.inl f)),h7⟩
theorem aaC (w':World) (h6:∀ k,H k->w0.heap.size<=k) (b:Below w0.heap.size w0 W):∀ k,Fx H W w' k->w0.heap.size<=k:=fun k f=>by
 have:=b.size
 rcases f with f | f
 ·exact h6 k f
 ·omega
theorem GX.grown {G':Gs} {t':Nat} (h:GX w0 g s H G t W) (h':GE w' g s (Fx H W w') G' t') (o:Only H W w'):GX w0 g s (Fx H W w') G' t' w' :=
 ⟨h',aaC w' h.2.1 h.2.2,h.2.2.trans (o.below h.2.2.size h.2.1)⟩
theorem zW (h:GX w0 g s H G t W) (hg:Glob w0) (ok:OkG G t) {v:Value} {l:List Int} (R:Rd KU W v l) (hb:∀ x∈l,0<=x/\x < 256):Calls prog 15 #[ptr g,v] W fun e w'=>∃ u,e = .returned u/\Rd KU w' u (Yl G l)/\GX w0 g s (Fx H W w') (rO G l) t w'/\Only H W w':=by
 have gl:=bo _ _ hg;obtain ⟨F,B,h1,h2,h3,h4,h5⟩:=h.1;refine (Da h1 h2 (fun k f=>h5 k (h4 k (.inr f))) (hg.below h.2.2) (fun q=>by have:=h.2.1 _ (h4 _ (.inr q));exact absurd gl (by show ¬ 0 < _;omega)) ok.qo R hb).mono fun e w' d=>?_;obtain ⟨u,d1,d2,d3,d4⟩:=d;have o:Only H W w':=d4.mono fun k _ f=>h4 k (.inr f);have ec:(rO G l).c=G.c/\(rO G l).key=G.key:=by unfold rO;split <;> exact ⟨rfl,rfl⟩
 refine ⟨u,d1,d2,h.grown ⟨F,Fx B W w',by rw [ec.1];exact iG h1 h3 d4,by rw [ec.2];exact d3,fun k f b=>?_,fun k f=>?_,fun k f=>?_⟩ o,o⟩
 ·rcases b with b | b
  ·exact h3 k f b
  ·have:=h5 k (h4 k (.inl f));omega
 ·rcases f with f | f
  ·exact .inl (h4 k (.inl f))
  ·rcases f with f | f
   ·exact .inl (h4 k (.inr f))
   ·exact .inr f
 ·rcases f with f | f
  ·exact cE (h5 k f) o.size
  ·exact f.2
theorem XJ (h:GX w0 g s H G t W) (hg:Glob w0) (ok:OkG G t) (ht:t<=900):Calls prog 11 #[ptr g] W fun e w'=>∃ u,e = .returned u/\Rd KU w' u (stA G)/\GX w0 g s (Fx H W w') (X9 G) (t+2) w'/\Only H W w':=by
 have gl:=bo _ _ hg;refine (NC h.1 ok (hg.below h.2.2) (fun q=>by have:=h.2.1 _ q;exact absurd gl (by show ¬ 0 < _;omega)) ht).mono fun e w' d=>?_;obtain ⟨u,d1,d2,d3,d4⟩:=d;exact ⟨u,d1,d2,h.grown d3 d4,d4⟩
theorem Rj (h:GX w0 g s H G t W) (ok:OkG G t):Calls prog 18 #[ptr g] W fun e w'=>e = .returned (.int .i64 G.q.L.length)/\Below W.heap.size W w':=by
 obtain ⟨F,B,h1,h2,h3,h4,h5⟩:=h.1;exact Ip h2 ok.qo
theorem TX {c:Cs} {key:Int} (h:CH w0 s c t W) (hk:0<=key/\key<=255):Calls prog 9 #[ptr s,.int .i64 key] W fun e w'=>∃ g H,e = .returned (.tuple #[ptr g,.int .i64 0])/\GX w0 g s H ⟨c,key,Qe.q0⟩ t w':=by
 obtain ⟨F,h1,h2,h3⟩:=h;refine (RQ W s key hk).mono fun e w' d=>?_;obtain ⟨g,B,d1,d2,d3,d4⟩:=d;have l1:=oC h1;have z:=h3.size;refine ⟨g,fun k=>F k\/B k,d1,⟨F,B,iG (J:=fun _=>False) h1 (fun _ _ f=>f) (Only.of_below d4),d2,fun k f b=>?_,fun k f=>f,fun k f=>?_⟩,fun k f=>?_,h3.trans (d4.mono z)⟩
 ·have:=l1 k f
  have:=(d3 k b).1
  omega
 ·rcases f with f | f
  ·exact cE (l1 k f) d4.size
  ·exact (d3 k f).2
 ·rcases f with f | f
  ·exact h2 k f
  ·exact cG z (d3 k f).1
end
end Ga
namespace Cu
open Fs (key)
open Pa (hr)
open Ro (kU)
open Ck (LL dH tE)
open Re (fA sL sN fT)
structure Blk (A:aT) (l:List Int):Prop where
 has:fB A 40=true
 p:fP A 40=3
 r:fR A 40=bE l
 seq:fT l
theorem Blk.sq {A:aT} {l:List Int} (h:Blk A l):y8 A=true/\jO A=l:=by
 obtain ⟨e1,e2⟩:=Re.TL h.seq;unfold y8 jO;rw [h.has,h.p,h.r,e1,e2];exact ⟨rfl,rfl⟩
def A0:aT:=[(40,3,bE [0,1])]
def S0:bW:=[(A0,0),(A0,0)]
theorem Zg:∀ x∈S0,∀ n∈([0,1]:List Int),fB x.1 (32+n)=false:=fun x hx n hn=>by
 have hx:x=(A0,0):=by
  rcases cj.1 hx with h | h
  ·exact h
  ·exact cY.1 h
 rw [hx]
 rcases cj.1 hn with h | h
 ·rw [h];rfl
 ·rw [cY.1 h];rfl
def c1:Cs:=⟨S0,[true,true],Wt.new,1,[]⟩
def A1:aT:=[(1,7,newL 7 1),(40,3,bE [0])]
def r7:R4:=(7,0,0,0)
def A2:aT:=[(1,7,[hdr 7 1,r7]),(40,3,bE [0])]
def d1:Cs:=⟨[(A1,0),(A2,0)],[true,true],Wt.new,0,[]⟩
theorem Es:fT [0]:=by decide
end Cu
namespace Ga
open Cu (Pl A1 Es)
open Rq (Q)
open Qe (aat)
theorem Sr {α:Type} {a p:α} (h:p∈[a,a]):p=a:=by
 rcases cj.1 h with h | h
 ·exact h
 ·exact cY.1 h
theorem Vq {L:List Pl} (h:newE L=0) (ok:∀ p∈L,∀ e∈p.1,dG e.2.2) {key:Int} (hk:0<=key/\key<=255):OkG ⟨newC L,key,q0⟩ 0:=by
 have o:=Iy h ok;refine ⟨o,BU _ ?_,aat,nofun,hk⟩;have:=o.len.1;have e:(newC L).S.length=L.length:=bt _
 omega
def A3:aT:=[(40,3,bE [0])]
def L3:List Pl:=[(A3,0),(A3,0)]
theorem acT:Cu.Blk A3 [0]:=⟨rfl,rfl,rfl,Es⟩
theorem gd3:Nn (A3,0):=⟨⟨List.pairwise_singleton _ _,fun e he=>by
 rw [cY.1 he]
 exact ⟨⟨by decide,by decide⟩,Re.zw Es⟩⟩,by decide,by decide⟩
theorem abC:newE L3=0:=by
 unfold newE;rw [ai (by decide),an,an]
 ·exact ⟨acT.sq.1,rfl,rfl,rfl⟩
 ·intro p hp
  rw [Sr hp];exact gd3
def G3:Gs:=⟨newC L3,0,q0⟩
def x3:Q:=⟨4,4,1,0,0,z4,0⟩
theorem zV:good x3:=by decide
theorem ok3:OkG G3 0:=Vq abC (fun p hp e he=>by
 rw [Sr hp] at he;rw [cY.1 he]
 exact Re.JK Es) (by decide)
theorem sb3:iZ G3 (qb x3)=0:=by
 unfold iZ;rw [ai (fun h=>h (Uj zV)),vB zV]
 rfl
def Yx:Gs:=⟨newC L3,0,⟨[x3],0⟩⟩
theorem sc3:rO G3 (qb x3)=Yx:=by
 unfold rO;rw [an sb3,vB zV]
 rfl
theorem st3:stA Yx=yb ⟨4,0,(1,2,0,0)⟩:=rfl
def L4:List Pl:=[(A1,0),(A1,0)]
def x5:Q:=⟨5,2,1,1,1,(9,0,0,0),7⟩
def x6:Q:=⟨6,2,1,1,1,z4,8⟩
def G5:Gs:=⟨newC L4,7,⟨[x5],0⟩⟩
end Ga
namespace Wn
open Go.RowKit
attribute [local irreducible] Sd.aV wpQuiet
theorem Ai {w:World} {c:jS} (h:Pa.Ed w (sl c.files) c.F w.heap.size):CJ (w.alloc (.cells #[sl c.files,.int .i64 c.rate,sl c.files,.int .i64 c.rate] 75)) (.slice (some ⟨w.heap.size,0,none⟩) 2 2) [c,c] (w.alloc (.cells #[sl c.files,.int .i64 c.rate,sl c.files,.int .i64 c.rate] 75)).heap.size:=by
 have rd:=(Rw.Ow.lit (K:=KP) w w.heap.size 75 [c,c] (ac _) (by unfold maxLen;simp)).rd;have b:=(aa w.heap.size w).alloc (ac _) (.cells #[sl c.files,.int .i64 c.rate,sl c.files,.int .i64 c.rate] 75);refine BO rd fun x hx=>?_;have e:x=c:=by
  rcases cj.1 hx with h | h
  ·exact h
  ·exact cY.1 h
 rw [e];have f:=h.below b;exact xA f.rd fun y hy=>by
  obtain ⟨i,hi⟩:=dq hy;have hl:=(cg.1 hi).1;have:=f.file i hl;unfold Pa.eG at this;rw [af,hi] at this;exact this
end Wn
namespace Rq
open Go.RowKit
attribute [local irreducible] Sd.aV wpQuiet Sg.dw
theorem Qw (w:World) (a:Option Addr) (cap:Nat) (l:List Int) (hl:l.length≠9):Calls prog 12 #[.slice a l.length cap] w (fI w l):=by
 have E:Hid (∀ w',Below w.heap.size w w'->fI w l (.returned (.tuple #[yV zY,.int .i64 2])) w'):=fun w' b=>⟨by rw [ai fun h=>hl h.1,ai fun h=>hl h.1],b⟩;have B0:=Hh ((aa w.heap.size w).alloc (ac _) (.cells (yA zY) 44));have R0:=Hh (aw w (.cells (yA zY) 44));generalize l.length=n at *;have h9:¬ (n:Int)=9:=by omega
 have m9:((n:Int) != 9)=true:=bne_iff_ne.2 h9;unfold yV yA zY z4 at *;dsimp only at E B0 R0
 go_enter func12,ntmps12
 go_wp2
 (try simp only [Exit.inBlock,Exit.then])
 exact bj (bK (p:=2) (r:=3) rfl _ _ w.heap.size _ rfl rfl R0.out rfl) rfl (E.out _ B0.out)
theorem II (p0 p1:Value) (a b c d:Int):splice [p0,p1,.int .u8 0,.int .u8 0,.int .u8 0,.int .u8 0] 2 ([a,b,c,d].map (Value.int .u8)) = [p0,p1,.int .u8 a,.int .u8 b,.int .u8 c,.int .u8 d]:=rfl
theorem Md (w:World) (b off cap:Nat) (l:List Int) (hl:l.length=9) (hc:l.length<=cap) (hb:∀ x∈l,0<=x/\x < 256) (hA:At KU w b off l):Calls prog 12 #[.slice (some ⟨b,off,none⟩) l.length cap] w (fI w l):=by
 have E:Hid (∀ c w',decide (may (Ud l)/\yb (Ud l)=l)=c->Below w.heap.size w w'->fI w l (.returned (.tuple #[yV (if c then Ud l else zY),.int .i64 (if c then 0 else 2)])) w'):=fun c w' hc b=>by
  refine ⟨?_,b⟩;rw [← hc]
  by_cases h:Yg l
  ·rw [an h,an h,az h.2,an rfl,an rfl]
  ·rw [ai h,ai h,aq fun k=>h ⟨hl,k⟩]
   rfl
 have ge:=fZ hb;have c:=pX hA;have B0:=Hh ((aa w.heap.size w).alloc (ac _) (.cells (yA zY) 44));have R0:=Hh (aw w (.cells (yA zY) 44));have HA:=Hh hA;have HB:=Hh hb;have HN:=Hh hl;have c2:=fQ B0.out (c 2 (by omega));have c3:=fQ B0.out (c 3 (by omega));have d4:=Sd.aC (fQ B0.out (c 4 (by omega)));have g2:=ge 2;have g3:=ge 3;have e4:IntKind.i64.wrap (l.getD 4 0)=l.getD 4 0:=cx _ (by have:=ge 4;omega);have MC:Hid (w.cell? ⟨b,off+5,none⟩=some (.int .u8 (l.getD 5 0))/\w.cell? ⟨b,off+6,none⟩=some (.int .u8 (l.getD 6 0))/\w.cell? ⟨b,off+7,none⟩=some (.int .u8 (l.getD 7 0))/\w.cell? ⟨b,off+8,none⟩=some (.int .u8 (l.getD 8 0))):=Hh ⟨c 5 (by omega),c 6 (by omega),c 7 (by omega),c 8 (by omega)⟩;have GV:Hid (okV (l.getD 5 0,l.getD 6 0,l.getD 7 0,l.getD 8 0)):=Hh ⟨ge 5,ge 6,ge 7,ge 8⟩;have QE:Hid (Ud l=⟨l.getD 2 0 * 256+l.getD 3 0,l.getD 4 0,(l.getD 5 0,l.getD 6 0,l.getD 7 0,l.getD 8 0)⟩):=Hh rfl;rw [hl] at hc ⊢;have hcap:¬ cap=5:=by omega
 clear c ge hA hb hl;generalize l.getD 2 0=b2 at *;generalize l.getD 3 0=b3 at *;generalize l.getD 4 0=b4 at *;generalize l.getD 5 0=u0 at *;generalize l.getD 6 0=u1 at *;generalize l.getD 7 0=u2 at *;generalize l.getD 8 0=u3 at *;unfold yA zY z4 at B0 R0 d4 c2 c3;dsimp only at B0 R0 d4 c2 c3
 go_enter func12,ntmps12
 go_wp2_with fail;generalize w.alloc (.cells #[.int .i64 0,.int .i64 0,.int .u8 0,.int .u8 0,.int .u8 0,.int .u8 0] 44)=W at *;refine Sg.startP [(0,0),(0,2),(0,3),(0,4),(0,5),(1,1),(0,6),(2,7),(1,8)] [⟨7,4,#[.int .i64 0,.int .i64 0,.int .u8 0,.int .u8 0,.int .u8 0,.int .u8 0],44,none,none⟩] (by kernel_rfl) (by kernel_rfl) (by kernel_rfl) (by decide) (by decide) ?_ ?_ ?_
 ·simp
 ·intro f hf
  simp only [cj,cW,f8] at hf;subst hf;exact Sg.UQ rfl rfl rfl fun ρ w=>by go_simp
 dsimp only [Sg.aK,List.getElem?_cons_succ,List.getElem?_cons_zero];have BW:=Hh ((aa W.heap.size W).drew)
 repeat (refine Sg.lit (fun xs=>?_);simp only [Sg.fill,cd,bp];quiet_step (fail);refine bi ?_)
 refine Sg.iN (fun xs w5 hb hc=>⟨by rfl,fun K hK=>?_⟩);have B5:=aP BW hb;have ID:=Hh (Tj w5 b off 9 cap b2 b3 (by omega) (fQ B5.out c2) (fQ B5.out c3) g2 g3);clear hb hc BW;simp only [Sg.fill,cd,bp];go_simp;refine ID.out.mono ?_;rintro e w6 ⟨rfl,b6'⟩;have B6:=aP B5.out b6';refine hK _ _ (Sd.Cl.of B6.out) b6'.size (fun _=>b6') ?_;clear hK K ID B5 b6' c2 c3 g2 g3 d4
 repeat (refine Sg.lit (fun xs=>?_);simp only [Sg.fill,cd,bp];quiet_step (fail);refine bi ?_)
 refine Sg.nH (fun gF w7 hb hc row n7 hH hL=>?_);have B7:=aP B6.out hb;have R7:=Hh (row);clear hb hc row hH hL B6;refine Sg.iN (fun xs w9 hb hc=>⟨by rfl,fun K hK=>?_⟩);have B9:=aP B7.out hb;have R9:=Hh (bV hb R7.out);clear hb hc B7 R7;simp only [Sg.fill,bp];refine wp_store_row 44 _ _ rfl gF #[.int .i64 (b2 * 256+b3),.int .i64 b4,.int .u8 0,.int .u8 0,.int .u8 0,.int .u8 0] rfl rfl 44 _ R9.out (by kernel_rfl) rfl (by simp [Value.oneCell']) ?_;have RA:=Hh (setRow_heap w9 gF _ #[.int .i64 (b2 * 256+b3),.int .i64 b4,.int .u8 0,.int .u8 0,.int .u8 0,.int .u8 0] _ _ R9.out);have BA:=Hh (below_setRow B9.out n7 #[.int .i64 (b2 * 256+b3),.int .i64 b4,.int .u8 0,.int .u8 0,.int .u8 0,.int .u8 0]);have hsz:(w9.setRow gF #[.int .i64 (b2 * 256+b3),.int .i64 b4,.int .u8 0,.int .u8 0,.int .u8 0,.int .u8 0]).heap.size=w9.heap.size:=by simp [World.setRow]
 refine hK _ _ (Sd.Cl.of BA.out) (by rw [hsz];exact ac _) (fun h=>absurd rfl h) ?_;clear hK K hsz;generalize w9.setRow gF #[.int .i64 (b2 * 256+b3),.int .i64 b4,.int .u8 0,.int .u8 0,.int .u8 0,.int .u8 0]=wA at *;refine Sg.done (fun wB hb hc=>?_);have BB:=aP BA.out hb;have RB:=Hh (bV hb RA.out);clear hb hc BA RA B9 R9;have BX:=aP B0.out BB.out;go_wp2_with fail;have ne:Nonempty (Sc.In (fun _:World=>True)):=⟨⟨wB,trivial⟩⟩;refine Sc.start (fun _=>True) [(false,0),(false,1),(false,2),(false,3),(true,4)] (by kernel_rfl) (by kernel_rfl) (by kernel_rfl) trivial ?_;dsimp only [Sd.aK,List.getElem?_cons_succ,List.getElem?_cons_zero]
 repeat (refine Sd.lit ?_;quiet_step (fail);refine bi ?_)
 refine Sd.call (by rfl) (fun K hK=>?_);refine Ko _ _ _ _ rfl 5 underlying34 (by kernel_rfl) _ _ _ _ _ _ rfl rfl gF 2 _ 44 RB.out ([u0,u1,u2,u3].map (Value.int .u8)) rfl ?_ (ac 6) ?_ W.heap.size W (BB.out.trans (aa _ _).drew) n7 ?_
 ·refine fun _=>⟨rfl,_,rfl,fun j v e=>?_⟩
  rw [show ∀ P:Nat,(⟨b,P,none⟩:Addr).add j=⟨b,P+j,none⟩ from fun P=>by simp [Addr.add]];refine fQ BX.out.drew ?_;obtain ⟨x5,x6,x7,x8⟩:=MC.out
  match j,e with
  | 0,e=>cases e;exact x5
  | 1,e=>cases e;exact x6
  | 2,e=>cases e;exact x7
  | 3,e=>cases e;exact x8
  | j+4,e=>simp at e
 ·intro v hv
  obtain ⟨x,_,rfl⟩:=di.1 hv
  rfl
 intro wD hrow bD
 rw [II] at hrow;have RD:=Hh hrow;have BD:=aP B0.out bD;have RW:=Hh (bV bD R0.out);refine hK _ _ (Sc.Cl.of trivial) ?_;clear hK K hrow bD MC BB RB BX ne hc hcap;refine Sd.done ?_
 replace RD:Hid (wD.heap[gF]? = some (.cells #[.int .i64 (b2 * 256+b3),.int .i64 b4,.int .u8 u0,.int .u8 u1,.int .u8 u2,.int .u8 u3] 44 (0,0))):=RD
 generalize b2 * 256+b3=I at *;rw [QE.out] at E;have k0:=dB RD.out 0;have k1:=dB RD.out 1;have k2:=dB RD.out 2;have k3:=dB RD.out 3;have k4:=dB RD.out 4;have k5:=dB RD.out 5;have GR:=Hh (nP wD ⟨I,b4,(u0,u1,u2,u3)⟩);unfold yV yA at GR;dsimp only at GR;go_wp2_with fail;refine GR.out.mono ?_;rintro e w1 ⟨u,rfl,o1,b1⟩;have B1:=aP BD.out b1;have RW1:=Hh (bV b1 RW.out);have RD1:=Hh (bV b1 RD.out);have A1:=Hh (HA.out.below B1.out);clear GR RW b1 RD BD B0 R0 k0 k1 k2 k3 k4 k5
 by_cases hm:may ⟨I,b4,(u0,u1,u2,u3)⟩
 ·rw [an hm] at o1
  rw [an hm];obtain ⟨a',cap',rfl,_,_,hh⟩:=o1.rd;obtain ⟨b',off',rfl,A'⟩:=hh (Nat.succ_pos _);have hyb:=K8 hm GV.out;rw [show (yb ⟨I,b4,(u0,u1,u2,u3)⟩).length=9 from rfl]
  by_cases he:yb ⟨I,b4,(u0,u1,u2,u3)⟩=l
  ·have EA:=jb w1 b off 9 cap l b' off' 9 cap' _ HN.out rfl A1.out A' HB.out hyb true (az he.symm)
   have F:Hid (fI w l (.returned (.tuple #[.agg #[.int .i64 I,.int .i64 b4,.int .u8 u0,.int .u8 u1,.int .u8 u2,.int .u8 u3],.int .i64 0])) (w1.setRow w.heap.size #[.int .i64 I,.int .i64 b4,.int .u8 u0,.int .u8 u1,.int .u8 u2,.int .u8 u3])):=Hh (E.out true _ (az ⟨hm,he⟩) (below_setRow B1.out (ac _) #[.int .i64 I,.int .i64 b4,.int .u8 u0,.int .u8 u1,.int .u8 u2,.int .u8 u3]));have k0:=dB RD1.out 0;have k1:=dB RD1.out 1;have k2:=dB RD1.out 2;have k3:=dB RD1.out 3;have k4:=dB RD1.out 4;have k5:=dB RD1.out 5;clear hyb o1 A' A1 HA HB hm he B1 E GV QE;go_wp2_with fail;refine EA.mono ?_;rintro e w2 ⟨rfl,rfl⟩
   go_wp2_with ((with_reducible refine wpList_store_row (o:=⟨none,_,_,_,_,_⟩) rfl 44 _ _ rfl w.heap.size #[.int .i64 I,.int .i64 b4,.int .u8 u0,.int .u8 u1,.int .u8 u2,.int .u8 u3] rfl rfl _ _ RW1.out (by kernel_rfl) rfl (by simp [Value.oneCell']) ?_))
   exact bj (bK (p:=2) (r:=3) rfl _ _ w.heap.size _ rfl rfl (setRow_heap w1 w.heap.size _ _ _ _ RW1.out) rfl) rfl F.out
  ·have EA:=jb w1 b off 9 cap l b' off' 9 cap' _ HN.out rfl A1.out A' HB.out hyb false (aq fun h=>he h.symm)
   have F:Hid (fI w l (.returned (.tuple #[.agg #[.int .i64 0,.int .i64 0,.int .u8 0,.int .u8 0,.int .u8 0,.int .u8 0],.int .i64 2])) (w1.setRow w.heap.size #[.int .i64 0,.int .i64 0,.int .u8 0,.int .u8 0,.int .u8 0,.int .u8 0])):=Hh (E.out false _ (aq fun h=>he h.2) (below_setRow B1.out (ac _) #[.int .i64 0,.int .i64 0,.int .u8 0,.int .u8 0,.int .u8 0,.int .u8 0]));clear hyb o1 A' A1 HA HB hm he B1 E GV QE;go_wp2_with fail;refine EA.mono ?_;rintro e w2 ⟨rfl,rfl⟩
   go_wp2_with ((with_reducible refine wpList_store_row (o:=⟨none,_,_,_,_,_⟩) rfl 44 _ _ rfl w.heap.size #[.int .i64 0,.int .i64 0,.int .u8 0,.int .u8 0,.int .u8 0,.int .u8 0] rfl rfl _ _ RW1.out (by kernel_rfl) rfl (by simp [Value.oneCell']) ?_))
   exact bj (bK (p:=2) (r:=3) rfl _ _ w.heap.size _ rfl rfl (setRow_heap w1 w.heap.size _ _ _ _ RW1.out) rfl) rfl F.out
 ·rw [ai hm]
  have F:Hid (fI w l (.returned (.tuple #[.agg #[.int .i64 0,.int .i64 0,.int .u8 0,.int .u8 0,.int .u8 0,.int .u8 0],.int .i64 2])) (w1.setRow w.heap.size #[.int .i64 0,.int .i64 0,.int .u8 0,.int .u8 0,.int .u8 0,.int .u8 0])):=Hh (E.out false _ (aq fun h=>hm h.1) (below_setRow B1.out (ac _) #[.int .i64 0,.int .i64 0,.int .u8 0,.int .u8 0,.int .u8 0,.int .u8 0]));clear o1 A1 HA HB hm B1 E GV QE
  go_wp2_with ((with_reducible refine wpList_store_row (o:=⟨none,_,_,_,_,_⟩) rfl 44 _ _ rfl w.heap.size #[.int .i64 0,.int .i64 0,.int .u8 0,.int .u8 0,.int .u8 0,.int .u8 0] rfl rfl _ _ RW1.out (by kernel_rfl) rfl (by simp [Value.oneCell']) ?_))
  exact bj (bK (p:=2) (r:=3) rfl _ _ w.heap.size _ rfl rfl (setRow_heap w1 w.heap.size _ _ _ _ RW1.out) rfl) rfl F.out
theorem Df (w:World) (v:Value) (l:List Int) (hb:∀ x∈l,0<=x/\x < 256) (R:Rd KU w v l):Calls prog 12 #[v] w (fI w l):=by
 obtain ⟨a,cap,rfl,h1,_,h2⟩:=R
 by_cases h:l.length=9
 ·obtain ⟨b,off,rfl,hA⟩:=h2 (by omega)
  exact Md w b off cap l h h1.1 hb hA
 ·exact Qw w a cap l h
end Rq
namespace Ga
open Go.RowKit
open Wn (Ai)
open Rq (Q Df)
attribute [local irreducible] Sd.aV wpQuiet
variable {W w:World} {u:Value}
theorem KQ {y:Y} (h:may y) (hv:okV y.v) (R:Rd KU W u (yb y)):Calls prog 12 #[u] W fun e w'=>e = .returned (.tuple #[yV y,.int .i64 0])/\Below W.heap.size W w':=by
 have:=Df W u (yb y) (Rq.K8 h hv) R;unfold fI at this;rw [an (Iz h),an (Iz h),A7 h] at this;exact this
theorem ZV {x:Q} (h:Rq.good x) (W:World):Calls prog 21 #[qV x] W fun e w'=>∃ v,e = .returned (.tuple #[v,.int .i64 0])/\Ow KU w' W.heap.size 5 v (qb x)/\Below W.heap.size W w':=by
 have:=iR W x;unfold lC at this;rw [an h,an h] at this;exact this
theorem zy (R:Rd KU W u []):∃ a cap,u = .slice a 0 cap:=by
 obtain ⟨a,cap,e,_⟩:=R;exact ⟨a,cap,e⟩
theorem NY (h:Glob w):Calls prog 20 #[] w fun e w'=>e = .returned (.bool true)/\Below w.heap.size w w':=by
 have HG:=Hh h;clear h;have L1:Hid (Rd KI (w.alloc (.cells #[.int .i64 0] 3)) (.slice (some ⟨w.heap.size,0,none⟩) 1 1) [0]):=Hh (Rw.Ow.lit (K:=KI) w w.heap.size 3 [0] (ac _) (by unfold maxLen;simp)).rd;have B1:=Hh ((aa w.heap.size w).alloc (ac _) (.cells #[.int .i64 0] 3))
 have C1:Hid (Calls prog 27 #[.slice (some ⟨w.heap.size,0,none⟩) 1 1] (w.alloc (.cells #[.int .i64 0] 3)) fun e w'=>∃ a cap,e = .returned (.tuple #[.agg #[.int .i64 3,.slice a 2 cap],.int .i64 0])/\Rd K4 w' (.slice a 2 cap) (bE [0])/\Below (w.alloc (.cells #[.int .i64 0] 3)).heap.size (w.alloc (.cells #[.int .i64 0] 3)) w'):=Hh ((qR _ _ [0] L1).mono fun e w' ⟨u,he,hu,hb⟩=>by
  have e1:Re.fL [0]=bE [0]:=an Cu.Es;rw [e1] at hu;obtain ⟨a,cap,rfl,_⟩:=hu.slice
  exact ⟨a,cap,by rw [he];unfold Re.fP Re.fN;rw [an Cu.Es,an Cu.Es];rfl,hu,hb⟩)
 go_enter func20,ntmps20
 go_wp2_with fail;refine C1.mono ?_;rintro e w2 ⟨fa,fc,rfl,r2,b2⟩;have X2:=Hh (aw w2 (.cells #[.int .i64 3,.slice fa 2 fc] 83));have N2:=Hh ((aa w2.heap.size w2).alloc (ac _) (.cells #[.int .i64 3,.slice fa 2 fc] 83));have R2:=Hh (r2.below N2);have B5:=Hh ((aP B1 b2).trans (N2.mono (cG B1.size b2.size)));clear C1 L1 B1 r2 b2 N2;go_upto_region 2 with fail;generalize (w2.alloc (.cells #[.int .i64 3,.slice fa 2 fc] 83))=w5 at *;generalize w2.heap.size=g1 at *;obtain ⟨y0,y1⟩:=CQ X2;have hBN:=Fs.yL;have RE:=Hh (Rw.Ow.lit (K:=E3) w5 w5.heap.size 85 [⟨40,3,fa,fc,bE [0]⟩] (ac _) (by unfold maxLen;simp)).rd;have B6:=Hh ((aa w5.heap.size w5).alloc (ac _) (.cells #[.int .i64 40,.int .i64 3,.slice fa 2 fc] 85));have Z6:Hid ((w5.alloc (.cells #[.int .i64 40,.int .i64 3,.slice fa 2 fc] 85)).heap.size=w5.heap.size+1):=Hh (by simp);have B7:=Hh (B6.alloc B6.size (.cells #[.slice (some ⟨w5.heap.size,0,none⟩) 1 1,.int .i64 0] 75));have X7:Hid (((w5.alloc (.cells #[.int .i64 40,.int .i64 3,.slice fa 2 fc] 85)).alloc (.cells #[.slice (some ⟨w5.heap.size,0,none⟩) 1 1,.int .i64 0] 75)).heap[w5.heap.size+1]? = some (.cells #[.slice (some ⟨w5.heap.size,0,none⟩) 1 1,.int .i64 0] 75 (0,0))):=Hh (by rw [← Z6.out];exact aw _ _)
 have FL:Hid (Pa.Ed ((w5.alloc (.cells #[.int .i64 40,.int .i64 3,.slice fa 2 fc] 85)).alloc (.cells #[.slice (some ⟨w5.heap.size,0,none⟩) 1 1,.int .i64 0] 75)) (.slice (some ⟨w5.heap.size,0,none⟩) 1 1) [⟨40,3,fa,fc,bE [0]⟩] ((w5.alloc (.cells #[.int .i64 40,.int .i64 3,.slice fa 2 fc] 85)).alloc (.cells #[.slice (some ⟨w5.heap.size,0,none⟩) 1 1,.int .i64 0] 75)).heap.size):=Hh (xA (RE.below ((aa _ _).alloc (ac _) _)) fun c hc=>by
  rw [cY.1 hc]
  exact ⟨R2.below B7,Re.JK Cu.Es⟩)
 have BB:=aP B5 B7;clear RE B6 Z6 B7 R2 B5 X2;go_upto_region 3 with fail;clear y0 y1 hBN;generalize ((w5.alloc (.cells #[.int .i64 40,.int .i64 3,.slice fa 2 fc] 85)).alloc (.cells #[.slice (some ⟨w5.heap.size,0,none⟩) 1 1,.int .i64 0] 75))=w7 at *;generalize w5.heap.size=g5 at *;obtain ⟨x0,x1⟩:=CQ X7;have PL:=Hh (Ai (c:=⟨(some ⟨g5,0,none⟩,1,1),0,[⟨40,3,fa,fc,bE [0]⟩]⟩) FL);have NW:Hid (Calls prog 6 #[.slice (some ⟨w7.heap.size,0,none⟩) 2 2] (w7.alloc (.cells #[.slice (some ⟨g5,0,none⟩) 1 1,.int .i64 0,.slice (some ⟨g5,0,none⟩) 1 1,.int .i64 0] 75)) fun e w'=>∃ s,e = .returned (.tuple #[.pointer (some ⟨s,0,none⟩),.int .i64 0])/\CH w s (Cu.newC L3) 0 w'):=Hh (vL PL (w0:=w) abC (BB.alloc BB.size _));clear FL PL BB X7;go_wp2_with fail;refine NW.mono ?_;rintro e w8 ⟨s,rfl,ch8⟩;have GN:=Hh (TX ch8 (key:=0) (by decide));clear NW x0 x1 ch8;unfold ptr at GN;go_wp2_with fail;refine GN.out.mono ?_;rintro e w9 ⟨g,H,rfl,gx9⟩;have G9:=Hh (show GX w g s H G3 0 w9 from gx9);have PT:=Hh (ZV zV w9);unfold qV qA x3 z4 at PT;clear GN gx9;go_wp2_with fail;refine PT.out.mono ?_;rintro e w10 ⟨v,rfl,o10,b10⟩;have SU:=zW (G9.out.below b10) HG.out ok3 o10.rd (Rq.Bv zV JP);rw [show qb ⟨4,4,1,0,0,(0,0,0,0),0⟩=qb x3 from rfl,sc3,show Yl G3 (qb x3) = [] from an sb3] at SU;have SU:=Hh SU;unfold ptr at SU;clear PT b10 o10 G9;go_wp2_with fail;refine SU.out.mono ?_;rintro e w11 ⟨u,rfl,r11,gx11,-⟩;obtain ⟨ua,uc,rfl⟩:=zy r11;have ST:=XJ gx11 HG.out (by have:=ok3.sub (l:=qb x3) (Rq.Bv zV JP);rw [sc3] at this;exact this) (by decide);rw [st3] at ST;have ST:=Hh ST;unfold ptr at ST;clear SU r11 gx11;go_wp2_with fail;refine ST.out.mono ?_;rintro e w12 ⟨u2,rfl,r12,gx12,-⟩;have RD:=Hh (KQ (y:=⟨4,0,(1,2,0,0)⟩) (by decide) (by unfold okV;decide) r12);have B12:=Hh gx12.aD;unfold yV yA at RD;clear ST r12 gx12;dsimp only at RD;go_wp2_with fail;refine RD.out.mono ?_;rintro e w13 ⟨rfl,b13⟩;have BA:=Hh ((aP B12.out b13).alloc (cG B12.out.size b13.size) (.cells #[.int .i64 4,.int .i64 0,.int .u8 1,.int .u8 2,.int .u8 0,.int .u8 0] 44));have YR:=Hh (aw w13 (.cells #[.int .i64 4,.int .i64 0,.int .u8 1,.int .u8 2,.int .u8 0,.int .u8 0] 44));clear RD b13 B12;go_upto_region 12 with fail;generalize w13.alloc (.cells #[.int .i64 4,.int .i64 0,.int .u8 1,.int .u8 2,.int .u8 0,.int .u8 0] 44)=wA at *;generalize w13.heap.size=yb at *;have y0:=dB YR.out 0;have y2:=dB YR.out 2;have y3:=dB YR.out 3;have y4:=dB YR.out 4;have y5:=dB YR.out 5;clear YR;have e1:∀ w,(Op.equalIn 10000 36 (.agg #[.int .u8 1,.int .u8 2,.int .u8 0,.int .u8 0]) (.agg #[.int .u8 1,.int .u8 2,.int .u8 0,.int .u8 0])).run prog w = .ok true w:=fun w=>by have:=Fl.qW (1,2,0,0) (1,2,0,0) w;rwa [az rfl] at this
 go_wp2
 go_ret
 exact ⟨rfl,BA.out⟩
end Ga
namespace Ga
open Qe (Qs zk)
open Rq (Q)
def sn (c:Cs) (key:Int) (l:List Int) (k:Nat):Gs:=if iZ ⟨c,key,q0⟩ l=0 then ⟨c,key,⟨List.replicate (min k 8) (kJ l),0⟩⟩ else ⟨c,key,q0⟩
section
variable {c:Cs} {key:Int} {l:List Int}
theorem J9:sn c key l 0=⟨c,key,q0⟩:=by
 unfold sn
 split <;> rfl
theorem acF (k:Nat):(sn c key l k).c=c/\(sn c key l k).key=key:=by
 unfold sn
 split <;> exact ⟨rfl,rfl⟩
theorem acU (q:Qs):iZ ⟨c,key,q⟩ l=if iZ ⟨c,key,q0⟩ l=0 then zk q else iZ ⟨c,key,q0⟩ l:=by
 have p0:zk q0=0:=rfl;unfold iZ;dsimp only;rw [p0]
 split
 ·rfl
 ·split
  ·rfl
  ·split
   ·rfl
   ·rfl
theorem ab8 (k:Nat):iZ (sn c key l k) l=if iZ ⟨c,key,q0⟩ l=0 then (if 8<=k then 12 else 0) else iZ ⟨c,key,q0⟩ l:=by
 by_cases h:iZ ⟨c,key,q0⟩ l=0
 ·unfold sn
  rw [an h,an h,acU,an h];unfold zk;simp only [dt]
  split
  ·rw [an (by omega)]
  ·rw [ai (by omega)]
 ·unfold sn
  rw [ai h,ai h]
theorem KZ (k:Nat):rO (sn c key l k) l=sn c key l (k+1):=by
 have e:=ab8 (c:=c) (key:=key) (l:=l) k
 by_cases h:iZ ⟨c,key,q0⟩ l=0
 ·rw [an h] at e
  unfold rO
  by_cases hk:8<=k
  ·rw [an hk] at e
   rw [e,ai (by decide)];unfold sn;rw [an h,an h,show min (k+1) 8=min k 8 by omega]
  ·rw [ai hk] at e
   rw [e,an rfl];unfold sn;rw [an h,an h];simp only;rw [show min (k+1) 8=min k 8+1 by omega,List.replicate_succ']
 ·rw [ai h] at e
  unfold rO;rw [e,ai h];unfold sn;rw [ai h,ai h]
theorem aas (k:Nat) (h:iZ ⟨c,key,q0⟩ l=0):(sn c key l k).q.L.length=min k 8:=by
 unfold sn;rw [an h]
 simp
theorem Ya {t:Nat} (h:OkG ⟨c,key,q0⟩ t) (hb:∀ x∈l,0<=x/\x < 256):∀ k,OkG (sn c key l k) t
 | 0=>by rw [J9];exact h
 | k+1=>by rw [← KZ];exact (Ya h hb k).sub hb
theorem Wo (c:Cs) (key:Int) (l:List Int) {x:Q} {e:Int} (h:(sj l/\x=kJ l/\e=0)\/(¬ sj l/\x=zQ/\e=2)) {z:Int} (hz:iZ ⟨c,key,q0⟩ l=z) :
 (e=2/\z=2)\/(e=0/\(((c.S.length:Int)<=x.n/\z=1)\/(¬ (c.S.length:Int)<=x.n/\((x.k=2/\x.key≠key/\z=15)\/(x.k=3/\x.key≠key/\z=15)\/(x.k=2/\x.key=key/\z=0)\/(x.k=3/\x.key=key/\z=0)\/(¬ x.k=2/\¬ x.k=3/\z=0))))):=by
 have p0:zk q0=0:=rfl;subst hz;unfold iZ;dsimp only;rw [p0]
 rcases h with ⟨h,rfl,rfl⟩ | ⟨h,rfl,rfl⟩
 ·right
  rw [ai (fun g=>g h)];refine ⟨rfl,?_⟩
  by_cases h1:(c.S.length:Int)<=(kJ l).n
  ·left;exact ⟨h1,by rw [an h1]⟩
  ·right
   rw [ai h1];refine ⟨h1,?_⟩
   by_cases h2:(kJ l).k=2
   ·by_cases h4:(kJ l).key=key
    ·right;right;left;exact ⟨h2,h4,by rw [ai (fun g=>g.2 h4)]⟩
    ·left;exact ⟨h2,h4,by rw [an ⟨.inl h2,h4⟩]⟩
   ·by_cases h3:(kJ l).k=3
    ·by_cases h4:(kJ l).key=key
     ·right;right;right;left;exact ⟨h3,h4,by rw [ai (fun g=>g.2 h4)]⟩
     ·right;left;exact ⟨h3,h4,by rw [an ⟨.inr h3,h4⟩]⟩
    ·right;right;right;right;exact ⟨h2,h3,by rw [ai (fun g=>by omega)]⟩
 ·left;exact ⟨rfl,by rw [an h]⟩
end
open Go.RowKit
def Un (K:Nat->Prop) (v:Value) (x:Nat):Prop:=K x\/v.ownBlock=some x
structure pE (K:Nat->Prop) (W:World) (B:Nat) (v:Value) (S:bW) (hs:List Hd):Prop where
 own:Ow KS W B 49 v hs
 each:∀ i:Nat,i < hs.length->Ls (Un K v) W (sl (hs.getD i zh)) (sat S i).1
 off:∀ b,v.ownBlock=some b->¬ K b
section
variable {K:Nat->Prop} {W w':World} {B:Nat} {v v':Value} {S:bW} {hs:List Hd}
theorem pE.below (h:pE K W B v S hs) (b:Below W.heap.size W w'):pE K w' B v S hs:=⟨h.own.keep b,fun i hi=>(h.each i hi).below b,h.off⟩
theorem pE.only (h:pE K W B v S hs) (o:Only K W w'):pE (Fx K W w') w' B v S hs:=by
 have o2:Only (Un K v) W w':=o.mono fun k _ g=>.inl g;refine ⟨aB h.own h.off o,fun i hi=>((h.each i hi).only o2).mono fun x _ g=>?_,fun b hb g=>?_⟩
 ·rcases g with g | g
  ·rcases g with g | g
   ·exact .inl (.inl g)
   ·exact .inr g
  ·exact .inl (.inr g)
 ·have:=lg h.own b hb
  rcases g with g | g
  ·exact h.off b hb g
  ·omega
theorem pE.mono {J:Nat->Prop} (h:pE K W B v S hs) (hj:∀ x,x < W.heap.size->J x->K x):pE J W B v S hs :=
 ⟨h.own,fun i hi=>(h.each i hi).mono fun x hx g=>by
  rcases g with g | g
  ·exact .inl (hj x hx g)
  ·exact .inr g,fun b hb g=>h.off b hb (hj b (lg h.own b hb).2 g)⟩
theorem pE.nil (w:World) (B:Nat):pE K w B (.slice none 0 0) S []:=⟨Rw.Ow.nil ..,fun _ hi=>absurd hi (eh _),nofun⟩
theorem pE.made (w:World) (hK:∀ x,K x->x < w.heap.size):pE K (w.alloc (.cells #[] 49)) w.heap.size (.slice (some ⟨w.heap.size,0,none⟩) 0 0) S [] :=
 ⟨Rw.Ow.made _ _ _ (ac _),fun _ hi=>absurd hi (eh _),fun b hb g=>by
  have:w.heap.size=b:=by simpa [Value.ownBlock] using hb
  have:=hK b g
  omega⟩
theorem Dc (g:W.grownBy w' v.ownBlock):Only (fun x=>v.ownBlock=some x) W w':=⟨g.os,g.tape,g.output,g.size,fun k hk hn=>g.block k hk fun e=>hn e.symm⟩
theorem pE.push {hd:Hd} (h:pE K W B v S hs) (hK:∀ x,K x->x < W.heap.size) (hu:Ls (Un K v) W (sl hd) (sat S hs.length).1) (ow:Ow KS w' B 49 v' (hs ++ [hd])) (g:W.grownBy w' v.ownBlock) (e:v'.ownBlock=v.ownBlock\/∃ g,v'.ownBlock=some g/\W.heap.size<=g):pE K w' B v' S (hs ++ [hd]):=by
 have o2:Only (Un K v) W w':=(Dc g).mono fun k _ q=>.inr q;have move:∀ u A,Ls (Un K v) W u A->Ls (Un K v') w' u A:=fun u A hl=>(hl.only o2).mono fun x hx q=>by
  rcases q with q | q
  ·exact .inl (.inl q)
  ·rcases e with e | ⟨y,e,hy⟩
   ·exact .inl (.inr (e ▸ q))
   ·rw [e] at q
    injection q with q;exact .inr ⟨by omega,hx⟩
 refine ⟨ow,fun i hi=>?_,fun b hb q=>?_⟩
 ·rw [cP] at hi
  simp only [eE,go] at hi
  by_cases hik:i < hs.length
  ·have:(hs ++ [hd]).getD i zh=hs.getD i zh:=by rw [af,af,ed hik]
   rw [this];exact move _ _ (h.each i hik)
  ·obtain rfl:i=hs.length:=by omega
   have:(hs ++ [hd]).getD hs.length zh=hd:=by rw [af];simp
   rw [this];exact move _ _ hu
 ·rcases e with e | ⟨y,e,hy⟩
  ·exact h.off b (e ▸ hb) q
  ·rw [e] at hb
   injection hb with hb;have:=hK b q
   omega
theorem pE.one (h:pE K W B v S hs) {i:Nat} (hi:i < hs.length):∃ b cap,v = .slice (some ⟨b,0,none⟩) hs.length cap/\W.cell? ⟨b,i,none⟩=some (sl (hs.getD i zh))/\Ls (Un K v) W (sl (hs.getD i zh)) (sat S i).1:=by
 obtain ⟨b,cap,e,_,_,_,_,_,A⟩:=h.own.form (by omega);refine ⟨b,cap,e,?_,h.each i hi⟩;have c:=A i hi 0 _ rfl;simp only [KS,Nat.mul_one,Nat.add_zero,eI] at c;exact c
end
theorem Xa {F:Nat->Prop} {W:World} {u:Value} {A:aT} (h:Ls F W u A):∃ a n c,u = .slice a n c:=by
 obtain ⟨L,h,_⟩:=h;obtain ⟨a,cap,e,_⟩:=h.rd;exact ⟨a,L.length,cap,e⟩
theorem abX:(prog.info? 49).map (fun i=>(i.zero,i.size,i.bytes))=some (some (.slice none 0 0),1,24):=by kernel_rfl
end Ga
namespace Pa
open Go.RowKit Go.Maps
open Ro (z5 ent)
open Ck (Ih pz kT iT)
theorem Lx {α:Type} {K:Rw.Kind α} {w:World} {v:Value} {l:List α} {a:Option Addr} {n cap k:Nat} (R:Rd K w v l) (e:v = .slice a n cap) (hk:k<=l.length) (h0:0 < k):Rd K w (.slice a k cap) (l.take k):=by
 obtain ⟨a',cap',e',⟨h1,h2⟩,h3,h4⟩:=R;rw [e] at e';injection e' with e1 e2 e3;subst e1 e3;have hl:(l.take k).length=k:=by rw [cD];omega
 refine ⟨a,cap,by rw [hl],⟨by rw [hl];omega,h2⟩,h3,fun _=>?_⟩;obtain ⟨b,off,rfl,hA⟩:=h4 (by omega);refine ⟨b,off,rfl,fun i hi j u hu=>?_⟩;rw [hl] at hi;refine hA i (by omega) j u ?_;rw [← hu,List.getD,List.getD,ie,an hi]
end Pa
namespace Cu
open Go.RowKit
open Pa (Lx)
attribute [local irreducible] Sd.aV wpQuiet
def kC (e:aA):aA:={ e with l:=e.l.take 260 }
def Qp (p:Pl):Pl:=((p.1.take 12).map fun e=>(e.1,e.2.1,e.2.2.take 260),p.2)
def On (l:List Pl):List Pl:=(l.take 6).map Qp
theorem WO:(prog.info? 85).map (fun i=>(i.zero,i.size,i.bytes))=some (some (.agg #[.int .i64 0,.int .i64 0,.slice none 0 0]),3,40):=by kernel_rfl
theorem aal:(prog.info? 75).map (fun i=>(i.zero,i.size,i.bytes))=some (some (.agg #[.slice none 0 0,.int .i64 0]),2,32):=by kernel_rfl
def xY (w:World) (B:Nat) (L:List jS) (e:Ending) (w':World):Prop:=∃ v L',e = .returned v/\CJ w' v L' B/\gG L'=On (gG L)/\Below w.heap.size w w'
theorem Sn {w:World} {a:Option Addr} {cap:Nat} {l:List R4} (h:Rd K4 w (.slice a l.length cap) l):Rd K4 w (.slice a (l.take 260).length cap) (l.take 260):=by
 by_cases h1:260<=l.length
 ·have e:(l.take 260).length=260:=by rw [cD];omega
  rw [e];exact Lx h rfl h1 (by decide)
 ·rw [dg (by omega)]
  exact h
structure Ki (wo:World) (c:jS) (m g5 g6:Nat) (fa:Option Addr) (fc:Nat) (j:Nat) (o:Value) (wr:World):Prop where
 fF:wr.heap[g5]? = some (.cells #[.slice fa m fc,.int .i64 c.rate] 75 (0,0))
 Et:wr.heap[g6]? = some (.cells #[o,.int .i64 c.rate] 75 (0,0))
 own:Ow E3 wr wo.heap.size 85 o ((c.F.take j).map kC)
 aD:Below wo.heap.size wo wr
 lo:wo.heap.size<=g5/\wo.heap.size<=g6/\g5≠g6
section
variable {wo wr w2:World} {c:jS} {m g5 g6 fc j:Nat} {fa:Option Addr} {o o':Value}
theorem Ki.below (h:Ki wo c m g5 g6 fa fc j o wr) (b:Below wr.heap.size wr w2):Ki wo c m g5 g6 fa fc j o w2:=⟨bV b h.fF,bV b h.Et,h.own.keep b,h.aD.trans (b.mono h.aD.size),h.lo⟩
theorem Ki.off (h:Ki wo c m g5 g6 fa fc j o wr) {gx:Nat} (h0:wo.heap.size<=gx) (h5:gx≠g5) (h6:gx≠g6) (ho:o.ownBlock≠some gx) (k:Nat) (u:Value):Ki wo c m g5 g6 fa fc j o (wr.setCell ⟨gx,k,none⟩ u) :=
 ⟨(bs wr ⟨gx,k,none⟩ u g5 (fun e=>h5 e.symm)).trans h.fF,(bs wr ⟨gx,k,none⟩ u g6 (fun e=>h6 e.symm)).trans h.Et,h.own.off (p:=⟨gx,k,none⟩) ho u,h.aD.setCell h0 u,h.lo⟩
theorem Ki.push (h:Ki wo c m g5 g6 fa fc j o wr) {x:aA} (hx:c.F[j]? = some x) (own:Ow E3 w2 wo.heap.size 85 o' ((c.F.take j).map kC ++ [kC x])) (gr:wr.grownBy w2 o.ownBlock):w2.heap[g6]? = some (.cells #[o,.int .i64 c.rate] 75 (0,0))/\Ki wo c m g5 g6 fa fc (j+1) o' (w2.setCell ⟨g6,0,none⟩ o'):=by
 have r5:=(gr.block g5 (bh h.fF) (fun e=>h.own.apart h.fF (by decide) e.symm)).trans h.fF;have r6:=(gr.block g6 (bh h.Et) (fun e=>h.own.apart h.Et (by decide) e.symm)).trans h.Et;have b2:=h.aD.grown gr h.aD.size fun j e=>(cC h.own j e).1;have e:(c.F.take (j+1)).map kC=(c.F.take j).map kC ++ [kC x]:=by rw [dm,hx,fw];rfl
 refine ⟨r6,(bs w2 ⟨g6,0,none⟩ o' g5 h.lo.2.2).trans r5,Rw.heap_setCell_same (j:=0) r6 o',?_,b2.setCell h.lo.2.1 _,h.lo⟩;rw [e];exact own.far (p:=⟨g6,0,none⟩) r6 (by decide) _
end
theorem Qd (x:aA):(kC x).sl.ownBlock=x.sl.ownBlock:=by
 obtain ⟨n,p,a,cap,l⟩:=x;unfold kC aA.sl
 cases a <;> rfl
def ROk (w:World) (B:Nat) (e:aA):Prop:=(Rd K4 w e.sl e.l/\dG e.l)/\(0 < e.l.length->∀ k,e.sl.ownBlock=some k->k < B)
variable {w:World} {v:Value} {B:Nat}
theorem WX {L:List aA} (rd:Rd E3 w v L) (each:∀ c∈L,ROk w B c):Ed w v L B:=by
 have at_:∀ i,i < L.length->eG L i∈L:=fun i hi=>by
  unfold eG;rw [af,am hi];exact dk hi
 exact ⟨rd,fun i hi=>(each _ (at_ i hi)).1,fun i hi h0 k hk=>(each _ (at_ i hi)).2 h0 k hk⟩
theorem Xt {L:List jS} (rd:Rd KP w v L) (each:∀ c∈L,Ed w (sl c.files) c.F B):CJ w v L B:=by
 refine ⟨rd,fun i hi=>each _ ?_⟩;unfold zi;rw [af,am hi];exact dk hi
structure OG (w:World) (B:Nat) (L:List jS) (k:Nat) (o:Value) (LD:List jS) (wr:World):Prop where
 own:Ow KP wr w.heap.size 75 o LD
 len:LD.length=k
 fil:∀ c∈LD,Ow E3 wr w.heap.size 85 (sl c.files) c.F
 Ry:∀ c∈LD,∀ e∈c.F,ROk w B e
 abs:gG LD=((gG L).take k).map Qp
 aD:Below w.heap.size w wr
section
variable {w wr w2:World} {B:Nat} {L LD:List jS} {k:Nat} {o o':Value} {x:jS}
theorem OG.below (h:OG w B L k o LD wr) (b:Below wr.heap.size wr w2):OG w B L k o LD w2:=⟨h.own.keep b,h.len,fun c hc=>(h.fil c hc).keep b,h.Ry,h.abs,h.aD.trans (b.mono h.aD.size)⟩
theorem OG.push (h:OG w B L k o LD wr) (hk:k < L.length) (own:Ow KP w2 w.heap.size 75 o' (LD ++ [x])) (gr:wr.grownBy w2 o.ownBlock) (fx:Ow E3 wr w.heap.size 85 (sl x.files) x.F) (rx:∀ e∈x.F,ROk w B e) (ax:x.abs=Qp (zi L k).abs):OG w B L (k+1) o' (LD ++ [x]) w2:=by
 have oq:=aX gr;refine ⟨own,by rw [cP,h.len];rfl,fun c hc=>?_,fun c hc=>?_,?_,h.aD.grown gr h.aD.size fun j e=>(cC h.own j e).1⟩
 ·rcases dy.1 hc with hc | hc
  ·exact aB (h.fil c hc) (fun k e=>Pa.aY (h.fil c hc) h.own (by decide) k e) oq
  ·rw [cY.1 hc]
   exact aB fx (fun k e=>Pa.aY fx h.own (by decide) k e) oq
 ·rcases dy.1 hc with hc | hc
  ·exact h.Ry c hc
  ·rw [cY.1 hc]
   exact rx
 ·have e1:gG (LD ++ [x])=gG LD ++ [x.abs]:=by unfold gG;rw [fw];rfl
  have e2:(gG L).take (k+1)=(gG L).take k ++ [(zi L k).abs]:=by
   rw [dm];have:(gG L)[k]? = some (zi L k).abs:=by
    unfold gG zi;rw [cL,am hk,af,am hk]
    rfl
   rw [this]
   rfl
  rw [e1,e2,fw,h.abs,ax]
  rfl
theorem OG.fin (h:OG w B L k o LD wr) (hk:k=L.length\/k=6) (h6:k<=6):xY w B L (.returned o) wr:=by
 refine ⟨o,LD,rfl,Xt h.own.rd fun c hc=>WX (h.fil c hc).rd fun e he=>⟨⟨(h.Ry c hc e he).1.1.below h.aD,(h.Ry c hc e he).1.2⟩,(h.Ry c hc e he).2⟩,?_,h.aD⟩;rw [h.abs];unfold On
 congr 1
 rcases hk with e | e
 ·rw [dg (by rw [eX];omega),dg (by rw [eX];omega)]
 ·rw [e]
end
theorem Va (c:jS) (h:Hd):(⟨h,c.rate,(c.F.take 12).map kC⟩:jS).abs=Qp c.abs:=by
 show (((c.F.take 12).map kC).map aA.abs,c.rate)=(((c.F.map aA.abs).take 12).map _,c.rate)
 rw [← List.map_take,List.map_map,List.map_map]
 rfl
theorem Ec {L:List jS} (H:CJ w v L B):Calls prog 19 #[v] w (xY w B L):=by
 have HF:=Hh H.file;obtain ⟨a,cap,rfl,_,hm,h3⟩:=H.rd;have H3:=Hh h3;clear h3 H;unfold maxLen at hm;have FIN:Hid (∀ k o LD wr,OG w B L k o LD wr->k=L.length\/k=6->k<=6->xY w B L (.returned o) wr):=Hh (fun k o LD wr I h1 h2=>I.fin h1 h2);have I0:Hid (OG w B L 0 (.slice (some ⟨w.heap.size,0,none⟩) 0 0) [] (w.alloc (.cells #[] 75))):=Hh ⟨Rw.Ow.made _ _ _ (ac _),rfl,fun c hc=>(cW hc).elim,fun c hc=>(cW hc).elim,rfl,(aa _ _).alloc (ac _) _⟩;generalize hn:L.length=n at *;have HN:=Hh hn;clear hn
 go_enter func19,ntmps19
 go_wp2
 go_loopw [4,3] (fun i o wr=>∃ (k:Nat) (LD:List jS) (p1:Value),k<=n/\k<=6/\i = .int .i64 k/\p1=o/\Hid (OG w B L k o LD wr)) (fun i _ _=>6 - (intOf i).toNat)
 case atStart=>exact ⟨0,[],_,ce _,ce _,rfl,rfl,by simpa using I0⟩
 case round =>
  clear I0;obtain ⟨k,LD,o,hk,hk6,rfl,rfl,I⟩:=hrel
  by_cases hlt:k < n/\k < 6
  ·obtain ⟨hlt,h6⟩:=hlt
   have hkL:k < L.length:=by have:=HN.out;omega
   obtain ⟨b,off,rfl,hA⟩:=H3 (by omega);obtain ⟨x0,x1⟩:=Yp (hA.below I.aD) hkL;have HAA:=Hh hA;have FK:=Hh (HF k hlt);have KL:=Hh hkL;have LDL:=Hh I.len;clear hA hkL;obtain ⟨ao,co,eo,-,-⟩:=I.own.slice;generalize LD.length=ln at eo;subst eo;generalize hc:zi L k=c at *;have HC:=Hh hc;clear hc;obtain ⟨fa0,fc0,es,hmf⟩:=FK.rd.slice;have ES:=Hh es;rw [es] at x0;clear es;have Y0:=Hh (aw wr (.cells #[.slice fa0 c.F.length fc0,.int .i64 c.rate] 75));have BN:=Hh ((aa wr.heap.size wr).alloc (ac _) (.cells #[.slice fa0 c.F.length fc0,.int .i64 c.rate] 75))
   have FCAP:Hid (c.F.length<=fc0):=Hh (by
    obtain ⟨_,_,e,q,_⟩:=FK.rd;rw [ES.out] at e;injection e with _ _ e
    omega)
   unfold maxLen at hmf
   go_upto_if 27 with fail
   clear x0 x1;generalize (wr.alloc (.cells #[.slice fa0 c.F.length fc0,.int .i64 c.rate] 75))=W5 at *;have z0:=Fl.rc Y0 0;have f0:=aj Y0 0
   go_cut [4] from 10 to 67 (fun z wx=>Value.int .i64 k=z/\Hid (Below wr.heap.size wr wx/\wx.heap[wr.heap.size]? = some (.cells #[.slice fa0 (c.F.take 12).length fc0,.int .i64 c.rate] 75 (0,0))))
   case first =>
    by_cases hl:12 < c.F.length
    ·have e12:(c.F.take 12).length=12:=by rw [cD];omega
     have q1:decide (12 < (c.F.length:Int))=true:=az (by omega);have fcap:=FCAP.out
     have P:Hid (Below wr.heap.size wr (W5.setCell ⟨wr.heap.size,0,none⟩ (.slice fa0 12 fc0))/\(W5.setCell ⟨wr.heap.size,0,none⟩ (.slice fa0 12 fc0)).heap[wr.heap.size]? = some (.cells #[.slice fa0 (c.F.take 12).length fc0,.int .i64 c.rate] 75 (0,0))):=Hh (by
      rw [e12]
      exact ⟨BN.setCell (ac _) (.slice fa0 12 fc0),Rw.heap_setCell_same (j:=0) Y0 (.slice fa0 12 fc0)⟩)
     clear e12 Y0 BN;generalize (c.F.take 12).length=fm at *;generalize c.F.length=fl at *;go_wp2
     go_meet
     exact ⟨rfl,P.out.1,P.out.2⟩
    ·have e12:c.F.take 12=c.F:=dg (by omega)
     have q1:decide (12 < (c.F.length:Int))=false:=aq (by omega);have q2:decide (12 < c.F.length)=false:=aq (by omega)
     have P:Hid (Below wr.heap.size wr W5/\W5.heap[wr.heap.size]? = some (.cells #[.slice fa0 (c.F.take 12).length fc0,.int .i64 c.rate] 75 (0,0))):=Hh (by
      rw [e12]
      exact ⟨BN,Y0⟩)
     clear e12 Y0 BN;generalize (c.F.take 12).length=fm at *;generalize c.F.length=fl at *;go_wp2
     go_meet
     exact ⟨rfl,P.out.1,P.out.2⟩
   case rest =>
    obtain ⟨e1,P⟩:=hcut;subst e1;clear z0 f0 Y0 BN
    have FR:=Hh (fun e (he:e∈c.F)=>(by
     obtain ⟨i,hi⟩:=dq he;have hl:=(cg.1 hi).1;have q:=FK.file i hl;have q2:=FK.low i hl;unfold eG at q q2;rw [af,hi] at q q2
     exact ⟨q,q2⟩:ROk w B e))
    have FH:Hid (0 < c.F.length->∃ b off,fa0=some ⟨b,off,none⟩/\At E3 w b off c.F):=Hh (by
     obtain ⟨a',cap',e',_,_,h3⟩:=FK.rd;rw [ES.out] at e';injection e' with e1 _ _;subst e1
     exact h3)
    have MF:Hid ((c.F.take 12).length<=c.F.length/\(c.F.take 12).length<=12):=Hh (by rw [cD];omega)
    have TT:Hid ((c.F.take 12).map kC=(c.F.take (c.F.take 12).length).map kC):=Hh (by
     congr 1
     rw [cD]
     by_cases h:12<=c.F.length
     ·rw [Nat.min_eq_left h]
     ·rw [Nat.min_eq_right (by omega),dg (by omega),cX])
    generalize (c.F.take 12).length=m at *;obtain ⟨wo,hwo⟩:∃ x,x=wr:=⟨_,rfl⟩;have IW:Hid (OG w B L k (.slice ao ln co) LD wo):=Hh (by rw [hwo];exact I.out);rw [← hwo] at P;rw [← hwo];clear I hwo
    rename_i W5x
    have x5r:=Fl.rc P.out.2 1
    have Q0:Hid (Ki wo c m wo.heap.size wc.heap.size fa0 fc0 0 (.slice none 0 0) (wc.alloc (.cells #[.slice none 0 0,.int .i64 c.rate] 75))):=Hh (by
     have b6:=(aa wc.heap.size wc).alloc (ac _) (.cells #[.slice none 0 0,.int .i64 c.rate] 75);have zz:=P.out.1.size;have zl:=bh P.out.2
     exact ⟨(b6.block _ zl).trans P.out.2,aw wc _,Rw.Ow.nil _ _ _,P.out.1.trans (b6.mono zz),ac _,zz,by omega⟩)
    go_upto_region 9 with fail;clear x5r P;generalize (wc.alloc (.cells #[.slice none 0 0,.int .i64 c.rate] 75))=w6 at *;generalize wc.heap.size=g6 at *;generalize wo.heap.size=g5 at Q0 ⊢;go_wp2
    go_loopw [7] (fun i wr2=>∃ (j:Nat) (o2:Value),j<=m/\i = .int .i64 j/\Hid (Ki wo c m g5 g6 fa0 fc0 j o2 wr2)) (fun i _=>m - (intOf i).toNat)
    case atStart=>exact ⟨0,_,ce _,rfl,Q0⟩
    case round =>
     clear Q0;obtain ⟨j,o2,hj,rfl,Q⟩:=hrel;have p0:=Fl.rc Q.fF 0
     by_cases hjm:j < m
     ·have hjF:j < c.F.length:=by have:=MF.out;omega
      have hc:c.F[j]? = some (eG c.F j):=by
       unfold eG;rw [am hjF,af,am hjF]
       rfl
      obtain ⟨b2,off2,rfl,hA⟩:=FH (by omega);obtain ⟨y0,y1,y2⟩:=at3 (hA.below (IW.aD.trans (Q.aD.mono IW.aD.size))) hc;have HAA2:=Hh hA;have RR:=Hh (FR _ (cU hc)).1;have HCJ:=Hh hc;clear hA hc hjF;generalize eG c.F j=x at *;obtain ⟨cn,cp,ca,ccap,cl⟩:=x;unfold aA.sl at y2;simp only at y0 y1 y2;have Y1:=Hh (aw wr (.cells #[.int .i64 cn,.int .i64 cp,.slice ca cl.length ccap] 85));have BN2:=Hh ((aa wr.heap.size wr).alloc (ac _) (.cells #[.int .i64 cn,.int .i64 cp,.slice ca cl.length ccap] 85))
      have CAPC:Hid (cl.length<=ccap):=Hh (by
       obtain ⟨_,_,e,q,_⟩:=RR.out.1;unfold aA.sl at e;simp only at e q;injection e with _ _ e;rw [e]
       exact q.1)
      have CLM:Hid (ccap<=maxLen):=Hh (by
       obtain ⟨_,_,e,_,q,_⟩:=RR.out.1;unfold aA.sl at e;simp only at e;injection e with _ _ e;rw [e]
       exact q)
      have R26:=Hh (Sn (l:=cl) (a:=ca) (cap:=ccap) RR.out.1);have Q7:=Hh (Q.below BN2);have GX:Hid (wo.heap.size<=wr.heap.size/\wr.heap.size≠g6/\wr.heap.size≠g5/\o2.ownBlock≠some wr.heap.size):=Hh ⟨Q.aD.size,fun e=>by have:=bh Q.out.Et;omega,fun e=>by have:=bh Q.out.fF;omega,fun e=>by have:=(cC Q.out.own _ e).2;omega⟩
      go_upto_if 51 with fail
      clear y0 y1 y2 p0;generalize (wr.alloc (.cells #[.int .i64 cn,.int .i64 cp,.slice ca cl.length ccap] 85))=W7 at *;clear Q BN2;generalize wr.heap.size=gx at *;have z2:=Fl.rc Y1 2;have f2:=aj Y1 2
      go_cut [7] from 35 to 63 (fun z wx=>Value.int .i64 j=z/\Hid (wx.heap[gx]? = some (.cells #[.int .i64 cn,.int .i64 cp,.slice ca (cl.take 260).length ccap] 85 (0,0))/\Ki wo c m g5 g6 (some ⟨b2,off2,none⟩) fc0 j o2 wx))
      case first =>
       by_cases hl:260 < cl.length
       ·have e12:(cl.take 260).length=260:=by rw [cD];omega
        have q1:decide (260 < (cl.length:Int))=true:=az (by omega);have capc:=CAPC.out;have clm:=CLM.out;unfold maxLen at clm
        have P:Hid ((W7.setCell ⟨gx,2,none⟩ (.slice ca 260 ccap)).heap[gx]? = some (.cells #[.int .i64 cn,.int .i64 cp,.slice ca (cl.take 260).length ccap] 85 (0,0))/\Ki wo c m g5 g6 (some ⟨b2,off2,none⟩) fc0 j o2 (W7.setCell ⟨gx,2,none⟩ (.slice ca 260 ccap))):=Hh (by
         rw [e12]
         exact ⟨Rw.heap_setCell_same (j:=2) Y1 _,Q7.off GX.out.1 GX.out.2.2.1 GX.out.2.1 GX.out.2.2.2 2 _⟩)
        clear e12 Y1 Q7 RR R26 HCJ;generalize (cl.take 260).length=fm at *;generalize cl.length=fl at *;go_wp2
        go_meet
        exact ⟨rfl,P⟩
       ·have e12:cl.take 260=cl:=dg (by omega)
        have q1:decide (260 < (cl.length:Int))=false:=aq (by omega);have q2:decide (260 < cl.length)=false:=aq (by omega)
        have P:Hid (W7.heap[gx]? = some (.cells #[.int .i64 cn,.int .i64 cp,.slice ca (cl.take 260).length ccap] 85 (0,0))/\Ki wo c m g5 g6 (some ⟨b2,off2,none⟩) fc0 j o2 W7):=Hh (by
         rw [e12]
         exact ⟨Y1,Q7⟩)
        clear e12 Y1 Q7 RR R26 HCJ;generalize (cl.take 260).length=fm at *;generalize cl.length=fl at *;go_wp2
        go_meet
        exact ⟨rfl,P⟩
      case rest =>
       obtain ⟨e1,P⟩:=hcut;subst e1;clear z2 f2 Y1 Q7;have X8:=Hh P.out.1;have Q8:=Hh P.out.2;clear P;obtain ⟨oa,oc,eo,-,-⟩:=Q8.own.slice;have FLN:Hid (((c.F.take j).map kC).length<=12):=Hh (by rw [bt,cD];have:=MF.out;omega);generalize ((c.F.take j).map kC).length=fln at eo;subst eo;have c6:=Fl.rc Q8.Et 0;obtain ⟨z0,z1,z2⟩:=CU X8;have LE:=Hh (aw wc (.cells #[.int .i64 cn,.int .i64 cp,.slice ca (cl.take 260).length ccap] 85));have QE:=Hh (Q8.below ((aa wc.heap.size wc).alloc (ac _) (.cells #[.int .i64 cn,.int .i64 cp,.slice ca (cl.take 260).length ccap] 85)));have CE:Hid (kC ⟨cn,cp,ca,ccap,cl⟩=⟨cn,cp,ca,ccap,cl.take 260⟩):=Hh rfl;clear Q8 X8;generalize hcr:cl.take 260=cr26 at *;generalize hrl:cr26.length=rl at *;have RLH:=Hh hrl;clear hcr hrl
       go_wp2_with (at_builtin;refine bU (K:=E3) underlying49 WO rfl (by omega) rfl _ _ rfl wo.heap.size _ _ rfl QE.out.own _ (⟨cn,cp,ca,ccap,cr26⟩:aA) rfl ?d1 ?d2 ?d3 ?_)
       case d1 =>
        intro jj u hu
        have c:=ah LE jj
        match jj,hu with
        | 0,hu=>simp [E3] at hu;subst hu;first | exact c | rfl | go_simp
        | 1,hu=>simp [E3] at hu;subst hu;first | exact c | rfl | go_simp
        | 2,hu=>simp [E3,aA.sl,RLH.out] at hu;subst hu;first | exact c | rfl | go_simp
        | jj+3,hu=>simp [E3] at hu
       case d2=>first | (have:=FLN;omega) | (have:=FLN.out;simp only [bt] at this ⊢;omega) | (have:=FLN.out;simp at this ⊢;omega)
       case d3=>have:=QE.aD.size;simpa using this
       intro v9 w9 o9 g9 _
       rw [← CE.out] at o9
       (try rw [← List.map_take] at o9)
       obtain ⟨r9,q9⟩:=QE.push HCJ o9 (by simpa using g9);have Q9:=Hh q9;have c6':=ah r9 0;have f6':=aj r9 0;obtain ⟨v9a,v9c,n9,rfl⟩:∃ a c n,v9 = .slice a n c:=by obtain ⟨a,c,e,_⟩:=o9.slice;exact ⟨a,c,_,e⟩
       have m12:=MF.out.2;clear o9 g9 r9 q9 QE LE z0 z1 z2 c6 RR R26 HCJ CE;go_wp2
       go_roundw
       case rel=>exact ⟨j+1,_,by omega,by go_num,Q9⟩
       case measure=>simp [intOf];omega
     ·obtain rfl:j=m:=by omega
      obtain ⟨oa,oc,eo,-,-⟩:=Q.own.slice;have HO:=Hh eo;generalize ((c.F.take j).map kC).length=fln at eo HO;subst eo;obtain ⟨c60,c61⟩:=CQ Q.Et;have IR:=Hh (IW.below (Q.aD.mono (ac _)));have LE:=Hh (aw wr (.cells #[.slice oa fln oc,.int .i64 c.rate] 75));have BE:=Hh ((aa wr.heap.size wr).alloc (ac _) (.cells #[.slice oa fln oc,.int .i64 c.rate] 75));have IE:=Hh (IR.below BE);have FX:Hid (Ow E3 (wr.alloc (.cells #[.slice oa fln oc,.int .i64 c.rate] 75)) w.heap.size 85 (sl (oa,fln,oc)) ((c.F.take 12).map kC)):=Hh (by rw [TT.out];exact (Q.out.own.keep BE.out).low IW.out.aD.size)
      have RX:Hid (∀ e∈(c.F.take 12).map kC,ROk w B e):=Hh (fun e he=>by
       obtain ⟨x,hx,rfl⟩:=di.1 he;have q:=FR.out x (List.mem_of_mem_take hx)
       exact ⟨⟨Sn (l:=x.l) q.1.1,fun r hr=>q.1.2 r (List.mem_of_mem_take hr)⟩,fun h0 k hk=>q.2 (by have h1:0 < (x.l.take 260).length:=h0;rw [cD] at h1;omega) k (by rw [← Qd x];exact hk)⟩)
      have AX:Hid ((⟨(oa,fln,oc),c.rate,(c.F.take 12).map kC⟩:jS).abs=Qp (zi L k).abs):=Hh (by rw [HC.out];exact Va c _);clear Q IR BE
      go_wp2_with (at_builtin;refine bU (K:=KP) underlying22 aal rfl (by omega) rfl _ _ rfl w.heap.size _ _ rfl IE.out.own _ (⟨(oa,fln,oc),c.rate,(c.F.take 12).map kC⟩:jS) rfl ?d1 ?d2 ?d3 ?_)
      case d1 =>
       intro jj u hu
       have c:=ah LE jj
       match jj,hu with
       | 0,hu=>simp [KP,sl] at hu;subst hu;first | exact c | rfl | go_simp
       | 1,hu=>simp [KP] at hu;subst hu;first | exact c | rfl | go_simp
       | jj+2,hu=>simp [KP] at hu
      case d2=>rw [LDL.out];omega
      case d3=>have:=IE.aD.size;simpa using this
      intro v9 w9 o9 g9 _
      (try rw [← List.map_take] at o9)
      have NEW:=Hh (IE.push KL o9 (by simpa using g9) FX.out RX.out AX.out);obtain ⟨v9a,v9c,n9,rfl⟩:∃ a c n,v9 = .slice a n c:=by obtain ⟨a,c,e,_⟩:=o9.slice;exact ⟨a,c,_,e⟩
      clear o9 g9 IE FX RX AX LE c60 c61;go_wp2
      go_roundw
      case rel=>exact ⟨k+1,_,_,by omega,by omega,by go_num,rfl,NEW⟩
      case measure=>simp [intOf];omega
  ·have E:=Hh (FIN k _ LD wr I (by omega) hk6)
   clear FIN I
   by_cases hkn:k < n
   ·have q1:¬ ((k:Int) < 6):=by omega
    go_wp2
    go_ret
    exact E
   ·go_wp2
    go_ret
    exact E
end Cu
namespace Cu
open Go.RowKit
variable {w:World} {v:Value} {L:List jS} {B:Nat}
theorem WE (H:CJ w v L B):∀ p∈gG L,∀ e∈p.1,dG e.2.2:=fun p hp e he=>by
 obtain ⟨c,hc,rfl⟩:=di.1 hp;obtain ⟨x,hx,rfl⟩:=di.1 he;obtain ⟨i,hi⟩:=dq hc;have hl:=(cg.1 hi).1;have f:=H.file i hl;unfold zi at f;rw [af,hi] at f;obtain ⟨j,hj⟩:=dq hx;have hjl:=(cg.1 hj).1;have g:=(f.file j hjl).2;unfold eG at g;rw [af] at g;have e2:((some c:Option jS).getD plD).F[j]? = some x:=hj;rw [e2] at g;exact g
structure Oc (c:Cs) (t:Nat):Prop where
 ok:jB c t
 sy:nL c
theorem Oc.act {c:Cs} {t:Nat} (h:Oc c t) {x:Ac} (hx:bH x.v):Oc (bO x c) (t+1):=⟨h.ok.act x hx,h.sy.act h.ok x⟩
theorem Oc.serve {c:Cs} {t:Nat} (h:Oc c t) (n o f r:Int) {x:R4} (hx:bH x):Oc (AQ c n o f r x) (t+1):=⟨h.ok.serve n o f r x hx,h.sy.serve n o f r x⟩
theorem Qm (H:CJ w v L B) (h:newE (gG L)=0):Oc (newC (gG L)) 0:=by
 have o:=Iy h (WE H);refine ⟨o,BU _ ?_⟩;have:=o.len.1;have e:(newC (gG L)).S.length=(gG L).length:=bt _
 omega
section
end
end Cu
namespace Ga
open Go.RowKit
open Cu (Oc Qm xY Ec On)
open Rq (Q)
attribute [local irreducible] Sd.aV wpQuiet
theorem Xw {w:World} (hg:Glob w) {v u:Value} {L:List jS} {l:List Int} (H:CJ w v L w.heap.size) (R:Rd KU w u l) (hb:∀ x∈l,0<=x/\x < 256) (key many:Int) (hk:0<=key/\key<=255) (hm:0<=many/\many<=255):Calls prog 4 #[v,u,.int .u8 key,.int .u8 many] w fun e w'=>e = .returned (.bool true)/\Below w.heap.size w w':=by
 have HG:=Hh hg;have F1:=Hh (Ec H);have AW:=Hh (fun W (b:Below w.heap.size w W)=>NY (hg.below b));have RB:=Hh R;have HB:=Hh hb;have HK:=Hh hk;have wk:IntKind.i64.wrap key=key:=cx _ (by omega);have wm:Int.tmod many 12=many % 12:=gc hm.1;have wn:IntKind.u8.wrap (many % 12)=many % 12:=Rq.u8_in (by omega) (by omega);have wo:IntKind.i64.wrap (many % 12)=many % 12:=cx _ (by omega);obtain ⟨N,wp,n12⟩:∃ N:Nat,IntKind.i64.wrap (many % 12+1)=(N:Int)/\N<=12:=⟨(many % 12+1).toNat,(cx _ (by omega)).trans (by omega),by omega⟩;generalize many % 12=mm at *;obtain ⟨ba,bc,rfl,_⟩:=R.slice
 obtain ⟨x,hE,ex,ee,hx⟩:∃ (x:Q) (hE:Int),(if sj l then kJ l else zQ)=x/\(if sj l then (0:Int) else 2)=hE/\((sj l/\x=kJ l/\hE=0)\/(¬ sj l/\x=zQ/\hE=2)):=⟨_,_,rfl,rfl,by
  by_cases h:sj l
  ·exact .inl ⟨h,an h,an h⟩
  ·exact .inr ⟨h,ai h,ai h⟩⟩
 have HX:=Hh hx;have TK:Hid (∀ W,Below w.heap.size w W->Calls prog 16 #[.slice ba l.length bc] W fun e w'=>e = .returned (.tuple #[qV x,.int .i64 hE])/\Below W.heap.size W w'):=Hh fun W b=>by
  have:=dU W _ l hb (R.below b);unfold dL at this;rw [ex,ee] at this;exact this
 have HI:Hid (za l=x.id):=Hh (by
  unfold za
  rcases hx with ⟨h,rfl,_⟩ | ⟨h,rfl,_⟩
  ·rw [an h]
  ·rw [ai h];rfl)
 clear hg H hb hk hm R hx ex ee;obtain ⟨xi,xk,xn,xf,xr,⟨v0,v1,v2,v3⟩,xy⟩:=x;unfold qV qA at TK;dsimp only at TK HI;unfold xY at F1;have LP6:Hid ((On (gG L)).length<=6):=Hh (by unfold On;rw [bt,cD];omega);generalize On (gG L)=lp at *;generalize hl:l.length=ln at *;have HL:=Hh hl;clear hl
 go_enter func4,ntmps4
 go_wp2_with fail;refine F1.out.mono ?_;rintro e w1 ⟨v1,L1,rfl,h1,e1,b1⟩;clear F1;obtain ⟨va,vc,rfl,vcap,vm,-⟩:=h1.rd;have H1:=Hh h1;have B1:=Hh b1;have E1:=Hh e1;clear h1 b1 e1 vm;have FIN:=Hh (fun W (b:Below w1.heap.size w1 W)=>B1.out.trans (b.mono B1.out.size));have G1:=Hh (HG.out.below B1.out);generalize hq:L1.length=q at *;have HQ:=Hh hq;clear hq
 by_cases e0:newE lp=0
 ·have N1:=vL (w0:=w1) H1.out (by rw [E1.out];exact e0) (aa _ _)
  have K0:=Qm H1.out (by rw [E1.out];exact e0);rw [E1.out] at N1 K0;have NN:=Hh N1;have KK:=Hh K0;clear N1 K0
  have HL2:Hid ((newC lp).S.length=q/\q<=32):=Hh (by
   have l1:=KK.out.ok.len;have l2:(newC lp).S.length=lp.length:=bt _;have l3:lp.length=q:=by rw [← E1.out,eX,HQ.out]
   omega)
  have q32:=HL2.out.2;clear H1 e0 E1 HQ;generalize newC lp=c at *;clear LP6;go_wp2_with fail;refine NN.out.mono ?_;rintro e w2 ⟨s,rfl,ch2⟩;have GN:=Hh (TX ch2 HK.out);clear NN ch2;unfold ptr at GN;go_wp2_with fail;refine GN.out.mono ?_;rintro e w3 ⟨g,H,rfl,gx3⟩;have OK0:Hid (OkG ⟨c,key,Qe.q0⟩ 0):=Hh ⟨KK.out.ok,KK.out.sy,Qe.aat,nofun,HK.out⟩;have Z0:Hid (w3.heap.size<=(w3.alloc (.cells #[] 49)).heap.size):=Hh (by simp);have D0:=Hh (gx3.below ((aa w3.heap.size w3).alloc (ac _) (.cells #[] 49)));have W0:=Hh (pE.made (S:=c.S) w3 gx3.low);have b3:Below w1.heap.size w1 w3:=gx3.aD;have z3:=Hh b3.size;clear GN gx3 b3 KK;go_upto_region 8 with fail;generalize w3.alloc (.cells #[] 49)=w4 at *;generalize w3.heap.size=n3 at *;go_wp2
  go_loopw [14,13] (fun i o wr=>∃ (k:Nat) (p1:Value) (hs:List Hd),k<=q/\i = .int .i64 k/\p1=o/\Hid (hs.length=k/\GX w1 g s H ⟨c,key,Qe.q0⟩ 0 wr/\pE H wr n3 o c.S hs/\n3<=wr.heap.size)) (fun i _ _=>q - (intOf i).toNat)
  case atStart=>exact ⟨0,_,[],ce _,rfl,rfl,Hh ⟨rfl,D0.out,W0.out,Z0.out⟩⟩
  case round =>
   clear D0 W0 Z0;obtain ⟨k,o,hs,hkq,rfl,rfl,D⟩:=hrel;have CN:=pU D.out.2.1.ch;rw [HL2.out.1] at CN;have CX:=Hh CN;clear CN;unfold ptr at CX
   by_cases hlt:k < q
   ·obtain ⟨oa,oc,eo,-,-⟩:=D.out.2.2.1.own.slice
    have eo':o = .slice oa k oc:=by rw [eo,D.out.1]
    subst eo';clear eo;have CF:=Hh (fun W (b:Below wr.heap.size wr W)=>oV (D.out.2.1.ch.below b) (n:=k) (by rw [HL2.out.1];exact hlt));unfold bY ptr at CF;go_wp2_with fail;refine CX.out.mono ?_;rintro e w5 ⟨rfl,b5⟩;have CY:=Hh (CF.out w5 b5);have B5:=Hh b5;clear CX CF b5;go_wp2_with fail;refine CY.out.mono ?_;rintro e w6 ⟨fv,rfl,hfv,b6⟩;have B6:=Hh (B5.out.trans (b6.mono B5.out.size))
    have LF:=hfv (Un H (.slice oa k oc)) (fun x hx=>by
     have z:=B5.out.size
     rcases hx with hx | hx
     ·have:=D.out.2.1.low x hx;omega
     ·have:=Fs.lg D.out.2.2.1.own x hx;omega)
    obtain ⟨fa,fn,fc,rfl⟩:=Xa LF;have BA:=Hh ((aa w6.heap.size w6).alloc (ac _) (.cells #[.slice fa fn fc] 49));have XA:=Hh (aw w6 (.cells #[.slice fa fn fc] 49));have LA:=Hh (LF.below BA.out);have DA:=Hh ((D.out.2.1.below B6.out).below BA.out);have WA:=Hh ((D.out.2.2.1.below B6.out).below BA.out);have ZA:Hid (n3<=(w6.alloc (.cells #[.slice fa fn fc] 49)).heap.size):=Hh (by have:=D.out.2.2.2;have:=B6.out.size;have:=BA.out.size;omega);have DL:=Hh D.out.1;clear CY hfv b6 LF B5 B6 BA D;have y0:=dB XA.out 0
    go_wp2_with (at_builtin;refine bU (K:=KS) underlying47 abX rfl (by omega) rfl _ _ rfl n3 _ _ rfl WA.out.own _ ((fa,fn,fc):Hd) rfl ?d1 ?d2 ?d3 ?_)
    case d1 =>
     intro jj uu hu
     have c:=ah XA.out jj
     match jj,hu with
     | 0,hu=>simp [KS,sl] at hu;subst hu;first | exact c | rfl | go_simp
     | jj+1,hu=>simp [KS] at hu
    case d2=>rw [DL.out];omega
    case d3=>have:=ZA.out;simpa using this
    intro v9 w9 o9 g9 e9
    have g9':(w6.alloc (.cells #[.slice fa fn fc] 49)).grownBy w9 (Value.slice oa k oc).ownBlock:=by first | exact g9 | simpa using g9
    have NEW:Hid ((hs ++ [((fa,fn,fc):Hd)]).length=k+1/\GX w1 g s H ⟨c,key,Qe.q0⟩ 0 w9/\pE H w9 n3 v9 c.S (hs ++ [((fa,fn,fc):Hd)])/\n3<=w9.heap.size):=Hh ⟨by simp [DL.out],DA.out.only (J:=fun x=>(Value.slice oa k oc).ownBlock=some x) (fun x hx e=>WA.out.off x e hx) (Dc g9') (fun x e=>by have:=(Fs.lg WA.out.own x e).1;have:=z3.out;omega),WA.out.push DA.out.low (by rw [DL.out];exact LA.out) o9 g9' (by rw [show (w6.alloc (.cells #[.slice fa fn fc] 49)).heap.size=w6.heap.size+1 by simp];exact e9),cG ZA.out g9'.size⟩;obtain ⟨v9a,v9c,n9,rfl⟩:∃ a c n,v9 = .slice a n c:=by obtain ⟨a,c,e,_⟩:=o9.slice;exact ⟨a,c,_,e⟩
    clear o9 g9 g9' e9 WA DA LA XA y0;go_wp2
    go_roundw
    case rel=>exact ⟨k+1,_,_,by omega,by go_num,rfl,NEW⟩
    case measure=>simp [intOf];omega
   ·have hkq:q=k:=by omega
    subst hkq;have TK':=Hh (fun W (b:Below wr.heap.size wr W)=>TK.out W (FIN.out W (D.out.2.1.aD.trans (b.mono D.out.2.1.aD.size))));clear TK hlt;go_wp2_with fail;refine CX.out.mono ?_;rintro e w5 ⟨rfl,b5⟩;have TY:=Hh (TK'.out w5 b5);have B5:=Hh b5;clear CX TK' b5;go_wp2_with fail;refine TY.out.mono ?_;rintro e w6 ⟨rfl,b6⟩;have BA:=Hh ((aa w6.heap.size w6).alloc (ac _) (.cells #[.int .i64 xi,.int .i64 xk,.int .i64 xn,.int .i64 xf,.int .i64 xr,.int .u8 v0,.int .u8 v1,.int .u8 v2,.int .u8 v3,.int .i64 xy] 53));have XR:=Hh (aw w6 (.cells #[.int .i64 xi,.int .i64 xk,.int .i64 xn,.int .i64 xf,.int .i64 xr,.int .u8 v0,.int .u8 v1,.int .u8 v2,.int .u8 v3,.int .i64 xy] 53));have D7:Hid (GX w1 g s H ⟨c,key,Qe.q0⟩ 0 (w6.alloc (.cells #[.int .i64 xi,.int .i64 xk,.int .i64 xn,.int .i64 xf,.int .i64 xr,.int .u8 v0,.int .u8 v1,.int .u8 v2,.int .u8 v3,.int .i64 xy] 53))/\pE H (w6.alloc (.cells #[.int .i64 xi,.int .i64 xk,.int .i64 xn,.int .i64 xf,.int .i64 xr,.int .u8 v0,.int .u8 v1,.int .u8 v2,.int .u8 v3,.int .i64 xy] 53)) n3 o c.S hs):=Hh ⟨((D.out.2.1.below B5.out).below b6).below BA.out,((D.out.2.2.1.below B5.out).below b6).below BA.out⟩;have NH:Hid (¬ H w6.heap.size):=Hh (fun h=>by have:=D.out.2.1.low _ h;have:=B5.out.size;have:=b6.size;omega);have DL:=Hh D.out.1;clear TY b6 B5 BA D;go_upto_region 13 with fail;generalize w6.alloc (.cells #[.int .i64 xi,.int .i64 xk,.int .i64 xn,.int .i64 xf,.int .i64 xr,.int .u8 v0,.int .u8 v1,.int .u8 v2,.int .u8 v3,.int .i64 xy] 53)=w7 at *;generalize w6.heap.size=xb at *;obtain ⟨z,hz⟩:∃ z,iZ ⟨c,key,Qe.q0⟩ l=z:=⟨_,rfl⟩;have HZ:=Hh hz;have HW:=Hh (Wo c key l HX.out hz);dsimp only at HW;rw [HL2.out.1] at HW;clear hz HX;have CX:=Hh (fun W (b:Below w7.heap.size w7 W)=>pU (D7.out.1.ch.below b));rw [HL2.out.1] at CX;unfold ptr at CX
    go_upto_if 61 with fail
    go_cut [17] from 62 to 81 (fun v wx=>v = .int .i64 z/\Hid (Below w7.heap.size w7 wx))
    case first =>
     rcases HW.out with ⟨rfl,rfl⟩ | ⟨rfl,hw⟩
     ·go_wp2
      go_meet
      exact ⟨rfl,aa _ _⟩
     ·have HW2:=Hh hw
      clear hw HW;go_upto_region 16 with fail;have x2:=Sd.aC (dB XR.out 2);have B0:=Hh ((aa w7.heap.size w7).drew);refine Sd.start [(false,0),(false,1),(false,2),(true,3),(false,4)] (by kernel_rfl) (by kernel_rfl) (by kernel_rfl) ?_;dsimp only [Sd.aK,List.getElem?_cons_succ,List.getElem?_cons_zero]
      iterate 3 (refine Sd.lit ?_;quiet_step (fail);refine bi ?_)
      refine Sd.call (by rfl) (fun K hK=>?_);go_simp;refine (CX.out _ B0.out).mono ?_;rintro e w8 ⟨rfl,b8⟩;have B8:=Hh (B0.out.trans (b8.mono B0.out.size));refine hK _ _ (Sd.Cl.of B8.out) ?_;clear hK K b8 x2 B0
      iterate 1 (refine Sd.lit ?_;quiet_step (fail);refine bi ?_)
      refine Sd.done ?_;have X8:=Hh (bV B8.out XR.out)
      rcases HW2.out with ⟨h1,rfl⟩ | ⟨h1,hw⟩
      ·clear HW2
       go_wp2
       go_meet
       exact ⟨rfl,B8⟩
      ·have x1:=dB X8.out 1
       have x9:=dB X8.out 9;clear HW2
       rcases hw with ⟨rfl,hk,rfl⟩ | ⟨rfl,hk,rfl⟩ | ⟨rfl,rfl,rfl⟩ | ⟨rfl,rfl,rfl⟩ | ⟨hk,h3,rfl⟩
       all_goals
        go_wp2
        go_meet
        exact ⟨rfl,B8⟩
    case rest =>
     obtain ⟨rfl,hc⟩:=hcut;have D8:=Hh (⟨D7.out.1.below hc,D7.out.2.below hc,NH.out,bV hc XR.out⟩:_/\_/\_/\_);have F8:=Hh (D7.out.1.aD.trans (hc.mono D7.out.1.aD.size));have OKS:=Hh (fun k=>Ya OK0.out HB.out k);clear hc D7 NH XR CX HW;go_wp2
     go_loopw [18] (fun i wr=>∃ (k:Nat) (H':Nat->Prop),k<=N/\i = .int .i64 k/\Hid (GX w1 g s H' (sn c key l k) 0 wr/\pE H' wr n3 o c.S hs/\¬ H' xb/\wr.heap[xb]? = some (.cells #[.int .i64 xi,.int .i64 xk,.int .i64 xn,.int .i64 xf,.int .i64 xr,.int .u8 v0,.int .u8 v1,.int .u8 v2,.int .u8 v3,.int .i64 xy] 53 (0,0)))) (fun i _=>N - (intOf i).toNat)
     case atStart=>exact ⟨0,H,ce _,rfl,Hh (by rw [J9];exact D8.out)⟩
     case round =>
      clear D8;obtain ⟨k,H',hkN,rfl,D⟩:=hrel
      by_cases hlt:k < N
      ·have SU:=zW D.out.1 G1.out (OKS.out k) (RB.out.below (FIN.out _ D.out.1.aD)) HB.out
       rw [KZ] at SU;have SE:=ab8 (c:=c) (key:=key) (l:=l) k;rw [HZ.out] at SE;unfold Yl at SU;rw [HI.out] at SU;have SM:may ⟨xi,iZ (sn c key l k) l,z4⟩:=by have:=T9 (sn c key l k) l;rw [HI.out] at this;exact this
       have WL:Hid (z=0->k < 8->(sn c key l (k+1)).q.L.length=k+1):=Hh fun h0 h8=>by rw [aas _ (HZ.out.trans h0)];omega
       generalize iZ (sn c key l k) l=nw at *;have SM:=Hh SM;have SU:=Hh SU;unfold ptr at SU;have wk1:IntKind.i64.wrap ((k:Int)+1)=(k:Int)+1:=cx _ (by omega);go_wp2_with fail;refine SU.out.mono ?_;rintro e w9 ⟨u9,rfl,r9,gx9,o9⟩
       have E9:Hid (GX w1 g s (Fx H' wr w9) (sn c key l (k+1)) 0 w9/\pE (Fx H' wr w9) w9 n3 o c.S hs/\¬ Fx H' wr w9 xb/\w9.heap[xb]? = some (.cells #[.int .i64 xi,.int .i64 xk,.int .i64 xn,.int .i64 xf,.int .i64 xr,.int .u8 v0,.int .u8 v1,.int .u8 v2,.int .u8 v3,.int .i64 xy] 53 (0,0))):=Hh (by
        have lx:=bh D.out.2.2.2
        exact ⟨gx9,D.out.2.1.only o9,fun h=>by
         rcases h with h | h
         ·exact D.out.2.2.1 h
         ·omega,(o9.block xb lx D.out.2.2.1).trans D.out.2.2.2⟩)
       have RU:=Hh r9;clear SU r9 gx9 o9 D
       by_cases hB:z=0/\k < 8
       ·obtain ⟨rfl,h8⟩:=hB
        rw [an rfl,ai (by omega)] at SE;subst SE;have RU:=RU.out;rw [an rfl] at RU;obtain ⟨ua,uc,rfl⟩:=zy RU;have WT:=Rj E9.out.1 (OKS.out (k+1));rw [WL.out rfl h8] at WT;have WT:=Hh WT;unfold ptr at WT;clear RU SM WL;have h8':¬ (8:Int)<=k:=by omega
        go_wp2_with fail;refine WT.out.mono ?_;rintro e w10 ⟨rfl,b10⟩;have EA:=Hh (⟨E9.out.1.below b10,E9.out.2.1.below b10,E9.out.2.2.1,bV b10 E9.out.2.2.2⟩:_/\_/\_/\_);clear WT b10 E9;go_wp2
        go_roundw
        case rel=>exact ⟨k+1,_,by omega,by go_num,EA⟩
        case measure=>simp [intOf];omega
       ·have NW:Hid ((¬ z=0/\nw=z)\/(z=0/\(8:Int)<=k/\nw=12)):=Hh (by
         by_cases h0:z=0
         ·rw [an h0,an (show 8<=k by omega)] at SE
          exact .inr ⟨h0,by omega,SE⟩
         ·rw [ai h0] at SE
          exact .inl ⟨h0,SE⟩)
        have n0:¬ nw=0:=by rcases NW.out with h | h <;> omega
        have RU:=RU.out;rw [ai n0] at RU;have RD:=Hh (KQ SM.out JP RU);unfold yV yA z4 at RD;dsimp only at RD;obtain ⟨ua,uc,rfl,-⟩:=RU.slice;clear RU SM WL SE hB
        rcases NW.out with ⟨h0,hn⟩ | ⟨rfl,h8,hn⟩
        all_goals
         have HN:=Hh hn;clear NW hn;go_wp2_with fail;refine RD.out.mono ?_;rintro e w10 ⟨rfl,b10⟩;have BA:=Hh ((aa w10.heap.size w10).alloc (ac _) (.cells #[.int .i64 xi,.int .i64 nw,.int .u8 0,.int .u8 0,.int .u8 0,.int .u8 0] 44));have YR:=Hh (aw w10 (.cells #[.int .i64 xi,.int .i64 nw,.int .u8 0,.int .u8 0,.int .u8 0,.int .u8 0] 44));have EA:Hid (GX w1 g s (Fx H' wr w9) (sn c key l (k+1)) 0 (w10.alloc (.cells #[.int .i64 xi,.int .i64 nw,.int .u8 0,.int .u8 0,.int .u8 0,.int .u8 0] 44))/\pE (Fx H' wr w9) (w10.alloc (.cells #[.int .i64 xi,.int .i64 nw,.int .u8 0,.int .u8 0,.int .u8 0,.int .u8 0] 44)) n3 o c.S hs/\¬ Fx H' wr w9 xb/\(w10.alloc (.cells #[.int .i64 xi,.int .i64 nw,.int .u8 0,.int .u8 0,.int .u8 0,.int .u8 0] 44)).heap[xb]? = some (.cells #[.int .i64 xi,.int .i64 xk,.int .i64 xn,.int .i64 xf,.int .i64 xr,.int .u8 v0,.int .u8 v1,.int .u8 v2,.int .u8 v3,.int .i64 xy] 53 (0,0))):=Hh ⟨(E9.out.1.below b10).below BA.out,(E9.out.2.1.below b10).below BA.out,E9.out.2.2.1,bV BA.out (bV b10 E9.out.2.2.2)⟩;clear RD b10 E9 BA;go_upto_region 31 with fail;generalize w10.alloc (.cells #[.int .i64 xi,.int .i64 nw,.int .u8 0,.int .u8 0,.int .u8 0,.int .u8 0] 44)=wA at *;generalize w10.heap.size=yb at *;have x0:=dB EA.out.2.2.2 0;have y0:=dB YR.out 0;have y1:=dB YR.out 1;have hn:=HN.out;go_wp2
         go_roundw
         case rel=>exact ⟨k+1,_,by omega,by go_num,EA⟩
         case measure=>simp [intOf];omega
      ·have hkN2:N=k:=by omega
       subst hkN2;have D9:Hid (GX w1 g s H' (sn c key l N) 0 wr/\pE H' wr n3 o c.S hs):=Hh ⟨D.out.1,D.out.2.1⟩;clear D hlt;go_wp2
       go_loopw [23] (fun i wr=>∃ m:Nat,m<=q/\i = .int .i64 m/\Hid (GX w1 g s H' (sn c key l N) 0 wr/\pE H' wr n3 o c.S hs)) (fun i _=>q - (intOf i).toNat)
       case atStart=>exact ⟨0,ce _,rfl,D9⟩
       case round =>
        clear D9;obtain ⟨m,hm,rfl,D⟩:=hrel;have CHD:Hid (CH w1 s c 0 wr):=Hh (by have:=D.out.1.ch;rw [(acF N).1] at this;exact this);have CN:=pU CHD.out;rw [HL2.out.1] at CN;have CX:=Hh CN;clear CN;unfold ptr at CX
        by_cases hmq:m < q
        ·go_wp2_with fail
         refine CX.out.mono ?_;rintro e w9 ⟨rfl,b9⟩;have D9:=Hh (⟨D.out.1.below b9,D.out.2.below b9⟩:_/\_);have CF:=Hh (fun W (b:Below w9.heap.size w9 W)=>oV ((CHD.out.below b9).below b) (n:=m) (by rw [HL2.out.1];exact hmq));have LE:=Hh ((OK0.out.ok.st m (by rw [HL2.out.1];exact hmq)).1.len);obtain ⟨wb,wc,eo,c0,LS⟩:=D9.out.2.one (i:=m) (by rw [DL.out];exact hmq);rw [DL.out] at eo;obtain ⟨⟨ha,hn,hc⟩,hh⟩:∃ h,hs.getD m zh=h:=⟨_,rfl⟩;rw [hh] at c0 LS;have LSH:=Hh LS;have HS:=Hh hh;have DQ:Hid (GX w1 g s H' (sn c key l N) 0 w9/\pE H' w9 n3 o c.S hs):=Hh D9.out;clear hh LS CX b9 D D9 CHD;generalize (sat c.S m).1=A at *;unfold bY ptr at CF;unfold sl at c0 LSH;dsimp only at c0 LSH;have X0:=Sd.aC c0;subst eo;clear c0;go_upto_region 36 with fail;refine Sd.start [(false,0),(false,1),(false,3),(false,4),(false,5),(false,6),(true,2),(true,7),(false,8)] (by kernel_rfl) (by kernel_rfl) (by kernel_rfl) ?_;dsimp only [Sd.aK,List.getElem?_cons_succ,List.getElem?_cons_zero]
         iterate 6 (refine Sd.lit ?_;quiet_step (fail);refine bi ?_)
         have B0:=Hh ((aa w9.heap.size w9).drew);refine Sd.call (by rfl) (fun K hK=>?_);go_simp;refine (CF.out _ B0.out).mono ?_;rintro e wa ⟨fv,rfl,hfv,ba⟩;have BA:=Hh (B0.out.trans (ba.mono B0.out.size));have LF:=Hh (hfv (fun _=>False) nofun);refine hK _ _ (Sd.Cl.of BA.out) ?_;clear hK K ba hfv CF;refine Sd.call (by rfl) (fun K hK=>?_);go_simp;refine (LJ LF.out (LSH.out.below BA.out) LE.out).mono ?_;rintro e wz ⟨rfl,bz⟩;have BZ:=Hh (BA.out.trans (bz.mono BA.out.size));refine hK _ _ (Sd.Cl.of BZ.out) ?_;clear hK K bz LF LSH BA B0
         iterate 1 (refine Sd.lit ?_;quiet_step (fail);refine bi ?_)
         refine Sd.done ?_;have DD:Hid (GX w1 g s H' (sn c key l N) 0 wz/\pE H' wz n3 (.slice (some ⟨wb,0,none⟩) q wc) c.S hs):=Hh ⟨DQ.out.1.below BZ.out,DQ.out.2.below BZ.out⟩;clear DQ BZ X0;go_wp2
         go_roundw
         case rel=>exact ⟨m+1,by omega,by go_num,DD⟩
         case measure=>simp [intOf];omega
        ·go_wp2_with fail
         refine CX.out.mono ?_;rintro e w9 ⟨rfl,b9⟩;have E9:=Hh ((D.out.1.below b9).aD);have AWK:=Hh (AW.out w9 (FIN.out w9 E9.out));clear CX b9 AW D CHD;go_wp2_with fail;refine AWK.out.mono ?_;rintro e wa ⟨rfl,ba⟩;have E:=Hh (FIN.out wa (E9.out.trans (ba.mono E9.out.size)));clear ba AWK;go_wp2
         go_ret
         exact ⟨rfl,E.out⟩
 ·generalize hz:newE lp=z at *
  have N1:=Qz H1.out (z:=z) (by rw [E1.out];exact hz) e0;have NN:=Hh N1;clear N1 hz H1;go_wp2_with fail;refine NN.out.mono ?_;rintro e w2 ⟨rfl,b2⟩;have AWK:=Hh (AW.out w2 (FIN.out _ b2));have B2:=Hh b2;clear b2 NN AW;go_wp2_with fail;refine AWK.out.mono ?_;rintro e w4 ⟨rfl,b4⟩;have E:=Hh (FIN.out _ (B2.out.trans (b4.mono B2.out.size)));go_wp2
  go_ret
  exact ⟨rfl,E.out⟩
end Ga
namespace Fl
open Go.ChangeShapes Go.WideShapes Go.ChangeAt Go.RowKit Go.Deep
variable {H:Type} {W:World} {base fuel:Nat} {sp:Nat->Bool} {held:Bool}
theorem rA {enc:TypeId×Value->H} {cs:List Value} {x:DataW H×List MemPlace}
 (h:DataW.trod enc prog W base sp held fuel 36 cs=some x):∃ r:R4,cs=K4.enc r/\bH r:=by
 have c4:prog.cellsOf 36=4:=by kernel_rfl
 have c1:prog.cellsOf 5=1:=by kernel_rfl
 obtain ⟨xs,m,_,_,hs,hx,hi⟩:=DataW.trod_array underlying36 h;rw [c4] at hs
 match cs,hs,xs,hx,hi with
 | [u0,u1,u2,u3],_,[x0,x1,x2,x3],_,hi =>
   have e0:=hi 0 (by omega);have e1:=hi 1 (by omega);have e2:=hi 2 (by omega);have e3:=hi 3 (by omega);rw [c1] at e0 e1 e2 e3;obtain ⟨a,ha,_,wa⟩:=DataW.trod_int underlying5 (x:=x0) e0;obtain ⟨b,hb,_,wb⟩:=DataW.trod_int underlying5 (x:=x1) e1;obtain ⟨c,hc,_,wc⟩:=DataW.trod_int underlying5 (x:=x2) e2;obtain ⟨d,hd,_,wd⟩:=DataW.trod_int underlying5 (x:=x3) e3
   simp at ha hb hc hd
   subst ha hb hc hd;exact ⟨(a,b,c,d),rfl,bounds_u8 wa,bounds_u8 wb,bounds_u8 wc,bounds_u8 wd⟩
theorem JV {enc:TypeId×Value->H} {u:Value} {x:DataW H×List MemPlace}
 (h:DataW.trod enc prog W base sp held fuel 81 [u]=some x):∃ l,Rd K4 W u l/\dG l:=by
 have c4:prog.cellsOf 36=4:=by kernel_rfl
 rcases open_slice underlying81 h with ⟨e,_⟩ | ⟨a,len,cap,m,n,D,Pl,e,_,hl,hm,hmm,_,hx⟩
 ·simp at e
  subst e;exact ⟨[],Rw.Rd.nil _,fun r hr=>by cases hr⟩
 ·simp at e
  subst e;have hlm:len<=m:=by rw [hmm];split <;> omega
  have each:∀ i,i < m->∃ r:R4,bH r/\∀ j u,(K4.enc r)[j]? = some u->W.cell? (a.add (i * 4+j))=some u:=fun i hi=>by
   obtain ⟨cs',h1,h2⟩:=hx i hi;rw [c4] at h1;obtain ⟨_,hlen,hcell⟩:=World.cells?_some h1;obtain ⟨r,rfl,ok⟩:=rA h2;refine ⟨r,ok,fun j u hu=>?_⟩;have hj:j < 4:=by have:=(cg.1 hu).1;rw [hlen] at this;exact this
   have e:=hcell j hj;rw [add_add] at e;exact e.trans hu
  obtain ⟨q,hq⟩:=choose_lt each;have hlen:((List.range len).map q).length=len:=by simp
  have get:∀ i,i < len->((List.range len).map q).getD i z4=q i:=fun i hi=>by simp [List.getD,hi]
  refine ⟨(List.range len).map q,⟨some a,cap,by rw [hlen],⟨by rw [hlen];exact hl,nofun⟩,hm,fun h0=>?_⟩,fun r hr=>?_⟩
  ·rw [hlen] at h0
   obtain ⟨b,off,spot⟩:=a;have c0:=(hq 0 (by omega)).2 0 _ rfl;have hs:spot=none:=by simpa [Addr.add] using World.cell?_spot c0
   subst hs;refine ⟨b,off,rfl,fun i hi j u hu=>?_⟩;rw [hlen] at hi;have hu':(K4.enc (q i))[j]? = some u:=by rw [← get i hi];exact hu
   have c:=(hq i (by omega)).2 j u hu';rw [add_plain] at c
   show W.cell? ⟨b,off+i * 4+j,none⟩=some u
   rw [Nat.add_assoc];exact c
  ·obtain ⟨i,hi,rfl⟩:=di.1 hr
   exact (hq i (by have:=List.mem_range.1 hi;omega)).1
end Fl
namespace Fs
open Go.ChangeShapes Go.WideShapes Go.ChangeAt Go.RowKit Go.Deep
open Fl (rA JV)
section
variable {H:Type} {enc:TypeId×Value->H} {W:World} {base fuel:Nat} {sp:Nat->Bool} {held:Bool} {cs:List Value} {x:DataW H×List MemPlace}
theorem xJ (h:DataW.trod enc prog W base sp held fuel 83 cs=some x):∃ q u l,cs = [.int .i64 q,u]/\Rd K4 W u l/\dG l:=by
 have c2:prog.cellsOf 83=2:=by kernel_rfl
 have c1:prog.cellsOf 3=1:=by kernel_rfl
 have c3:prog.cellsOf 81=1:=by kernel_rfl
 obtain ⟨xs,m,_,_,hs,hx,hi⟩:=DataW.trod_struct underlying83 h;rw [c2] at hs
 match cs,hs,xs,hx,hi with
 | [u,v],_,[x0,x1],_,hi =>
   have e0:DataW.trod enc prog W base sp held m 3 (([u,v].drop 0).take (prog.cellsOf 3))=some x0:=hi 0 _ rfl;have e1:DataW.trod enc prog W base sp held m 81 (([u,v].drop 1).take (prog.cellsOf 81))=some x1:=hi 1 _ rfl;rw [c1] at e0;rw [c3] at e1;obtain ⟨a,ha,_⟩:=DataW.trod_int underlying3 (x:=x0) e0
   simp at ha
   subst ha;obtain ⟨l,R,ok⟩:=JV (u:=v) e1;exact ⟨a,v,l,rfl,R,ok⟩
end
def laid : List (String × DataW Unit) := [("errors.errorType", Rows.laid_errors_errorType)]
theorem et : Tryz.prog.globalNamed "errors.errorType" = some 0 := by kernel_rfl
theorem rt : (Tryz.prog.cutTypes.find? (·.1 == "internal/reflectlite.rtype")).map (·.2) = some 222 := by kernel_rfl
theorem ZY:((List.range 377).filter fun t=>prog.rowNamed t [101,114,114,111,114]) = [107]:=by kernel_rfl
theorem abT:prog.types.size=377:=by kernel_rfl
theorem UZ {W:World} (h:laidMetH prog laid W):Glob W:=by
 have h':laidMet prog [] W/\handlesMet prog laid W:=h;obtain ⟨name,u,ty,e1,e2,e3,e4,e5⟩:=h'.2 _ (cY.2 rfl);have en:name = [101,114,114,111,114]:=(cN e1).symm;subst en;obtain rfl:=cN (rt.symm.trans e2);have hm:ty∈(List.range 377).filter fun t=>prog.rowNamed t [101,114,114,111,114]:=fe.2 ⟨List.mem_range.2 (by rw [← abT];exact e3),e4⟩;rw [ZY] at hm;obtain rfl:=cY.1 hm;have hh:typeHandle prog 107 = .pointer (some ⟨1,107,none⟩):=by kernel_rfl
 rw [hh] at e5;have:=World.var?_cell et e5 0;unfold Glob
 simpa using this
noncomputable def zN (os:Os):World :=
 let w0:=World.holding prog os ⟨#[],#[],[]⟩
 { w0 with heap:=w0.heap.modify 0 fun
  | .cells _ t frozen=>.cells #[.iface 222 (.agg #[.pointer (some ⟨1,107,none⟩)])] t frozen
  | o=>o }
theorem yT (os:Os) (args:Array Value):laidMetH prog laid ((zN os).forCall (fun _ _=>0) ⟨#[],args,[]⟩).memory :=
 laidMetH_of_parts (laidMet_nil _ _) (by kernel_rfl)
end Fs
namespace Pa
open Go.ChangeShapes Go.WideShapes Go.ChangeAt Go.RowKit Go.Deep
theorem oW {α:Type} {K:Rw.Kind α} (Q:α->Prop) {H:Type} {enc:TypeId×Value->H} {W:World} {u:Value} {base fuel:Nat} {sp:Nat->Bool} {held:Bool} {x:DataW H×List MemPlace} {T E:TypeId}
 (hu:prog.underlying T=some (.slice E)) (hc:prog.cellsOf E=K.n) (el:∀ {n:Nat} {cs:List Value} {y:DataW H×List MemPlace},DataW.trod enc prog W base sp held n E cs=some y->∃ r:α,cs=K.enc r/\Q r)
 (h:DataW.trod enc prog W base sp held fuel T [u]=some x):∃ l,Rd K W u l/\∀ r∈l,Q r:=by
 rcases open_slice hu h with ⟨e,_⟩ | ⟨a,len,cap,m,n,D,Pl,e,_,hl,hm,hmm,_,hx⟩
 ·simp at e
  subst e;exact ⟨[],Rw.Rd.nil _,fun r hr=>by cases hr⟩
 ·simp at e
  subst e;have hlm:len<=m:=by rw [hmm];split <;> omega
  have each:∀ i,i < m->∃ r:α,Q r/\∀ j u,(K.enc r)[j]? = some u->W.cell? (a.add (i * K.n+j))=some u:=fun i hi=>by
   obtain ⟨cs',h1,h2⟩:=hx i hi;rw [hc] at h1;obtain ⟨_,hlen,hcell⟩:=World.cells?_some h1;obtain ⟨r,rfl,ok⟩:=el h2;refine ⟨r,ok,fun j u hu=>?_⟩;have hj:j < K.n:=by have:=(cg.1 hu).1;rw [hlen] at this;exact this
   have e:=hcell j hj;rw [add_add] at e;exact e.trans hu
  haveI:Inhabited α:=⟨K.OE⟩
  obtain ⟨q,hq⟩:=choose_lt each;have hlen:((List.range len).map q).length=len:=by simp
  have get:∀ i,i < len->((List.range len).map q).getD i K.OE=q i:=fun i hi=>by simp [List.getD,hi]
  refine ⟨(List.range len).map q,⟨some a,cap,by rw [hlen],⟨by rw [hlen];exact hl,nofun⟩,hm,fun h0=>?_⟩,fun r hr=>?_⟩
  ·rw [hlen] at h0
   obtain ⟨b,off,spot⟩:=a;have hp:0 < (K.enc (q 0)).length:=by rw [K.len];exact K.pos
   have c0:=(hq 0 (by omega)).2 0 _ (am hp);have hs:spot=none:=by simpa [Addr.add] using World.cell?_spot c0
   subst hs;refine ⟨b,off,rfl,fun i hi j u hu=>?_⟩;rw [hlen] at hi;have hu':(K.enc (q i))[j]? = some u:=by rw [← get i hi];exact hu
   have c:=(hq i (by omega)).2 j u hu';rw [add_plain] at c
   show W.cell? ⟨b,off+i * K.n+j,none⟩=some u
   rw [Nat.add_assoc];exact c
  ·obtain ⟨i,hi,rfl⟩:=di.1 hr
   exact (hq i (by have:=List.mem_range.1 hi;omega)).1
open Fs (xJ)
section
variable {H:Type} {enc:TypeId×Value->H} {W:World} {base fuel:Nat} {sp:Nat->Bool} {held:Bool} {cs:List Value} {x:DataW H×List MemPlace}
theorem rW (h:DataW.trod enc prog W base sp held fuel 85 cs=some x):∃ c:aA,cs=E3.enc c/\Rd K4 W c.sl c.l/\dG c.l:=by
 have c3:prog.cellsOf 85=3:=by kernel_rfl
 have c1:prog.cellsOf 3=1:=by kernel_rfl
 have c2:prog.cellsOf 83=2:=by kernel_rfl
 obtain ⟨xs,m,_,_,hs,hx,hi⟩:=DataW.trod_struct underlying85 h;rw [c3] at hs
 match cs,hs,xs,hx,hi with
 | [u0,u1,u2],_,[x0,x1],_,hi =>
   have e0:DataW.trod enc prog W base sp held m 3 (([u0,u1,u2].drop 0).take (prog.cellsOf 3))=some x0:=hi 0 _ rfl;have e1:DataW.trod enc prog W base sp held m 83 (([u0,u1,u2].drop 1).take (prog.cellsOf 83))=some x1:=hi 1 _ rfl;rw [c1] at e0;rw [c2] at e1;obtain ⟨k,hk,_,wk⟩:=DataW.trod_int underlying3 (x:=x0) e0;obtain ⟨p,u,l,h3,R,okl⟩:=xJ e1;obtain ⟨a,cap,rfl,_⟩:=R.slice;have k' : [u0] = [.int .i64 k]:=hk;have h3' : [u1,u2] = [.int .i64 p,.slice a l.length cap]:=h3;simp only [List.cons.injEq,and_true] at k' h3';obtain rfl:=k';obtain ⟨rfl,rfl⟩:=h3';exact ⟨⟨k,p,a,cap,l⟩,rfl,R,okl⟩
theorem Ay {T E:TypeId} {u:Value} (hu:prog.underlying T=some (.slice E)) (h:DataW.trod enc prog W base sp held fuel T [u]=some x):∃ s:Hd,u=sl s:=by
 rcases open_slice hu h with ⟨e,_⟩ | ⟨a,len,cap,m,n,D,Pl,e,_⟩
 ·simp at e
  exact ⟨zh,e⟩
 ·simp at e
  exact ⟨(some a,len,cap),e⟩
end
end Pa
namespace Cu
open Go.ChangeShapes Go.WideShapes Go.ChangeAt Go.RowKit Go.Deep
open Pa (oW rW Ay)
section
variable {H:Type} {enc:TypeId×Value->H} {W:World} {base fuel:Nat} {sp:Nat->Bool} {held:Bool} {cs:List Value} {x:DataW H×List MemPlace}
def abx (W:World) (c:jS):Prop:=Rd E3 W (sl c.files) c.F/\∀ e∈c.F,Rd K4 W e.sl e.l/\dG e.l
theorem JA (h:DataW.trod enc prog W base sp held fuel 75 cs=some x):∃ c:jS,cs=KP.enc c/\abx W c:=by
 have c2:prog.cellsOf 75=2:=by kernel_rfl
 have d0:prog.cellsOf 49=1:=by kernel_rfl
 have d1:prog.cellsOf 3=1:=by kernel_rfl
 obtain ⟨xs,m,_,_,hs,hx,hi⟩:=DataW.trod_struct underlying75 h;rw [c2] at hs
 match cs,hs,xs,hx,hi with
 | [u0,u1],_,[x0,x1],_,hi =>
   have e0:DataW.trod enc prog W base sp held m 49 (([u0,u1].drop 0).take (prog.cellsOf 49))=some x0:=hi 0 _ rfl;have e1:DataW.trod enc prog W base sp held m 3 (([u0,u1].drop 1).take (prog.cellsOf 3))=some x1:=hi 1 _ rfl;rw [d0] at e0;rw [d1] at e1;obtain ⟨F,RF,QF⟩:=oW (K:=E3) (fun c=>Rd K4 W c.sl c.l/\dG c.l) underlying49 (by kernel_rfl) (fun h=>rW h) (u:=u0) e0;obtain ⟨k,hk,_,_⟩:=DataW.trod_int underlying3 (x:=x1) e1;obtain ⟨s0,rfl⟩:=Ay underlying49 (u:=u0) e0;have k' : [u1] = [.int .i64 k]:=hk;simp only [List.cons.injEq,and_true] at k';obtain rfl:=k';exact ⟨⟨s0,k,F⟩,rfl,RF,QF⟩
end
theorem SL {H:Type} {enc:TypeId×Value->H} {W:World} {v:Value} {base:Nat} {sp:Nat->Bool} {held:Bool} {d:DataW H} {p:List MemPlace} {r:Reach} {b0:Nat}
 (hv:Value.okWide prog W r b0 22 v) (h:DataW.Trod enc prog W base sp held 22 v d p):∃ L,CJ W v L W.heap.size:=by
 obtain ⟨a,len,cap,rfl⟩:=okWide_slice underlying22 hv;obtain ⟨fuel,hf⟩:=h;obtain ⟨L,R,Q⟩:=oW (K:=KP) (abx W) underlying22 (by kernel_rfl) (fun h=>JA h) (u:=.slice a len cap) hf;refine ⟨L,R,fun i hi=>?_⟩;have at_:zi L i∈L:=by
  unfold zi;rw [af,am hi];exact dk hi
 obtain ⟨q1,q2⟩:=Q _ at_;have mem:∀ j,j < (zi L i).F.length->eG (zi L i).F j∈(zi L i).F:=fun j hj=>by
  unfold eG;rw [af,am hj];exact dk hj
 exact ⟨q1,fun j hj=>q2 _ (mem j hj),fun j hj h0 k hk=>Fs.qM (q2 _ (mem j hj)).1 h0 k hk⟩
end Cu
namespace Rq
open Go.ChangeShapes Go.WideShapes Go.ChangeAt Go.RowKit Go.Deep
open Fl (rA)
open Pa (oW)
section
variable {H:Type} {enc:TypeId×Value->H} {W:World} {v:Value} {base:Nat} {sp:Nat->Bool} {held:Bool} {d:DataW H} {p:List MemPlace} {r:Reach} {b0:Nat}
theorem Qo (hv:Value.okWide prog W r b0 34 v) (h:DataW.Trod enc prog W base sp held 34 v d p):∃ l,Rd KU W v l/\∀ x∈l,0<=x/\x < 256:=by
 obtain ⟨a,len,cap,rfl⟩:=okWide_slice underlying34 hv;obtain ⟨fuel,hf⟩:=h
 exact oW (K:=KU) (fun x=>0<=x/\x < 256) underlying34 (by kernel_rfl) (fun h=>by
  obtain ⟨n,h1,_,wf⟩:=DataW.trod_int underlying5 h;have:=bounds_u8 wf
  exact ⟨n,h1,by omega⟩) (u:=.slice a len cap) hf
end
end Rq
