import Derived.Test.YtdbdacceecnpmaaGreatDoorQo11
import Derived.ProofKit
import Derived.OpenShut
import Derived.Test.YtdbdacceecnpmaaGreatDoorRows
import Derived.LaidMore
import Derived.Stop.Joined
set_option maxRecDepth 100000
set_option maxHeartbeats 8000000
namespace Go.Proofs.YtdbdacceecnpmaaGreatDoor
open Go.Proofs.Tryz
open Ck (Hd sl zh)
open Cu (Ac CH Cn Cs Dk Dm JG KA KP P6 abq acD bM bQ fV iM jO jm lQ newC newE oO qh rZ vY)
open Fl (K4 R4 aG aL ah aj bJ dF hdr lJ mV newL newP rat z4)
open Fs (E3 Fx Glob Ls Only St Wf aA aB aT at3 bZ dI dN eY gB sA sB sH)
open Pa (Ai Dw Hf KB KN S2 YT aV bH bW bX dR eD jK jT nH ptr qE qP sat tJ)
open Re (KI bE dL mZ)
open Ro (E5 K5)
open Rq (Bj Co J6 KU Y fJ good iT kV may nG og okV qA qV qb xM yA yV yb)
open Rw (At Ow Rd)
namespace Ga
open Go.RowKit
def GX (w0:World) (g s:Nat) (H:Nat->Prop) (G:Gs) (t:Nat) (W:World):Prop:=GE W g s H G t/\(∀ k,H k->w0.heap.size<=k)/\Below w0.heap.size w0 W
section
variable {w0 W w':World} {g s t:Nat} {H J:Nat->Prop} {G:Gs}
theorem GX.only (h:GX w0 g s H G t W) (hn:∀ k,H k->¬ J k) (o:Only J W w') (hj:∀ k,J k->w0.heap.size<=k):GX w0 g s H G t w' :=
 ⟨h.1.only hn o,h.2.1,h.2.2.trans (o.below h.2.2.size hj)⟩
theorem GX.below (h:GX w0 g s H G t W) (b:Below W.heap.size W w'):GX w0 g s H G t w' :=
 ⟨h.1.only (J:=fun _=>False) (fun _ _ f=>f) (Only.of_below b),h.2.1,h.2.2.trans (b.mono h.2.2.size)⟩
theorem GX.late (h:GX w0 g s H G t W):GX w0 g s H G (t+1) W:=⟨h.1.late,h.2⟩
theorem GX.aD (h:GX w0 g s H G t W):Below w0.heap.size w0 W:=h.2.2
theorem GX.low (h:GX w0 g s H G t W):∀ k,H k->k < W.heap.size:=by
 obtain ⟨⟨F,B,h1,h2,h3,h4,h5⟩,_⟩:=h;exact h5
theorem GX.ch (h:GX w0 g s H G t W):CH w0 s G.c t W:=by
 obtain ⟨⟨F,B,h1,h2,h3,h4,h5⟩,h6,h7⟩:=h;exact ⟨F,h1,fun k f=>h6 k (h4 k (.inl f)),h7⟩
theorem aaC (w':World) (h6:∀ k,H k->w0.heap.size<=k) (b:Below w0.heap.size w0 W):∀ k,Fx H W w' k->w0.heap.size<=k:=fun k f=>by
 have:=b.size
 rcases f with f | f
 ·exact h6 k f
 ·omega
theorem GX.grown {G':Gs} {t':Nat} (h:GX w0 g s H G t W) (h':GE w' g s (Fx H W w') G' t') (o:Only H W w'):GX w0 g s (Fx H W w') G' t' w' :=
 ⟨h',aaC w' h.2.1 h.2.2,h.2.2.trans (o.below h.2.2.size h.2.1)⟩
theorem abU (h:GX w0 g s H G t W) (hg:Glob w0) (ok:OkG G t) (ht:t<=1000) (x:Ac) (hx:bJ x.v) (hf:Wf x.f):Calls prog 10 #[ptr s,iM x] W fun e w'=>e = .returned (.int .i64 (bQ x G.c))/\GX w0 g s (Fx H W w') ⟨bM x G.c,G.key,G.q⟩ (t+1) w'/\Only H W w':=by
 obtain ⟨F,B,⟨vn,L,p,vq,Fs,h1⟩,h2,h3,h4,h5⟩:=h.1;have gl:=cd _ _ hg;refine (Cu.Kt h1 ok.ok ok.sy ht (hg.below h.2.2) (fun q=>by have:=h.2.1 _ (h4 _ (.inl q));exact absurd gl (by show ¬ 0 < _;omega)) x hx hf).mono fun e w' d=>?_;obtain ⟨d1,d2,d3⟩:=d;have o:Only H W w':=d3.mono fun k _ f=>h4 k (.inl f);refine ⟨d1,h.grown ⟨Fx F W w',B,d2,h2.only (fun k b f=>h3 k f b) d3,fun k f b=>?_,fun k f=>?_,fun k f=>?_⟩ o,o⟩
 ·rcases f with f | f
  ·exact h3 k f b
  ·have:=h5 k (h4 k (.inr b));omega
 ·rcases f with f | f
  ·rcases f with f | f
   ·exact .inl (h4 k (.inl f))
   ·exact .inr f
  ·exact .inl (h4 k (.inr f))
 ·rcases f with f | f
  ·exact cL (h5 k f) o.size
  ·exact f.2
theorem qL (h:GX w0 g s H G t W) (hg:Glob w0) (ok:OkG G t) {v:Value} {l:List Int} (R:Rd KU W v l) (hb:∀ x∈l,0<=x/\x < 256):Calls prog 15 #[ptr g,v] W fun e w'=>∃ u,e = .returned u/\Rd KU w' u (Qg G l)/\GX w0 g s (Fx H W w') (kR G l) t w'/\Only H W w':=by
 have gl:=cd _ _ hg;obtain ⟨F,B,h1,h2,h3,h4,h5⟩:=h.1;refine (Fq h1 h2 (fun k f=>h5 k (h4 k (.inr f))) (hg.below h.2.2) (fun q=>by have:=h.2.1 _ (h4 _ (.inr q));exact absurd gl (by show ¬ 0 < _;omega)) ok.qo R hb).mono fun e w' d=>?_;obtain ⟨u,d1,d2,d3,d4⟩:=d;have o:Only H W w':=d4.mono fun k _ f=>h4 k (.inr f);have ec:(kR G l).c=G.c/\(kR G l).key=G.key:=by unfold kR;split <;> exact ⟨rfl,rfl⟩
 refine ⟨u,d1,d2,h.grown ⟨F,Fx B W w',by rw [ec.1];exact iK h1 h3 d4,by rw [ec.2];exact d3,fun k f b=>?_,fun k f=>?_,fun k f=>?_⟩ o,o⟩
 ·rcases b with b | b
  ·exact h3 k f b
  ·have:=h5 k (h4 k (.inl f));omega
 ·rcases f with f | f
  ·exact .inl (h4 k (.inl f))
  ·rcases f with f | f
   ·exact .inl (h4 k (.inr f))
   ·exact .inr f
 ·rcases f with f | f
  ·exact cL (h5 k f) o.size
  ·exact f.2
theorem Dp (h:GX w0 g s H G t W) (hg:Glob w0) (ok:OkG G t) (ht:t<=900):Calls prog 11 #[ptr g] W fun e w'=>∃ u,e = .returned u/\Rd KU w' u (stA G)/\GX w0 g s (Fx H W w') (oV G) (t+2) w'/\Only H W w':=by
 have gl:=cd _ _ hg;refine (Ov h.1 ok (hg.below h.2.2) (fun q=>by have:=h.2.1 _ q;exact absurd gl (by show ¬ 0 < _;omega)) ht).mono fun e w' d=>?_;obtain ⟨u,d1,d2,d3,d4⟩:=d;exact ⟨u,d1,d2,h.grown d3 d4,d4⟩
theorem yE (h:GX w0 g s H G t W) (ok:OkG G t):Calls prog 18 #[ptr g] W fun e w'=>e = .returned (.int .i64 G.q.L.length)/\Below W.heap.size W w':=by
 obtain ⟨F,B,h1,h2,h3,h4,h5⟩:=h.1;exact Kh h2 ok.qo
theorem Vd {c:Cs} {key:Int} (h:CH w0 s c t W) (hk:0<=key/\key<=255):Calls prog 9 #[ptr s,.int .i64 key] W fun e w'=>∃ g H,e = .returned (.tuple #[ptr g,.int .i64 0])/\GX w0 g s H ⟨c,key,Qe.q0⟩ t w':=by
 obtain ⟨F,h1,h2,h3⟩:=h;refine (TP W s key hk).mono fun e w' d=>?_;obtain ⟨g,B,d1,d2,d3,d4⟩:=d;have l1:=qw h1;have z:=h3.size;refine ⟨g,fun k=>F k\/B k,d1,⟨F,B,iK (J:=fun _=>False) h1 (fun _ _ f=>f) (Only.of_below d4),d2,fun k f b=>?_,fun k f=>f,fun k f=>?_⟩,fun k f=>?_,h3.trans (d4.mono z)⟩
 ·have:=l1 k f
  have:=(d3 k b).1
  omega
 ·rcases f with f | f
  ·exact cL (l1 k f) d4.size
  ·exact (d3 k f).2
 ·rcases f with f | f
  ·exact h2 k f
  ·exact cP z (d3 k f).1
end
end Ga
namespace Cu
open Fs (key)
open Pa (hr)
open Ro (kY)
open Ck (LL dH tE)
open Re (fC sL sN fU)
structure Blk (A:aT) (l:List Int):Prop where
 has:fB A 40=true
 p:fP A 40=3
 r:fR A 40=bE l
 seq:fU l
theorem Blk.sq {A:aT} {l:List Int} (h:Blk A l):zL A=true/\jU A=l:=by
 obtain ⟨e1,e2⟩:=Re.Si h.seq;unfold zL jU;rw [h.has,h.p,h.r,e1,e2];exact ⟨rfl,rfl⟩
def A0:aT:=[(40,3,bE [0,1])]
def S0:bW:=[(A0,0),(A0,0)]
theorem no0:∀ x∈S0,∀ n∈([0,1]:List Int),fB x.1 (32+n)=false:=fun x hx n hn=>by
 have hx:x=(A0,0):=by
  rcases cy.1 hx with h | h
  ·exact h
  ·exact dg.1 h
 rw [hx]
 rcases cy.1 hn with h | h
 ·rw [h];rfl
 ·rw [dg.1 h];rfl
def c1:Cs:=⟨S0,[true,true],Wt.new,1,[]⟩
def A1:aT:=[(1,7,newL 7 1),(40,3,bE [0])]
def r7:R4:=(7,0,0,0)
def A2:aT:=[(1,7,[hdr 7 1,r7]),(40,3,bE [0])]
def d1:Cs:=⟨[(A1,0),(A2,0)],[true,true],Wt.new,0,[]⟩
theorem Eo:fU [0]:=by decide
theorem acI:Blk A1 [0]:=⟨rfl,rfl,rfl,Eo⟩
theorem gd1:P6 (A1,2000):=by
 refine ⟨⟨dm.2 ⟨fun y hy=>by rw [dg.1 hy];decide,List.pairwise_singleton _ _⟩,fun e he=>?_⟩,by decide,by decide⟩
 rcases cy.1 he with h | h
 ·rw [h]
  exact ⟨⟨by decide,by decide⟩,by decide,by decide,by decide,by decide,rfl⟩
 ·rw [dg.1 h]
  exact ⟨⟨by decide,by decide⟩,Re.Ao Eo⟩
end Cu
namespace Ga
open Cu (Pl A1 Eo acI)
open Rq (Q)
open Qe (q0 abg)
theorem U4 {α:Type} {a p:α} (h:p∈[a,a]):p=a:=by
 rcases cy.1 h with h | h
 ·exact h
 ·exact dg.1 h
theorem VT {L:List Pl} (h:newE L=0) (ok:∀ p∈L,∀ e∈p.1,dF e.2.2) {key:Int} (hk:0<=key/\key<=255):OkG ⟨newC L,key,q0⟩ 0:=by
 have o:=JG h ok;refine ⟨o,Cn _ ?_,abg,nofun,hk⟩;have:=o.len.1;have e:(newC L).S.length=L.length:=cm _
 omega
def x3:Q:=⟨4,4,1,0,0,z4,0⟩
def L4:List Pl:=[(A1,0),(A1,0)]
theorem acs:newE L4=0:=by
 unfold newE;rw [aq (by decide),az,az]
 ·exact ⟨acI.sq.1,rfl,rfl,rfl⟩
 ·intro p hp
  rw [U4 hp];exact ⟨Cu.gd1.1,by decide,by decide⟩
theorem AQ:dF (newL 7 1):=by
 intro r h
 simp only [newL,cy] at h
 rcases h with rfl | h
 ·unfold bJ;decide
 ·have:r=z4:=(List.mem_replicate.1 h).2
  rw [this];exact Fl.kJ
def G4:Gs:=⟨newC L4,7,q0⟩
def x5:Q:=⟨5,2,1,1,1,(9,0,0,0),7⟩
def x6:Q:=⟨6,2,1,1,1,z4,8⟩
theorem AF:good x5:=by decide
theorem AU:good x6:=by decide
theorem ok4:OkG G4 0:=VT acs (fun p hp e he=>by
 rw [U4 hp] at he
 rcases cy.1 he with h | h
 ·rw [h];exact AQ
 ·rw [dg.1 h];exact Re.LX Eo) (by decide)
theorem sb5:kU G4 (qb x5)=0:=by
 unfold kU;rw [aq (fun h=>h (Bj AF)),og AF]
 rfl
def G5:Gs:=⟨newC L4,7,⟨[x5],0⟩⟩
theorem sc5:kR G4 (qb x5)=G5:=by
 unfold kR;rw [az sb5,og AF]
 rfl
theorem sb6:kU G5 (qb x6)=15:=by
 unfold kU;rw [aq (fun h=>h (Bj AU)),og AU]
 rfl
theorem sa6:Qg G5 (qb x6)=yb ⟨6,15,z4⟩:=by
 unfold Qg vM;rw [sb6,aq (by decide),az (Bj AU),og AU]
 rfl
theorem sc6:kR G5 (qb x6)=G5:=by
 unfold kR;rw [sb6,aq (by decide)]
theorem Ic:stA G5=yb ⟨5,0,(9,0,0,0)⟩:=rfl
theorem sq5:(oV G5).q=q0:=rfl
end Ga
namespace Wn
open Go.RowKit
attribute [local irreducible] Sd.aU wpQuiet
theorem qT {w:World} {c:jO} (h:Pa.Dw w (sl c.files) c.F w.heap.size):Dk (w.alloc (.cells #[sl c.files,.int .i64 c.rate,sl c.files,.int .i64 c.rate] 75)) (.slice (some ⟨w.heap.size,0,none⟩) 2 2) [c,c] (w.alloc (.cells #[sl c.files,.int .i64 c.rate,sl c.files,.int .i64 c.rate] 75)).heap.size:=by
 have rd:=(Rw.Ow.lit (K:=KP) w w.heap.size 75 [c,c] (am _) (by unfold maxLen;simp)).rd;have b:=(af w.heap.size w).alloc (am _) (.cells #[sl c.files,.int .i64 c.rate,sl c.files,.int .i64 c.rate] 75);refine Dm rd fun x hx=>?_;have e:x=c:=by
  rcases cy.1 hx with h | h
  ·exact h
  ·exact dg.1 h
 rw [e];have f:=h.below b;exact vY f.rd fun y hy=>by
  obtain ⟨i,hi⟩:=ef hy;have hl:=(cA.1 hi).1;have:=f.file i hl;unfold Pa.eD at this;rw [an,hi] at this;exact this
end Wn
namespace Rq
open Go.RowKit
attribute [local irreducible] Sd.aU wpQuiet Sg.dx
theorem TI (w:World) (a:Option Addr) (cap:Nat) (l:List Int) (hl:l.length≠9):Calls prog 12 #[.slice a l.length cap] w (fJ w l):=by
 have E:Hid (∀ w',Below w.heap.size w w'->fJ w l (.returned (.tuple #[yV zY,.int .i64 2])) w'):=fun w' b=>⟨by rw [aq fun h=>hl h.1,aq fun h=>hl h.1],b⟩;have B0:=Hh ((af w.heap.size w).alloc (am _) (.cells (yA zY) 44));have R0:=Hh (bi w (.cells (yA zY) 44));generalize l.length=n at *;have h9:¬ (n:Int)=9:=by omega
 have m9:((n:Int) != 9)=true:=bne_iff_ne.2 h9;unfold yV yA zY z4 at *;dsimp only at E B0 R0
 go_enter func12,ntmps12
 go_wp2
 (try simp only [Exit.inBlock,Exit.then])
 exact bs (bN (p:=2) (r:=3) rfl _ _ w.heap.size _ rfl rfl R0.out rfl) rfl (E.out _ B0.out)
theorem Iz (p0 p1:Value) (a b c d:Int):splice [p0,p1,.int .u8 0,.int .u8 0,.int .u8 0,.int .u8 0] 2 ([a,b,c,d].map (Value.int .u8)) = [p0,p1,.int .u8 a,.int .u8 b,.int .u8 c,.int .u8 d]:=rfl
theorem Pg (w:World) (b off cap:Nat) (l:List Int) (hl:l.length=9) (hc:l.length<=cap) (hb:∀ x∈l,0<=x/\x < 256) (hA:At KU w b off l):Calls prog 12 #[.slice (some ⟨b,off,none⟩) l.length cap] w (fJ w l):=by
 have E:Hid (∀ c w',decide (may (Vw l)/\yb (Vw l)=l)=c->Below w.heap.size w w'->fJ w l (.returned (.tuple #[yV (if c then Vw l else zY),.int .i64 (if c then 0 else 2)])) w'):=fun c w' hc b=>by
  refine ⟨?_,b⟩;rw [← hc]
  by_cases h:isY l
  ·rw [az h,az h,bj h.2,az rfl,az rfl]
  ·rw [aq h,aq h,bh fun k=>h ⟨hl,k⟩]
   rfl
 have ge:=gq hb;have c:=pG hA;have B0:=Hh ((af w.heap.size w).alloc (am _) (.cells (yA zY) 44));have R0:=Hh (bi w (.cells (yA zY) 44));have HA:=Hh hA;have HB:=Hh hb;have HN:=Hh hl;have c2:=d9 B0.out (c 2 (by omega));have c3:=d9 B0.out (c 3 (by omega));have d4:=Sd.aC (d9 B0.out (c 4 (by omega)));have g2:=ge 2;have g3:=ge 3;have e4:IntKind.i64.wrap (l.getD 4 0)=l.getD 4 0:=cH _ (by have:=ge 4;omega);have MC:Hid (w.cell? ⟨b,off+5,none⟩=some (.int .u8 (l.getD 5 0))/\w.cell? ⟨b,off+6,none⟩=some (.int .u8 (l.getD 6 0))/\w.cell? ⟨b,off+7,none⟩=some (.int .u8 (l.getD 7 0))/\w.cell? ⟨b,off+8,none⟩=some (.int .u8 (l.getD 8 0))):=Hh ⟨c 5 (by omega),c 6 (by omega),c 7 (by omega),c 8 (by omega)⟩;have GV:Hid (okV (l.getD 5 0,l.getD 6 0,l.getD 7 0,l.getD 8 0)):=Hh ⟨ge 5,ge 6,ge 7,ge 8⟩;have QE:Hid (Vw l=⟨l.getD 2 0 * 256+l.getD 3 0,l.getD 4 0,(l.getD 5 0,l.getD 6 0,l.getD 7 0,l.getD 8 0)⟩):=Hh rfl;rw [hl] at hc ⊢;have hcap:¬ cap=5:=by omega
 clear c ge hA hb hl;generalize l.getD 2 0=b2 at *;generalize l.getD 3 0=b3 at *;generalize l.getD 4 0=b4 at *;generalize l.getD 5 0=u0 at *;generalize l.getD 6 0=u1 at *;generalize l.getD 7 0=u2 at *;generalize l.getD 8 0=u3 at *;unfold yA zY z4 at B0 R0 d4 c2 c3;dsimp only at B0 R0 d4 c2 c3
 go_enter func12,ntmps12
 go_wp2_with fail;generalize w.alloc (.cells #[.int .i64 0,.int .i64 0,.int .u8 0,.int .u8 0,.int .u8 0,.int .u8 0] 44)=W at *;refine Sg.startP [(0,0),(0,2),(0,3),(0,4),(0,5),(1,1),(0,6),(2,7),(1,8)] [⟨7,4,#[.int .i64 0,.int .i64 0,.int .u8 0,.int .u8 0,.int .u8 0,.int .u8 0],44,none,none⟩] (by kernel_rfl) (by kernel_rfl) (by kernel_rfl) (by decide) (by decide) ?_ ?_ ?_
 ·simp
 ·intro f hf
  simp only [cy,dj,gR] at hf;subst hf;exact Sg.Vx rfl rfl rfl fun ρ w=>by go_simp
 dsimp only [Sg.aK,List.getElem?_cons_succ,List.getElem?_cons_zero];have BW:=Hh ((af W.heap.size W).drew)
 repeat (refine Sg.lit (fun xs=>?_);simp only [Sg.fill,cz,ce];quiet_step (fail);refine br ?_)
 refine Sg.iQ (fun xs w5 hb hc=>⟨by rfl,fun K hK=>?_⟩);have B5:=aN BW hb;have ID:=Hh (Rv w5 b off 9 cap b2 b3 (by omega) (d9 B5.out c2) (d9 B5.out c3) g2 g3);clear hb hc BW;simp only [Sg.fill,cz,ce];go_simp;refine ID.out.mono ?_;rintro e w6 ⟨rfl,b6'⟩;have B6:=aN B5.out b6';refine hK _ _ (Sd.Cl.of B6.out) b6'.size (fun _=>b6') ?_;clear hK K ID B5 b6' c2 c3 g2 g3 d4
 repeat (refine Sg.lit (fun xs=>?_);simp only [Sg.fill,cz,ce];quiet_step (fail);refine br ?_)
 refine Sg.nW (fun gF w7 hb hc row n7 hH hL=>?_);have B7:=aN B6.out hb;have R7:=Hh (row);clear hb hc row hH hL B6;refine Sg.iQ (fun xs w9 hb hc=>⟨by rfl,fun K hK=>?_⟩);have B9:=aN B7.out hb;have R9:=Hh (bU hb R7.out);clear hb hc B7 R7;simp only [Sg.fill,ce];refine wp_store_row 44 _ _ rfl gF #[.int .i64 (b2 * 256+b3),.int .i64 b4,.int .u8 0,.int .u8 0,.int .u8 0,.int .u8 0] rfl rfl 44 _ R9.out (by kernel_rfl) rfl (by simp [Value.oneCell']) ?_;have RA:=Hh (setRow_heap w9 gF _ #[.int .i64 (b2 * 256+b3),.int .i64 b4,.int .u8 0,.int .u8 0,.int .u8 0,.int .u8 0] _ _ R9.out);have BA:=Hh (below_setRow B9.out n7 #[.int .i64 (b2 * 256+b3),.int .i64 b4,.int .u8 0,.int .u8 0,.int .u8 0,.int .u8 0]);have hsz:(w9.setRow gF #[.int .i64 (b2 * 256+b3),.int .i64 b4,.int .u8 0,.int .u8 0,.int .u8 0,.int .u8 0]).heap.size=w9.heap.size:=by simp [World.setRow]
 refine hK _ _ (Sd.Cl.of BA.out) (by rw [hsz];exact am _) (fun h=>absurd rfl h) ?_;clear hK K hsz;generalize w9.setRow gF #[.int .i64 (b2 * 256+b3),.int .i64 b4,.int .u8 0,.int .u8 0,.int .u8 0,.int .u8 0]=wA at *;refine Sg.done (fun wB hb hc=>?_);have BB:=aN BA.out hb;have RB:=Hh (bU hb RA.out);clear hb hc BA RA B9 R9;have BX:=aN B0.out BB.out;go_wp2_with fail;have ne:Nonempty (Sc.In (fun _:World=>True)):=⟨⟨wB,trivial⟩⟩;refine Sc.start (fun _=>True) [(false,0),(false,1),(false,2),(false,3),(true,4)] (by kernel_rfl) (by kernel_rfl) (by kernel_rfl) trivial ?_;dsimp only [Sd.aK,List.getElem?_cons_succ,List.getElem?_cons_zero]
 repeat (refine Sd.lit ?_;quiet_step (fail);refine br ?_)
 refine Sd.call (by rfl) (fun K hK=>?_);refine KC _ _ _ _ rfl 5 underlying34 (by kernel_rfl) _ _ _ _ _ _ rfl rfl gF 2 _ 44 RB.out ([u0,u1,u2,u3].map (Value.int .u8)) rfl ?_ (am 6) ?_ W.heap.size W (BB.out.trans (af _ _).drew) n7 ?_
 ·refine fun _=>⟨rfl,_,rfl,fun j v e=>?_⟩
  rw [show ∀ P:Nat,(⟨b,P,none⟩:Addr).add j=⟨b,P+j,none⟩ from fun P=>by simp [Addr.add]];refine d9 BX.out.drew ?_;obtain ⟨x5,x6,x7,x8⟩:=MC.out
  match j,e with
  | 0,e=>cases e;exact x5
  | 1,e=>cases e;exact x6
  | 2,e=>cases e;exact x7
  | 3,e=>cases e;exact x8
  | j+4,e=>simp at e
 ·intro v hv
  obtain ⟨x,_,rfl⟩:=dC.1 hv
  rfl
 intro wD hrow bD
 rw [Iz] at hrow;have RD:=Hh hrow;have BD:=aN B0.out bD;have RW:=Hh (bU bD R0.out);refine hK _ _ (Sc.Cl.of trivial) ?_;clear hK K hrow bD MC BB RB BX ne hc hcap;refine Sd.done ?_
 replace RD:Hid (wD.heap[gF]? = some (.cells #[.int .i64 (b2 * 256+b3),.int .i64 b4,.int .u8 u0,.int .u8 u1,.int .u8 u2,.int .u8 u3] 44 (0,0))):=RD
 generalize b2 * 256+b3=I at *;rw [QE.out] at E;have k0:=dw RD.out 0;have k1:=dw RD.out 1;have k2:=dw RD.out 2;have k3:=dw RD.out 3;have k4:=dw RD.out 4;have k5:=dw RD.out 5;have GR:=Hh (oJ wD ⟨I,b4,(u0,u1,u2,u3)⟩);unfold yV yA at GR;dsimp only at GR;go_wp2_with fail;refine GR.out.mono ?_;rintro e w1 ⟨u,rfl,o1,b1⟩;have B1:=aN BD.out b1;have RW1:=Hh (bU b1 RW.out);have RD1:=Hh (bU b1 RD.out);have A1:=Hh (HA.out.below B1.out);clear GR RW b1 RD BD B0 R0 k0 k1 k2 k3 k4 k5
 by_cases hm:may ⟨I,b4,(u0,u1,u2,u3)⟩
 ·rw [az hm] at o1
  rw [az hm];obtain ⟨a',cap',rfl,_,_,hh⟩:=o1.rd;obtain ⟨b',off',rfl,A'⟩:=hh (Nat.succ_pos _);have hyb:=Mq hm GV.out;rw [show (yb ⟨I,b4,(u0,u1,u2,u3)⟩).length=9 from rfl]
  by_cases he:yb ⟨I,b4,(u0,u1,u2,u3)⟩=l
  ·have EA:=je w1 b off 9 cap l b' off' 9 cap' _ HN.out rfl A1.out A' HB.out hyb true (bj he.symm)
   have F:Hid (fJ w l (.returned (.tuple #[.agg #[.int .i64 I,.int .i64 b4,.int .u8 u0,.int .u8 u1,.int .u8 u2,.int .u8 u3],.int .i64 0])) (w1.setRow w.heap.size #[.int .i64 I,.int .i64 b4,.int .u8 u0,.int .u8 u1,.int .u8 u2,.int .u8 u3])):=Hh (E.out true _ (bj ⟨hm,he⟩) (below_setRow B1.out (am _) #[.int .i64 I,.int .i64 b4,.int .u8 u0,.int .u8 u1,.int .u8 u2,.int .u8 u3]));have k0:=dw RD1.out 0;have k1:=dw RD1.out 1;have k2:=dw RD1.out 2;have k3:=dw RD1.out 3;have k4:=dw RD1.out 4;have k5:=dw RD1.out 5;clear hyb o1 A' A1 HA HB hm he B1 E GV QE;go_wp2_with fail;refine EA.mono ?_;rintro e w2 ⟨rfl,rfl⟩
   go_wp2_with ((with_reducible refine wpList_store_row (o:=⟨none,_,_,_,_,_⟩) rfl 44 _ _ rfl w.heap.size #[.int .i64 I,.int .i64 b4,.int .u8 u0,.int .u8 u1,.int .u8 u2,.int .u8 u3] rfl rfl _ _ RW1.out (by kernel_rfl) rfl (by simp [Value.oneCell']) ?_))
   exact bs (bN (p:=2) (r:=3) rfl _ _ w.heap.size _ rfl rfl (setRow_heap w1 w.heap.size _ _ _ _ RW1.out) rfl) rfl F.out
  ·have EA:=je w1 b off 9 cap l b' off' 9 cap' _ HN.out rfl A1.out A' HB.out hyb false (bh fun h=>he h.symm)
   have F:Hid (fJ w l (.returned (.tuple #[.agg #[.int .i64 0,.int .i64 0,.int .u8 0,.int .u8 0,.int .u8 0,.int .u8 0],.int .i64 2])) (w1.setRow w.heap.size #[.int .i64 0,.int .i64 0,.int .u8 0,.int .u8 0,.int .u8 0,.int .u8 0])):=Hh (E.out false _ (bh fun h=>he h.2) (below_setRow B1.out (am _) #[.int .i64 0,.int .i64 0,.int .u8 0,.int .u8 0,.int .u8 0,.int .u8 0]));clear hyb o1 A' A1 HA HB hm he B1 E GV QE;go_wp2_with fail;refine EA.mono ?_;rintro e w2 ⟨rfl,rfl⟩
   go_wp2_with ((with_reducible refine wpList_store_row (o:=⟨none,_,_,_,_,_⟩) rfl 44 _ _ rfl w.heap.size #[.int .i64 0,.int .i64 0,.int .u8 0,.int .u8 0,.int .u8 0,.int .u8 0] rfl rfl _ _ RW1.out (by kernel_rfl) rfl (by simp [Value.oneCell']) ?_))
   exact bs (bN (p:=2) (r:=3) rfl _ _ w.heap.size _ rfl rfl (setRow_heap w1 w.heap.size _ _ _ _ RW1.out) rfl) rfl F.out
 ·rw [aq hm]
  have F:Hid (fJ w l (.returned (.tuple #[.agg #[.int .i64 0,.int .i64 0,.int .u8 0,.int .u8 0,.int .u8 0,.int .u8 0],.int .i64 2])) (w1.setRow w.heap.size #[.int .i64 0,.int .i64 0,.int .u8 0,.int .u8 0,.int .u8 0,.int .u8 0])):=Hh (E.out false _ (bh fun h=>hm h.1) (below_setRow B1.out (am _) #[.int .i64 0,.int .i64 0,.int .u8 0,.int .u8 0,.int .u8 0,.int .u8 0]));clear o1 A1 HA HB hm B1 E GV QE
  go_wp2_with ((with_reducible refine wpList_store_row (o:=⟨none,_,_,_,_,_⟩) rfl 44 _ _ rfl w.heap.size #[.int .i64 0,.int .i64 0,.int .u8 0,.int .u8 0,.int .u8 0,.int .u8 0] rfl rfl _ _ RW1.out (by kernel_rfl) rfl (by simp [Value.oneCell']) ?_))
  exact bs (bN (p:=2) (r:=3) rfl _ _ w.heap.size _ rfl rfl (setRow_heap w1 w.heap.size _ _ _ _ RW1.out) rfl) rfl F.out
theorem Es (w:World) (v:Value) (l:List Int) (hb:∀ x∈l,0<=x/\x < 256) (R:Rd KU w v l):Calls prog 12 #[v] w (fJ w l):=by
 obtain ⟨a,cap,rfl,h1,_,h2⟩:=R
 by_cases h:l.length=9
 ·obtain ⟨b,off,rfl,hA⟩:=h2 (by omega)
  exact Pg w b off cap l h h1.1 hb hA
 ·exact TI w a cap l h
end Rq
namespace Ga
open Go.RowKit
open Wn (qT)
open Rq (Q Es)
attribute [local irreducible] Sd.aU wpQuiet
variable {W w:World} {u:Value}
theorem oU {y:Y} (h:may y) (hv:okV y.v) (R:Rd KU W u (yb y)):Calls prog 12 #[u] W fun e w'=>e = .returned (.tuple #[yV y,.int .i64 0])/\Below W.heap.size W w':=by
 have:=Es W u (yb y) (Rq.Mq h hv) R;unfold fJ at this;rw [az (J6 h),az (J6 h),Co h] at this;exact this
theorem Rt {x:Q} (h:Rq.good x) (W:World):Calls prog 21 #[qV x] W fun e w'=>∃ v,e = .returned (.tuple #[v,.int .i64 0])/\Ow KU w' W.heap.size 5 v (qb x)/\Below W.heap.size W w':=by
 have:=iT W x;unfold kV at this;rw [az h,az h] at this;exact this
theorem jW (R:Rd KU W u []):∃ a cap,u = .slice a 0 cap:=by
 obtain ⟨a,cap,e,_⟩:=R;exact ⟨a,cap,e⟩
theorem Gv (h:Glob w):Calls prog 8 #[] w fun e w'=>e = .returned (.bool true)/\Below w.heap.size w w':=by
 have HG:=Hh h;clear h;have L1:Hid (Rd KI (w.alloc (.cells #[.int .i64 0] 3)) (.slice (some ⟨w.heap.size,0,none⟩) 1 1) [0]):=Hh (Rw.Ow.lit (K:=KI) w w.heap.size 3 [0] (am _) (by unfold maxLen;simp)).rd;have B1:=Hh ((af w.heap.size w).alloc (am _) (.cells #[.int .i64 0] 3))
 have C1:Hid (Calls prog 27 #[.slice (some ⟨w.heap.size,0,none⟩) 1 1] (w.alloc (.cells #[.int .i64 0] 3)) fun e w'=>∃ a cap,e = .returned (.tuple #[.agg #[.int .i64 3,.slice a 2 cap],.int .i64 0])/\Rd K4 w' (.slice a 2 cap) (bE [0])/\Below (w.alloc (.cells #[.int .i64 0] 3)).heap.size (w.alloc (.cells #[.int .i64 0] 3)) w'):=Hh ((mZ _ _ [0] L1).mono fun e w' ⟨u,he,hu,hb⟩=>by
  have e1:Re.fL [0]=bE [0]:=az Cu.Eo;rw [e1] at hu;obtain ⟨a,cap,rfl,_⟩:=hu.slice
  exact ⟨a,cap,by rw [he];unfold Re.fP Re.fN;rw [az Cu.Eo,az Cu.Eo];rfl,hu,hb⟩)
 have C2:Hid (∀ W,Calls prog 28 #[.int .i64 7,.int .i64 1] W fun e w'=>∃ a cap,e = .returned (.tuple #[.agg #[.int .i64 7,.slice a 2 cap],.int .i64 0])/\Rd K4 w' (.slice a 2 cap) (newL 7 1)/\Below W.heap.size W w'):=Hh (fun W=>(mV W 7 1).mono fun e w' ⟨v,he,hv,hb⟩=>by
  have hp:newP 7 1:=⟨by decide,by decide,by decide,by decide⟩;rw [az hp] at hv;rw [az hp,az hp] at he;obtain ⟨a,cap,rfl,_⟩:=hv.slice
  exact ⟨a,cap,he,hv,hb⟩)
 go_enter func8,ntmps8
 go_wp2_with fail;refine C1.mono ?_;rintro e w2 ⟨fa,fc,rfl,r2,b2⟩;have B2:=aN B1 b2;have X2:=Hh (bi w2 (.cells #[.int .i64 3,.slice fa 2 fc] 83));have N2:=Hh ((af w2.heap.size w2).alloc (am _) (.cells #[.int .i64 3,.slice fa 2 fc] 83));have R2:=Hh (r2.below N2);have B3:=aN B2 N2;clear C1 L1 B1 r2 b2 B2 N2;go_upto_region 2 with fail;generalize (w2.alloc (.cells #[.int .i64 3,.slice fa 2 fc] 83))=w3 at *;generalize w2.heap.size=g1 at *;have D2:=Hh (C2 w3);clear C2;go_wp2_with fail;refine D2.mono ?_;rintro e w4 ⟨na,nc,rfl,r4,b4⟩;have X4:=Hh (bi w4 (.cells #[.int .i64 7,.slice na 2 nc] 83));have N4:=Hh ((af w4.heap.size w4).alloc (am _) (.cells #[.int .i64 7,.slice na 2 nc] 83));have R4a:=Hh (r4.below N4);have R5:=Hh ((R2.below b4).below N4);have X5:=Hh ((N4.block _ (cL (bp X2) b4.size)).trans (bU b4 X2));have B5:=Hh ((aN B3 b4).trans (N4.mono (cP B3.size b4.size)));clear D2 r4 b4 R2 X2 B3 N4;go_upto_region 3 with fail;generalize (w4.alloc (.cells #[.int .i64 7,.slice na 2 nc] 83))=w5 at *;generalize w4.heap.size=g2 at *;obtain ⟨x0,x1⟩:=BO X4;obtain ⟨y0,y1⟩:=BO X5;have hBN:=Fs.wK;have RE:Hid (Rd E3 (w5.alloc (.cells #[.int .i64 1,.int .i64 7,.slice na 2 nc,.int .i64 40,.int .i64 3,.slice fa 2 fc] 85)) (.slice (some ⟨w5.heap.size,0,none⟩) 2 2) [⟨1,7,na,nc,newL 7 1⟩,⟨40,3,fa,fc,bE [0]⟩]):=Hh (Rw.Ow.lit (K:=E3) w5 w5.heap.size 85 [⟨1,7,na,nc,newL 7 1⟩,⟨40,3,fa,fc,bE [0]⟩] (am _) (by unfold maxLen;simp)).rd;have B6:=Hh ((af w5.heap.size w5).alloc (am _) (.cells #[.int .i64 1,.int .i64 7,.slice na 2 nc,.int .i64 40,.int .i64 3,.slice fa 2 fc] 85));have Z6:Hid ((w5.alloc (.cells #[.int .i64 1,.int .i64 7,.slice na 2 nc,.int .i64 40,.int .i64 3,.slice fa 2 fc] 85)).heap.size=w5.heap.size+1):=Hh (by simp);have B7:=Hh (B6.alloc B6.size (.cells #[.slice (some ⟨w5.heap.size,0,none⟩) 2 2,.int .i64 0] 75));have X7:Hid (((w5.alloc (.cells #[.int .i64 1,.int .i64 7,.slice na 2 nc,.int .i64 40,.int .i64 3,.slice fa 2 fc] 85)).alloc (.cells #[.slice (some ⟨w5.heap.size,0,none⟩) 2 2,.int .i64 0] 75)).heap[w5.heap.size+1]? = some (.cells #[.slice (some ⟨w5.heap.size,0,none⟩) 2 2,.int .i64 0] 75 (0,0))):=Hh (by rw [← Z6.out];exact bi _ _)
 have FL:Hid (Pa.Dw ((w5.alloc (.cells #[.int .i64 1,.int .i64 7,.slice na 2 nc,.int .i64 40,.int .i64 3,.slice fa 2 fc] 85)).alloc (.cells #[.slice (some ⟨w5.heap.size,0,none⟩) 2 2,.int .i64 0] 75)) (.slice (some ⟨w5.heap.size,0,none⟩) 2 2) [⟨1,7,na,nc,newL 7 1⟩,⟨40,3,fa,fc,bE [0]⟩] ((w5.alloc (.cells #[.int .i64 1,.int .i64 7,.slice na 2 nc,.int .i64 40,.int .i64 3,.slice fa 2 fc] 85)).alloc (.cells #[.slice (some ⟨w5.heap.size,0,none⟩) 2 2,.int .i64 0] 75)).heap.size):=Hh (vY (RE.below ((af _ _).alloc (am _) _)) fun c hc=>by
  rcases cy.1 hc with h | h
  ·rw [h];exact ⟨R4a.out.below B7.out,AQ⟩
  ·rw [dg.1 h];exact ⟨R5.out.below B7.out,Re.LX Cu.Eo⟩)
 have BB:=aN B5 B7;clear RE B6 Z6 B7 R4a R5 B5 X4 X5;go_upto_region 4 with fail;clear x0 x1 y0 y1 hBN;generalize ((w5.alloc (.cells #[.int .i64 1,.int .i64 7,.slice na 2 nc,.int .i64 40,.int .i64 3,.slice fa 2 fc] 85)).alloc (.cells #[.slice (some ⟨w5.heap.size,0,none⟩) 2 2,.int .i64 0] 75))=w7 at *;generalize w5.heap.size=g5 at *;obtain ⟨x0,x1⟩:=BO X7;have PL:=Hh (qT (c:=⟨(some ⟨g5,0,none⟩,2,2),0,[⟨1,7,na,nc,newL 7 1⟩,⟨40,3,fa,fc,bE [0]⟩]⟩) FL);have NW:Hid (Calls prog 6 #[.slice (some ⟨w7.heap.size,0,none⟩) 2 2] (w7.alloc (.cells #[.slice (some ⟨g5,0,none⟩) 2 2,.int .i64 0,.slice (some ⟨g5,0,none⟩) 2 2,.int .i64 0] 75)) fun e w'=>∃ s,e = .returned (.tuple #[.pointer (some ⟨s,0,none⟩),.int .i64 0])/\CH w s (Cu.newC L4) 0 w'):=Hh (rZ PL (w0:=w) acs (BB.alloc BB.size _));clear FL PL BB X7;go_wp2_with fail;refine NW.mono ?_;rintro e w8 ⟨s,rfl,ch8⟩;have GN:=Hh (Vd ch8 (key:=7) (by decide));clear NW x0 x1 ch8;unfold ptr at GN;go_wp2_with fail;refine GN.out.mono ?_;rintro e w9 ⟨g,H,rfl,gx9⟩;have G9:=Hh (show GX w g s H G4 0 w9 from gx9);have PT:=Hh (Rt AF w9);unfold qV qA x5 at PT;dsimp only at PT;clear GN gx9;go_wp2_with fail;refine PT.out.mono ?_;rintro e w10 ⟨v1,rfl,o10,b10⟩;have PT2:=Hh (Rt AU w10);unfold qV qA x6 z4 at PT2;dsimp only at PT2;clear PT;go_wp2_with fail;refine PT2.out.mono ?_;rintro e w11 ⟨v2,rfl,o11,b11⟩;have G11:=(G9.out.below b10).below b11;have SU:=qL G11 HG.out ok4 (o10.keep b11).rd (Rq.vL AF (by unfold okV;decide));rw [show qb ⟨5,2,1,1,1,(9,0,0,0),7⟩=qb x5 from rfl,sc5,show Qg G4 (qb x5) = [] from az sb5] at SU;have SU:=Hh SU
 have MV:Hid (∀ W,Only H w11 W->Rd KU W v2 (qb x6)):=Hh (fun W o=>Fs.iw o11.rd (fun _ k e h=>by
  have:=(Fs.dI o11 k e).1;have:=G9.out.low k h;have:=b10.size
  omega) o)
 unfold ptr at SU;clear PT2 b10 b11 o10 o11 G9 G11;go_wp2_with fail;refine SU.out.mono ?_;rintro e w12 ⟨u1,rfl,r12,gx12,o12⟩;obtain ⟨ua,uc,rfl⟩:=jW r12;have OK5:OkG G5 0:=by have:=ok4.sub (l:=qb x5) (Rq.vL AF (by unfold okV;decide));rwa [sc5] at this
 have SU2:=qL gx12 HG.out OK5 (MV.out _ o12) (Rq.vL AU FY);rw [sc6,sa6] at SU2;have SU2:=Hh SU2;unfold ptr at SU2;clear SU r12 gx12 o12 MV;go_wp2_with fail;refine SU2.out.mono ?_;rintro e w13 ⟨u2,rfl,r13,gx13,-⟩;have RD:=Hh (oU (y:=⟨6,15,z4⟩) (by decide) FY r13);have G13:=Hh gx13;unfold yV yA z4 at RD;dsimp only at RD;clear SU2 r13 gx13;go_wp2_with fail;refine RD.out.mono ?_;rintro e w14 ⟨rfl,b14⟩;have BA:=(af w14.heap.size w14).alloc (am _) (.cells #[.int .i64 6,.int .i64 15,.int .u8 0,.int .u8 0,.int .u8 0,.int .u8 0] 44);have YR:=Hh (bi w14 (.cells #[.int .i64 6,.int .i64 15,.int .u8 0,.int .u8 0,.int .u8 0,.int .u8 0] 44));have G14:=G13.out.below b14;have NH:=Hh (fun h=>Nat.lt_irrefl _ (G14.low w14.heap.size h));have ST:=Dp (G14.below BA) HG.out OK5 (by decide);rw [Ic] at ST;have ST:=Hh ST;unfold ptr at ST;clear RD b14 G13 G14 BA;go_upto_region 14 with fail;generalize w14.alloc (.cells #[.int .i64 6,.int .i64 15,.int .u8 0,.int .u8 0,.int .u8 0,.int .u8 0] 44)=w15 at *;generalize w14.heap.size=yb1 at *;go_wp2_with fail;refine ST.out.mono ?_;rintro e w16 ⟨u3,rfl,r16,gx16,o16⟩;have RD:=Hh (oU (y:=⟨5,0,(9,0,0,0)⟩) (by decide) (by unfold okV;decide) r16);have Y16:=Hh ((o16.block _ (bp YR.out) NH.out).trans YR.out);have G16:=Hh gx16;unfold yV yA at RD;dsimp only at RD;clear ST r16 gx16 o16 YR NH;go_wp2_with fail;refine RD.out.mono ?_;rintro e w17 ⟨rfl,b17⟩;have BZ:=(af w17.heap.size w17).alloc (am _) (.cells #[.int .i64 5,.int .i64 0,.int .u8 9,.int .u8 0,.int .u8 0,.int .u8 0] 44);have ZR:=Hh (bi w17 (.cells #[.int .i64 5,.int .i64 0,.int .u8 9,.int .u8 0,.int .u8 0,.int .u8 0] 44));have Y18:=Hh (bU BZ (bU b17 Y16.out));have G18:=Hh ((G16.out.below b17).below BZ);clear RD b17 G16 BZ Y16;go_upto_region 15 with fail;generalize w17.alloc (.cells #[.int .i64 5,.int .i64 0,.int .u8 9,.int .u8 0,.int .u8 0,.int .u8 0] 44)=w18 at *;generalize w17.heap.size=zb1 at *;have NO:=Hh (Xi w18 (.pointer none) 7 (.inl rfl));go_wp2_with fail;refine NO.out.mono ?_;rintro e w19 ⟨rfl,b19⟩;have yr:=bU b19 Y18.out;have zr:=bU b19 ZR.out;have WT:=yE (G18.out.below b19) OK5.step;rw [sq5] at WT;have WT:=Hh WT;have E19:=Hh (G18.out.below b19).aD;have y0:=dw yr 0;have y1:=dw yr 1;have z0:=dw zr 0;have z1:=dw zr 1;have z2:=dw zr 2;have z3:=dw zr 3;have z5:=dw zr 4;have z6:=dw zr 5;have e1:∀ w,(Op.equalIn 10000 36 (.agg #[.int .u8 9,.int .u8 0,.int .u8 0,.int .u8 0]) (.agg #[.int .u8 9,.int .u8 0,.int .u8 0,.int .u8 0])).run prog w = .ok true w:=fun w=>by have:=Fl.qW (9,0,0,0) (9,0,0,0) w;rwa [bj rfl] at this
 unfold ptr at WT;clear NO yr zr b19 G18 ZR Y18;go_wp2_with fail;refine WT.out.mono ?_;rintro e w20 ⟨rfl,b20⟩;have E:=Hh (aN E19.out b20);clear WT b20;go_wp2
 go_ret
 exact ⟨rfl,E.out⟩
end Ga
namespace Ga
open Go.RowKit
open Ck (KS)
def Un (K:Nat->Prop) (v:Value) (x:Nat):Prop:=K x\/v.ownBlock=some x
structure ny (K:Nat->Prop) (W:World) (B:Nat) (v:Value) (S:bW) (hs:List Hd):Prop where
 own:Ow KS W B 49 v hs
 each:∀ i:Nat,i < hs.length->Ls (Un K v) W (sl (hs.getD i zh)) (sat S i).1
 off:∀ b,v.ownBlock=some b->¬ K b
section
variable {K:Nat->Prop} {W w':World} {B:Nat} {v v':Value} {S:bW} {hs:List Hd}
theorem ny.below (h:ny K W B v S hs) (b:Below W.heap.size W w'):ny K w' B v S hs:=⟨h.own.keep b,fun i hi=>(h.each i hi).below b,h.off⟩
theorem ny.only (h:ny K W B v S hs) (o:Only K W w'):ny (Fx K W w') w' B v S hs:=by
 have o2:Only (Un K v) W w':=o.mono fun k _ g=>.inl g;refine ⟨aA h.own h.off o,fun i hi=>((h.each i hi).only o2).mono fun x _ g=>?_,fun b hb g=>?_⟩
 ·rcases g with g | g
  ·rcases g with g | g
   ·exact .inl (.inl g)
   ·exact .inr g
  ·exact .inl (.inr g)
 ·have:=dI h.own b hb
  rcases g with g | g
  ·exact h.off b hb g
  ·omega
theorem ny.mono {J:Nat->Prop} (h:ny K W B v S hs) (hj:∀ x,x < W.heap.size->J x->K x):ny J W B v S hs :=
 ⟨h.own,fun i hi=>(h.each i hi).mono fun x hx g=>by
  rcases g with g | g
  ·exact .inl (hj x hx g)
  ·exact .inr g,fun b hb g=>h.off b hb (hj b (dI h.own b hb).2 g)⟩
theorem ny.nil (w:World) (B:Nat):ny K w B (.slice none 0 0) S []:=⟨Rw.Ow.nil ..,fun _ hi=>absurd hi (eM _),nofun⟩
theorem ny.made (w:World) (hK:∀ x,K x->x < w.heap.size):ny K (w.alloc (.cells #[] 49)) w.heap.size (.slice (some ⟨w.heap.size,0,none⟩) 0 0) S [] :=
 ⟨Rw.Ow.made _ _ _ (am _),fun _ hi=>absurd hi (eM _),fun b hb g=>by
  have:w.heap.size=b:=by simpa [Value.ownBlock] using hb
  have:=hK b g
  omega⟩
theorem jB (g:W.grownBy w' v.ownBlock):Only (fun x=>v.ownBlock=some x) W w':=⟨g.os,g.tape,g.output,g.size,fun k hk hn=>g.block k hk fun e=>hn e.symm⟩
theorem ny.push {hd:Hd} (h:ny K W B v S hs) (hK:∀ x,K x->x < W.heap.size) (hu:Ls (Un K v) W (sl hd) (sat S hs.length).1) (ow:Ow KS w' B 49 v' (hs ++ [hd])) (g:W.grownBy w' v.ownBlock) (e:v'.ownBlock=v.ownBlock\/∃ g,v'.ownBlock=some g/\W.heap.size<=g):ny K w' B v' S (hs ++ [hd]):=by
 have o2:Only (Un K v) W w':=(jB g).mono fun k _ q=>.inr q;have move:∀ u A,Ls (Un K v) W u A->Ls (Un K v') w' u A:=fun u A hl=>(hl.only o2).mono fun x hx q=>by
  rcases q with q | q
  ·exact .inl (.inl q)
  ·rcases e with e | ⟨y,e,hy⟩
   ·exact .inl (.inr (e ▸ q))
   ·rw [e] at q
    injection q with q;exact .inr ⟨by omega,hx⟩
 refine ⟨ow,fun i hi=>?_,fun b hb q=>?_⟩
 ·rw [cW] at hi
  simp only [eN,gh] at hi
  by_cases hik:i < hs.length
  ·have:(hs ++ [hd]).getD i zh=hs.getD i zh:=by rw [an,an,eI hik]
   rw [this];exact move _ _ (h.each i hik)
  ·obtain rfl:i=hs.length:=by omega
   have:(hs ++ [hd]).getD hs.length zh=hd:=by rw [an];simp
   rw [this];exact move _ _ hu
 ·rcases e with e | ⟨y,e,hy⟩
  ·exact h.off b (e ▸ hb) q
  ·rw [e] at hb
   injection hb with hb;have:=hK b q
   omega
theorem ny.one (h:ny K W B v S hs) {i:Nat} (hi:i < hs.length):∃ b cap,v = .slice (some ⟨b,0,none⟩) hs.length cap/\W.cell? ⟨b,i,none⟩=some (sl (hs.getD i zh))/\Ls (Un K v) W (sl (hs.getD i zh)) (sat S i).1:=by
 obtain ⟨b,cap,e,_,_,_,_,_,A⟩:=h.own.form (by omega);refine ⟨b,cap,e,?_,h.each i hi⟩;have c:=A i hi 0 _ rfl;simp only [KS,Nat.mul_one,Nat.add_zero,fd] at c;exact c
end
theorem V2 {F:Nat->Prop} {W:World} {u:Value} {A:aT} (h:Ls F W u A):∃ a n c,u = .slice a n c:=by
 obtain ⟨L,h,_⟩:=h;obtain ⟨a,cap,e,_⟩:=h.rd;exact ⟨a,L.length,cap,e⟩
theorem ab7:(prog.info? 49).map (fun i=>(i.zero,i.size,i.bytes))=some (some (.slice none 0 0),1,24):=by kernel_rfl
def KK (H:Nat->Prop) (vi vo:Value) (k:Nat):Prop:=H k\/vi.ownBlock=some k\/vo.ownBlock=some k
structure GO (w0:World) (g s:Nat) (H:Nat->Prop) (G:Gs) (t:Nat) (vi vo:Value) (li lo:List Int) (W:World):Prop where
 gx:GX w0 g s H G t W
 i:Ow KI W w0.heap.size 3 vi li
 o:Ow KI W w0.heap.size 3 vo lo
 hi:∀ k,vi.ownBlock=some k->¬ H k
 ho:∀ k,vo.ownBlock=some k->¬ H k
 io:∀ k,vi.ownBlock=some k->vo.ownBlock≠some k
section
variable {w0 W w':World} {g s t t':Nat} {H J:Nat->Prop} {G G':Gs} {vi vo u:Value} {li lo l':List Int} {B:Nat} {v:Value} {S:Pa.bW} {hs:List Hd}
theorem GO.low (h:GO w0 g s H G t vi vo li lo W):∀ k,KK H vi vo k->k < W.heap.size:=fun k q=>by
 rcases q with q | q | q
 ·exact h.gx.low k q
 ·exact (dI h.i k q).2
 ·exact (dI h.o k q).2
theorem GO.new (h:GO w0 g s H G t vi vo li lo W):∀ k,KK H vi vo k->w0.heap.size<=k:=fun k q=>by
 rcases q with q | q | q
 ·exact h.gx.2.1 k q
 ·exact (dI h.i k q).1
 ·exact (dI h.o k q).1
theorem GO.only (h:GO w0 g s H G t vi vo li lo W) (hn:∀ k,KK H vi vo k->¬ J k) (o:Only J W w') (hj:∀ k,J k->w0.heap.size<=k):GO w0 g s H G t vi vo li lo w' :=
 ⟨h.gx.only (fun k q=>hn k (.inl q)) o hj,aA h.i (fun k e=>hn k (.inr (.inl e))) o,aA h.o (fun k e=>hn k (.inr (.inr e))) o,h.hi,h.ho,h.io⟩
theorem GO.below (h:GO w0 g s H G t vi vo li lo W) (b:Below W.heap.size W w'):GO w0 g s H G t vi vo li lo w':=⟨h.gx.below b,h.i.keep b,h.o.keep b,h.hi,h.ho,h.io⟩
theorem GO.grown (h:GO w0 g s H G t vi vo li lo W) (g':GX w0 g s (Fx H W w') G' t' w') (o:Only H W w'):GO w0 g s (Fx H W w') G' t' vi vo li lo w' :=
 ⟨g',aA h.i h.hi o,aA h.o h.ho o,fun k e q=>by
  rcases q with q | q
  ·exact h.hi k e q
  ·have:=(dI h.i k e).2;omega,fun k e q=>by
  rcases q with q | q
  ·exact h.ho k e q
  ·have:=(dI h.o k e).2;omega,h.io⟩
theorem GO.ZD (h:GO w0 g s H G t vi vo li lo W) (ow:Ow KI w' w0.heap.size 3 u l') (gr:W.grownBy w' vo.ownBlock) (e:u.ownBlock=vo.ownBlock\/∃ b,u.ownBlock=some b/\W.heap.size<=b):GO w0 g s H G t vi u li l' w' :=
 ⟨h.gx.only (J:=fun x=>vo.ownBlock=some x) (fun k q f=>h.ho k f q) (jB gr) fun k f=>(dI h.o k f).1,aA (G:=fun x=>vo.ownBlock=some x) h.i (fun k f=>h.io k f) (jB gr),ow,h.hi,fun k f q=>by
  rcases e with e | ⟨b,e,hb⟩
  ·exact h.ho k (e ▸ f) q
  ·rw [e] at f;injection f with f;have:=h.gx.low k q;omega,fun k f q=>by
  rcases e with e | ⟨b,e,hb⟩
  ·exact h.io k f (e ▸ q)
  ·rw [e] at q;injection q with q;have:=(dI h.i k f).2;omega⟩
theorem GO.acT (h:GO w0 g s H G t vi vo li lo W) (ow:Ow KI w' w0.heap.size 3 u l') (gr:W.grownBy w' vi.ownBlock) (e:u.ownBlock=vi.ownBlock\/∃ b,u.ownBlock=some b/\W.heap.size<=b):GO w0 g s H G t u vo l' lo w' :=
 ⟨h.gx.only (J:=fun x=>vi.ownBlock=some x) (fun k q f=>h.hi k f q) (jB gr) fun k f=>(dI h.i k f).1,ow,aA (G:=fun x=>vi.ownBlock=some x) h.o (fun k f q=>h.io k q f) (jB gr),fun k f q=>by
  rcases e with e | ⟨b,e,hb⟩
  ·exact h.hi k (e ▸ f) q
  ·rw [e] at f;injection f with f;have:=h.gx.low k q;omega,h.ho,fun k f q=>by
  rcases e with e | ⟨b,e,hb⟩
  ·exact h.io k (e ▸ f) q
  ·rw [e] at f;injection f with f;have:=(dI h.o k q).2;omega⟩
theorem ny.turn (h:ny (KK H vi vo) W B v S hs) (o:Only H W w'):ny (KK (Fx H W w') vi vo) w' B v S hs :=
 (h.only (o.mono fun _ _ q=>.inl q)).mono fun x _ q=>by
   rcases q with q | q | q
   ·rcases q with q | q
    ·exact .inl (.inl q)
    ·exact .inr q
   ·exact .inl (.inr (.inl q))
   ·exact .inl (.inr (.inr q))
theorem ny.note (h:ny (KK H vi vo) W B v S hs) (gr:W.grownBy w' vi.ownBlock) (e:u.ownBlock=vi.ownBlock\/∃ b,u.ownBlock=some b/\W.heap.size<=b):ny (KK H u vo) w' B v S hs :=
 (h.only ((jB gr).mono fun _ _ q=>.inr (.inl q))).mono fun x hx q=>by
   rcases q with q | q | q
   ·exact .inl (.inl q)
   ·rcases e with e | ⟨b,e,hb⟩
    ·exact .inl (.inr (.inl (e ▸ q)))
    ·rw [e] at q;injection q with q;exact .inr ⟨by omega,hx⟩
   ·exact .inl (.inr (.inr q))
end
theorem Tx:(prog.info? 3).map (fun i=>(i.zero,i.size,i.bytes))=some (some (.int .i64 0),1,8):=by kernel_rfl
end Ga
namespace Pa
open Go.RowKit Go.Maps
open Ro (z5 ent)
open Ck (IQ pJ lI iV)
theorem C9 {α:Type} {K:Rw.Kind α} {w:World} {v:Value} {l:List α} {a:Option Addr} {n cap k:Nat} (R:Rd K w v l) (e:v = .slice a n cap) (hk:k<=l.length) (h0:0 < k):Rd K w (.slice a k cap) (l.take k):=by
 obtain ⟨a',cap',e',⟨h1,h2⟩,h3,h4⟩:=R;rw [e] at e';injection e' with e1 e2 e3;subst e1 e3;have hl:(l.take k).length=k:=by rw [cM];omega
 refine ⟨a,cap,by rw [hl],⟨by rw [hl];omega,h2⟩,h3,fun _=>?_⟩;obtain ⟨b,off,rfl,hA⟩:=h4 (by omega);refine ⟨b,off,rfl,fun i hi j u hu=>?_⟩;rw [hl] at hi;refine hA i (by omega) j u ?_;rw [← hu,List.getD,List.getD,i2,az hi]
end Pa
namespace Cu
open Go.RowKit
open Pa (C9)
attribute [local irreducible] Sd.aU wpQuiet
def jV (e:aB):aB:={ e with l:=e.l.take 260 }
def Rc (p:Pl):Pl:=((p.1.take 12).map fun e=>(e.1,e.2.1,e.2.2.take 260),p.2)
def Na (l:List Pl):List Pl:=(l.take 6).map Rc
theorem WE:(prog.info? 85).map (fun i=>(i.zero,i.size,i.bytes))=some (some (.agg #[.int .i64 0,.int .i64 0,.slice none 0 0]),3,40):=by kernel_rfl
theorem aaD:(prog.info? 75).map (fun i=>(i.zero,i.size,i.bytes))=some (some (.agg #[.slice none 0 0,.int .i64 0]),2,32):=by kernel_rfl
def xI (w:World) (B:Nat) (L:List jO) (e:Ending) (w':World):Prop:=∃ v L',e = .returned v/\Dk w' v L' B/\fV L'=Na (fV L)/\Below w.heap.size w w'
theorem Vp {w:World} {a:Option Addr} {cap:Nat} {l:List R4} (h:Rd K4 w (.slice a l.length cap) l):Rd K4 w (.slice a (l.take 260).length cap) (l.take 260):=by
 by_cases h1:260<=l.length
 ·have e:(l.take 260).length=260:=by rw [cM];omega
  rw [e];exact C9 h rfl h1 (by decide)
 ·rw [dt (by omega)]
  exact h
structure Mc (wo:World) (c:jO) (m g5 g6:Nat) (fa:Option Addr) (fc:Nat) (j:Nat) (o:Value) (wr:World):Prop where
 fF:wr.heap[g5]? = some (.cells #[.slice fa m fc,.int .i64 c.rate] 75 (0,0))
 E9:wr.heap[g6]? = some (.cells #[o,.int .i64 c.rate] 75 (0,0))
 own:Ow E3 wr wo.heap.size 85 o ((c.F.take j).map jV)
 aD:Below wo.heap.size wo wr
 lo:wo.heap.size<=g5/\wo.heap.size<=g6/\g5≠g6
section
variable {wo wr w2:World} {c:jO} {m g5 g6 fc j:Nat} {fa:Option Addr} {o o':Value}
theorem Mc.below (h:Mc wo c m g5 g6 fa fc j o wr) (b:Below wr.heap.size wr w2):Mc wo c m g5 g6 fa fc j o w2:=⟨bU b h.fF,bU b h.E9,h.own.keep b,h.aD.trans (b.mono h.aD.size),h.lo⟩
theorem Mc.off (h:Mc wo c m g5 g6 fa fc j o wr) {gx:Nat} (h0:wo.heap.size<=gx) (h5:gx≠g5) (h6:gx≠g6) (ho:o.ownBlock≠some gx) (k:Nat) (u:Value):Mc wo c m g5 g6 fa fc j o (wr.setCell ⟨gx,k,none⟩ u) :=
 ⟨(cj wr ⟨gx,k,none⟩ u g5 (fun e=>h5 e.symm)).trans h.fF,(cj wr ⟨gx,k,none⟩ u g6 (fun e=>h6 e.symm)).trans h.E9,h.own.off (p:=⟨gx,k,none⟩) ho u,h.aD.setCell h0 u,h.lo⟩
theorem Mc.push (h:Mc wo c m g5 g6 fa fc j o wr) {x:aB} (hx:c.F[j]? = some x) (own:Ow E3 w2 wo.heap.size 85 o' ((c.F.take j).map jV ++ [jV x])) (gr:wr.grownBy w2 o.ownBlock):w2.heap[g6]? = some (.cells #[o,.int .i64 c.rate] 75 (0,0))/\Mc wo c m g5 g6 fa fc (j+1) o' (w2.setCell ⟨g6,0,none⟩ o'):=by
 have r5:=(gr.block g5 (bp h.fF) (fun e=>h.own.apart h.fF (by decide) e.symm)).trans h.fF;have r6:=(gr.block g6 (bp h.E9) (fun e=>h.own.apart h.E9 (by decide) e.symm)).trans h.E9;have b2:=h.aD.grown gr h.aD.size fun j e=>(cJ h.own j e).1;have e:(c.F.take (j+1)).map jV=(c.F.take j).map jV ++ [jV x]:=by rw [ed,hx,gk];rfl
 refine ⟨r6,(cj w2 ⟨g6,0,none⟩ o' g5 h.lo.2.2).trans r5,Rw.heap_setCell_same (j:=0) r6 o',?_,b2.setCell h.lo.2.1 _,h.lo⟩;rw [e];exact own.far (p:=⟨g6,0,none⟩) r6 (by decide) _
end
theorem Sn (x:aB):(jV x).sl.ownBlock=x.sl.ownBlock:=by
 obtain ⟨n,p,a,cap,l⟩:=x;unfold jV aB.sl
 cases a <;> rfl
def ROk (w:World) (B:Nat) (e:aB):Prop:=(Rd K4 w e.sl e.l/\dF e.l)/\(0 < e.l.length->∀ k,e.sl.ownBlock=some k->k < B)
variable {w:World} {v:Value} {B:Nat}
theorem YW {L:List aB} (rd:Rd E3 w v L) (each:∀ c∈L,ROk w B c):Dw w v L B:=by
 have at_:∀ i,i < L.length->eD L i∈L:=fun i hi=>by
  unfold eD;rw [an,aw hi];exact dy hi
 exact ⟨rd,fun i hi=>(each _ (at_ i hi)).1,fun i hi h0 k hk=>(each _ (at_ i hi)).2 h0 k hk⟩
theorem VL {L:List jO} (rd:Rd KP w v L) (each:∀ c∈L,Dw w (sl c.files) c.F B):Dk w v L B:=by
 refine ⟨rd,fun i hi=>each _ ?_⟩;unfold zJ;rw [an,aw hi];exact dy hi
structure P9 (w:World) (B:Nat) (L:List jO) (k:Nat) (o:Value) (LD:List jO) (wr:World):Prop where
 own:Ow KP wr w.heap.size 75 o LD
 len:LD.length=k
 fil:∀ c∈LD,Ow E3 wr w.heap.size 85 (sl c.files) c.F
 RQ:∀ c∈LD,∀ e∈c.F,ROk w B e
 abs:fV LD=((fV L).take k).map Rc
 aD:Below w.heap.size w wr
section
variable {w wr w2:World} {B:Nat} {L LD:List jO} {k:Nat} {o o':Value} {x:jO}
theorem P9.below (h:P9 w B L k o LD wr) (b:Below wr.heap.size wr w2):P9 w B L k o LD w2:=⟨h.own.keep b,h.len,fun c hc=>(h.fil c hc).keep b,h.RQ,h.abs,h.aD.trans (b.mono h.aD.size)⟩
theorem P9.push (h:P9 w B L k o LD wr) (hk:k < L.length) (own:Ow KP w2 w.heap.size 75 o' (LD ++ [x])) (gr:wr.grownBy w2 o.ownBlock) (fx:Ow E3 wr w.heap.size 85 (sl x.files) x.F) (rx:∀ e∈x.F,ROk w B e) (ax:x.abs=Rc (zJ L k).abs):P9 w B L (k+1) o' (LD ++ [x]) w2:=by
 have oq:=aV gr;refine ⟨own,by rw [cW,h.len];rfl,fun c hc=>?_,fun c hc=>?_,?_,h.aD.grown gr h.aD.size fun j e=>(cJ h.own j e).1⟩
 ·rcases eC.1 hc with hc | hc
  ·exact aA (h.fil c hc) (fun k e=>Pa.aZ (h.fil c hc) h.own (by decide) k e) oq
  ·rw [dg.1 hc]
   exact aA fx (fun k e=>Pa.aZ fx h.own (by decide) k e) oq
 ·rcases eC.1 hc with hc | hc
  ·exact h.RQ c hc
  ·rw [dg.1 hc]
   exact rx
 ·have e1:fV (LD ++ [x])=fV LD ++ [x.abs]:=by unfold fV;rw [gk];rfl
  have e2:(fV L).take (k+1)=(fV L).take k ++ [(zJ L k).abs]:=by
   rw [ed];have:(fV L)[k]? = some (zJ L k).abs:=by
    unfold fV zJ;rw [cX,aw hk,an,aw hk]
    rfl
   rw [this]
   rfl
  rw [e1,e2,gk,h.abs,ax]
  rfl
theorem P9.fin (h:P9 w B L k o LD wr) (hk:k=L.length\/k=6) (h6:k<=6):xI w B L (.returned o) wr:=by
 refine ⟨o,LD,rfl,VL h.own.rd fun c hc=>YW (h.fil c hc).rd fun e he=>⟨⟨(h.RQ c hc e he).1.1.below h.aD,(h.RQ c hc e he).1.2⟩,(h.RQ c hc e he).2⟩,?_,h.aD⟩;rw [h.abs];unfold Na
 congr 1
 rcases hk with e | e
 ·rw [dt (by rw [fq];omega),dt (by rw [fq];omega)]
 ·rw [e]
end
theorem VI (c:jO) (h:Hd):(⟨h,c.rate,(c.F.take 12).map jV⟩:jO).abs=Rc c.abs:=by
 show (((c.F.take 12).map jV).map aB.abs,c.rate)=(((c.F.map aB.abs).take 12).map _,c.rate)
 rw [← List.map_take,List.map_map,List.map_map]
 rfl
theorem AZ {L:List jO} (H:Dk w v L B):Calls prog 7 #[v] w (xI w B L):=by
 have HF:=Hh H.file;obtain ⟨a,cap,rfl,_,hm,h3⟩:=H.rd;have H3:=Hh h3;clear h3 H;unfold maxLen at hm;have FIN:Hid (∀ k o LD wr,P9 w B L k o LD wr->k=L.length\/k=6->k<=6->xI w B L (.returned o) wr):=Hh (fun k o LD wr I h1 h2=>I.fin h1 h2);have I0:Hid (P9 w B L 0 (.slice (some ⟨w.heap.size,0,none⟩) 0 0) [] (w.alloc (.cells #[] 75))):=Hh ⟨Rw.Ow.made _ _ _ (am _),rfl,fun c hc=>(dj hc).elim,fun c hc=>(dj hc).elim,rfl,(af _ _).alloc (am _) _⟩;generalize hn:L.length=n at *;have HN:=Hh hn;clear hn
 go_enter func7,ntmps7
 go_wp2
 go_loopw [4,3] (fun i o wr=>∃ (k:Nat) (LD:List jO) (p1:Value),k<=n/\k<=6/\i = .int .i64 k/\p1=o/\Hid (P9 w B L k o LD wr)) (fun i _ _=>6 - (intOf i).toNat)
 case atStart=>exact ⟨0,[],_,cx _,cx _,rfl,rfl,by simpa using I0⟩
 case round =>
  clear I0;obtain ⟨k,LD,o,hk,hk6,rfl,rfl,I⟩:=hrel
  by_cases hlt:k < n/\k < 6
  ·obtain ⟨hlt,h6⟩:=hlt
   have hkL:k < L.length:=by have:=HN.out;omega
   obtain ⟨b,off,rfl,hA⟩:=H3 (by omega);obtain ⟨x0,x1⟩:=ZG (hA.below I.aD) hkL;have HAA:=Hh hA;have FK:=Hh (HF k hlt);have KL:=Hh hkL;have LDL:=Hh I.len;clear hA hkL;obtain ⟨ao,co,eo,-,-⟩:=I.own.slice;generalize LD.length=ln at eo;subst eo;generalize hc:zJ L k=c at *;have HC:=Hh hc;clear hc;obtain ⟨fa0,fc0,es,hmf⟩:=FK.rd.slice;have ES:=Hh es;rw [es] at x0;clear es;have Y0:=Hh (bi wr (.cells #[.slice fa0 c.F.length fc0,.int .i64 c.rate] 75));have BN:=Hh ((af wr.heap.size wr).alloc (am _) (.cells #[.slice fa0 c.F.length fc0,.int .i64 c.rate] 75))
   have FCAP:Hid (c.F.length<=fc0):=Hh (by
    obtain ⟨_,_,e,q,_⟩:=FK.rd;rw [ES.out] at e;injection e with _ _ e
    omega)
   unfold maxLen at hmf
   go_upto_if 27 with fail
   clear x0 x1;generalize (wr.alloc (.cells #[.slice fa0 c.F.length fc0,.int .i64 c.rate] 75))=W5 at *;have z0:=Fl.rc Y0 0;have f0:=aj Y0 0
   go_cut [4] from 10 to 67 (fun z wx=>Value.int .i64 k=z/\Hid (Below wr.heap.size wr wx/\wx.heap[wr.heap.size]? = some (.cells #[.slice fa0 (c.F.take 12).length fc0,.int .i64 c.rate] 75 (0,0))))
   case first =>
    by_cases hl:12 < c.F.length
    ·have e12:(c.F.take 12).length=12:=by rw [cM];omega
     have q1:decide (12 < (c.F.length:Int))=true:=bj (by omega);have fcap:=FCAP.out
     have P:Hid (Below wr.heap.size wr (W5.setCell ⟨wr.heap.size,0,none⟩ (.slice fa0 12 fc0))/\(W5.setCell ⟨wr.heap.size,0,none⟩ (.slice fa0 12 fc0)).heap[wr.heap.size]? = some (.cells #[.slice fa0 (c.F.take 12).length fc0,.int .i64 c.rate] 75 (0,0))):=Hh (by
      rw [e12]
      exact ⟨BN.setCell (am _) (.slice fa0 12 fc0),Rw.heap_setCell_same (j:=0) Y0 (.slice fa0 12 fc0)⟩)
     clear e12 Y0 BN;generalize (c.F.take 12).length=fm at *;generalize c.F.length=fl at *;go_wp2
     go_meet
     exact ⟨rfl,P.out.1,P.out.2⟩
    ·have e12:c.F.take 12=c.F:=dt (by omega)
     have q1:decide (12 < (c.F.length:Int))=false:=bh (by omega);have q2:decide (12 < c.F.length)=false:=bh (by omega)
     have P:Hid (Below wr.heap.size wr W5/\W5.heap[wr.heap.size]? = some (.cells #[.slice fa0 (c.F.take 12).length fc0,.int .i64 c.rate] 75 (0,0))):=Hh (by
      rw [e12]
      exact ⟨BN,Y0⟩)
     clear e12 Y0 BN;generalize (c.F.take 12).length=fm at *;generalize c.F.length=fl at *;go_wp2
     go_meet
     exact ⟨rfl,P.out.1,P.out.2⟩
   case rest =>
    obtain ⟨e1,P⟩:=hcut;subst e1;clear z0 f0 Y0 BN
    have FR:=Hh (fun e (he:e∈c.F)=>(by
     obtain ⟨i,hi⟩:=ef he;have hl:=(cA.1 hi).1;have q:=FK.file i hl;have q2:=FK.low i hl;unfold eD at q q2;rw [an,hi] at q q2
     exact ⟨q,q2⟩:ROk w B e))
    have FH:Hid (0 < c.F.length->∃ b off,fa0=some ⟨b,off,none⟩/\At E3 w b off c.F):=Hh (by
     obtain ⟨a',cap',e',_,_,h3⟩:=FK.rd;rw [ES.out] at e';injection e' with e1 _ _;subst e1
     exact h3)
    have MF:Hid ((c.F.take 12).length<=c.F.length/\(c.F.take 12).length<=12):=Hh (by rw [cM];omega)
    have TT:Hid ((c.F.take 12).map jV=(c.F.take (c.F.take 12).length).map jV):=Hh (by
     congr 1
     rw [cM]
     by_cases h:12<=c.F.length
     ·rw [Nat.min_eq_left h]
     ·rw [Nat.min_eq_right (by omega),dt (by omega),df])
    generalize (c.F.take 12).length=m at *;obtain ⟨wo,hwo⟩:∃ x,x=wr:=⟨_,rfl⟩;have IW:Hid (P9 w B L k (.slice ao ln co) LD wo):=Hh (by rw [hwo];exact I.out);rw [← hwo] at P;rw [← hwo];clear I hwo
    rename_i W5x
    have x5r:=Fl.rc P.out.2 1
    have Q0:Hid (Mc wo c m wo.heap.size wc.heap.size fa0 fc0 0 (.slice none 0 0) (wc.alloc (.cells #[.slice none 0 0,.int .i64 c.rate] 75))):=Hh (by
     have b6:=(af wc.heap.size wc).alloc (am _) (.cells #[.slice none 0 0,.int .i64 c.rate] 75);have zz:=P.out.1.size;have zl:=bp P.out.2
     exact ⟨(b6.block _ zl).trans P.out.2,bi wc _,Rw.Ow.nil _ _ _,P.out.1.trans (b6.mono zz),am _,zz,by omega⟩)
    go_upto_region 9 with fail;clear x5r P;generalize (wc.alloc (.cells #[.slice none 0 0,.int .i64 c.rate] 75))=w6 at *;generalize wc.heap.size=g6 at *;generalize wo.heap.size=g5 at Q0 ⊢;go_wp2
    go_loopw [7] (fun i wr2=>∃ (j:Nat) (o2:Value),j<=m/\i = .int .i64 j/\Hid (Mc wo c m g5 g6 fa0 fc0 j o2 wr2)) (fun i _=>m - (intOf i).toNat)
    case atStart=>exact ⟨0,_,cx _,rfl,Q0⟩
    case round =>
     clear Q0;obtain ⟨j,o2,hj,rfl,Q⟩:=hrel;have p0:=Fl.rc Q.fF 0
     by_cases hjm:j < m
     ·have hjF:j < c.F.length:=by have:=MF.out;omega
      have hc:c.F[j]? = some (eD c.F j):=by
       unfold eD;rw [aw hjF,an,aw hjF]
       rfl
      obtain ⟨b2,off2,rfl,hA⟩:=FH (by omega);obtain ⟨y0,y1,y2⟩:=at3 (hA.below (IW.aD.trans (Q.aD.mono IW.aD.size))) hc;have HAA2:=Hh hA;have RR:=Hh (FR _ (di hc)).1;have HCJ:=Hh hc;clear hA hc hjF;generalize eD c.F j=x at *;obtain ⟨cn,cp,ca,ccap,cl⟩:=x;unfold aB.sl at y2;simp only at y0 y1 y2;have Y1:=Hh (bi wr (.cells #[.int .i64 cn,.int .i64 cp,.slice ca cl.length ccap] 85));have BN2:=Hh ((af wr.heap.size wr).alloc (am _) (.cells #[.int .i64 cn,.int .i64 cp,.slice ca cl.length ccap] 85))
      have CAPC:Hid (cl.length<=ccap):=Hh (by
       obtain ⟨_,_,e,q,_⟩:=RR.out.1;unfold aB.sl at e;simp only at e q;injection e with _ _ e;rw [e]
       exact q.1)
      have CLM:Hid (ccap<=maxLen):=Hh (by
       obtain ⟨_,_,e,_,q,_⟩:=RR.out.1;unfold aB.sl at e;simp only at e;injection e with _ _ e;rw [e]
       exact q)
      have R26:=Hh (Vp (l:=cl) (a:=ca) (cap:=ccap) RR.out.1);have Q7:=Hh (Q.below BN2);have GX:Hid (wo.heap.size<=wr.heap.size/\wr.heap.size≠g6/\wr.heap.size≠g5/\o2.ownBlock≠some wr.heap.size):=Hh ⟨Q.aD.size,fun e=>by have:=bp Q.out.E9;omega,fun e=>by have:=bp Q.out.fF;omega,fun e=>by have:=(cJ Q.out.own _ e).2;omega⟩
      go_upto_if 51 with fail
      clear y0 y1 y2 p0;generalize (wr.alloc (.cells #[.int .i64 cn,.int .i64 cp,.slice ca cl.length ccap] 85))=W7 at *;clear Q BN2;generalize wr.heap.size=gx at *;have z2:=Fl.rc Y1 2;have f2:=aj Y1 2
      go_cut [7] from 35 to 63 (fun z wx=>Value.int .i64 j=z/\Hid (wx.heap[gx]? = some (.cells #[.int .i64 cn,.int .i64 cp,.slice ca (cl.take 260).length ccap] 85 (0,0))/\Mc wo c m g5 g6 (some ⟨b2,off2,none⟩) fc0 j o2 wx))
      case first =>
       by_cases hl:260 < cl.length
       ·have e12:(cl.take 260).length=260:=by rw [cM];omega
        have q1:decide (260 < (cl.length:Int))=true:=bj (by omega);have capc:=CAPC.out;have clm:=CLM.out;unfold maxLen at clm
        have P:Hid ((W7.setCell ⟨gx,2,none⟩ (.slice ca 260 ccap)).heap[gx]? = some (.cells #[.int .i64 cn,.int .i64 cp,.slice ca (cl.take 260).length ccap] 85 (0,0))/\Mc wo c m g5 g6 (some ⟨b2,off2,none⟩) fc0 j o2 (W7.setCell ⟨gx,2,none⟩ (.slice ca 260 ccap))):=Hh (by
         rw [e12]
         exact ⟨Rw.heap_setCell_same (j:=2) Y1 _,Q7.off GX.out.1 GX.out.2.2.1 GX.out.2.1 GX.out.2.2.2 2 _⟩)
        clear e12 Y1 Q7 RR R26 HCJ;generalize (cl.take 260).length=fm at *;generalize cl.length=fl at *;go_wp2
        go_meet
        exact ⟨rfl,P⟩
       ·have e12:cl.take 260=cl:=dt (by omega)
        have q1:decide (260 < (cl.length:Int))=false:=bh (by omega);have q2:decide (260 < cl.length)=false:=bh (by omega)
        have P:Hid (W7.heap[gx]? = some (.cells #[.int .i64 cn,.int .i64 cp,.slice ca (cl.take 260).length ccap] 85 (0,0))/\Mc wo c m g5 g6 (some ⟨b2,off2,none⟩) fc0 j o2 W7):=Hh (by
         rw [e12]
         exact ⟨Y1,Q7⟩)
        clear e12 Y1 Q7 RR R26 HCJ;generalize (cl.take 260).length=fm at *;generalize cl.length=fl at *;go_wp2
        go_meet
        exact ⟨rfl,P⟩
      case rest =>
       obtain ⟨e1,P⟩:=hcut;subst e1;clear z2 f2 Y1 Q7;have X8:=Hh P.out.1;have Q8:=Hh P.out.2;clear P;obtain ⟨oa,oc,eo,-,-⟩:=Q8.own.slice;have FLN:Hid (((c.F.take j).map jV).length<=12):=Hh (by rw [cm,cM];have:=MF.out;omega);generalize ((c.F.take j).map jV).length=fln at eo;subst eo;have c6:=Fl.rc Q8.E9 0;obtain ⟨z0,z1,z2⟩:=Dx X8;have LE:=Hh (bi wc (.cells #[.int .i64 cn,.int .i64 cp,.slice ca (cl.take 260).length ccap] 85));have QE:=Hh (Q8.below ((af wc.heap.size wc).alloc (am _) (.cells #[.int .i64 cn,.int .i64 cp,.slice ca (cl.take 260).length ccap] 85)));have CE:Hid (jV ⟨cn,cp,ca,ccap,cl⟩=⟨cn,cp,ca,ccap,cl.take 260⟩):=Hh rfl;clear Q8 X8;generalize hcr:cl.take 260=cr26 at *;generalize hrl:cr26.length=rl at *;have RLH:=Hh hrl;clear hcr hrl
       go_wp2_with (at_builtin;refine bH (K:=E3) underlying49 WE rfl (by omega) rfl _ _ rfl wo.heap.size _ _ rfl QE.out.own _ (⟨cn,cp,ca,ccap,cr26⟩:aB) rfl ?d1 ?d2 ?d3 ?_)
       case d1 =>
        intro jj u hu
        have c:=ah LE jj
        match jj,hu with
        | 0,hu=>simp [E3] at hu;subst hu;first | exact c | rfl | go_simp
        | 1,hu=>simp [E3] at hu;subst hu;first | exact c | rfl | go_simp
        | 2,hu=>simp [E3,aB.sl,RLH.out] at hu;subst hu;first | exact c | rfl | go_simp
        | jj+3,hu=>simp [E3] at hu
       case d2=>first | (have:=FLN;omega) | (have:=FLN.out;simp only [cm] at this ⊢;omega) | (have:=FLN.out;simp at this ⊢;omega)
       case d3=>have:=QE.aD.size;simpa using this
       intro v9 w9 o9 g9 _
       rw [← CE.out] at o9
       (try rw [← List.map_take] at o9)
       obtain ⟨r9,q9⟩:=QE.push HCJ o9 (by simpa using g9);have Q9:=Hh q9;have c6':=ah r9 0;have f6':=aj r9 0;obtain ⟨v9a,v9c,n9,rfl⟩:∃ a c n,v9 = .slice a n c:=by obtain ⟨a,c,e,_⟩:=o9.slice;exact ⟨a,c,_,e⟩
       have m12:=MF.out.2;clear o9 g9 r9 q9 QE LE z0 z1 z2 c6 RR R26 HCJ CE;go_wp2
       go_roundw
       case rel=>exact ⟨j+1,_,by omega,by go_num,Q9⟩
       case measure=>simp [intOf];omega
     ·obtain rfl:j=m:=by omega
      obtain ⟨oa,oc,eo,-,-⟩:=Q.own.slice;have HO:=Hh eo;generalize ((c.F.take j).map jV).length=fln at eo HO;subst eo;obtain ⟨c60,c61⟩:=BO Q.E9;have IR:=Hh (IW.below (Q.aD.mono (am _)));have LE:=Hh (bi wr (.cells #[.slice oa fln oc,.int .i64 c.rate] 75));have BE:=Hh ((af wr.heap.size wr).alloc (am _) (.cells #[.slice oa fln oc,.int .i64 c.rate] 75));have IE:=Hh (IR.below BE);have FX:Hid (Ow E3 (wr.alloc (.cells #[.slice oa fln oc,.int .i64 c.rate] 75)) w.heap.size 85 (sl (oa,fln,oc)) ((c.F.take 12).map jV)):=Hh (by rw [TT.out];exact (Q.out.own.keep BE.out).low IW.out.aD.size)
      have RX:Hid (∀ e∈(c.F.take 12).map jV,ROk w B e):=Hh (fun e he=>by
       obtain ⟨x,hx,rfl⟩:=dC.1 he;have q:=FR.out x (List.mem_of_mem_take hx)
       exact ⟨⟨Vp (l:=x.l) q.1.1,fun r hr=>q.1.2 r (List.mem_of_mem_take hr)⟩,fun h0 k hk=>q.2 (by have h1:0 < (x.l.take 260).length:=h0;rw [cM] at h1;omega) k (by rw [← Sn x];exact hk)⟩)
      have AX:Hid ((⟨(oa,fln,oc),c.rate,(c.F.take 12).map jV⟩:jO).abs=Rc (zJ L k).abs):=Hh (by rw [HC.out];exact VI c _);clear Q IR BE
      go_wp2_with (at_builtin;refine bH (K:=KP) underlying22 aaD rfl (by omega) rfl _ _ rfl w.heap.size _ _ rfl IE.out.own _ (⟨(oa,fln,oc),c.rate,(c.F.take 12).map jV⟩:jO) rfl ?d1 ?d2 ?d3 ?_)
      case d1 =>
       intro jj u hu
       have c:=ah LE jj
       match jj,hu with
       | 0,hu=>simp [KP,sl] at hu;subst hu;first | exact c | rfl | go_simp
       | 1,hu=>simp [KP] at hu;subst hu;first | exact c | rfl | go_simp
       | jj+2,hu=>simp [KP] at hu
      case d2=>rw [LDL.out];omega
      case d3=>have:=IE.aD.size;simpa using this
      intro v9 w9 o9 g9 _
      (try rw [← List.map_take] at o9)
      have NEW:=Hh (IE.push KL o9 (by simpa using g9) FX.out RX.out AX.out);obtain ⟨v9a,v9c,n9,rfl⟩:∃ a c n,v9 = .slice a n c:=by obtain ⟨a,c,e,_⟩:=o9.slice;exact ⟨a,c,_,e⟩
      clear o9 g9 IE FX RX AX LE c60 c61;go_wp2
      go_roundw
      case rel=>exact ⟨k+1,_,_,by omega,by omega,by go_num,rfl,NEW⟩
      case measure=>simp [intOf];omega
  ·have E:=Hh (FIN k _ LD wr I (by omega) hk6)
   clear FIN I
   by_cases hkn:k < n
   ·have q1:¬ ((k:Int) < 6):=by omega
    go_wp2
    go_ret
    exact E
   ·go_wp2
    go_ret
    exact E
end Cu
namespace Fl
open Go.ChangeShapes Go.WideShapes Go.ChangeAt Go.RowKit Go.Deep
variable {H:Type} {W:World} {base fuel:Nat} {sp:Nat->Bool} {held:Bool}
theorem qD {enc:TypeId×Value->H} {cs:List Value} {x:DataW H×List MemPlace}
 (h:DataW.trod enc prog W base sp held fuel 36 cs=some x):∃ r:R4,cs=K4.enc r/\bJ r:=by
 have c4:prog.cellsOf 36=4:=by kernel_rfl
 have c1:prog.cellsOf 5=1:=by kernel_rfl
 obtain ⟨xs,m,_,_,hs,hx,hi⟩:=DataW.trod_array underlying36 h;rw [c4] at hs
 match cs,hs,xs,hx,hi with
 | [u0,u1,u2,u3],_,[x0,x1,x2,x3],_,hi =>
   have e0:=hi 0 (by omega);have e1:=hi 1 (by omega);have e2:=hi 2 (by omega);have e3:=hi 3 (by omega);rw [c1] at e0 e1 e2 e3;obtain ⟨a,ha,_,wa⟩:=DataW.trod_int underlying5 (x:=x0) e0;obtain ⟨b,hb,_,wb⟩:=DataW.trod_int underlying5 (x:=x1) e1;obtain ⟨c,hc,_,wc⟩:=DataW.trod_int underlying5 (x:=x2) e2;obtain ⟨d,hd,_,wd⟩:=DataW.trod_int underlying5 (x:=x3) e3
   simp at ha hb hc hd
   subst ha hb hc hd;exact ⟨(a,b,c,d),rfl,bounds_u8 wa,bounds_u8 wb,bounds_u8 wc,bounds_u8 wd⟩
theorem Lv {enc:TypeId×Value->H} {u:Value} {x:DataW H×List MemPlace}
 (h:DataW.trod enc prog W base sp held fuel 81 [u]=some x):∃ l,Rd K4 W u l/\dF l:=by
 have c4:prog.cellsOf 36=4:=by kernel_rfl
 rcases open_slice underlying81 h with ⟨e,_⟩ | ⟨a,len,cap,m,n,D,Pl,e,_,hl,hm,hmm,_,hx⟩
 ·simp at e
  subst e;exact ⟨[],Rw.Rd.nil _,fun r hr=>by cases hr⟩
 ·simp at e
  subst e;have hlm:len<=m:=by rw [hmm];split <;> omega
  have each:∀ i,i < m->∃ r:R4,bJ r/\∀ j u,(K4.enc r)[j]? = some u->W.cell? (a.add (i * 4+j))=some u:=fun i hi=>by
   obtain ⟨cs',h1,h2⟩:=hx i hi;rw [c4] at h1;obtain ⟨_,hlen,hcell⟩:=World.cells?_some h1;obtain ⟨r,rfl,ok⟩:=qD h2;refine ⟨r,ok,fun j u hu=>?_⟩;have hj:j < 4:=by have:=(cA.1 hu).1;rw [hlen] at this;exact this
   have e:=hcell j hj;rw [add_add] at e;exact e.trans hu
  obtain ⟨q,hq⟩:=choose_lt each;have hlen:((List.range len).map q).length=len:=by simp
  have get:∀ i,i < len->((List.range len).map q).getD i z4=q i:=fun i hi=>by simp [List.getD,hi]
  refine ⟨(List.range len).map q,⟨some a,cap,by rw [hlen],⟨by rw [hlen];exact hl,nofun⟩,hm,fun h0=>?_⟩,fun r hr=>?_⟩
  ·rw [hlen] at h0
   obtain ⟨b,off,spot⟩:=a;have c0:=(hq 0 (by omega)).2 0 _ rfl;have hs:spot=none:=by simpa [Addr.add] using World.cell?_spot c0
   subst hs;refine ⟨b,off,rfl,fun i hi j u hu=>?_⟩;rw [hlen] at hi;have hu':(K4.enc (q i))[j]? = some u:=by rw [← get i hi];exact hu
   have c:=(hq i (by omega)).2 j u hu';rw [add_plain] at c
   show W.cell? ⟨b,off+i * 4+j,none⟩=some u
   rw [Nat.add_assoc];exact c
  ·obtain ⟨i,hi,rfl⟩:=dC.1 hr
   exact (hq i (by have:=List.mem_range.1 hi;omega)).1
end Fl
namespace Fs
open Go.ChangeShapes Go.WideShapes Go.ChangeAt Go.RowKit Go.Deep
open Fl (qD Lv)
section
variable {H:Type} {enc:TypeId×Value->H} {W:World} {base fuel:Nat} {sp:Nat->Bool} {held:Bool} {cs:List Value} {x:DataW H×List MemPlace}
theorem yw (h:DataW.trod enc prog W base sp held fuel 83 cs=some x):∃ q u l,cs = [.int .i64 q,u]/\Rd K4 W u l/\dF l:=by
 have c2:prog.cellsOf 83=2:=by kernel_rfl
 have c1:prog.cellsOf 3=1:=by kernel_rfl
 have c3:prog.cellsOf 81=1:=by kernel_rfl
 obtain ⟨xs,m,_,_,hs,hx,hi⟩:=DataW.trod_struct underlying83 h;rw [c2] at hs
 match cs,hs,xs,hx,hi with
 | [u,v],_,[x0,x1],_,hi =>
   have e0:DataW.trod enc prog W base sp held m 3 (([u,v].drop 0).take (prog.cellsOf 3))=some x0:=hi 0 _ rfl;have e1:DataW.trod enc prog W base sp held m 81 (([u,v].drop 1).take (prog.cellsOf 81))=some x1:=hi 1 _ rfl;rw [c1] at e0;rw [c3] at e1;obtain ⟨a,ha,_⟩:=DataW.trod_int underlying3 (x:=x0) e0
   simp at ha
   subst ha;obtain ⟨l,R,ok⟩:=Lv (u:=v) e1;exact ⟨a,v,l,rfl,R,ok⟩
end
def laid : List (String × DataW Unit) := [("errors.errorType", Rows.laid_errors_errorType)]
theorem et : Tryz.prog.globalNamed "errors.errorType" = some 0 := by kernel_rfl
theorem rt : (Tryz.prog.cutTypes.find? (·.1 == "internal/reflectlite.rtype")).map (·.2) = some 222 := by kernel_rfl
theorem aaN:((List.range 377).filter fun t=>prog.rowNamed t [101,114,114,111,114]) = [107]:=by kernel_rfl
theorem acW:prog.types.size=377:=by kernel_rfl
theorem Xk {W:World} (h:laidMetH prog laid W):Glob W:=by
 have h':laidMet prog [] W/\handlesMet prog laid W:=h;obtain ⟨name,u,ty,e1,e2,e3,e4,e5⟩:=h'.2 _ (dg.2 rfl);have en:name = [101,114,114,111,114]:=(db e1).symm;subst en;obtain rfl:=db (rt.symm.trans e2);have hm:ty∈(List.range 377).filter fun t=>prog.rowNamed t [101,114,114,111,114]:=fX.2 ⟨List.mem_range.2 (by rw [← acW];exact e3),e4⟩;rw [aaN] at hm;obtain rfl:=dg.1 hm;have hh:typeHandle prog 107 = .pointer (some ⟨1,107,none⟩):=by kernel_rfl
 rw [hh] at e5;have:=World.var?_cell et e5 0;unfold Glob
 simpa using this
noncomputable def z8 (os:Os):World :=
 let w0:=World.holding prog os ⟨#[],#[],[]⟩
 { w0 with heap:=w0.heap.modify 0 fun
  | .cells _ t frozen=>.cells #[.iface 222 (.agg #[.pointer (some ⟨1,107,none⟩)])] t frozen
  | o=>o }
theorem zH (os:Os) (args:Array Value):laidMetH prog laid ((z8 os).forCall (fun _ _=>0) ⟨#[],args,[]⟩).memory :=
 laidMetH_of_parts (laidMet_nil _ _) (by kernel_rfl)
end Fs
namespace Pa
open Go.ChangeShapes Go.WideShapes Go.ChangeAt Go.RowKit Go.Deep
theorem nK {α:Type} {K:Rw.Kind α} (Q:α->Prop) {H:Type} {enc:TypeId×Value->H} {W:World} {u:Value} {base fuel:Nat} {sp:Nat->Bool} {held:Bool} {x:DataW H×List MemPlace} {T E:TypeId}
 (hu:prog.underlying T=some (.slice E)) (hc:prog.cellsOf E=K.n) (el:∀ {n:Nat} {cs:List Value} {y:DataW H×List MemPlace},DataW.trod enc prog W base sp held n E cs=some y->∃ r:α,cs=K.enc r/\Q r)
 (h:DataW.trod enc prog W base sp held fuel T [u]=some x):∃ l,Rd K W u l/\∀ r∈l,Q r:=by
 rcases open_slice hu h with ⟨e,_⟩ | ⟨a,len,cap,m,n,D,Pl,e,_,hl,hm,hmm,_,hx⟩
 ·simp at e
  subst e;exact ⟨[],Rw.Rd.nil _,fun r hr=>by cases hr⟩
 ·simp at e
  subst e;have hlm:len<=m:=by rw [hmm];split <;> omega
  have each:∀ i,i < m->∃ r:α,Q r/\∀ j u,(K.enc r)[j]? = some u->W.cell? (a.add (i * K.n+j))=some u:=fun i hi=>by
   obtain ⟨cs',h1,h2⟩:=hx i hi;rw [hc] at h1;obtain ⟨_,hlen,hcell⟩:=World.cells?_some h1;obtain ⟨r,rfl,ok⟩:=el h2;refine ⟨r,ok,fun j u hu=>?_⟩;have hj:j < K.n:=by have:=(cA.1 hu).1;rw [hlen] at this;exact this
   have e:=hcell j hj;rw [add_add] at e;exact e.trans hu
  haveI:Inhabited α:=⟨K.Qh⟩
  obtain ⟨q,hq⟩:=choose_lt each;have hlen:((List.range len).map q).length=len:=by simp
  have get:∀ i,i < len->((List.range len).map q).getD i K.Qh=q i:=fun i hi=>by simp [List.getD,hi]
  refine ⟨(List.range len).map q,⟨some a,cap,by rw [hlen],⟨by rw [hlen];exact hl,nofun⟩,hm,fun h0=>?_⟩,fun r hr=>?_⟩
  ·rw [hlen] at h0
   obtain ⟨b,off,spot⟩:=a;have hp:0 < (K.enc (q 0)).length:=by rw [K.len];exact K.pos
   have c0:=(hq 0 (by omega)).2 0 _ (aw hp);have hs:spot=none:=by simpa [Addr.add] using World.cell?_spot c0
   subst hs;refine ⟨b,off,rfl,fun i hi j u hu=>?_⟩;rw [hlen] at hi;have hu':(K.enc (q i))[j]? = some u:=by rw [← get i hi];exact hu
   have c:=(hq i (by omega)).2 j u hu';rw [add_plain] at c
   show W.cell? ⟨b,off+i * K.n+j,none⟩=some u
   rw [Nat.add_assoc];exact c
  ·obtain ⟨i,hi,rfl⟩:=dC.1 hr
   exact (hq i (by have:=List.mem_range.1 hi;omega)).1
open Fs (yw)
section
variable {H:Type} {enc:TypeId×Value->H} {W:World} {base fuel:Nat} {sp:Nat->Bool} {held:Bool} {cs:List Value} {x:DataW H×List MemPlace}
theorem tC (h:DataW.trod enc prog W base sp held fuel 85 cs=some x):∃ c:aB,cs=E3.enc c/\Rd K4 W c.sl c.l/\dF c.l:=by
 have c3:prog.cellsOf 85=3:=by kernel_rfl
 have c1:prog.cellsOf 3=1:=by kernel_rfl
 have c2:prog.cellsOf 83=2:=by kernel_rfl
 obtain ⟨xs,m,_,_,hs,hx,hi⟩:=DataW.trod_struct underlying85 h;rw [c3] at hs
 match cs,hs,xs,hx,hi with
 | [u0,u1,u2],_,[x0,x1],_,hi =>
   have e0:DataW.trod enc prog W base sp held m 3 (([u0,u1,u2].drop 0).take (prog.cellsOf 3))=some x0:=hi 0 _ rfl;have e1:DataW.trod enc prog W base sp held m 83 (([u0,u1,u2].drop 1).take (prog.cellsOf 83))=some x1:=hi 1 _ rfl;rw [c1] at e0;rw [c2] at e1;obtain ⟨k,hk,_,wk⟩:=DataW.trod_int underlying3 (x:=x0) e0;obtain ⟨p,u,l,h3,R,okl⟩:=yw e1;obtain ⟨a,cap,rfl,_⟩:=R.slice;have k' : [u0] = [.int .i64 k]:=hk;have h3' : [u1,u2] = [.int .i64 p,.slice a l.length cap]:=h3;simp only [List.cons.injEq,and_true] at k' h3';obtain rfl:=k';obtain ⟨rfl,rfl⟩:=h3';exact ⟨⟨k,p,a,cap,l⟩,rfl,R,okl⟩
theorem nM {T E:TypeId} {u:Value} (hu:prog.underlying T=some (.slice E)) (h:DataW.trod enc prog W base sp held fuel T [u]=some x):∃ s:Hd,u=sl s:=by
 rcases open_slice hu h with ⟨e,_⟩ | ⟨a,len,cap,m,n,D,Pl,e,_⟩
 ·simp at e
  exact ⟨zh,e⟩
 ·simp at e
  exact ⟨(some a,len,cap),e⟩
end
end Pa
namespace Cu
open Go.ChangeShapes Go.WideShapes Go.ChangeAt Go.RowKit Go.Deep
open Pa (nK tC nM)
section
variable {H:Type} {enc:TypeId×Value->H} {W:World} {base fuel:Nat} {sp:Nat->Bool} {held:Bool} {cs:List Value} {x:DataW H×List MemPlace}
def abP (W:World) (c:jO):Prop:=Rd E3 W (sl c.files) c.F/\∀ e∈c.F,Rd K4 W e.sl e.l/\dF e.l
theorem Jl (h:DataW.trod enc prog W base sp held fuel 75 cs=some x):∃ c:jO,cs=KP.enc c/\abP W c:=by
 have c2:prog.cellsOf 75=2:=by kernel_rfl
 have d0:prog.cellsOf 49=1:=by kernel_rfl
 have d1:prog.cellsOf 3=1:=by kernel_rfl
 obtain ⟨xs,m,_,_,hs,hx,hi⟩:=DataW.trod_struct underlying75 h;rw [c2] at hs
 match cs,hs,xs,hx,hi with
 | [u0,u1],_,[x0,x1],_,hi =>
   have e0:DataW.trod enc prog W base sp held m 49 (([u0,u1].drop 0).take (prog.cellsOf 49))=some x0:=hi 0 _ rfl;have e1:DataW.trod enc prog W base sp held m 3 (([u0,u1].drop 1).take (prog.cellsOf 3))=some x1:=hi 1 _ rfl;rw [d0] at e0;rw [d1] at e1;obtain ⟨F,RF,QF⟩:=nK (K:=E3) (fun c=>Rd K4 W c.sl c.l/\dF c.l) underlying49 (by kernel_rfl) (fun h=>tC h) (u:=u0) e0;obtain ⟨k,hk,_,_⟩:=DataW.trod_int underlying3 (x:=x1) e1;obtain ⟨s0,rfl⟩:=nM underlying49 (u:=u0) e0;have k' : [u1] = [.int .i64 k]:=hk;simp only [List.cons.injEq,and_true] at k';obtain rfl:=k';exact ⟨⟨s0,k,F⟩,rfl,RF,QF⟩
theorem Aa (h:DataW.trod enc prog W base sp held fuel 38 cs=some x):∃ c:Ac,cs=KA.enc c/\bJ c.v/\Fs.Wf c.f:=by
 have c11:prog.cellsOf 38=11:=by kernel_rfl
 have d0:prog.cellsOf 3=1:=by kernel_rfl
 have d1:prog.cellsOf 36=4:=by kernel_rfl
 obtain ⟨xs,m,_,_,hs,hx,hi⟩:=DataW.trod_struct underlying38 h;rw [c11] at hs
 match cs,hs,xs,hx,hi with
 | [u0,u1,u2,u3,u4,u5,u6,u7,u8,u9,u10],_,[x0,x1,x2,x3,x4,x5,x6,x7],_,hi =>
   have e0:DataW.trod enc prog W base sp held m 3 (([u0,u1,u2,u3,u4,u5,u6,u7,u8,u9,u10].drop 0).take (prog.cellsOf 3))=some x0:=hi 0 _ rfl;have e1:DataW.trod enc prog W base sp held m 3 (([u0,u1,u2,u3,u4,u5,u6,u7,u8,u9,u10].drop 1).take (prog.cellsOf 3))=some x1:=hi 1 _ rfl;have e2:DataW.trod enc prog W base sp held m 3 (([u0,u1,u2,u3,u4,u5,u6,u7,u8,u9,u10].drop 2).take (prog.cellsOf 3))=some x2:=hi 2 _ rfl;have e3:DataW.trod enc prog W base sp held m 3 (([u0,u1,u2,u3,u4,u5,u6,u7,u8,u9,u10].drop 3).take (prog.cellsOf 3))=some x3:=hi 3 _ rfl;have e4:DataW.trod enc prog W base sp held m 36 (([u0,u1,u2,u3,u4,u5,u6,u7,u8,u9,u10].drop 4).take (prog.cellsOf 36))=some x4:=hi 4 _ rfl;have e5:DataW.trod enc prog W base sp held m 3 (([u0,u1,u2,u3,u4,u5,u6,u7,u8,u9,u10].drop 8).take (prog.cellsOf 3))=some x5:=hi 5 _ rfl;have e6:DataW.trod enc prog W base sp held m 3 (([u0,u1,u2,u3,u4,u5,u6,u7,u8,u9,u10].drop 9).take (prog.cellsOf 3))=some x6:=hi 6 _ rfl;have e7:DataW.trod enc prog W base sp held m 3 (([u0,u1,u2,u3,u4,u5,u6,u7,u8,u9,u10].drop 10).take (prog.cellsOf 3))=some x7:=hi 7 _ rfl;rw [d0] at e0 e1 e2 e3 e5 e6 e7;rw [d1] at e4;obtain ⟨k0,h0,_⟩:=DataW.trod_int underlying3 (x:=x0) e0
   replace h0 : [u0] = [.int .i64 k0]:=h0
   obtain ⟨k1,h1,_⟩:=DataW.trod_int underlying3 (x:=x1) e1
   replace h1 : [u1] = [.int .i64 k1]:=h1
   obtain ⟨k2,h2,_,wf2⟩:=DataW.trod_int underlying3 (x:=x2) e2
   replace h2 : [u2] = [.int .i64 k2]:=h2
   obtain ⟨k3,h3,_⟩:=DataW.trod_int underlying3 (x:=x3) e3
   replace h3 : [u3] = [.int .i64 k3]:=h3
   obtain ⟨r,h4,ok⟩:=Fl.qD e4
   replace h4 : [u4,u5,u6,u7] = [.int .u8 r.1,.int .u8 r.2.1,.int .u8 r.2.2.1,.int .u8 r.2.2.2]:=h4
   obtain ⟨k5,h5,_⟩:=DataW.trod_int underlying3 (x:=x5) e5
   replace h5 : [u8] = [.int .i64 k5]:=h5
   obtain ⟨k6,h6,_⟩:=DataW.trod_int underlying3 (x:=x6) e6
   replace h6 : [u9] = [.int .i64 k6]:=h6
   obtain ⟨k7,h7,_⟩:=DataW.trod_int underlying3 (x:=x7) e7
   replace h7 : [u10] = [.int .i64 k7]:=h7
   simp only [List.cons.injEq,and_true] at h0 h1 h2 h3 h4 h5 h6 h7;obtain rfl:=h0;obtain rfl:=h1;obtain rfl:=h2;obtain rfl:=h3;obtain ⟨rfl,rfl,rfl,rfl⟩:=h4;obtain rfl:=h5;obtain rfl:=h6;obtain rfl:=h7;exact ⟨⟨k0,k1,k2,k3,r,k5,k6,k7⟩,rfl,ok,wf2⟩
end
variable {W w:World} {v:Value} {base b0 B:Nat}
theorem Vr {H:Type} {enc:TypeId×Value->H} {sp:Nat->Bool} {held:Bool} {d:DataW H} {p:List MemPlace} {r:Reach}
 (hv:Value.okWide prog W r b0 22 v) (h:DataW.Trod enc prog W base sp held 22 v d p):∃ L,Dk W v L W.heap.size:=by
 obtain ⟨a,len,cap,rfl⟩:=okWide_slice underlying22 hv;obtain ⟨fuel,hf⟩:=h;obtain ⟨L,R,Q⟩:=nK (K:=KP) (abP W) underlying22 (by kernel_rfl) (fun h=>Jl h) (u:=.slice a len cap) hf;refine ⟨L,R,fun i hi=>?_⟩;have at_:zJ L i∈L:=by
  unfold zJ;rw [an,aw hi];exact dy hi
 obtain ⟨q1,q2⟩:=Q _ at_;have mem:∀ j,j < (zJ L i).F.length->eD (zJ L i).F j∈(zJ L i).F:=fun j hj=>by
  unfold eD;rw [an,aw hj];exact dy hj
 exact ⟨q1,fun j hj=>q2 _ (mem j hj),fun j hj h0 k hk=>Fs.qU (q2 _ (mem j hj)).1 h0 k hk⟩
variable {L:List jO}
theorem Yn (H:Dk w v L B):∀ p∈fV L,∀ e∈p.1,dF e.2.2:=fun p hp e he=>by
 obtain ⟨c,hc,rfl⟩:=dC.1 hp;obtain ⟨x,hx,rfl⟩:=dC.1 he;obtain ⟨i,hi⟩:=ef hc;have hl:=(cA.1 hi).1;have f:=H.file i hl;unfold zJ at f;rw [an,hi] at f;obtain ⟨j,hj⟩:=ef hx;have hjl:=(cA.1 hj).1;have g:=(f.file j hjl).2;unfold eD at g;rw [an] at g;have e2:((some c:Option jO).getD plD).F[j]? = some x:=hj;rw [e2] at g;exact g
structure Oc (c:Cs) (t:Nat):Prop where
 ok:jm c t
 sy:oO c
theorem Oc.act {c:Cs} {t:Nat} (h:Oc c t) {x:Ac} (hx:bJ x.v):Oc (bM x c) (t+1):=⟨h.ok.act x hx,h.sy.act h.ok x⟩
theorem Oc.serve {c:Cs} {t:Nat} (h:Oc c t) (n o f r:Int) {x:R4} (hx:bJ x):Oc (Bg c n o f r x) (t+1):=⟨h.ok.serve n o f r x hx,h.sy.serve n o f r x⟩
theorem Ue (H:Dk w v L B) (h:newE (fV L)=0):Oc (newC (fV L)) 0:=by
 have o:=JG h (Yn H);refine ⟨o,Cn _ ?_⟩;have:=o.len.1;have e:(newC (fV L)).S.length=(fV L).length:=cm _
 omega
section
end
end Cu
namespace Ga
open Go.ChangeShapes Go.WideShapes Go.ChangeAt Go.RowKit Go.Deep
open Cu (Aa)
open Pa (nK nM)
structure De where
 k:Int
 b:Hd
 l:List Int
 x:Ac
def deD:De:=⟨0,zh,[],acD⟩
def deL (d:De):List Value:=[.int .u8 d.k,sl d.b,.int .i64 d.x.k,.int .i64 d.x.n,.int .i64 d.x.f,.int .i64 d.x.r,.int .u8 d.x.v.1,.int .u8 d.x.v.2.1,.int .u8 d.x.v.2.2.1,.int .u8 d.x.v.2.2.2,.int .i64 d.x.s,.int .i64 d.x.m,.int .i64 d.x.t]
def KE:Rw.Kind De:=⟨deL,13,by decide,fun _=>rfl,fun _ u h=>by simp [deL] at h;rcases h with rfl | rfl | rfl | rfl | rfl | rfl | rfl | rfl | rfl | rfl | rfl | rfl | rfl <;> rfl,deD⟩
def mP (L:List De) (i:Nat):De:=L.getD i deD
def JV (W:World) (d:De):Prop:=(0<=d.k/\d.k<=255)/\(Rd KU W (sl d.b) d.l/\∀ x∈d.l,0<=x/\x < 256)/\bJ d.x.v/\Fs.Wf d.x.f
theorem JV.below {W w':World} {d:De} (h:JV W d) (b:Below W.heap.size W w'):JV w' d:=⟨h.1,⟨h.2.1.1.below b,h.2.1.2⟩,h.2.2⟩
theorem acE {w:World} {b off:Nat} {l:List De} (h:At KE w b off l) {i:Nat} (hi:i < l.length) :
 w.cell? ⟨b,off+i * 13,none⟩=some (.int .u8 (mP l i).k)/\w.cell? ⟨b,off+i * 13+1,none⟩=some (sl (mP l i).b)/\w.cell? ⟨b,off+i * 13+2,none⟩=some (.int .i64 (mP l i).x.k)/\w.cell? ⟨b,off+i * 13+3,none⟩=some (.int .i64 (mP l i).x.n)/\w.cell? ⟨b,off+i * 13+4,none⟩=some (.int .i64 (mP l i).x.f)/\w.cell? ⟨b,off+i * 13+5,none⟩=some (.int .i64 (mP l i).x.r)/\w.cell? ⟨b,off+i * 13+6,none⟩=some (.int .u8 (mP l i).x.v.1)/\w.cell? ⟨b,off+i * 13+7,none⟩=some (.int .u8 (mP l i).x.v.2.1)/\w.cell? ⟨b,off+i * 13+8,none⟩=some (.int .u8 (mP l i).x.v.2.2.1)/\w.cell? ⟨b,off+i * 13+9,none⟩=some (.int .u8 (mP l i).x.v.2.2.2)/\w.cell? ⟨b,off+i * 13+10,none⟩=some (.int .i64 (mP l i).x.s)/\w.cell? ⟨b,off+i * 13+11,none⟩=some (.int .i64 (mP l i).x.m)/\w.cell? ⟨b,off+i * 13+12,none⟩=some (.int .i64 (mP l i).x.t) :=
 ⟨h i hi 0 _ rfl,h i hi 1 _ rfl,h i hi 2 _ rfl,h i hi 3 _ rfl,h i hi 4 _ rfl,h i hi 5 _ rfl,h i hi 6 _ rfl,h i hi 7 _ rfl,h i hi 8 _ rfl,h i hi 9 _ rfl,h i hi 10 _ rfl,h i hi 11 _ rfl,h i hi 12 _ rfl⟩
section
variable {H:Type} {enc:TypeId×Value->H} {W:World} {v:Value} {base:Nat} {sp:Nat->Bool} {held:Bool} {d:DataW H} {p:List MemPlace} {r:Reach} {b0:Nat}
variable {fuel:Nat} {cs:List Value} {x:DataW H×List MemPlace}
theorem Kg (h:DataW.trod enc prog W base sp held fuel 5 cs=some x):∃ c:Int,cs=KU.enc c/\0<=c/\c < 256:=by
 obtain ⟨n,h1,_,wf⟩:=DataW.trod_int underlying5 h;have:=bounds_u8 wf;exact ⟨n,h1,by omega⟩
theorem Tz (h:DataW.trod enc prog W base sp held fuel 40 cs=some x):∃ c:De,cs=KE.enc c/\JV W c:=by
 have cq:prog.cellsOf 40=13:=by kernel_rfl
 have c1:prog.cellsOf 5=1:=by kernel_rfl
 have c2:prog.cellsOf 34=1:=by kernel_rfl
 have c3:prog.cellsOf 38=11:=by kernel_rfl
 obtain ⟨xs,m,_,_,hs,hx,hi⟩:=DataW.trod_struct underlying40 h;rw [cq] at hs
 match cs,hs,xs,hx,hi with
 | u0 :: u1 :: us,hs,[x0,x1,x2],_,hi =>
   have e0:DataW.trod enc prog W base sp held m 5 (((u0 :: u1 :: us).drop 0).take (prog.cellsOf 5))=some x0:=hi 0 _ rfl;have e1:DataW.trod enc prog W base sp held m 34 (((u0 :: u1 :: us).drop 1).take (prog.cellsOf 34))=some x1:=hi 1 _ rfl;have e2:DataW.trod enc prog W base sp held m 38 (((u0 :: u1 :: us).drop 2).take (prog.cellsOf 38))=some x2:=hi 2 _ rfl;rw [c1] at e0;rw [c2] at e1;rw [c3] at e2;obtain ⟨a,ha,_,wa⟩:=DataW.trod_int underlying5 (x:=x0) e0;obtain ⟨l,Rl,hl⟩:=nK (K:=KU) (fun c=>0<=c/\c < 256) underlying34 (by kernel_rfl) (fun h=>Kg h) (u:=u1) e1;obtain ⟨s0,rfl⟩:=nM underlying34 (u:=u1) e1;obtain ⟨q,hq,ok⟩:=Aa e2;have hn:us.length=11:=by simpa using hs
   simp at ha
   subst ha;have hq':us=KA.enc q:=by rw [← hq];show us=us.take 11;rw [← hn,df]
   have:=bounds_u8 wa;exact ⟨⟨a,s0,l,q⟩,by rw [hq'];rfl,⟨by dsimp only;omega,⟨Rl,hl⟩,ok⟩⟩
theorem UY (hv:Value.okWide prog W r b0 23 v) (h:DataW.Trod enc prog W base sp held 23 v d p):∃ l,Rd KE W v l/\∀ i,i < l.length->JV W (mP l i):=by
 obtain ⟨a,len,cap,rfl⟩:=okWide_slice underlying23 hv;obtain ⟨fuel,hf⟩:=h;obtain ⟨l,R,hb⟩:=nK (K:=KE) (JV W) underlying23 (by kernel_rfl) (fun h=>Tz h) (u:=.slice a len cap) hf;exact ⟨l,R,fun i hi=>hb _ (by unfold mP;rw [an,aw hi];exact dy hi)⟩
end
end Ga
