import Derived.Test.YtpepoackmcohlaaGreatDoorPg4
import Derived.WideKeyEntry
import Derived.DeepKeys5
set_option maxRecDepth 100000
set_option maxHeartbeats 6000000
namespace Go.Proofs.YtpepoackmcohlaaGreatDoor
open Tryz Go.RowKit
open Ck (LL bI bZ jm kK sE sN tE)
open Fl (Cx K4 R4 aH aJ aK aM aO aQ aR aY aZ ah aj bC bD bQ bV bg cZ dF dX dz fD fF file jC kL l6 lF z4)
open Fs (AF Fx Fy Rh Rs St Wf aU ay dA dD dE dw eB fq gB gN gV iP jV jo law sA sB sJ xW y9)
open Ro (E5 K5 bO bS fM fZ og vK xU yS z5)
open Rw (At Ow Rd)
namespace Fl
attribute [local irreducible] Sd.bA wpQuiet Sg.dG
theorem MP {P:Program} {α:Type} {K4:Rw.Kind α} {w:World} {E:Nat} {o:Oper} {a:Act} {K:Act->World->Prop} {Q:Exit->Act->World->Prop} {T:TypeId} {z:Value} {bytes:Nat} (ht:P.underlying T=some (.slice E))
 (hi:(P.info? E).map (fun i=>(i.zero,i.size,i.bytes))=some (some z,K4.n,bytes)) (hz:z.cells.size=K4.n) (hby:bytes<=64) (s x:Operand)
 (ho:o.op = .call { callee:=.builtin .append,args:=#[s,x],argTypes:=#[T,T] }) (g:Addr) (hs:a.eval s = .slice (some g) 0 0)
 (b off cap:Nat) (y:List α) (hx:a.eval x = .slice (some ⟨b,off,none⟩) y.length cap) (hA:At K4 w b off y) (h0:0 < y.length) (hlen:y.length < 2199023255552)
 (h:∀ v' w',Ow K4 w' w.heap.size E v' y->Below w.heap.size w w'->K (a.put o.dst v') w'):o.wp P a w K Q:=by
 obtain ⟨i0,hi0,hz0,hz1,hz2⟩:=ew hi;have hb:(0+y.length) * bytes<=140737488355328:=cE (gg (show 0+y.length<=2199023255552 by omega) hby) (by omega);obtain ⟨v',w',hrun,r1,r2⟩:=run_append_arg_grows (P:=P) w T o.type E i0 z K4.n bytes ht hi0 hz0 hz1 hz2 hz K4.pos g 0 0 [] (by simp) (by simp) ⟨b,off,none⟩ y.length cap (K4.flat y) (Rw.dQ K4 y)
  (fun j u hj=>by
    have e:(⟨b,off,none⟩:Addr).add j=⟨b,off+j,none⟩:=by simp [Addr.add]
    rw [e]
    exact hA.flat j u hj) (by omega) (by unfold maxLen;omega) hb
 rw [cQ,de] at r1;have k:=h v' w' r1 ((aa w.heap.size w).grown r2 (ac _) (fun k e=>by cases e));unfold Oper.wp
 simp [execOp,ho,resolve,invoke,builtin,hs,hx,hrun,Result.andThen]
 exact k
theorem afp {p op:Int} {k:Nat} {l:List R4} (h:jC p l op k=0):op=0/\k=0\/op=0/\0 < k/\p / 1 % 2=1\/op=1/\0 < k/\p / 2 % 2=1\/op=2/\0 < k/\p / 4 % 2=1:=by
 obtain ⟨h1,h2,h3⟩:=KX h;have h4:(k:Int)=0/\op=0\/0 < (k:Int)/\p / need op % 2=1:=Decidable.byContradiction fun c=>by rw [VN h1 h2 h3 c] at h;omega
 rcases (by omega:op=0\/op=1\/op=2) with rfl | rfl | rfl
 ·rw [show need 0=1 from rfl] at h4;omega
 ·rw [show need 1=2 from rfl] at h4;omega
 ·rw [show need 2=4 from rfl] at h4;omega
theorem ZF (w:World) (p:Int) (b off n cap:Nat) (l:List R4) (R:Rd K4 w (.slice (some ⟨b,off,none⟩) n cap) l) (hA:At K4 w b off l) (hl:dF l) (op:Int) (k:Nat) (x:R4) (he:jC p l op k=0) (hn:n=l.length) (hk:k < l.length) (hg:aO p l):Calls prog 78 #[file p (.slice (some ⟨b,off,none⟩) n cap),.int .i64 op,.int .i64 (k:Int),aH x] w (jr w p l op k x):=by
 have S0:Hid (jX w p (.slice (some ⟨b,off,none⟩) n cap) x (((((w.alloc (.cells #[.int .i64 p,.slice (some ⟨b,off,none⟩) n cap] 79)).alloc (.cells #[.int .u8 x.1,.int .u8 x.2.1,.int .u8 x.2.2.1,.int .u8 x.2.2.2] 42)).alloc (.cells #[.int .i64 0,.slice none 0 0] 79)).alloc (.cells #[.int .u8 0,.int .u8 0,.int .u8 0,.int .u8 0] 42)).alloc (.cells #[.int .i64 0,.slice none 0 0] 79))):=Hh (jX.of w p _ x);have GR:=Hh (aM (show aZ p l=true from bj hg) (bP _ p _ l (R.below S0.st.aI)));obtain ⟨y,hy⟩:∃ y,bV l op k x=y:=⟨_,rfl⟩;have EY:Hid (∀ u w',Ow K4 w' w.heap.size 42 u (l.set k y)->Below w.heap.size w w'->jr w p l op k x (.returned (.tuple #[file p u,aH y,.int .i64 0])) w'):=fun u w' h hb=>⟨u,by rw [aw he,aw he,he,hy],by rw [aw he,hy,ch];exact h,hb⟩;have HLL:=Hh (db hk (db hn hg.2.2.2.1));have HA:=Hh hA;have OK:=Hh hl;have hkn:k < n:=by omega
 have hkn2:(k:Int) < n:=by omega
 have p0:=hg.1;have p1:=hg.2.1;have ho:=afp he;unfold bV at hy
 replace hy:=Hh hy
 clear he R hA hl hn hk hg;unfold file aH at *
 rcases ho with ⟨rfl,h0⟩ | ⟨rfl,h0,hq⟩ | ⟨rfl,h0,hq⟩ | ⟨rfl,h0,hq⟩
 case' inl =>
  have hq1:decide (0 < k)=false:=ai (by omega);have hq2:decide (0 < (k:Int))=false:=ai (by omega);have hz2:((k:Int) == 0)=true:=by simpa using h0
 case' inr.inl =>
  have hq1:IntKind.i64.wrap p=p:=cG _ (by omega);have hq2:Int.tmod p 2=1:=by rw [dk p0];omega
  clear hq;have hz:¬ (k:Int)=0:=by omega
  have hz2:((k:Int) == 0)=false:=by simpa using hz
  have hz3:0 < (k:Int):=by omega
 case' inr.inr.inl =>
  have hq1:IntKind.i64.wrap (Int.tdiv p 2)=p / 2:=by rw [df p0];exact cG _ (by omega)
  have hq2:Int.tmod (p / 2) 2=1:=by rw [dk (by omega)];exact hq
  clear hq;have hz:¬ (k:Int)=0:=by omega
  have hz2:((k:Int) == 0)=false:=by simpa using hz
  have hz3:0 < (k:Int):=by omega
 case' inr.inr.inr =>
  have hq1:IntKind.i64.wrap (Int.tdiv p 4)=p / 4:=by rw [df p0];exact cG _ (by omega)
  have hq2:Int.tmod (p / 4) 2=1:=by rw [dk (by omega)];exact hq
  clear hq;have hz:¬ (k:Int)=0:=by omega
  have hz2:((k:Int) == 0)=false:=by simpa using hz
  have hz3:0 < (k:Int):=by omega
 all_goals
  replace h0:=Hh h0
  go_enter func78,ntmps78
  go_wp2_with fail;generalize ((((w.alloc (.cells #[.int .i64 p,.slice (some ⟨b,off,none⟩) n cap] 79)).alloc (.cells #[.int .u8 x.1,.int .u8 x.2.1,.int .u8 x.2.2.1,.int .u8 x.2.2.2] 42)).alloc (.cells #[.int .i64 0,.slice none 0 0] 79)).alloc (.cells #[.int .u8 0,.int .u8 0,.int .u8 0,.int .u8 0] 42)).alloc (.cells #[.int .i64 0,.slice none 0 0] 79)=W at *;refine GR.mono ?_;rintro e w1 ⟨rfl,b1⟩;have S1:=Hh (S0.mono b1);clear b1 S0 GR;obtain ⟨b0,b1'⟩:=pI S1.st.box;go_upto_region 9 with fail;have S2:Hid (Start w p (.slice (some ⟨b,off,none⟩) n cap) x (w1.alloc (.cells #[.int .i64 1,.int .i64 2,.int .i64 4] 3))):=Hh (S1.st.mono ((aa _ _).alloc (ac _) _));clear b0 b1' S1;generalize w1.alloc (.cells #[.int .i64 1,.int .i64 2,.int .i64 4] 3)=w2 at *;obtain ⟨b0,b1'⟩:=pI S2.box;go_upto_region 11 with fail;clear b0 b1';clear hq1 hq2 hz2
  (try clear hz hz3)
  have s0:=Sd.aL (Fl.rc S2.box 0);have s1:=Sd.aL (Fl.rc S2.box 1);refine Sg.mJ [(0,0),(0,1),(0,3),(0,4),(1,2),(1,5),(0,6),(2,7),(1,8)] [⟨7,13,#[.int .i64 0,.slice none 0 0],79,none,none⟩] (by kernel_rfl) (by kernel_rfl) (by kernel_rfl) (by decide) (by decide) ?_ ?_ ?_
  ·simp
  ·intro f hf
   simp only [cj,cY,fS] at hf;subst hf;exact Sg.Vz rfl rfl rfl fun ρ w=>by go_simp
  dsimp only [Sg.aP,List.getElem?_cons_succ,List.getElem?_cons_zero];have BW:=Hh ((aa w2.heap.size w2).drew)
  repeat (refine Sg.lit (fun xs=>?_);simp only [Sg.fill,cm,br];quiet_step (fail);refine bk ?_)
  refine Sg.jw (fun xs w3 hb hc=>⟨by rfl,fun K hK=>?_⟩);have B3:=aW BW hb;clear hb hc BW;simp only [Sg.fill,cm,br];go_simp;have bz:Below w3.heap.size w3 (w3.alloc (.cells #[] 42)):=(aa _ _).alloc (ac _) _;have B4:=aW B3 bz;refine hK _ _ (Sd.Cl.of B4) bz.size (fun _=>bz) ?_;clear hK K bz;have hs3:=B3.size;have h34:w3.heap.size<=(w3.alloc (.cells #[] 42)).heap.size:=by simp
  generalize w3.alloc (.cells #[] 42)=w4 at *;refine Sg.jw (fun xs w5 hb hc=>⟨by rfl,fun K hK=>?_⟩);have B5:=aW B4 hb;have A5:=HA.below (S2.aI.trans (B5.mono (by have:=S2.out.CL;omega)));have h45:=hb.size;clear hb hc B4;simp only [Sg.fill,cm,br];refine MP underlying77 Ba rfl (by omega) _ _ rfl _ rfl b off cap l (by rw [← HLL.out.2.1];rfl) A5 (by have:=HLL.out.1;omega) (by have:=HLL.out.2.2;omega) ?_
  intro u w6 o6 b6
  obtain ⟨gu,cu,rfl⟩:=tK o6 (by have:=HLL.out.1;omega);rw [← HLL.out.2.1] at o6 ⊢;have B6:=aW B5 b6;have O6:=Hh o6;go_simp;refine hK _ _ (Sd.Cl.of B6) b6.size (fun _=>b6) ?_;clear hK K b6 o6 A5
  repeat (refine Sg.lit (fun xs=>?_);simp only [Sg.fill,cm,br];quiet_step (fail);refine bk ?_)
  refine Sg.pz (fun gF w7 hb hc row n7 hH hL=>?_);have B7:=aW B6 hb;have N7:=Hh (O6.range (hH _ (cD ..)));have O7:=Hh (O6.keep hb);have R7:Hid (w7.heap[gF]? = some (.cells #[.int .i64 0,.slice none 0 0] 79 (0,0))):=row;have hs5:=B5.size;clear hb hc row hH hL B6 O6;refine Sg.jw (fun xs w9 hb hc=>⟨by rfl,fun K hK=>?_⟩);have B9:=aW B7 hb;have O9:=Hh (O7.keep hb);have R9:=jf hb R7;obtain ⟨c0,c1,f0,f1⟩:=yH R9;have RA:=bg R9 p (.slice (some ⟨gu,0,none⟩) n cu);have BA:=aQ (p:=p) (v:=.slice (some ⟨gu,0,none⟩) n cu) B9 n7;have OA:=dX (u:=.slice (some ⟨gu,0,none⟩) n cu) O9 N7 p;have hs1:=S2.CL;have HB:Hid (Have w p (.slice (some ⟨b,off,none⟩) n cap) x gF (.slice (some ⟨gu,0,none⟩) n cu) l (fF w9 gF p (.slice (some ⟨gu,0,none⟩) n cu))):=⟨S2.mono BA,RA,OA.low (by omega),by omega,N7.out⟩;have hsz:=fD w9 gF p (.slice (some ⟨gu,0,none⟩) n cu);clear hb hc B7 O7 R7 R9 RA OA B9 O9 N7 hs3 h34 h45 hs5 B5 B3;simp only [Sg.fill,br];go_simp;refine hK _ _ (Sd.Cl.of BA) (by rw [← hsz];exact ac _) (fun h=>absurd rfl h) ?_;clear hK K c0 c1 f0 f1
  show Sg.dG _ _ _ _ _ _ _ _ _ _ _ (fF w9 gF p (.slice (some ⟨gu,0,none⟩) n cu))
  clear BA hsz;generalize fF w9 gF p (.slice (some ⟨gu,0,none⟩) n cu)=wA at *;refine Sg.done (fun wB hb hc=>?_);have HV:=Hh (HB.mono hb);clear hb hc HB s0 s1 n7 hs1
 case' _ =>
  have hR:=iH OK k;obtain ⟨⟨c0,c1,c2,c3⟩,hfr,_,_⟩:=pV HV.own k HLL.out.1;have r1:=Fl.rc HV.row 1;clear hfr;rw [am (by decide),aw (by decide),ch] at hy;obtain ⟨r,hr⟩:∃ r,bD l k=r:=⟨_,rfl⟩;rw [hr] at hR hy c0 c1 c2 c3;go_upto_region 17 with fail;have hEX:((r.fst % 4294967296 * 16777216+r.snd.fst % 4294967296 * 65536+r.snd.snd.fst % 4294967296 * 256+r.snd.snd.snd) % 4294967296+1) % 4294967296=(num r+1) % 4294967296:=by
   obtain ⟨⟨x0,x1⟩,⟨y0,y1⟩,⟨v0,v1⟩,u0,u1⟩:=hR;unfold num
   omega
  rw [hEX];clear hEX hR;obtain ⟨N,hN⟩:∃ N,(num r+1) % 4294967296=N:=⟨_,rfl⟩;have N0:0<=N:=by omega
  have N1:N < 4294967296:=by omega
  have hi:inc r=bytes N:=by unfold inc;rw [hN]
  rw [hN];rw [hi] at hy;clear hN hi;have t1:Int.tdiv N 16777216=N / 16777216:=df N0;have t2:Int.tdiv N 65536=N / 65536:=df N0;have t3:Int.tdiv N 256=N / 256:=df N0;have HV2:Hid (Have w p (.slice (some ⟨b,off,none⟩) n cap) x gF (.slice (some ⟨gu,0,none⟩) n cu) l (wB.alloc (.cells #[.int .u8 r.1,.int .u8 r.2.1,.int .u8 r.2.2.1,.int .u8 r.2.2.2] 42))):=HV.mono ((aa _ _).alloc (ac _) _);clear HV c0 c1 c2 c3 r1;generalize wB.alloc (.cells #[.int .u8 r.1,.int .u8 r.2.1,.int .u8 r.2.2.1,.int .u8 r.2.2.2] 42)=wC at *;have r1:=Fl.rc HV2.row 1;obtain ⟨⟨c0,c1,c2,c3⟩,hfr,_,_⟩:=pV HV2.own k HLL.out.1;have f0:=hfr (k * 4);have f1:=hfr (k * 4+1);have f2:=hfr (k * 4+2);have f3:=hfr (k * 4+3);clear hfr;have HP:=Hh (HV2.put HLL.out.2.1 k HLL.out.1 (bytes N));clear HV2;go_upto_region 18 with fail;clear c0 c1 c2 c3 f0 f1 f2 f3 r1 t1 t2 t3
  show Code.wp _ _ _ _ (bC wC gu (k * 4) (bytes N))
  rw [hy.out] at HP ⊢;generalize bC wC gu (k * 4) y=Wz at *;have HV:=HP;clear HP
 rotate_left
 case' _ =>
  rw [aw (by decide)] at hy;have hx:=hy.symm;subst hx;have HP:=Hh (HV.put HLL.out.2.1 k HLL.out.1 y);obtain ⟨⟨c0,c1,c2,c3⟩,hfr,_,_⟩:=pV HV.own k HLL.out.1;have f0:=hfr (k * 4);have f1:=hfr (k * 4+1);have f2:=hfr (k * 4+2);have f3:=hfr (k * 4+3);have r1:=Fl.rc HV.row 1;obtain ⟨a0,a1,a2,a3⟩:=AB HV.st.arg;clear hfr HV;go_wp2_with fail;clear c0 c1 c2 c3 f0 f1 f2 f3 r1 a0 a1 a2 a3
  show Code.wp _ _ _ _ (bC wB gu (k * 4) y)
  generalize bC wB gu (k * 4) y=Wz at *;have HV:=HP;clear HP
 rotate_left
 iterate 2
  case' _ =>
   rw [am (by decide),am (by decide),ch] at hy;rw [← yI l k HLL.out.1,hy.out] at HV;go_wp2_with fail;generalize wB=Wz at *
  rotate_left
 all_goals
  obtain ⟨⟨c0,c1,c2,c3⟩,_,_,_⟩:=pV HV.own k (by rw [cz];exact HLL.out.1);rw [yw l k HLL.out.1] at c0 c1 c2 c3;have C0:ko w p gF (.slice (some ⟨gu,0,none⟩) n cu) (l.set k y) Wz.drew:=⟨HV.row,HV.own⟩;have r0:=Sc.aA (C:=ko w p gF (.slice (some ⟨gu,0,none⟩) n cu) (l.set k y)) (a:=⟨gF,0,none⟩) (fun W' h=>ah h.1 0);have r1:=Sc.aA (C:=ko w p gF (.slice (some ⟨gu,0,none⟩) n cu) (l.set k y)) (a:=⟨gF,1,none⟩) (fun W' h=>ah h.1 1);have HQ:Hid (∀ W',ko w p gF (.slice (some ⟨gu,0,none⟩) n cu) (l.set k y) W'->(W'.cell? ⟨gu,k * 4,none⟩=some (.int .u8 y.1)/\W'.cell? ⟨gu,k * 4+1,none⟩=some (.int .u8 y.2.1)/\W'.cell? ⟨gu,k * 4+2,none⟩=some (.int .u8 y.2.2.1)/\W'.cell? ⟨gu,k * 4+3,none⟩=some (.int .u8 y.2.2.2))):=fun W' h=>by
   have:=(pV h.2 k (by rw [cz];exact HLL.out.1)).1;rw [yw l k HLL.out.1] at this;exact this
  have q0:=Sc.aA (C:=ko w p gF (.slice (some ⟨gu,0,none⟩) n cu) (l.set k y)) (fun W' h=>(HQ W' h).1);have q1:=Sc.aA (C:=ko w p gF (.slice (some ⟨gu,0,none⟩) n cu) (l.set k y)) (fun W' h=>(HQ W' h).2.1);have q2:=Sc.aA (C:=ko w p gF (.slice (some ⟨gu,0,none⟩) n cu) (l.set k y)) (fun W' h=>(HQ W' h).2.2.1);have q3:=Sc.aA (C:=ko w p gF (.slice (some ⟨gu,0,none⟩) n cu) (l.set k y)) (fun W' h=>(HQ W' h).2.2.2);have ne:Nonempty (Sc.In (ko w p gF (.slice (some ⟨gu,0,none⟩) n cu) (l.set k y))):=⟨⟨_,C0⟩⟩;clear c0 c1 c2 c3 HQ;refine Sc.start (ko w p gF (.slice (some ⟨gu,0,none⟩) n cu) (l.set k y)) [(false,0),(false,1),(false,2),(false,3),(false,4),(false,5),(true,6),(true,7),(false,8)] (by kernel_rfl) (by kernel_rfl) (by kernel_rfl) C0 ?_;dsimp only [Sd.aP,List.getElem?_cons_succ,List.getElem?_cons_zero]
  repeat (refine Sd.lit ?_;quiet_step (fail);refine bk ?_)
  have HD:=Hh (HV.mono ((aa _ _).drew));clear HV r0 r1 q0 q1 q2 q3 C0;generalize Wz.drew=Wy at *;refine Sd.call (by rfl) (fun K hK=>?_);obtain ⟨c0,c1,f0,f1⟩:=yH HD.st.res1;have hge:=(pV HD.own k (by rw [cz];exact HLL.out.1)).2.2.1;have hF:=HD.ge;have n1:(Value.slice (some ⟨gu,0,none⟩) n cu).ownBlock≠some (w.heap.size+2):=fun e=>by simp [Value.ownBlock] at e;omega
  have n2:(Value.slice (some ⟨gu,0,none⟩) n cu).ownBlock≠some (w.heap.size+3):=fun e=>by simp [Value.ownBlock] at e;omega
  have L1:ko w p gF (.slice (some ⟨gu,0,none⟩) n cu) (l.set k y) (fF Wy (w.heap.size+2) p (.slice (some ⟨gu,0,none⟩) n cu)):=⟨cZ HD.row (by omega),dX HD.out.own n1 p⟩;have R1:=Hh (bg HD.st.res1 p (.slice (some ⟨gu,0,none⟩) n cu));have R2:=cZ (g:=w.heap.size+2) (p:=p) (v:=.slice (some ⟨gu,0,none⟩) n cu) HD.st.res2 (by omega);have B1:=Hh (aQ (p:=p) (v:=.slice (some ⟨gu,0,none⟩) n cu) HD.st.aI (show w.heap.size<=w.heap.size+2 by omega));clear HD;go_simp;refine hK _ _ (Sc.Cl.of L1) ?_;clear hK K c0 c1 f0 f1
  show Sd.bA _ _ _ _ _ _ (fF Wy (w.heap.size+2) p (.slice (some ⟨gu,0,none⟩) n cu))
  generalize fF Wy (w.heap.size+2) p (.slice (some ⟨gu,0,none⟩) n cu)=Wx at *;refine Sd.call (by rfl) (fun K hK=>?_);obtain ⟨d0,d1,d2,d3,k0,k1,k2,k3⟩:=xL R2;have L2:ko w p gF (.slice (some ⟨gu,0,none⟩) n cu) (l.set k y) (bC Wx (w.heap.size+3) 0 y):=⟨aK L1.1 (by omega),lF L1.2 n2 y⟩;have R3:=Hh (aR R2 y);have R4:=Hh (aK (g:=w.heap.size+3) (o:=0) (r:=y) R1 (by omega));have B2:=Hh (aJ (o:=0) (r:=y) B1 (show w.heap.size<=w.heap.size+3 by omega));clear R2 R1 B1 L1;go_simp;refine hK _ _ (Sc.Cl.of L2) ?_;clear hK K d0 d1 d2 d3 k0 k1 k2 k3
  show Sd.bA _ _ _ _ _ _ (bC Wx (w.heap.size+3) 0 y)
  have O2:=Hh L2.2;clear L2;generalize bC Wx (w.heap.size+3) 0 y=Ww at *
  repeat (refine Sd.lit ?_;quiet_step (fail);refine bk ?_)
  refine Sd.done ?_;go_wp2
  (try simp only [Exit.inBlock,Exit.then])
  exact bp (kM (p:=8) (q:=9) (r:=10) rfl _ _ (w.heap.size+2) (w.heap.size+3) p _ y 0 rfl rfl rfl R4 R3) rfl (EY _ _ (O2.low (by omega)) B2.out)
theorem yA (w:World) (p:Int) (v:Value) (l:List R4) (R:Rd K4 w v l) (hl:dF l) (op rec:Int) (x:R4):Calls prog 78 #[file p v,.int .i64 op,.int .i64 rec,aH x] w (jr w p l op rec x):=by
 obtain ⟨a,cap,rfl,_⟩:=R.slice
 by_cases hg:aO p l
 ·by_cases ho:0<=op/\op<=2
  ·by_cases hr:0<=rec/\rec < l.length
   ·by_cases hk:rec=0/\op=0\/0 < rec/\p / need op % 2=1
    ·have he:=abp hg ho hr hk
     obtain ⟨k,rfl⟩:∃ k:Nat,rec=k:=⟨rec.toNat,by omega⟩;have hkl:k < l.length:=by omega
     obtain ⟨b,off,rfl,hA⟩:∃ b off,a=some ⟨b,off,none⟩/\At K4 w b off l:=by
      obtain ⟨a',cap',e,_,_,h4⟩:=R;injection e with e1 e2 e3;subst e1;exact h4 (by omega)
     exact ZF w p b off _ cap l R hA hl op k x he rfl hkl hg
    ·exact aex w p a _ cap l R op rec x hg ho hr hk
   ·exact VJ w p a _ cap l R op rec x true (bj hg) 4 (TV hg ho hr) (.inr (.inr ⟨rfl,rfl,by omega,by omega⟩))
  ·exact VJ w p a _ cap l R op rec x true (bj hg) 1 (Yh hg ho) (.inr (.inl ⟨rfl,rfl,by omega⟩))
 ·exact VJ w p a _ cap l R op rec x false (ai hg) 2 (Ux hg) (.inl ⟨rfl,rfl⟩)
end Fl
namespace Fs
open Go.Maps
open Fl (yA)
open Ad (eD)
attribute [local irreducible] Sd.bA wpQuiet Sg.dG
theorem aan (w:World) (p:Int) (v:Value) (l:List R4) (R:Rd K4 w v l) (hl:dF l) (o r k:Int) (x:R4) (he:jC p l o r=k):Calls prog 78 #[file p v,.int .i64 o,.int .i64 r,aH x] w fun e w'=>∃ a cap,e = .returned (.tuple #[file (if k=0 then p else 0) (.slice a (if k=0 then l.set r.toNat (bV l o r x) else []).length cap),aH (if k=0 then bV l o r x else z4),.int .i64 k])/\Ow K4 w' w.heap.size 42 (.slice a (if k=0 then l.set r.toNat (bV l o r x) else []).length cap) (if k=0 then l.set r.toNat (bV l o r x) else [])/\Below w.heap.size w w' :=
 (yA w p v l R hl o r x).mono fun e w' ⟨u,h1,h2,h3⟩=>by
   rw [he] at h1 h2;obtain ⟨a,cap,rfl,_⟩:=h2.slice;exact ⟨a,cap,h1,h2,h3⟩
def jW (w:World) (r:Nat) (F:Nat->Prop) (d:Int) (y:R4) (k:Int) (A':aU) (e:Ending) (w':World):Prop:=e = .returned (.tuple #[aH y,.int .i64 k])/\Rs w' r F A' d/\ay (fun k=>k=r) w w'
theorem acP (w:World) (s:Nat) (o f j:Int) (x:R4) (hn:eD o f j=false):Calls prog 45 #[.pointer (some ⟨s,0,none⟩),Ad.addr o f j,aH x] w (Sj w 1):=by
 have A0:=gG w o f j x;have S0:=Hh (A0);have GA:∀ W,Calls prog 77 #[Ad.addr o f j] W fun e w'=>e = .returned (.bool false)/\Below W.heap.size W w':=fun W=>by have:=Ad.bP W o f j;rwa [hn] at this
 have HG:=Hh GA;clear A0 GA hn;unfold aH;unfold Ad.addr at *;have AC:=S0.out;obtain ⟨a0,a1,a2⟩:=D6 AC.nP;clear AC
 go_enter func45,ntmps45
 go_wp2_with fail;clear a0 a1 a2;generalize (((w.alloc (.cells #[.int .i64 o,.int .i64 f,.int .i64 j] 59)).alloc (.cells #[.int .u8 x.1,.int .u8 x.2.1,.int .u8 x.2.2.1,.int .u8 x.2.2.2] 42)).alloc (.cells #[.int .u8 0,.int .u8 0,.int .u8 0,.int .u8 0] 42))=W at *;refine (HG _).mono ?_;rintro e w1 ⟨rfl,b1⟩;have S1:=Hh (S0.mono b1);clear b1 HG S0;obtain ⟨d0,d1,d2,d3,k0,k1,k2,k3⟩:=xL S1.res;have R3:=Hh (aR S1.res z4);have B3:=Hh (aJ (o:=0) (r:=z4) S1.aI (show w.heap.size<=w.heap.size+2 by omega));clear S1;go_wp2
 (try simp only [Exit.inBlock,Exit.then])
 exact bp (aS (p:=6) (r:=7) rfl _ _ (w.heap.size+2) z4 (.int .i64 1) rfl rfl R3) rfl ⟨rfl,B3⟩
variable {w:World} {r i:Nat} {F:Nat->Prop} {v:Value} {L:List aD} {d d':Int}
theorem adt (R:rH w r F v L d) (o f j:Int) (x:R4) (hn:eD o f j=true) (hq:Ix L f (-1)):Calls prog 45 #[.pointer (some ⟨r,0,none⟩),Ad.addr o f j,aH x] w (Sj w 3):=by
 have IX:=Hh (fun W (hb:Below w.heap.size w W)=>lW (R.below hb) hq);clear hq R;have A0:=gG w o f j x;have S0:=Hh (A0);have GA:∀ W,Calls prog 77 #[Ad.addr o f j] W fun e w'=>e = .returned (.bool true)/\Below W.heap.size W w':=fun W=>by have:=Ad.bP W o f j;rwa [hn] at this
 have HG:=Hh GA;clear A0 GA hn;unfold aH;unfold Ad.addr at *;have AC:=S0.out;obtain ⟨a0,a1,a2⟩:=D6 AC.nP;clear AC
 go_enter func45,ntmps45
 go_wp2_with fail;clear a0 a1 a2;generalize (((w.alloc (.cells #[.int .i64 o,.int .i64 f,.int .i64 j] 59)).alloc (.cells #[.int .u8 x.1,.int .u8 x.2.1,.int .u8 x.2.2.1,.int .u8 x.2.2.2] 42)).alloc (.cells #[.int .u8 0,.int .u8 0,.int .u8 0,.int .u8 0] 42))=W at *;refine (HG _).mono ?_;rintro e w1 ⟨rfl,b1⟩;have S1:=Hh (S0.mono b1);clear b1 HG S0;have a1:=Fl.rc S1.nP 1;go_wp2_with fail;refine (IX _ S1.aI).mono ?_;rintro e w2 ⟨rfl,b2⟩;have S2:=Hh (S1.mono b2);clear b2 IX S1 a1;obtain ⟨d0,d1,d2,d3,k0,k1,k2,k3⟩:=xL S2.res;have R3:=Hh (aR S2.res z4);have B3:=Hh (aJ (o:=0) (r:=z4) S2.aI (show w.heap.size<=w.heap.size+2 by omega));clear S2;go_wp2
 (try simp only [Exit.inBlock,Exit.then])
 exact bp (aS (p:=6) (r:=7) rfl _ _ (w.heap.size+2) z4 (.int .i64 3) rfl rfl R3) rfl ⟨rfl,B3⟩
theorem Nh {A':aU} {y:R4} (R:rH w r F v L d) (hF:∀ k,F k->k < w.heap.size) (o f j k:Int) (x:R4) (hx:bQ x) (hn:eD o f j=true) {c:aD} (hi:L[i]? = some c) (hq:Ix L f i) (he:jC c.p c.l o j=k) (hd:0<=d/\d < 1000000) (hy:(if k=0 then bV c.l o j x else z4)=y)
 (hp:k=0/\A'=(L.set i (⟨c.n,c.p,none,0,c.l.set j.toNat (bV c.l o j x)⟩:aD)).map aD.abs/\d'=d\/k≠0/\A'=L.map aD.abs/\d'=if k=5 then d+1 else d) :
 Calls prog 45 #[.pointer (some ⟨r,0,none⟩),Ad.addr o f j,aH x] w (jW w r F d' y k A'):=by
 have IX:=Hh (fun W (hb:Below w.heap.size w W)=>lW (R.below hb) hq);have RR:=Hh R;have hlen:=R.len;have hil:i < L.length:=(bs.1 hi).1;have hrl:r < w.heap.size:=bm R.row;have hmem:=cN hi;have hcm:c.abs∈L.map aD.abs:=List.mem_map_of_mem hmem;have FR:=Hh (R.list.file c hmem);have FO:=Hh (R.list.xP c hmem);have OKC:=Hh (R.ok.ok _ hcm);have HI:=Hh hi;obtain ⟨va,vcap,rfl,_,_,h3⟩:=R.list.rd;obtain ⟨b,off,rfl,hA⟩:=h3 (by omega);have A3:=Hh (at3 hA hi);have CR:=Hh (ah R.row 0);have A0:=gG w o f j x;have S0:Hid (Kv w o f j x (((w.alloc (.cells #[.int .i64 o,.int .i64 f,.int .i64 j] 59)).alloc (.cells #[.int .u8 x.1,.int .u8 x.2.1,.int .u8 x.2.2.1,.int .u8 x.2.2.2] 42)).alloc (.cells #[.int .u8 0,.int .u8 0,.int .u8 0,.int .u8 0] 42))):=A0;have GA:∀ W,Calls prog 77 #[Ad.addr o f j] W fun e w'=>e = .returned (.bool true)/\Below W.heap.size W w':=fun W=>by have:=Ad.bP W o f j;rwa [hn] at this
 have HG:=Hh GA;clear A0 GA hn;have DO:=Hh (fun W (hb:Below w.heap.size w W)=>aan W c.p c.sl c.l (FR.below hb) OKC o j k x he);obtain ⟨l2,hl2⟩:∃ l2,(if k=0 then c.l.set j.toNat (bV c.l o j x) else [])=l2:=⟨_,rfl⟩;obtain ⟨p,hcp⟩:∃ p,(if k=0 then c.p else 0)=p:=⟨_,rfl⟩;rw [hl2,hcp,hy] at DO;have HCP:Hid (k=0->c.p=p):=fun h=>by rw [← hcp,aw h]
 have hok:dF c.l:=R.ok.ok _ hcm;have FIN0:k=0->(∀ (ua:Option Addr) (uc:Nat) (v':Value) (W:World),ay (fun k=>k=r) w W->W.heap[r]? = some (.cells #[v',.int .i64 d] 50 (0,0))->Ow E3 W w.heap.size 81 v' (L.set i (⟨c.n,c.p,ua,uc,c.l.set j.toNat (bV c.l o j x)⟩:aD))->Ow K4 W w.heap.size 42 (.slice ua c.l.length uc) (c.l.set j.toNat (bV c.l o j x))->jW w r F d (bV c.l o j x) 0 ((L.set i (⟨c.n,c.p,none,0,c.l.set j.toNat (bV c.l o j x)⟩:aD)).map aD.abs) (.returned (.tuple #[aH (bV c.l o j x),.int .i64 0])) W):=fun h0 ua uc v' W O row own new=>by
  subst h0;have e:(L.set i (⟨c.n,c.p,ua,uc,c.l.set j.toNat (bV c.l o j x)⟩:aD)).map aD.abs=(L.set i (⟨c.n,c.p,none,0,c.l.set j.toNat (bV c.l o j x)⟩:aD)).map aD.abs:=by rw [List.map_set,List.map_set];rfl
  have e3:put aD.n (⟨c.n,c.p,none,0,c.l.set j.toNat (bV c.l o j x)⟩:aD) L=L.set i (⟨c.n,c.p,none,0,c.l.set j.toNat (bV c.l o j x)⟩:aD):=jN (DT R.ok) hi rfl;have ok:eB ((L.set i (⟨c.n,c.p,none,0,c.l.set j.toNat (bV c.l o j x)⟩:aD)).map aD.abs):=by
   rw [← e3,jJ];exact R.ok.put (R.ok.nm _ hcm) (Dk he) (qH hok (DI hok hx))
  have new':Ow K4 W w.heap.size 42 (⟨c.n,c.p,ua,uc,c.l.set j.toNat (bV c.l o j x)⟩:aD).sl (c.l.set j.toNat (bV c.l o j x)):=by unfold aD.sl;rw [cz];exact new
  refine ⟨rfl,⟨v',_,R.next hF O row own (fun e he=>?_) (by rw [e];exact ok),e⟩,O⟩
  rcases List.mem_or_eq_of_mem_set he with h | rfl
  ·exact .inl h
  ·exact .inr (VX hF hrl new')
 have FIN:Hid (k=0->∀ (ua:Option Addr) (uc:Nat) (v':Value) (W:World),ay (fun k=>k=r) w W->W.heap[r]? = some (.cells #[v',.int .i64 d] 50 (0,0))->Ow E3 W w.heap.size 81 v' (L.set i (⟨c.n,p,ua,uc,l2⟩:aD))->Ow K4 W w.heap.size 42 (.slice ua l2.length uc) l2->jW w r F d' y k A' (.returned (.tuple #[aH y,.int .i64 k])) W):=fun h0 ua uc v' W O row own new=>by
  rcases hp with ⟨_,e1,e2⟩ | ⟨h,_⟩
  ·rw [aw h0] at hl2 hy hcp
   subst hl2 hy hcp e1 e2 h0;rw [cz] at new;exact FIN0 rfl ua uc v' W O row own new
  ·exact absurd h0 h
 have HP:=Hh hp;have HY:Hid (k≠0->y=z4):=fun h=>by rw [← hy,am h]
 have W0:IntKind.i64.wrap (d+1)=d+1:=cG _ (by omega);clear FIN0 R hi hq hF h3 hA hmem hcm he FR FO OKC hok hx hp hy hl2 hcp hd;unfold aD.sl at A3 DO;have ESL:Hid (∀ ua uc,(⟨c.n,p,ua,uc,l2⟩:aD).sl = .slice ua l2.length uc):=fun ua uc=>rfl;generalize hN:L.length=N at *;have HN:=Hh hN;generalize c.l.length=q0 at *;generalize l2.length=q at *;clear hN;unfold file aH at DO;unfold aH;unfold Ad.addr at *;have AC:=S0.out;obtain ⟨a0,a1,a2⟩:=D6 AC.nP;clear AC
 go_enter func45,ntmps45
 go_wp2_with fail;clear a0 a1 a2;generalize (((w.alloc (.cells #[.int .i64 o,.int .i64 f,.int .i64 j] 59)).alloc (.cells #[.int .u8 x.1,.int .u8 x.2.1,.int .u8 x.2.2.1,.int .u8 x.2.2.2] 42)).alloc (.cells #[.int .u8 0,.int .u8 0,.int .u8 0,.int .u8 0] 42))=W at *;refine (HG _).mono ?_;rintro e w1 ⟨rfl,b1⟩;have S1:=Hh (S0.mono b1);clear b1 HG S0;have a1:=Fl.rc S1.nP 1;go_wp2_with fail;refine (IX _ S1.aI).mono ?_;rintro e w2 ⟨rfl,b2⟩;have S2:=Hh (S1.mono b2);clear b2 IX S1 a1;have hi0:¬ ((i:Int) < 0):=by omega
 go_wp2_with fail;have CELL:=Hh (fun (p:Addr) (u:Value) (h:w.cell? p=some u)=>iI S2.aI h);have s0:=Sd.aL (show w2.cell? ⟨r,0,none⟩=some (.slice (some ⟨b,off,none⟩) N vcap) from CELL _ _ CR);have s1:=Sd.aL (CELL _ _ A3.out.2.1);have s2:=Sd.aL (show w2.cell? ⟨b,off+i * 3+2,none⟩=some (.slice c.a q0 c.cap) from CELL _ _ A3.out.2.2);have s3:=Sd.aL (show w2.cell? ⟨w.heap.size,0,none⟩=some (.int .i64 o) from ah S2.nP 0);have s4:=Sd.aL (show w2.cell? ⟨w.heap.size,2,none⟩=some (.int .i64 j) from ah S2.nP 2);have s5:=Sd.aL (show w2.cell? ⟨w.heap.size+1,0,none⟩=some (.int .u8 x.1) from ah S2.arg 0);have s6:=Sd.aL (show w2.cell? ⟨w.heap.size+1,1,none⟩=some (.int .u8 x.2.1) from ah S2.arg 1);have s7:=Sd.aL (show w2.cell? ⟨w.heap.size+1,2,none⟩=some (.int .u8 x.2.2.1) from ah S2.arg 2);have s8:=Sd.aL (show w2.cell? ⟨w.heap.size+1,3,none⟩=some (.int .u8 x.2.2.2) from ah S2.arg 3);refine Sg.mJ [(0,0),(0,1),(0,2),(0,3),(0,4),(0,5),(0,6),(0,7),(0,8),(0,9),(0,10),(0,11),(0,12),(1,13),(0,14),(0,15),(0,16),(0,17),(2,18),(2,19),(1,20),(1,21),(0,22)] [⟨18,9,#[.int .i64 0,.slice none 0 0],79,none,none⟩,⟨19,10,#[.int .u8 0,.int .u8 0,.int .u8 0,.int .u8 0],42,none,none⟩] (by kernel_rfl) (by kernel_rfl) (by kernel_rfl) (by decide) (by decide) ?_ ?_ ?_
 ·simp
 ·intro f hf
  simp only [cj,cY,fS] at hf
  rcases hf with rfl | rfl
  ·exact Sg.Vz rfl rfl rfl fun ρ w=>by go_simp
  ·exact Sg.Vz rfl rfl rfl fun ρ w=>by go_simp
 dsimp only [Sg.aP,List.getElem?_cons_succ,List.getElem?_cons_zero];have BW:=Hh ((aa w2.heap.size w2).drew)
 repeat (refine Sg.lit (fun xs=>?_);simp only [Sg.fill,cm,br];quiet_step (fail);refine bk ?_)
 refine Sg.jw (fun xs w3 hb hc=>⟨by rfl,fun K hK=>?_⟩);have B3:=aW BW hb;clear hb hc BW s0 s1 s2 s3 s4 s5 s6 s7 s8;simp only [Sg.fill,cm,br];go_simp;have DOW:=DO.out w3 (S2.aI.trans (B3.mono S2.aI.size));refine DOW.mono ?_;rintro e w4 ⟨ua,ucap,rfl,o4,b4⟩;have B4:=aW B3 b4;refine hK _ _ (Sd.Cl.of B4) b4.size (fun _=>b4) ?_;clear hK K DOW;have O4:=Hh o4;have NR:Hid (∀ g,(g < w3.heap.size\/w4.heap.size<=g)->Value.ownBlock (.slice ua q ucap)≠some g):=fun g hg=>O4.range hg;have hw3:Hid (w2.heap.size<=w3.heap.size):=B3.size;clear b4 o4
 repeat (refine Sg.lit (fun xs=>?_);simp only [Sg.fill,cm,br];quiet_step (fail);refine bk ?_)
 refine Sg.pz (fun g9 w5 hb hc row n9 hH hL=>?_);have B5:=aW B4 hb;have R5:Hid (w5.heap[g9]? = some (.cells #[.int .i64 0,.slice none 0 0] 79 (0,0))):=row;have N9:=Hh (NR g9 (hH _ (cD ..)));have O5:=Hh (O4.keep hb);clear O4;clear hb hc row hH hL B4;refine Sg.pz (fun g10 w6 hb hc row n10 hH hL=>?_);have B6:=aW B5 hb;have Q6:Hid (w6.heap[g10]? = some (.cells (aY z4) 42 (0,0))):=row;have R6:=Hh (jf hb R5);have D9:g10≠g9:=fun e=>hL (by rw [e];exact cD ..);have N10:=Hh (NR g10 (hH _ (cD ..)));have O6:=Hh (O5.keep hb);clear O5 NR;clear hb hc row hH hL B5 R5;refine Sg.jw (fun xs w7 hb hc=>⟨by rfl,fun K hK=>?_⟩);have B7:=aW B6 hb;have Q7:=jf hb Q6;have R7:=jf hb R6;obtain ⟨c0,c1,f0,f1⟩:=yH R7;have R8:=Hh (bg R7 p (.slice ua q ucap));have Q8:=Hh (cZ (g:=g9) (p:=p) (v:=.slice ua q ucap) Q7 D9);have B8:=Hh (aQ (p:=p) (v:=.slice ua q ucap) B7 n9);have hsz:=fD w7 g9 p (.slice ua q ucap);have O8:=Hh (dX (u:=.slice ua q ucap) (O6.keep hb) N9 p);clear O6;clear hb hc B6 B7 Q6 Q7 R6 R7;simp only [Sg.fill,br];go_simp;refine hK _ _ (Sd.Cl.of B8) (by rw [← hsz];exact ac _) (fun h=>absurd rfl h) ?_;clear hK K c0 c1 f0 f1 hsz
 show Sg.dG _ _ _ _ _ _ _ _ _ _ _ (fF w7 g9 p (.slice ua q ucap))
 generalize fF w7 g9 p (.slice ua q ucap)=w8 at *;refine Sg.jw (fun xs w9 hb hc=>⟨by rfl,fun K hK=>?_⟩);have B9:=aW B8 hb;have Q9:=jf hb Q8;have R9:=jf hb R8;obtain ⟨c0,c1,c2,c3,f0,f1,f2,f3⟩:=xL Q9;have QA:=Hh (aR Q9 y);have RA:=Hh (aK (g:=g10) (o:=0) (r:=y) R9 (fun e=>D9 e.symm));have BA:=Hh (aJ (o:=0) (r:=y) B9 n10);have hsz:=dz w9 g10 0 y;have OA:=Hh (lF (o:=0) (O8.keep hb) N10 y);clear O8;clear hb hc B8 B9 Q8 Q9 R8 R9;simp only [Sg.fill,br];go_simp;refine hK _ _ (Sd.Cl.of BA) (by rw [← hsz];exact ac _) (fun h=>absurd rfl h) ?_;clear hK K c0 c1 c2 c3 f0 f1 f2 f3 hsz
 show Sg.dG _ _ _ _ _ _ _ _ _ _ _ (bC w9 g10 0 y)
 generalize bC w9 g10 0 y=wA at *
 repeat (refine Sg.lit (fun xs=>?_);simp only [Sg.fill,br];quiet_step (fail);refine bk ?_)
 refine Sg.done (fun wB hb hc=>?_);have BX:=aW BA hb;have G9:=Hh (jf hb RA);have G10:=Hh (jf hb QA);have S3:=Hh (S2.mono BX);have OX:=Hh (OA.keep hb);clear OA;clear hb hc BA RA QA CELL
 by_cases h0:k=0
 ·subst h0
  replace HCP:=Hh (HCP.out rfl)
  replace FIN:=Hh (FIN.out rfl)
  clear HP HY;have hw2w:Hid (w.heap.size+3<=w2.heap.size):=S2.CL;have hrow:Hid (wB.heap[r]? = _):=(S3.aI.block r hrl).trans RR.row;have B4:=Hh (S3.aI.alloc S3.aI.size (.cells #[] 81));have R4':=RR.below B4;have c0:=Fl.rc R4'.row 0;have RDL:=Hh R4'.list.rd;have OM:=Hh (Rw.Ow.made (K:=E3) wB wB.heap.size 81 (ac _));have hn9:Hid (w2.heap.size<=g9):=n9;have hn10:Hid (w2.heap.size<=g10):=n10;clear R4' D9 n9 n10 BX hi0
  go_wp2_with (at_builtin;refine Rw.rW (K:=E3) underlying47 lG rfl (by omega) rfl _ _ rfl wB.heap.size _ _ rfl OM.out _ L rfl RDL.out ?c1 ?c2 ?_)
  case c1=>simp only [dm];have:=HN.out;omega
  case c2=>simp
  intro v5 w5 o5 b5
  obtain ⟨g5,cap5,e5⟩:∃ g cap,v5 = .slice (some ⟨g,0,none⟩) N cap:=by
   obtain ⟨g,cap,e,_⟩:=o5.form (by have:=HN.out;omega);rw [HN.out] at e;exact ⟨g,cap,e⟩
  subst e5;have bB5:Below wB.heap.size wB w5:=((aa wB.heap.size wB).alloc (ac _) _).trans b5;have Rw5:=(bB5.block r (bm hrow)).trans hrow;have c5:=Fl.rc Rw5 0;have f5:=aj Rw5 0;have hr2:r < w2.heap.size:=by have:=hw2w.out;omega
  have Row6:=Hh (Rw.aB (j:=0) Rw5 (.slice (some ⟨g5,0,none⟩) N cap5));have O6:Hid (ay (fun k=>k=r) w (w5.setCell ⟨r,0,none⟩ (.slice (some ⟨g5,0,none⟩) N cap5))):=((ay.of_below S3.aI).then bB5).trans (ay.set (fun k=>k=r) w5 (a:=⟨r,0,none⟩) rfl _) fun _ _ g=>g;have OW6:=Hh (o5.far (p:=⟨r,0,none⟩) Rw5 (by decide) (.slice (some ⟨g5,0,none⟩) N cap5));have other:∀ k,k < wB.heap.size->k≠r->(w5.setCell ⟨r,0,none⟩ (.slice (some ⟨g5,0,none⟩) N cap5)).heap[k]? = wB.heap[k]?:=fun k hk hne=>(bt w5 ⟨r,0,none⟩ _ k hne).trans (bB5.block k hk);have N6:=Hh ((other g9 (bm G9) (by have:=hn9.out;omega)).trans G9.out);have M6:=Hh ((other g10 (bm G10) (by have:=hn10.out;omega)).trans G10.out);have T6:=Hh ((other (w.heap.size+2) (bm S3.res) (by omega)).trans S3.out.res);have U6:Hid (Ow K4 (w5.setCell ⟨r,0,none⟩ (.slice (some ⟨g5,0,none⟩) N cap5)) w3.heap.size 42 (.slice ua q ucap) l2):=(OX.keep bB5).off (p:=⟨r,0,none⟩) (OX.range (.inl (by have:=hw3.out;show r < _;omega))) _;have hwB:Hid (g9 < wB.heap.size/\g10 < wB.heap.size/\w.heap.size+3<=wB.heap.size):=⟨bm G9,bm G10,S3.CL⟩;have UB:Hid (∀ g,(Value.slice ua q ucap).ownBlock=some g->g < wB.heap.size):=fun g h=>(pN OX g h).2;clear b5 o5 Rw5 bB5 other B4 OM RDL c0 hrow G9 G10 S3 OX S2;go_upto_region 12 with fail;clear c5 f5;generalize w5.setCell ⟨r,0,none⟩ (.slice (some ⟨g5,0,none⟩) N cap5)=w6 at *;obtain ⟨_,_,hg5,_⟩:=Mf OW6 HI;have HG5:=Hh hg5;clear hg5;have C0:RC r (.slice (some ⟨g5,0,none⟩) N cap5) d g9 p (.slice ua q ucap) w6.drew:=⟨Row6,N6⟩;have c0:=Sc.aA (C:=RC r (.slice (some ⟨g5,0,none⟩) N cap5) d g9 p (.slice ua q ucap)) (a:=⟨r,0,none⟩) (fun W' h=>ah h.row 0);have r0:=Sc.aA (C:=RC r (.slice (some ⟨g5,0,none⟩) N cap5) d g9 p (.slice ua q ucap)) (a:=⟨g9,0,none⟩) (fun W' h=>ah h.box 0);have r1:=Sc.aA (C:=RC r (.slice (some ⟨g5,0,none⟩) N cap5) d g9 p (.slice ua q ucap)) (a:=⟨g9,1,none⟩) (fun W' h=>ah h.box 1);have ne:Nonempty (Sc.In (RC r (.slice (some ⟨g5,0,none⟩) N cap5) d g9 p (.slice ua q ucap))):=⟨⟨_,C0⟩⟩;refine Sc.start (RC r (.slice (some ⟨g5,0,none⟩) N cap5) d g9 p (.slice ua q ucap)) [(false,0),(false,1),(false,2),(false,3),(false,4),(false,5),(false,6),(false,7),(true,8)] (by kernel_rfl) (by kernel_rfl) (by kernel_rfl) C0 ?_;dsimp only [Sd.aP,List.getElem?_cons_succ,List.getElem?_cons_zero]
  repeat (refine Sd.lit ?_;quiet_step (fail);refine bk ?_)
  have OW7:Hid (Ow E3 w6.drew wB.heap.size 81 (.slice (some ⟨g5,0,none⟩) N cap5) L):=OW6;have U7:Hid (Ow K4 w6.drew w3.heap.size 42 (.slice ua q ucap) l2):=U6;have O7:Hid (ay (fun k=>k=r) w w6.drew):=O6.then ((aa _ _).drew);have Row7:Hid (w6.drew.heap[r]? = _):=Row6;have N7:Hid (w6.drew.heap[g9]? = _):=N6;have M7:Hid (w6.drew.heap[g10]? = _):=M6;have T7:Hid (w6.drew.heap[w.heap.size+2]? = _):=T6;clear c0 r0 r1 C0 OW6 U6 O6 Row6 N6 M6 T6;generalize w6.drew=w7 at *;refine Sd.call (by rfl) (fun K hK=>?_);obtain ⟨⟨_,q1,q2⟩,hfr,_,_⟩:=Mf OW7 HI;unfold aD.sl at q2;have f1:=hfr (i * 3+1);have f2:=hfr (i * 3+2);have hwg:w.heap.size<=g5:=by have:=HG5.out;have:=hwB.out.2.2;omega
  have old:∀ k,k≠g5->((w7.setCell ⟨g5,i * 3+1,none⟩ (.int .i64 p)).setCell ⟨g5,i * 3+2,none⟩ (.slice ua q ucap)).heap[k]? = w7.heap[k]?:=fun k hk=>(bt _ ⟨g5,i * 3+2,none⟩ _ k hk).trans (bt _ ⟨g5,i * 3+1,none⟩ _ k hk);have g5r:r≠g5:=by omega
  have g59:g9≠g5:=by have:=HG5.out;have:=hwB.out.1;omega
  have g510:g10≠g5:=by have:=HG5.out;have:=hwB.out.2.1;omega
  have g52:w.heap.size+2≠g5:=by have:=HG5.out;have:=hwB.out.2.2;omega
  have Row8:=Hh ((old r g5r).trans Row7);have M8:=Hh ((old g10 g510).trans M7);have T8:=Hh ((old _ g52).trans T7);have CC:RC r (.slice (some ⟨g5,0,none⟩) N cap5) d g9 p (.slice ua q ucap) ((w7.setCell ⟨g5,i * 3+1,none⟩ (.int .i64 p)).setCell ⟨g5,i * 3+2,none⟩ (.slice ua q ucap)):=⟨(old r g5r).trans Row7,(old g9 g59).trans N7⟩;have OW8:Hid (Ow E3 ((w7.setCell ⟨g5,i * 3+1,none⟩ (.int .i64 p)).setCell ⟨g5,i * 3+2,none⟩ (.slice ua q ucap)) w.heap.size 81 (.slice (some ⟨g5,0,none⟩) N cap5) (L.set i (⟨c.n,p,ua,ucap,l2⟩:aD))):=by
   have:=qJ (c':=⟨c.n,p,ua,ucap,l2⟩) OW7 HN.symm HI rfl HCP.symm;rw [ESL.out] at this;exact this.low (by have:=hwB.out.2.2;omega)
  have n8:∀ jj,(Value.slice ua q ucap).ownBlock≠some (⟨g5,jj,none⟩:Addr).block:=fun jj e=>by
   have:=UB.out g5 e;have:=HG5.out
   omega
  have U8:Hid (Ow K4 ((w7.setCell ⟨g5,i * 3+1,none⟩ (.int .i64 p)).setCell ⟨g5,i * 3+2,none⟩ (.slice ua q ucap)) w3.heap.size 42 (.slice ua q ucap) l2):=(U7.off (n8 _) _).off (n8 _) _;have O8:Hid (ay (fun k=>k=r) w ((w7.setCell ⟨g5,i * 3+1,none⟩ (.int .i64 p)).setCell ⟨g5,i * 3+2,none⟩ (.slice ua q ucap))):=O7.trans (ay.qG (B:=w.heap.size) (((aa w.heap.size w7).setCell (p:=⟨g5,i * 3+1,none⟩) hwg _).setCell (p:=⟨g5,i * 3+2,none⟩) hwg _)) fun k hk g=>by omega
  have hg52:=Hh g52;clear hfr old g5r g59 g510 g52 n8 OW7 U7 O7 Row7 N7 M7 T7;go_simp;refine hK _ _ (Sc.Cl.of CC) ?_;clear hK K q1 q2 f1 f2 CC;generalize (w7.setCell ⟨g5,i * 3+1,none⟩ (.int .i64 p)).setCell ⟨g5,i * 3+2,none⟩ (.slice ua q ucap)=w8' at *;refine Sd.done ?_;obtain ⟨y0,y1,y2,y3⟩:=AB M8;obtain ⟨d0,d1,d2,d3,k0,k1,k2,k3⟩:=xL T8;have R3:=Hh (aR T8 y);have n52:(Value.slice (some ⟨g5,0,none⟩) N cap5).ownBlock≠some (w.heap.size+2):=fun e=>by
   have:g5=w.heap.size+2:=by simpa [Value.ownBlock] using e
   exact hg52 this.symm
  have RES:Hid (jW w r F d' y 0 A' (.returned (.tuple #[aH y,.int .i64 0])) (bC w8' (w.heap.size+2) 0 y)):=by
   refine FIN ua ucap (.slice (some ⟨g5,0,none⟩) N cap5) _ (O8.trans (ay.qG (B:=w.heap.size) (aJ (o:=0) (r:=y) (aa w.heap.size w8') (by omega))) fun k hk g=>by omega) (aK Row8.out (by omega)) ?_ ?_
   ·exact (((OW8.off (p:=⟨w.heap.size+2,0,none⟩) n52 _).off (p:=⟨w.heap.size+2,0+1,none⟩) n52 _).off (p:=⟨w.heap.size+2,0+2,none⟩) n52 _).off (p:=⟨w.heap.size+2,0+3,none⟩) n52 _
   ·exact (lF (o:=0) U8 (U8.range (.inl (by have:=hw3.out;have:=hw2w.out;omega))) y).low (by have:=hw3.out;have:=hw2w.out;omega)
  clear M8 T8 OW8 U8 O8 Row8 n52 FIN;go_wp2
  (try simp only [Exit.inBlock,Exit.then])
  exact bp (aS (p:=6) (r:=7) rfl _ _ (w.heap.size+2) y (.int .i64 0) rfl rfl R3) rfl RES
 ·have hk1:(k == 0)=false:=by simpa using h0
  have HD:Hid (d'=if k=5 then d+1 else d):=by rcases HP.out with h | h;exact absurd h.1 h0;exact h.2.2
  obtain rfl:=HY.out h0;obtain rfl:A'=L.map aD.abs:=by rcases HP.out with h | h;exact absurd h.1 h0;exact h.2.1
  clear HP HY FIN HCP G9 G10 D9 n9 n10 BX S2 OX;have hrow:=Hh ((S3.aI.block r hrl).trans RR.row)
  by_cases h5:k=5
  ·subst h5
   have c1:=Fl.rc hrow 1;have f1:=aj hrow 1;have Rw':=Hh (Rw.aB (j:=1) hrow (.int .i64 (d+1)));have Rs':=Hh ((bt wB ⟨r,1,none⟩ (.int .i64 (d+1)) (w.heap.size+2) (by show w.heap.size+2≠r;omega)).trans S3.out.res);have OO:Hid (ay (fun k=>k=r) w (wB.setCell ⟨r,1,none⟩ (.int .i64 (d+1)))):=(ay.of_below S3.aI).trans (ay.set (fun k=>k=r) wB (a:=⟨r,1,none⟩) rfl _) fun _ _ g=>g;go_upto_region 10 with fail;clear c1 f1 S3 hrow;generalize wB.setCell ⟨r,1,none⟩ (.int .i64 (d+1))=wC at *;obtain ⟨d0,d1,d2,d3,k0,k1,k2,k3⟩:=xL Rs';have R3:=Hh (aR Rs' z4);have RES:Hid (jW w r F d' z4 5 (L.map aD.abs) (.returned (.tuple #[aH z4,.int .i64 5])) (bC wC (w.heap.size+2) 0 z4)):=by
    have O9:ay (fun k=>k=r) w (bC wC (w.heap.size+2) 0 z4):=OO.trans (ay.qG (B:=w.heap.size) (aJ (o:=0) (r:=z4) (aa w.heap.size wC) (by omega))) fun k hk g=>by omega
    refine ⟨rfl,⟨_,L,⟨?_,RR.off,⟨gN (G:=fun k=>k=r) RR.list.rd (fun h0 k hk e=>RR.list.off h0 k hk (.inr e)) O9,RR.list.off,fun c hc=>gN (G:=fun k=>k=r) (RR.list.file c hc) (fun h0 k hk e=>RR.list.xP c hc h0 k hk (.inr e)) O9,RR.list.xP⟩,RR.ok⟩,rfl⟩,O9⟩;rw [HD.out,aw rfl];have:=aK (g:=w.heap.size+2) (o:=0) (r:=z4) Rw' (by omega);rw [this]
    simp
   clear Rs' OO Rw';go_wp2
   (try simp only [Exit.inBlock,Exit.then])
   exact bp (aS (p:=6) (r:=7) rfl _ _ (w.heap.size+2) z4 (.int .i64 5) rfl rfl R3) rfl RES
  ·have hk5:(k == 5)=false:=by simpa using h5
   obtain ⟨d0,d1,d2,d3,k0,k1,k2,k3⟩:=xL S3.res;have R3:=Hh (aR S3.res z4);have B3:=Hh (aJ (o:=0) (r:=z4) S3.aI (show w.heap.size<=w.heap.size+2 by omega));have RES:Hid (jW w r F d' z4 k (L.map aD.abs) (.returned (.tuple #[aH z4,.int .i64 k])) (bC wB (w.heap.size+2) 0 z4)):=by
    rw [HD.out,am h5];exact ⟨rfl,⟨_,L,RR.below B3,rfl⟩,ay.of_below B3⟩
   clear S3 hrow;go_wp2
   (try simp only [Exit.inBlock,Exit.then])
   exact bp (aS (p:=6) (r:=7) rfl _ _ (w.heap.size+2) z4 (.int .i64 k) rfl rfl R3) rfl RES
theorem sW {A:aU} (R:Rs w r F A d) (hF:∀ k,F k->k < w.heap.size) (hd:0<=d/\d < 1000000) (o f j:Int) (x:R4) (hx:bQ x) :
 Calls prog 45 #[.pointer (some ⟨r,0,none⟩),Ad.addr o f j,aH x] w (jW w r F (dD A o f j d) (dV A o f j x) (dE A o f j) (dA A o f j x)):=by
 obtain ⟨v,L,h,rfl⟩:=R;have no:∀ k e w',dE (L.map aD.abs) o f j=k->k≠0->k≠5->Sj w k e w'->jW w r F (dD (L.map aD.abs) o f j d) (dV (L.map aD.abs) o f j x) (dE (L.map aD.abs) o f j) (dA (L.map aD.abs) o f j x) e w':=fun k e w' hk h0 h5 ⟨he,b⟩=>by
  have e1:dV (L.map aD.abs) o f j x=z4:=by unfold dV;split;rfl;rw [hk,am h0]
  have e2:dA (L.map aD.abs) o f j x=L.map aD.abs:=by unfold dA;split;rfl;rw [hk,am h0]
  have e3:dD (L.map aD.abs) o f j d=d:=by unfold dD;rw [hk,am h5]
  rw [e1,e2,e3,hk];exact ⟨he,⟨v,L,h.below b,rfl⟩,ay.of_below b⟩
 cases hn:eD o f j with
 | false=>exact (acP w r o f j x hn).mono fun e w'=>no 1 e w' (by unfold dE;rw [am (by rw [hn];decide)]) (by decide) (by decide)
 | true =>
   cases hk:look aD.n f L with
   | none=>exact (adt h o f j x hn (Fa hk)).mono fun e w'=>no 3 e w' (by unfold dE;rw [aw hn,iO,hk];rfl) (by decide) (by decide)
   | some c =>
     obtain ⟨i,hi,hq⟩:=yF (DT h.ok) hk;have e:dE (L.map aD.abs) o f j=jC c.p c.l o j:=by unfold dE;rw [aw hn,iO,hk];rfl
     by_cases h0:jC c.p c.l o j=0
     ·have e1:dV (L.map aD.abs) o f j x=bV c.l o j x:=by
       unfold dV;rw [e,h0,iO,hk]
       rfl
      have e2:dA (L.map aD.abs) o f j x=(L.set i (⟨c.n,c.p,none,0,c.l.set j.toNat (bV c.l o j x)⟩:aD)).map aD.abs:=by
       have e4:put aD.n (⟨c.n,c.p,none,0,c.l.set j.toNat (bV c.l o j x)⟩:aD) L=L.set i (⟨c.n,c.p,none,0,c.l.set j.toNat (bV c.l o j x)⟩:aD):=jN (DT h.ok) hi rfl;rw [← e4,jJ];unfold dA;rw [e,h0,iO,hk];obtain ⟨_,rfl⟩:=gL hk
       rfl
      have e3:dD (L.map aD.abs) o f j d=d:=by unfold dD;rw [e,h0,am (by decide)]
      rw [e1,e2,e3,e,h0];exact Nh h hF o f j 0 x hx hn hi hq h0 hd (aw rfl) (.inl ⟨rfl,rfl,rfl⟩)
     ·have e1:dV (L.map aD.abs) o f j x=z4:=by
       unfold dV
       split
       ·rfl
       ·rw [e,am h0]
      have e2:dA (L.map aD.abs) o f j x=L.map aD.abs:=by
       unfold dA
       split
       ·rfl
       ·rw [e,am h0]
      rw [e1,e2,e];exact Nh h hF o f j _ x hx hn hi hq rfl hd (am h0) (.inr ⟨h0,rfl,by unfold dD;rw [e]⟩)
end Fs
namespace Fs
open Go.Maps
open Fl (aC)
attribute [local irreducible] wpQuiet
instance ae2:DecidableEq R4:=@instDecidableEqProd _ _ _ (@instDecidableEqProd _ _ _ (@instDecidableEqProd _ _ _ _))
instance abT:DecidableEq yj:=@instDecidableEqProd _ _ _ (@instDecidableEqProd _ _ _ (@instDecidableEqList _ ae2))
instance afk (A B:aU):Decidable (A=B):=@instDecidableEqList _ abT A B
end Fs
namespace Fs
open Go.Maps
section
variable {w W W':World} {s r:Nat} {F:Nat->Prop} {A A' A2:aU} {d d' d2:Int}
theorem yc (R:Rs w r F A d) (n k:Int):Calls prog 68 #[.pointer (some ⟨r,0,none⟩),.int .i64 n,.int .i64 k] w (dw w (gV A n k) (gB A n k)):=by
 obtain ⟨v,L,h,rfl⟩:=R;exact vB h n k
end
end Fs
namespace Ua
def dJ (F:Nat->Bool):Array Value:=#[.bool (F 0),.bool (F 1),.bool (F 2),.bool (F 3),.bool (F 4),.bool (F 5),.bool (F 6),.bool (F 7),.bool (F 8),.bool (F 9),.bool (F 10)]
theorem F6 (F:Nat->Bool):(dJ F).size=11:=rfl
theorem iF (F:Nat->Bool):(dJ F).all (·.oneCell')=true:=by simp [dJ,Value.oneCell']
theorem Ng (F:Nat->Bool) (k:Nat) (h:k < 11):(dJ F)[k]? = some (.bool (F k)):=by
 rcases (by omega:k=0\/k=1\/k=2\/k=3\/k=4\/k=5\/k=6\/k=7\/k=8\/k=9\/k=10) with rfl | rfl | rfl | rfl | rfl | rfl | rfl | rfl | rfl | rfl | rfl <;> rfl
theorem Z9 (F:Nat->Bool) (k:Nat) (h:k < 11) (x:Bool):(dJ F).setIfInBounds k (.bool x)=dJ (upd F k x):=by
 rcases (by omega:k=0\/k=1\/k=2\/k=3\/k=4\/k=5\/k=6\/k=7\/k=8\/k=9\/k=10) with rfl | rfl | rfl | rfl | rfl | rfl | rfl | rfl | rfl | rfl | rfl <;> rfl
theorem nJ {F G:Nat->Bool} (h:∀ i,i < 11->F i=G i):dJ F=dJ G:=by
 unfold dJ;rw [h 0 (by omega),h 1 (by omega),h 2 (by omega),h 3 (by omega),h 4 (by omega),h 5 (by omega),h 6 (by omega),h 7 (by omega),h 8 (by omega),h 9 (by omega),h 10 (by omega)]
def Row (w:World) (g:Nat) (F:Nat->Bool):Prop:=w.heap[g]? = some (.cells (dJ F) 222 (0,0))
section
variable {w w':World} {g:Nat} {F:Nat->Bool}
theorem Row.lt (h:Row w g F):g < w.heap.size:=bm h
theorem Row.cell (h:Row w g F) (k:Nat) (hk:k < 11):w.cell? ⟨g,k,none⟩=some (.bool (F k)):=by rw [cell_of_row w g k _ _ (0,0) h,Ng F k hk]
theorem Row.frozen (h:Row w g F) (k:Nat):w.frozen? ⟨g,k,none⟩=false:=frozen_of_row w g k _ _ h
theorem Row.new (w:World) (F:Nat->Bool):Row (w.alloc (.cells (dJ F) 222)) w.heap.size F:=bc w _
theorem Row.draw (h:Row w g F) (n:Nat):Row (w.drewN n) g F:=h
theorem Row.alloc (h:Row w g F) (o:Obj):Row (w.alloc o) g F:=(cA w o g h.lt).trans h
theorem Row.jA (h:Row w g F) (k:Nat) (hk:k < 11) (x:Bool):Row (w.setCell ⟨g,k,none⟩ (.bool x)) g (upd F k x):=by
 unfold Row at h ⊢;rw [heap_setCell_same w g k _ _ _ h,Z9 F k hk x]
theorem Row.far (h:Row w g F) {p:Addr} (hp:g≠p.block) (u:Value):Row (w.setCell p u) g F:=(bt w p u g hp).trans h
theorem Row.row (h:Row w g F) (G:Nat->Bool):Row (w.setRow g (dJ G)) g G:=setRow_heap w g _ _ _ _ h
theorem Row.below {B:Nat} (h:Row w g F) (hb:Below B w w') (hg:g < B):Row w' g F:=(hb.block g hg).trans h
theorem Row.to {G:Nat->Bool} (h:Row w g F) (e:∀ i,i < 11->F i=G i):Row w g G:=by unfold Row at *;rw [h,nJ e]
theorem Row.load (h:Row w g F):(loadVar 222 ⟨g,0,none⟩).run prog w = .ok (.agg (dJ F)) w :=
 fX w g _ _ (dJ F) (0,0) _ h underlying222 rfl (by rw [F6];kernel_rfl)
end
theorem info:(prog.info? 222).map (·.size)=some 11:=by kernel_rfl
theorem cB (F:Nat->Bool):(prog.info? 222).map (·.size)=some (dJ F).size:=by rw [F6];exact info
variable {ops:Array Oper} {rest:List Oper} {o o':Oper} {a:Act} {w:World} {Q:Exit->Act->World->Prop}
theorem dO (hgd:o.guard=none) (x:Operand) (ho:o.op = .load 222 x)
 (g:Nat) (F:Nat->Bool) (hx:a.eval x = .pointer (some ⟨g,0,none⟩)) (hrow:Row w g F) (h:wpList prog ops Q rest (a.put o.dst (.agg (dJ F))) w):wpList prog ops Q (o :: rest) a w :=
 wpList_load_row hgd _ x ho g hx _ _ _ _ hrow underlying222 rfl (cB _) h
theorem dB (hgd:o.guard=none) (x y:Operand) (ho:o.op = .store 222 x y)
 (g:Nat) (F G:Nat->Bool) (hx:a.eval x = .pointer (some ⟨g,0,none⟩)) (hy:a.eval y = .agg (dJ F)) (hrow:Row w g G) (h:wpList prog ops Q rest (a.put o.dst undef) (w.setRow g (dJ F))):wpList prog ops Q (o :: rest) a w :=
 wpList_store_row hgd _ x y ho g _ hx hy _ _ hrow (cB _) rfl (iF _) h
theorem dU (hgd:o.guard=none) (x y:Operand) (ho:o.op = .store 222 x y)
 (F:Nat->Bool) (hx:a.eval x = .pointer (some ⟨w.heap.size,0,none⟩)) (hy:a.eval y = .agg (dJ F)) (h:wpList prog ops Q rest (a.put o.dst undef) (w.alloc (.cells (dJ F) 222))) :
 wpList prog ops Q (o :: rest) a (w.alloc (.cells #[.bool false,.bool false,.bool false,.bool false,.bool false,.bool false,.bool false,.bool false,.bool false,.bool false,.bool false] 222)) :=
 dB hgd x y ho _ F (fun _=>false) hx hy (Row.new w (fun _=>false)) (by rw [World.setRow_alloc_new];exact h)
theorem om (hg:o.guard=none) (hg':o'.guard=none) (x y:Operand) (d:Tmp) (ho:o.op = .load 222 x) (hd:o.dst=some d) (ho':o'.op = .store 222 y (.tmp d))
 (g g':Nat) (F G:Nat->Bool) (hx:a.eval x = .pointer (some ⟨g,0,none⟩)) (hy:(a.put (some d) (.agg (dJ F))).eval y = .pointer (some ⟨g',0,none⟩)) (hz:(a.put (some d) (.agg (dJ F))).eval (.tmp d) = .agg (dJ F)) (hrow:Row w g F) (hrow':Row w g' G)
 (h:wpList prog ops Q rest ((a.put (some d) (.agg (dJ F))).put o'.dst undef) (w.setRow g' (dJ F))):wpList prog ops Q (o :: o' :: rest) a w :=
 dO hg x ho g F hx hrow (by rw [hd];exact dB hg' y (.tmp d) ho' g' F G hy hz hrow' h)
theorem jL {fn:Func} {p:Tmp} (h:fn.results=#[.cell p 222]) (tmps:Array Value) (w:World) (g:Nat) (F:Nat->Bool) (hp:tmps.getD p undef = .pointer (some ⟨g,0,none⟩)) (hrow:Row w g F) :
 (results fn tmps).run prog w = .ok (.agg (dJ F)) w:=results_cell_row h tmps w g _ _ _ _ hp hrow underlying222 rfl (cB _)
theorem aX {B:Nat} {a:World} (h:Below B a w) (g:Nat) (cs:Array Value) (hg:B<=g):Below B a (w.setRow g cs) :=
 ⟨h.os,h.tape,h.output,by rw [size_setRow];exact h.size,fun k hk=>(setRow_other w g k cs (by omega)).trans (h.block k hk)⟩
theorem aC {a b:Bool} (h:a=b):Ending.returned (.bool a) = .returned (.bool b):=by rw [h]
theorem dh {k:IntKind} {a b:Int} (h:a=b):Ending.returned (.int k a) = .returned (.int k b):=by rw [h]
theorem Eb {F G:Nat->Bool} (h:∀ i,i < 11->F i=G i):Ending.returned (.agg (dJ F)) = .returned (.agg (dJ G)):=by rw [nJ h]
end Ua
namespace Ck
abbrev Hd:=Option Addr×Nat×Nat
def zh:Hd:=(none,0,0)
def sl (h:Hd):Value:=.slice h.1 h.2.1 h.2.2
def KS:Rw.Kind Hd:=⟨fun h=>[sl h],1,by decide,fun _=>rfl,fun _ u h=>by simp at h;subst h;rfl,zh⟩
def kF (w:World) (v:Value) (L:LL):Prop:=∃ a cap,v = .slice a L.length cap/\(L.length<=cap/\(a=none->cap=0))/\cap<=maxLen /\
 (0 < L.length->∃ b off,a=some ⟨b,off,none⟩/\∀ i,i < L.length->∃ u,w.cell? ⟨b,off+i,none⟩=some u/\Rd K5 w u (bZ L i))
section
variable {w w':World} {v:Value} {L:LL}
theorem kF.below (h:kF w v L) (hb:Below w.heap.size w w'):kF w' v L:=by
 obtain ⟨a,cap,e,h1,h2,h3⟩:=h;refine ⟨a,cap,e,h1,h2,fun hp=>?_⟩;obtain ⟨b,off,ea,hA⟩:=h3 hp;refine ⟨b,off,ea,fun i hi=>?_⟩;obtain ⟨u,c,r⟩:=hA i hi;exact ⟨u,iI hb c,r.below hb⟩
theorem kF.slice (h:kF w v L):∃ a cap,v = .slice a L.length cap/\cap<=maxLen:=by
 obtain ⟨a,cap,e,_,h2,_⟩:=h;exact ⟨a,cap,e,h2⟩
variable {k b off cap:Nat}
theorem kF.one (h:kF w v L) (hk:k < L.length):∃ b off cap a' cap',v = .slice (some ⟨b,off,none⟩) L.length cap/\w.cell? ⟨b,off+k,none⟩=some (.slice a' (bZ L k).length cap')/\cap'<=maxLen /\
 (0 < (bZ L k).length->∃ b' off',a'=some ⟨b',off',none⟩/\At K5 w b' off' (bZ L k)):=by
 obtain ⟨a,cap,e,h1,h2,h3⟩:=h;obtain ⟨b,off,rfl,hA⟩:=h3 (by omega);obtain ⟨u,c,a',cap',rfl,g1,g2,g3⟩:=hA k hk;exact ⟨b,off,cap,a',cap',e,c,g2,g3⟩
theorem kF.rd (h:kF w v L) (hk:k < L.length) (e:v = .slice (some ⟨b,off,none⟩) L.length cap) {u:Value} (c:w.cell? ⟨b,off+k,none⟩=some u):Rd K5 w u (bZ L k):=by
 obtain ⟨a,cap',e',h1,h2,h3⟩:=h;obtain ⟨b',off',rfl,hA⟩:=h3 (by omega);rw [e] at e';injection e' with e1 _ _;injection e1 with e1;injection e1 with e1 e2 _;subst e1 e2;obtain ⟨u',c',r⟩:=hA k hk;rw [c] at c';injection c' with c';subst c';exact r
theorem kF.take {a:Option Addr} {n cap:Nat} (h:kF w (.slice a n cap) L) {k:Nat} (hk:k<=L.length):kF w (.slice a k cap) (L.take k):=by
 obtain ⟨a',cap',e,h1,h2,h3⟩:=h;injection e with e1 e2 e3;subst e1 e2 e3;have hl:(L.take k).length=k:=by rw [cH];omega
 refine ⟨a,cap,by rw [hl],⟨by omega,h1.2⟩,h2,fun hp=>?_⟩;rw [hl] at hp;obtain ⟨b,off,rfl,hA⟩:=h3 (by omega);refine ⟨b,off,rfl,fun i hi=>?_⟩;rw [hl] at hi;rw [y8 hi];exact hA i (by omega)
theorem vN {hs:List Hd} (h:Rd KS w v hs) (hl:hs.length=L.length) (each:∀ i,i < L.length->Rd K5 w (sl (hs.getD i zh)) (bZ L i)):kF w v L:=by
 obtain ⟨a,cap,e,h1,h2,h3⟩:=h;rw [hl] at e h1 h3;refine ⟨a,cap,e,h1,h2,fun hp=>?_⟩;obtain ⟨b,off,ea,hA⟩:=h3 hp;refine ⟨b,off,ea,fun i hi=>⟨_,?_,each i hi⟩⟩;have c:=hA i (by rw [hl];exact hi) 0 _ rfl;simp only [KS,Nat.mul_one,Nat.add_zero] at c;exact c
end
def ar (F:Nat->Int):Array Value:=#[.int .i64 (F 0),.int .i64 (F 1),.int .i64 (F 2),.int .i64 (F 3),.int .i64 (F 4),.int .i64 (F 5),.int .i64 (F 6),.int .i64 (F 7),.int .i64 (F 8),.int .i64 (F 9),.int .i64 (F 10),.int .i64 (F 11),.int .i64 (F 12),.int .i64 (F 13),.int .i64 (F 14),.int .i64 (F 15),.int .i64 (F 16)]
def upI (F:Nat->Int) (k:Nat) (x:Int) (i:Nat):Int:=if i=k then x else F i
theorem Zx (F:Nat->Int):(ar F).size=17:=rfl
theorem U1 (F:Nat->Int):(ar F).all (·.oneCell')=true:=by simp [ar,Value.oneCell']
theorem aeL {k:Nat} (h:k < 17):k=0\/k=1\/k=2\/k=3\/k=4\/k=5\/k=6\/k=7\/k=8\/k=9\/k=10\/k=11\/k=12\/k=13\/k=14\/k=15\/k=16:=by omega
theorem abZ (F:Nat->Int) (k:Nat) (h:k < 17):(ar F)[k]? = some (.int .i64 (F k)):=by
 rcases aeL h with rfl | rfl | rfl | rfl | rfl | rfl | rfl | rfl | rfl | rfl | rfl | rfl | rfl | rfl | rfl | rfl | rfl <;> rfl
theorem acs (F:Nat->Int) (k:Nat) (h:k < 17) (x:Int):(ar F).setIfInBounds k (.int .i64 x)=ar (upI F k x):=by
 rcases aeL h with rfl | rfl | rfl | rfl | rfl | rfl | rfl | rfl | rfl | rfl | rfl | rfl | rfl | rfl | rfl | rfl | rfl <;> rfl
theorem Hw {F G:Nat->Int} (h:∀ i,i < 17->F i=G i):ar F=ar G:=by
 unfold ar;rw [h 0 (by omega),h 1 (by omega),h 2 (by omega),h 3 (by omega),h 4 (by omega),h 5 (by omega),h 6 (by omega),h 7 (by omega),h 8 (by omega),h 9 (by omega),h 10 (by omega),h 11 (by omega),h 12 (by omega),h 13 (by omega),h 14 (by omega),h 15 (by omega),h 16 (by omega)]
def fT (w:World) (g:Nat) (F:Nat->Int):Prop:=w.heap[g]? = some (.cells (ar F) 311 (0,0))
section
variable {w w':World} {g:Nat} {F:Nat->Int}
theorem fT.lt (h:fT w g F):g < w.heap.size:=bm h
theorem fT.cell (h:fT w g F) (k:Nat) (hk:k < 17):w.cell? ⟨g,k,none⟩=some (.int .i64 (F k)):=by rw [cell_of_row w g k _ _ (0,0) h,abZ F k hk]
theorem fT.frozen (h:fT w g F) (k:Nat):w.frozen? ⟨g,k,none⟩=false:=frozen_of_row w g k _ _ h
theorem fT.new (w:World) (F:Nat->Int):fT (w.alloc (.cells (ar F) 311)) w.heap.size F:=bc w _
theorem fT.jA (h:fT w g F) (k:Nat) (hk:k < 17) (x:Int):fT (w.setCell ⟨g,k,none⟩ (.int .i64 x)) g (upI F k x):=by
 unfold fT at h ⊢;rw [heap_setCell_same w g k _ _ _ h,acs F k hk x]
theorem fT.far (h:fT w g F) {p:Addr} (hp:g≠p.block) (u:Value):fT (w.setCell p u) g F:=(bt w p u g hp).trans h
theorem fT.row (h:fT w g F) (G:Nat->Int):fT (w.setRow g (ar G)) g G:=setRow_heap w g _ _ _ _ h
theorem fT.below {B:Nat} (h:fT w g F) (hb:Below B w w') (hg:g < B):fT w' g F:=(hb.block g hg).trans h
theorem fT.to {G:Nat->Int} (h:fT w g F) (e:∀ i,i < 17->F i=G i):fT w g G:=by unfold fT at *;rw [h,Hw e]
end
theorem xM (F:Nat->Int):(prog.info? 311).map (·.size)=some (ar F).size:=by rw [Zx];kernel_rfl
variable {ops:Array Oper} {rest:List Oper} {o:Oper} {a:Act} {w w':World} {Q:Exit->Act->World->Prop}
theorem Pw (hgd:o.guard=none) (x:Operand) (ho:o.op = .load 311 x)
 (g:Nat) (F:Nat->Int) (hx:a.eval x = .pointer (some ⟨g,0,none⟩)) (hrow:fT w g F) (h:wpList prog ops Q rest (a.put o.dst (.agg (ar F))) w):wpList prog ops Q (o :: rest) a w :=
 wpList_load_row hgd _ x ho g hx _ _ _ _ hrow underlying311 rfl (xM _) h
theorem U4 (hgd:o.guard=none) (x y:Operand) (ho:o.op = .store 311 x y)
 (g:Nat) (F G:Nat->Int) (hx:a.eval x = .pointer (some ⟨g,0,none⟩)) (hy:a.eval y = .agg (ar F)) (hrow:fT w g G) (h:wpList prog ops Q rest (a.put o.dst undef) (w.setRow g (ar F))):wpList prog ops Q (o :: rest) a w :=
 wpList_store_row hgd _ x y ho g _ hx hy _ _ hrow (xM _) rfl (U1 _) h
theorem Dt (hgd:o.guard=none) (x y:Operand) (ho:o.op = .store 311 x y)
 (F:Nat->Int) (hx:a.eval x = .pointer (some ⟨w.heap.size,0,none⟩)) (hy:a.eval y = .agg (ar F)) (h:wpList prog ops Q rest (a.put o.dst undef) (w.alloc (.cells (ar F) 311))) :
 wpList prog ops Q (o :: rest) a (w.alloc (.cells #[.int .i64 0,.int .i64 0,.int .i64 0,.int .i64 0,.int .i64 0,.int .i64 0,.int .i64 0,.int .i64 0,.int .i64 0,.int .i64 0,.int .i64 0,.int .i64 0,.int .i64 0,.int .i64 0,.int .i64 0,.int .i64 0,.int .i64 0] 311)) :=
 U4 hgd x y ho _ F (fun _=>0) hx hy (fT.new w (fun _=>0)) (by rw [World.setRow_alloc_new];exact h)
variable {fn:Func} {p r:Tmp}
theorem Mv (h:fn.results=#[.cell p 311]) (tmps:Array Value) (w:World) (g:Nat) (F:Nat->Int) (hp:tmps.getD p undef = .pointer (some ⟨g,0,none⟩)) (hrow:fT w g F) :
 (results fn tmps).run prog w = .ok (.agg (ar F)) w:=results_cell_row h tmps w g _ _ _ _ hp hrow underlying311 rfl (xM _)
def iN (x:E5):Array Value:=#[.int .i64 x.1,.int .i64 x.2.1,.int .i64 x.2.2.1,.int .i64 x.2.2.2.1,.int .i64 x.2.2.2.2]
def iV (w:World) (g:Nat) (x:E5):Prop:=w.heap[g]? = some (.cells (iN x) 170 (0,0))
variable {g B:Nat} {x:E5}
theorem iV.lt (h:iV w g x):g < w.heap.size:=bm h
theorem iV.below (h:iV w g x) (hb:Below B w w') (hg:g < B):iV w' g x:=(hb.block g hg).trans h
theorem jP (h:fn.results=#[.tmp r,.cell p 170]) (tmps:Array Value) (w:World) (g1:Nat) (n:Int) (x:E5)
 (hp:tmps.getD p undef = .pointer (some ⟨g1,0,none⟩)) (hr:tmps.getD r undef = .int .i64 n) (h1:iV w g1 x) :
 (results fn tmps).run prog w = .ok (.tuple #[.int .i64 n,fM x]) w:=by
 have e1:=fX (P:=prog) w g1 170 170 (iN x) (0,0) _ h1 underlying170 rfl (by show _=some 5;kernel_rfl);have hp':tmps[p]?.getD undef = .pointer (some ⟨g1,0,none⟩):=by simpa using hp
 have hr':tmps[r]?.getD undef = .int .i64 n:=by simpa using hr
 simp only [results,h]
 simp [Result.andThen,hp',hr',asAddr,e1,fM,iN]
end Ck
namespace Pa
open Go.Maps
open Ck (kF)
def ptr (s:Nat):Value:=.pointer (some ⟨s,0,none⟩)
def KN:Rw.Kind Nat:=⟨fun s=>[ptr s],1,by decide,fun _=>rfl,fun _ u h=>by simp at h;subst h;rfl,0⟩
def pv (p:Option Nat):Value:=.pointer (p.map fun s=>⟨s,0,none⟩)
def KP:Rw.Kind (Option Nat):=⟨fun p=>[pv p],1,by decide,fun _=>rfl,fun p u h=>by simp at h;subst h;cases p <;> rfl,none⟩
def KB:Rw.Kind Bool:=⟨fun b=>[.bool b],1,by decide,fun _=>rfl,fun _ u h=>by simp at h;subst h;rfl,false⟩
def K2:Rw.Kind S2:=⟨fun x=>[.int .i64 x.1,.int .i64 x.2],2,by decide,fun _=>rfl,fun _ u h=>by simp at h;rcases h with rfl | rfl <;> rfl,z2⟩
section
variable {w:World} {b off:Nat}
variable {l:List Nat} {i:Nat}
theorem TL (h:At KN w b off l) (hi:i < l.length):w.cell? ⟨b,off+i,none⟩=some (ptr (l.getD i 0)):=by
 have c:=h i hi 0 _ rfl
 simpa [KN] using c
theorem atP {l:List (Option Nat)} (h:At KP w b off l) (hi:i < l.length):w.cell? ⟨b,off+i,none⟩=some (pv (l.getD i none)):=by
 have c:=h i hi 0 _ rfl
 simpa [KP] using c
theorem Ka {l:List Bool} (h:At KB w b off l) (hi:i < l.length):w.cell? ⟨b,off+i,none⟩=some (.bool (l.getD i false)):=by
 have c:=h i hi 0 _ rfl
 simpa [KB] using c
theorem at2 {l:List S2} (h:At K2 w b off l) (hi:i < l.length):w.cell? ⟨b,off+i * 2,none⟩=some (.int .i64 (pat l i).1)/\w.cell? ⟨b,off+i * 2+1,none⟩=some (.int .i64 (pat l i).2) :=
 ⟨h i hi 0 _ rfl,h i hi 1 _ rfl⟩
theorem rd_some {v:Value} (h:Rd KN w v l):Rd KP w v (l.map some):=by
 obtain ⟨a,cap,e,h1,h2,h3⟩:=h;refine ⟨a,cap,by rw [cy];exact e,by rw [cy];exact h1,h2,fun h0=>?_⟩;rw [cy] at h0;obtain ⟨b,off,ea,hA⟩:=h3 h0;refine ⟨b,off,ea,fun i hi j u hu=>?_⟩;rw [cy] at hi;have:KP.enc ((l.map some).getD i KP.Ox)=KN.enc (l.getD i KN.Ox):=by
  rw [af,cX,aq hi,af,aq hi]
  rfl
 rw [this] at hu;exact hA i hi j u hu
end
def Has (w:World) (s:Nat) (x:aU×Int):Prop:=∃ F,St w s F x.1 x.2
def Vg (w:World) (r:Nat) (x:aU×Int):Prop:=Rs w r (fun _=>False) x.1 x.2
def Cj (w:World) (v:Value) (S:bX):Prop:=∃ ps:List Nat,Rd KN w v ps/\ps.length=S.length/\∀ i,i < S.length->Has w (ps.getD i 0) (aN S i)
def Rfl (w:World) (v:Value) (S:bX):Prop:=∃ ps:List Nat,Rd KN w v ps/\ps.length=S.length/\∀ i,i < S.length->Vg w (ps.getD i 0) (aN S i)
section
variable {w w':World} {s:Nat} {x:aU×Int} {v:Value} {S:bX}
theorem Has.below (h:Has w s x) (b:Below w.heap.size w w'):Has w' s x:=by obtain ⟨F,h⟩:=h;exact ⟨F,h.below b⟩
theorem Vg.below (h:Vg w s x) (b:Below w.heap.size w w'):Vg w' s x:=Fs.Rs.below h b
theorem Has.okA (h:Has w s x):eB x.1:=by obtain ⟨F,h⟩:=h;exact h.okA
theorem Vg.okA (h:Vg w s x):eB x.1:=by obtain ⟨v,L,h,e⟩:=h;rw [← e];exact h.ok
theorem Cj.below (h:Cj w v S) (b:Below w.heap.size w w'):Cj w' v S:=by obtain ⟨ps,h1,h2,h3⟩:=h;exact ⟨ps,h1.below b,h2,fun i hi=>(h3 i hi).below b⟩
theorem Rfl.below (h:Rfl w v S) (b:Below w.heap.size w w'):Rfl w' v S:=by obtain ⟨ps,h1,h2,h3⟩:=h;exact ⟨ps,h1.below b,h2,fun i hi=>(h3 i hi).below b⟩
theorem Cj.slice (h:Cj w v S):∃ a cap,v = .slice a S.length cap/\cap<=maxLen:=by obtain ⟨ps,h1,h2,_⟩:=h;rw [← h2];exact h1.slice
theorem Rfl.slice (h:Rfl w v S):∃ a cap,v = .slice a S.length cap/\cap<=maxLen:=by obtain ⟨ps,h1,h2,_⟩:=h;rw [← h2];exact h1.slice
variable {k:Nat}
theorem Cj.one (h:Cj w v S) (hk:k < S.length):∃ b off cap s,v = .slice (some ⟨b,off,none⟩) S.length cap/\w.cell? ⟨b,off+k,none⟩=some (ptr s)/\Has w s (aN S k):=by
 obtain ⟨ps,h1,h2,h3⟩:=h;obtain ⟨a,cap,e,_,_,g⟩:=h1;obtain ⟨b,off,rfl,hA⟩:=g (by omega);exact ⟨b,off,cap,_,by rw [← h2];exact e,TL hA (by omega),h3 k hk⟩
theorem Rfl.one (h:Rfl w v S) (hk:k < S.length):∃ b off cap s,v = .slice (some ⟨b,off,none⟩) S.length cap/\w.cell? ⟨b,off+k,none⟩=some (ptr s)/\Vg w s (aN S k):=by
 obtain ⟨ps,h1,h2,h3⟩:=h;obtain ⟨a,cap,e,_,_,g⟩:=h1;obtain ⟨b,off,rfl,hA⟩:=g (by omega);exact ⟨b,off,cap,_,by rw [← h2];exact e,TL hA (by omega),h3 k hk⟩
end
structure Ns (w:World) (vs vt vl:Value) (S:bX) (T:LL) (V:List Bool):Prop where
 st:Cj w vs S
 tb:kF w vt T
 lv:Rd KB w vl V
 lt:T.length=S.length
 ll:V.length=S.length
 ok:tE T=0
structure Nr (w:World) (vs vt vl:Value) (S:bX) (T:LL) (V:List Bool):Prop where
 st:Rfl w vs S
 tb:kF w vt T
 lv:Rd KB w vl V
 lt:T.length=S.length
 ll:V.length=S.length
 ok:tE T=0
section
variable {w w':World} {vs vt vl:Value} {S:bX} {T:LL} {V:List Bool}
theorem Ns.below (h:Ns w vs vt vl S T V) (b:Below w.heap.size w w'):Ns w' vs vt vl S T V:=⟨h.st.below b,h.tb.below b,h.lv.below b,h.lt,h.ll,h.ok⟩
theorem Nr.below (h:Nr w vs vt vl S T V) (b:Below w.heap.size w w'):Nr w' vs vt vl S T V:=⟨h.st.below b,h.tb.below b,h.lv.below b,h.lt,h.ll,h.ok⟩
theorem rZ {n:Int} (h:0<=n/\n<=1000):Wf n:=by
 have e1:IntKind.i64.min = -9223372036854775808:=rfl;have e2:IntKind.i64.max=9223372036854775807:=rfl
 show (decide (IntKind.i64.min<=n) && decide (n<=IntKind.i64.max))=true
 rw [e1,e2,ce,cL,cL]
 omega
theorem qC (h:tE T=0):¬ 0<=bI T:=fun g=>by
 have:=(Ck.Kt g).2
 omega
theorem nM (h:tE T=0) {k:Nat} (hk:k < T.length):∀ x∈bZ T k,fZ x/\x.1≠4:=yS (jm (qC h) k hk)
end
def bv (y:Int):Value:=.int .u8 y
structure HIs (D:DataW Value) (h:Hr):Prop where
 has:∀ n,Wf n->Maps.has D (.int .i64 n)=(h n).isSome
 val:∀ n y,Wf n->h n=some y->∀ z,D.atKey (.int .i64 n) z = .held (bv y)
def Kg (w:World) (b N:Nat) (h:Hr):Prop:=∃ D,w.ownsMap prog 3 Rh b N D/\HIs D h
def vw (w:World) (v:Value) (h:Hr):Prop:=∃ b N,v = .map (some b)/\Kg w b N h
theorem ad2 (w:World):(zeroValue 5).run prog w = .ok (.int .u8 0) w:=by kernel_rfl
section
variable {w w':World} {v:Value} {h:Hr} {b N:Nat}
theorem Kg.lt (M:Kg w b N h):b < w.heap.size:=by obtain ⟨D,o,_⟩:=M;exact o.lt
theorem Kg.kept (M:Kg w b N h) (e:w'.heap[b]? = w.heap[b]?):Kg w' b N h:=by
 obtain ⟨D,⟨es,clock,hb,F,hs,hD⟩,I⟩:=M;exact ⟨D,⟨es,clock,e.trans hb,F,hs,hD⟩,I⟩
theorem Kg.below (M:Kg w b N h) (hb:Below w.heap.size w w'):Kg w' b N h:=M.kept (hb.block b M.lt)
theorem vw.below (M:vw w v h) (hb:Below w.heap.size w w'):vw w' v h:=by
 obtain ⟨b,N,e,M⟩:=M;exact ⟨b,N,e,M.below hb⟩
theorem vw.only {G:Nat->Prop} (M:vw w v h) (ho:Fs.ay G w w') (hn:∀ b,v = .map (some b)->¬ G b):vw w' v h:=by
 obtain ⟨b,N,e,M⟩:=M;exact ⟨b,N,e,M.kept (ho.block b M.lt (hn b e))⟩
variable {n y:Int}
theorem Sq (M:vw w v h) (hn:Wf n):(Instr.lookup 216 v (.int .i64 n) true).run prog w = .ok (.tuple #[bv ((h n).getD 0),.bool (h n).isSome]) w:=by
 obtain ⟨b,N,rfl,D,o,I⟩:=M;obtain ⟨u,ps,hr,hu⟩:=o.look_ok law underlying216 (ad2 w) (zd:=.held (bv 0)) (zp:=[]) rfl (AF hn);rw [hr,I.has n hn];have:u=bv ((h n).getD 0):=by
  have e:DataW.held u=D.atKey (.int .i64 n) (.held (bv 0)):=by simp [Rh] at hu;exact hu.1
  rcases ey:h n with _ | y
  ·have:=I.has n hn
   rw [ey] at this;rw [atKey_of_not_has this] at e;injection e
  ·rw [I.val n y hn ey] at e
   injection e
 rw [this]
variable {ops:Array Oper} {rest:List Oper} {o:Oper} {a:Act} {Q:Exit->Act->World->Prop}
theorem JZ (hgd:Region.wanted o (yielded ops a.tmps)=true) (p x:Operand) (hop:o.op = .lookup 216 p x true) (hm:a.eval p=v) (M:vw w v h) (n:Int) (hx:a.eval x = .int .i64 n) (hn:Wf n) (y:Int) (q:Bool) (hy:(h n).getD 0=y) (hq:(h n).isSome=q)
 (hK:wpList prog ops Q rest (a.put o.dst (.tuple #[.int .u8 y,.bool q])) w):wpList prog ops Q (o :: rest) a w:=by
 refine BigFrame.wpList_want hgd fun K' hK'=>?_;have hr:=Sq M hn;rw [hy,hq] at hr;unfold Oper.wp
 simp [execOp,hop,hm,hx,hr,Result.andThen]
 exact hK' _ _ (by simpa [bv] using hK)
def nO (h:Hr) (n y:Int):Hr:=fun m=>if m=n then some y else h m
theorem HIs.put {D:DataW Value} (I:HIs D h) (hD:IsMap D) {n y:Int} (hn:Wf n):HIs (D.put (.int .i64 n) (.held (bv y))) (nO h n y) where
 has m hm:=by
  unfold nO
  by_cases e:m=n
  ·subst e
   rw [has_put_same hD (law.key (AF hn)),aw rfl]
   rfl
  ·rw [has_put_other (fun e2=>e (by injection e2)),am e]
   exact I.has m hm
 val m z hm hz u:=by
  unfold nO at hz
  by_cases e:m=n
  ·subst e
   rw [aw rfl] at hz;injection hz with hz;subst hz;exact atKey_put_same hD (law.key (AF hn)) _ _
  ·rw [am e] at hz
   rw [atKey_put_other (fun e2=>e (by injection e2))];exact I.val m z hm hz u
theorem Xd (M:Kg w b N h) (hN:N < maxLen) (hn:Wf n):∃ w',(Instr.mapUpdate 216 (.map (some b)) (.int .i64 n) (bv y)).run prog w = .ok () w'/\Kg w' b (N+1) (nO h n y)/\w.grownBy w' (some b):=by
 obtain ⟨D,o,I⟩:=M;obtain ⟨w',hr,h',hg⟩:=o.update law underlying216 hN (AF hn) (val:=bv y) (d:=.held (bv y)) (ps:=[]) rfl;exact ⟨w',hr,⟨_,h',I.put o.isMap hn⟩,hg⟩
theorem Ep (hgd:Region.wanted o (yielded ops a.tmps)=true) (p x u:Operand) (hop:o.op = .mapUpdate 216 p x u) (hm:a.eval p = .map (some b)) (M:Kg w b N h) (hN:N < maxLen) (n y:Int) (hx:a.eval x = .int .i64 n) (hu:a.eval u = .int .u8 y) (hn:Wf n)
 (hK:∀ w',Kg w' b (N+1) (nO h n y)->w.grownBy w' (some b)->wpList prog ops Q rest (a.put o.dst undef) w'):wpList prog ops Q (o :: rest) a w:=by
 refine BigFrame.wpList_want hgd fun K' hK'=>?_;obtain ⟨w',hr,h1,h2⟩:=Xd M hN (y:=y) hn;unfold bv at hr;unfold Oper.wp
 simp [execOp,hop,hm,hx,hu,hr,Result.andThen]
 exact hK' _ _ (hK w' h1 h2)
theorem Eg (w:World):Kg (w.alloc (.map #[] 0)) w.heap.size 0 (fun _=>none):=⟨_,World.ownsMap_made _ _ _ _,fun _ _=>rfl,fun _ _ _ h=>by cases h⟩
end
def Tz (f r:Int):Value:=.agg #[.int .i64 f,.int .i64 r]
theorem UD:laidOutB prog=true:=by kernel_rfl
theorem ae0:WideMaps.KeyLaw prog 265:=deep_law_laid UD (m:=2) (by omega) (of_decide_eq_true (by kernel_rfl)) (by kernel_rfl) (by kernel_rfl)
theorem qX:Keyed prog 265:=Keyed.of_law ae0
theorem Fb:prog.cellsOf 265=2:=by kernel_rfl
theorem UR:prog.cellsOf 3=1:=by kernel_rfl
theorem abF:∃ m,prog.types.size=m+1:=by
 have:0 < prog.types.size:=of_decide_eq_true (by kernel_rfl);exact ⟨prog.types.size - 1,(Nat.succ_pred_eq_of_pos this).symm⟩
theorem Ob (d:Nat) (f:Int):prog.keyLits (d+1) 3 [.int .i64 f]=if (Lit.int .i64 f).wf=true then some [.int .i64 f] else none:=by
 unfold Program.keyLits
 simp [underlying3]
variable {f r f' r':Int}
theorem aaQ (hf:Wf f) (hr:Wf r):keyOf prog 265 (Tz f r)=some (.string (keyBytes [.int .i64 f,.int .i64 r])):=by
 have h1:prog.keyType 265=true:=by kernel_rfl
 have h2:(Tz f r).formed prog 265=true:=by simp [Tz,Value.formed,underlying265,Fb]
 obtain ⟨m,hm⟩:=abF;have h4:prog.keyLits (prog.types.size+1) 265 (Tz f r).cells.toList=some [.int .i64 f,.int .i64 r]:=by
  have e:(Tz f r).cells.toList = [.int .i64 f,.int .i64 r]:=rfl;have f1:(Lit.int .i64 f).wf=true:=hf;have f2:(Lit.int .i64 r).wf=true:=hr;have g1:=Ob m f;have g2:=Ob m r;rw [aw f1] at g1;rw [aw f2] at g2;rw [e,hm];unfold Program.keyLits
  simp [underlying265,Fb,UR,g1,g2]
 unfold keyOf;simp only [underlying265,h1,h2,h4,Bool.and_self,if_true,fd]
theorem Jr {v:Value} {kl:Lit} (h:keyOf prog 265 v=some kl):∃ f r,v=Tz f r/\Wf f/\Wf r:=by
 unfold keyOf at h;simp only [underlying265] at h
 split at h
 ·rename_i hc
  rw [ce] at hc;obtain ⟨_,hfm⟩:=hc;obtain ⟨xs,rfl,hs⟩:∃ xs,v = .agg xs/\xs.size=2:=by
   cases v <;> simp [Value.formed,underlying265,Fb] at hfm
   exact ⟨_,rfl,hfm⟩
  obtain ⟨m,hm⟩:=abF;obtain ⟨l⟩:=xs
  match l,hs with
  | [a,b],_ =>
    have e:(Value.agg (Array.mk [a,b])).cells.toList = [a,b]:=rfl;rw [e,hm] at h;unfold Program.keyLits at h
    simp [underlying265,Fb,UR] at h
    rcases e1:prog.keyLits (m+1) 3 [a] with _ | x
    ·rw [e1] at h
     simp at h
    ·rcases e2:prog.keyLits (m+1) 3 [b] with _ | y
     ·rw [e1,e2] at h
      simp at h
     ·obtain ⟨n,h5,_⟩:=keyLits_int' underlying3 e1
      obtain ⟨m',h8,_⟩:=keyLits_int' underlying3 e2;obtain rfl:a = .int .i64 n:=by simpa using h5
      obtain rfl:b = .int .i64 m':=by simpa using h8
      refine ⟨n,m',rfl,?_,?_⟩
      ·rw [Ob] at e1
       by_cases g:(Lit.int .i64 n).wf=true
       ·exact g
       ·rw [am g] at e1;cases e1
      ·rw [Ob] at e2
       by_cases g:(Lit.int .i64 m').wf=true
       ·exact g
       ·rw [am g] at e2;cases e2
 ·cases h
def pk (f r:Int):Lit:=.string (keyBytes [.int .i64 f,.int .i64 r])
theorem K6 (h1:Wf f) (h2:Wf r) (h3:Wf f') (h4:Wf r') (e:pk f r=pk f' r'):f=f'/\r=r':=by
 have k1:=aaQ h1 h2;have k2:=aaQ h3 h4;rw [show Lit.string (keyBytes [.int .i64 f',.int .i64 r'])=pk f r from e.symm] at k2;have:=qX.inj k1 k2;unfold Tz at this;injection this with this;have e1:=c8 (fun t:Array Value=>t[0]?) this;have e2:=c8 (fun t:Array Value=>t[1]?) this
 simp at e1 e2
 exact ⟨e1,e2⟩
structure Gm (w:World) (b N:Nat) (t:List E5) (vs:Int->Int->Value) (D:DataW Value):Prop where
 own:w.ownsMap prog 265 Rh b N D
 has:∀ f r,Wf f->Wf r->Maps.has D (pk f r)=decide (fU t f r≠[])
 val:∀ f r,Wf f->Wf r->fU t f r≠[]->∀ z,D.atKey (pk f r) z = .held (vs f r)
 nil:∀ f r,fU t f r = []->vs f r = .slice none 0 0
 row:∀ f r,Ow K5 w (b+1) 170 (vs f r) (fU t f r)
 far:∀ f r f' r',¬ (f=f'/\r=r')->∀ k,(vs f r).ownBlock=some k->(vs f' r').ownBlock≠some k
theorem abg (w:World):(zeroValue 126).run prog w = .ok (.slice none 0 0) w:=by kernel_rfl
section
variable {w w':World} {b N:Nat} {t:List E5} {vs:Int->Int->Value} {D:DataW Value}
theorem aaY (f r:Int):fU [] f r = []:=rfl
theorem ac9 (w:World):Gm (w.alloc (.map #[] 0)) w.heap.size 0 [] (fun _ _=>.slice none 0 0) (.map []) :=
 ⟨World.ownsMap_made _ _ _ _,fun _ _ _ _=>by simp [aaY,Maps.has],fun _ _ _ _ h=>absurd rfl h,fun _ _ _=>rfl,fun _ _=>Ow.nil _ _ _,fun _ _ _ _ _ k h=>by simp [Value.ownBlock] at h⟩
theorem Gm.below (G:Gm w b N t vs D) (hb:Below w.heap.size w w'):Gm w' b N t vs D :=
 ⟨G.own.kept (Fs.vD hb) (fun h=>by cases h),G.has,G.val,G.nil,fun f r=>(G.row f r).keep hb,G.far⟩
theorem kV (t:List E5) (x:E5) (f r:Int):fU (t ++ [x]) f r=if mt f r x=true then fU t f r ++ [x] else fU t f r:=by
 unfold fU;rw [List.filter_append]
 by_cases h:mt f r x=true
 ·simp [h]
 ·simp [h]
def upP (vs:Int->Int->Value) (f r:Int) (u:Value) (a c:Int):Value:=if a=f/\c=r then u else vs a c
theorem Gm.step (G:Gm w b N t vs D) (hN:N < maxLen) {x:E5} (h2:x.1=2) (hf:Wf x.2.2.1) (hr:Wf x.2.2.2.1) :
 ∃ st w1,(Instr.mapEntry 262 (.map (some b)) (Tz x.2.2.1 x.2.2.2.1)).run prog w = .ok (.tuple #[vs x.2.2.1 x.2.2.2.1,.int .i64 ((st:Nat):Int)]) w1/\w.grownBy w1 (some b)/\w1.heap.size=w.heap.size /\
  ∀ w2 u,w1.grownBy w2 (vs x.2.2.1 x.2.2.2.1).ownBlock->Ow K5 w2 (b+1) 170 u (fU t x.2.2.1 x.2.2.2.1 ++ [x])->(u.ownBlock=(vs x.2.2.1 x.2.2.2.1).ownBlock\/∃ g,u.ownBlock=some g/\w1.heap.size<=g) ->
   ∃ w3 D',(Instr.entryStore 262 (.map (some b)) (.int .i64 ((st:Nat):Int)) u).run prog w2 = .ok () w3/\w2.grownBy w3 (some b)/\Gm w3 b (N+1) (t ++ [x]) (upP vs x.2.2.1 x.2.2.2.1 u) D':=by
 obtain ⟨k,s,f,r,y⟩:=x;simp only at h2 hf hr ⊢;subst h2;have hkey:=aaQ hf hr;obtain ⟨es,clock,hb,F,hs,hD⟩:=G.own;obtain ⟨v0,st,es1,clock1,hE,hcase,hS⟩:=WideElems.entry_then_store (w:=w) ae0 underlying262 abg hb F hkey;have hv0:v0=vs f r:=by
  have hl:=Maps.fit_look false qX underlying262 (abg w) hb F hkey;rw [← hD] at hl
  rcases hl with ⟨_,hno,hat⟩ | ⟨e1,y1,hm1,hk1,_,hR,hat,_⟩
  ·have h1:Maps.has D (pk f r)=false:=has_false_of_atKey hat
   rw [G.has f r hf hr,decide_eq_false_iff_not,Classical.not_not] at h1;rw [G.nil f r h1]
   rcases hcase with ⟨e0,hm0,hk0,_⟩ | ⟨_,hz⟩
   ·exact absurd hk0 (hno e0 hm0)
   ·exact hz
  ·have h1:Maps.has D (pk f r)=true:=has_true_of_atKey hat
   rw [G.has f r hf hr,cL] at h1;have h3:=(hat .nil).symm.trans (G.val f r hf hr h1 .nil);have h4:y1=(.held e1.val,[]):=by simp [Rh] at hR;exact hR.symm
   rw [h4] at h3;injection h3 with h3
   rcases hcase with ⟨e0,hm0,hk0,hv⟩ | ⟨hno,_⟩
   ·have he:=entry_eq_of_key ((MapKept.stamped_iff es clock).1 F.stamped).2.2 hm0 hm1 (hk0.trans hk1.symm)
    rw [hv,he,h3]
   ·exact absurd hk1 (hno e1 hm1)
 subst hv0;have hg1:w.grownBy (ChangeMaps.setBlock w b (.map es1 clock1)) (some b):=⟨rfl,rfl,rfl,by simp [ChangeMaps.setBlock],fun i _ hi=>ChangeMaps.heap_setBlock_other hb _ (fun e=>hi (by rw [e]))⟩;have hb1:(ChangeMaps.setBlock w b (.map es1 clock1)).heap[b]? = some (.map es1 clock1):=ChangeMaps.heap_setBlock_same hb _;have hz1:(ChangeMaps.setBlock w b (.map es1 clock1)).heap.size=w.heap.size:=by simp [ChangeMaps.setBlock]
 have hbl:b < w.heap.size:=G.own.lt;have ownb:∀ a c,(vs a c).ownBlock≠some b:=fun a c e=>by have:=ci (G.row a c) b e;omega
 refine ⟨st,_,hE,hg1,hz1,fun w2 u hg2 hu hub=>?_⟩;have hb2:w2.heap[b]? = some (.map es1 clock1):=(hg2.block b (by rw [hz1];exact hbl) (fun e=>ownb f r e.symm)).trans hb1;obtain ⟨es',clock',hS1,hS2⟩:=hS w2 u hb2;obtain ⟨w',hU,hO,_⟩:=G.own.update qX underlying262 hN hkey (val:=u) (d:=.held u) (ps:=[]) rfl;have hw':w'=ChangeMaps.setBlock w b (.map es' clock'):=by
  rw [hU] at hS2;injection hS2
 subst hw';have hg3:w2.grownBy (ChangeMaps.setBlock w2 b (.map es' clock')) (some b):=⟨rfl,rfl,rfl,by simp [ChangeMaps.setBlock],fun i _ hi=>ChangeMaps.heap_setBlock_other hb2 _ (fun e=>hi (by rw [e]))⟩;have hO3:(ChangeMaps.setBlock w2 b (.map es' clock')).ownsMap prog 265 Rh b (N+1) (D.put (pk f r) (.held u)):=by
  obtain ⟨es3,clock3,q1,q2,q3,q4⟩:=hO;rw [ChangeMaps.heap_setBlock_same hb] at q1;exact ⟨es3,clock3,(ChangeMaps.heap_setBlock_same hb2 _).trans q1,q2,q3,q4⟩
 have hself:mt f r (2,s,f,r,y)=true:=by simp [mt]
 have hoth:∀ a c,¬ (a=f/\c=r)->mt a c (2,s,f,r,y)=false:=fun a c h=>by
  unfold mt;rw [ai];rintro ⟨_,h1,h2⟩;exact h ⟨h1.symm,h2.symm⟩
 have ownu:∀ k,u.ownBlock=some k->b+1<=k/\k < w2.heap.size:=fun k e=>ci hu k e;have hdiff:∀ a c,¬ (a=f/\c=r)->∀ k,(vs a c).ownBlock=some k->u.ownBlock≠some k:=fun a c h k hk e=>by
  rcases hub with e2 | ⟨g,e2,hg⟩
  ·exact G.far a c f r h k hk (e2.symm.trans e)
  ·rw [e2] at e
   injection e with e;have:=(ci (G.row a c) k hk).2
   omega
 refine ⟨_,_,hS1,hg3,hO3,fun a c ha hc=>?_,fun a c ha hc hne z=>?_,fun a c hn=>?_,fun a c=>?_,fun a c a' c' hne k hk=>?_⟩
 ·rw [kV]
  by_cases e:a=f/\c=r
  ·obtain ⟨rfl,rfl⟩:=e
   rw [show Maps.has (D.put (pk a c) (.held u)) (pk a c)=true from has_put_same G.own.isMap (qX.key hkey) _,hself,aw rfl]
   simp
  ·rw [has_put_other (fun e2=>e (K6 ha hc hf hr e2)),hoth a c e,am (by simp)]
   exact G.has a c ha hc
 ·rw [kV] at hne
  unfold upP
  by_cases e:a=f/\c=r
  ·obtain ⟨rfl,rfl⟩:=e
   rw [aw ⟨rfl,rfl⟩];exact atKey_put_same G.own.isMap (qX.key hkey) _ _
  ·rw [hoth a c e,am (by simp)] at hne
   rw [atKey_put_other (fun e2=>e (K6 ha hc hf hr e2)),am e];exact G.val a c ha hc hne z
 ·rw [kV] at hn
  unfold upP
  by_cases e:a=f/\c=r
  ·obtain ⟨rfl,rfl⟩:=e
   rw [hself,aw rfl] at hn
   simp at hn
  ·rw [hoth a c e,am (by simp)] at hn
   rw [am e];exact G.nil a c hn
 ·rw [kV]
  unfold upP
  by_cases e:a=f/\c=r
  ·obtain ⟨rfl,rfl⟩:=e
   rw [hself,aw rfl,aw ⟨rfl,rfl⟩];exact ii hu hg3 (.inr fun e2=>by have:=(ownu b e2).1;omega)
  ·rw [hoth a c e,am e,am dr]
   have r1:=ii (G.row a c) hg1 (.inr (ownb a c))
   have r2:=ii r1 hg2 (by
    rcases e3:(vs a c).ownBlock with _ | k
    ·exact .inl rfl
    ·exact .inr fun e4=>G.far a c f r e k e3 e4.symm)
   exact ii r2 hg3 (.inr (ownb a c))
 ·unfold upP at hk ⊢
  by_cases e:a=f/\c=r
  ·rw [aw e] at hk
   by_cases e':a'=f/\c'=r
   ·exact absurd ⟨e.1.trans e'.1.symm,e.2.trans e'.2.symm⟩ hne
   ·rw [am e']
    exact fun e4=>hdiff a' c' e' k e4 hk
  ·rw [am e] at hk
   by_cases e':a'=f/\c'=r
   ·rw [aw e']
    exact hdiff a c e k hk
   ·rw [am e']
    exact G.far a c a' c' hne k hk
end
theorem LH {ops:Array Oper} {rest:List Oper} {o:Oper} {a:Act} {w:World} {Q:Exit->Act->World->Prop} (hgd:o.guard=none) (s x:Operand)
 (ho:o.op = .call { callee:=.builtin .append,args:=#[s,x],argTypes:=#[126,126] }) (B:Nat) (v:Value) (l:List E5) (hs:a.eval s=v) (hown:Ow K5 w B 170 v l)
 (ad:Addr) (c:E5) (hx:a.eval x = .slice (some ad) 1 1) (hc:∀ j u,(K5.enc c)[j]? = some u->w.cell? (ad.add j)=some u) (hlen:l.length < 100000) (hB:B<=w.heap.size)
 (h:∀ v' w',Ow K5 w' B 170 v' (l ++ [c])->w.grownBy w' v.ownBlock->(v'.ownBlock=v.ownBlock\/∃ g,v'.ownBlock=some g/\w.heap.size<=g)->wpList prog ops Q rest (a.put o.dst v') w'):wpList prog ops Q (o :: rest) a w:=by
 obtain ⟨i0,hi0,hz0,hz1,hz2⟩:=ew Ro.Vp;refine wpList_append_own_at _ hgd s x 126 ho B 170 i0 _ 5 40 underlying126 hi0 hz0 hz1 hz2 rfl (by omega) v l.length (K5.flat l) hs hown ad 1 1 (K5.enc c) hx (by rw [K5.len];rfl) hc (K5.one c) (by unfold maxLen;omega) (by omega) hB ?_
 intro v' w' h2 h3 _ h5
 exact h v' w' (Rw.Ow.push h2) h3 (h5.imp id fun e=>⟨_,e,ac _⟩)
end Pa
namespace Ro
open Fl (aC)
attribute [local irreducible] wpQuiet
def iN (x:E5):Array Value:=#[.int .i64 x.1,.int .i64 x.2.1,.int .i64 x.2.2.1,.int .i64 x.2.2.2.1,.int .i64 x.2.2.2.2]
theorem Nq (w:World):Calls prog 189 #[] w fun e w'=>e = .returned (fM DU)/\Below w.heap.size w w':=by
 go_enter func189,ntmps189
 go_wp2
 (try simp only [Exit.inBlock,Exit.then])
 refine bp (v:=fM DU) ?_ rfl ⟨rfl,?_⟩
 ·exact results_cell_row (p:=0) rfl _ _ w.heap.size 170 _ (0,0) _ rfl (bc w _) underlying170 rfl (by show _=some 5;kernel_rfl)
 ·exact (aa w.heap.size w).alloc (ac _) _
theorem qo (w:World) (k s f r b:Int):Calls prog 188 #[.agg #[.int .i64 k,.int .i64 s,.int .i64 f,.int .i64 r,.int .i64 b]] w fun e w'=>e = .returned (.bool (Mq s f r))/\Below w.heap.size w w':=by
 have B0:=Hh ((aa w.heap.size w).alloc (ac _) (.cells #[.int .i64 k,.int .i64 s,.int .i64 f,.int .i64 r,.int .i64 b] 170))
 by_cases h1:1<=s
 ·by_cases h2:s<=16
  ·by_cases h3:0<=f
   ·by_cases h4:f < 64
    ·by_cases h5:1<=r
     ·by_cases h6:r < 256
      ·have E:=Hh (bj (show place s f r by unfold place;omega)).symm
       go_enter func188,ntmps188
       go_wp2
       go_ret
       exact ⟨aC E,B0⟩
      ·have E:=Hh (ai (show ¬ place s f r by unfold place;omega)).symm
       go_enter func188,ntmps188
       go_wp2
       go_ret
       exact ⟨aC E,B0⟩
     ·have E:=Hh (ai (show ¬ place s f r by unfold place;omega)).symm
      go_enter func188,ntmps188
      go_wp2
      go_ret
      exact ⟨aC E,B0⟩
    ·have E:=Hh (ai (show ¬ place s f r by unfold place;omega)).symm
     go_enter func188,ntmps188
     go_wp2
     go_ret
     exact ⟨aC E,B0⟩
   ·have E:=Hh (ai (show ¬ place s f r by unfold place;omega)).symm
    go_enter func188,ntmps188
    go_wp2
    go_ret
    exact ⟨aC E,B0⟩
  ·have E:=Hh (ai (show ¬ place s f r by unfold place;omega)).symm
   go_enter func188,ntmps188
   go_wp2
   go_ret
   exact ⟨aC E,B0⟩
 ·have E:=Hh (ai (show ¬ place s f r by unfold place;omega)).symm
  go_enter func188,ntmps188
  go_wp2
  go_ret
  exact ⟨aC E,B0⟩
theorem zY (w:World) (k s f r b L:Int) (hk:(k=1\/k=2)/\L=3\/k=3/\L=0):Calls prog 166 #[.agg #[.int .i64 k,.int .i64 s,.int .i64 f,.int .i64 r,.int .i64 b]] w fun e w'=>e = .returned (.bool (xU (k,s,f,r,b)))/\Below w.heap.size w w':=by
 have B0:=Hh ((aa w.heap.size w).alloc (ac _) (.cells #[.int .i64 k,.int .i64 s,.int .i64 f,.int .i64 r,.int .i64 b] 170))
 have EQ:Hid (fZ (k,s,f,r,b)↔place s f r/\0<=b/\b<=L):=Hh (by
  unfold fZ place;simp only
  omega)
 have PA:=Hh (fun w=>qo w k s f r b)
 by_cases hp:place s f r
 ·have PP:=Hh (bj hp)
  unfold Mq at PA;rw [PP.out] at PA;have HP:=Hh hp;clear hp PP
  by_cases h1:0<=b
  ·have E:Hid (decide (b<=L)=xU (k,s,f,r,b)):=Hh (cU.2 ⟨fun h=>EQ.out.2 ⟨HP,h1,h⟩,fun h=>(EQ.out.1 h).2.2⟩)
   clear EQ HP
   rcases hk with ⟨rfl | rfl,rfl⟩ | ⟨rfl,rfl⟩
   all_goals
    go_enter func166,ntmps166
    go_wp2_with fail;refine (PA _).mono ?_;rintro e w1 ⟨rfl,b1⟩;have c4:w1.cell? ⟨w.heap.size,4,none⟩=some (.int .i64 b):=(b1.cell (by simp)).trans (by go_simp);have B1:=aW B0 b1;clear b1;go_wp2
    go_ret
    exact ⟨aC E,B1⟩
  ·have E:=Hh (ai (fun h=>h1 (EQ.out.1 h).2.1)).symm
   clear EQ HP
   rcases hk with ⟨rfl | rfl,rfl⟩ | ⟨rfl,rfl⟩
   all_goals
    go_enter func166,ntmps166
    go_wp2_with fail;refine (PA _).mono ?_;rintro e w1 ⟨rfl,b1⟩;have c4:w1.cell? ⟨w.heap.size,4,none⟩=some (.int .i64 b):=(b1.cell (by simp)).trans (by go_simp);have B1:=aW B0 b1;clear b1;go_wp2
    go_ret
    exact ⟨aC E,B1⟩
 ·have E:=Hh (ai (fun h=>hp (EQ.out.1 h).1)).symm
  have PP:=Hh (ai hp);unfold Mq at PA;rw [PP.out] at PA;clear hp PP EQ
  rcases hk with ⟨rfl | rfl,rfl⟩ | ⟨rfl,rfl⟩
  all_goals
   go_enter func166,ntmps166
   go_wp2_with fail;refine (PA _).mono ?_;rintro e w1 ⟨rfl,b1⟩;have c4:w1.cell? ⟨w.heap.size,4,none⟩=some (.int .i64 b):=(b1.cell (by simp)).trans (by go_simp);have B1:=aW B0 b1;clear b1;go_wp2
   go_ret
   exact ⟨aC E,B1⟩
theorem Xr (w:World) (s f r b:Int):Calls prog 166 #[.agg #[.int .i64 4,.int .i64 s,.int .i64 f,.int .i64 r,.int .i64 b]] w fun e w'=>e = .returned (.bool (xU (4,s,f,r,b)))/\Below w.heap.size w w':=by
 have B0:=Hh ((aa w.heap.size w).alloc (ac _) (.cells #[.int .i64 4,.int .i64 s,.int .i64 f,.int .i64 r,.int .i64 b] 170))
 have EQ:fZ (4,s,f,r,b)↔(s=0/\f=0/\r=0/\b=0):=⟨fun h=>by
  rcases h with h | h
  ·exact absurd h.2.1 (show ¬ (4:Int)<=3 by decide)
  ·exact h.2,fun h=>.inr ⟨rfl,h⟩⟩
 have E:Hid ((decide (s=0) && (decide (f=0) && (decide (r=0) && decide (b=0))))=xU (4,s,f,r,b)):=Hh (by
  rw [show xU (4,s,f,r,b)=decide (s=0/\f=0/\r=0/\b=0) from cU.2 EQ]
  simp only [Bool.decide_and])
 clear EQ;have es:=VF ((4:Int),s,f,r,b) DU;simp only [DU] at es;have EE:=Hh (fun w=>Nq w);unfold fM at EE;simp only [DU] at EE;have k0:=Qb.aL (show (w.alloc (.cells #[.int .i64 4,.int .i64 s,.int .i64 f,.int .i64 r,.int .i64 b] 170)).cell? ⟨w.heap.size,0,none⟩=some (.int .i64 4) by go_simp);have k1:=Qb.aL (show (w.alloc (.cells #[.int .i64 4,.int .i64 s,.int .i64 f,.int .i64 r,.int .i64 b] 170)).cell? ⟨w.heap.size,1,none⟩=some (.int .i64 s) by go_simp);have k2:=Qb.aL (show (w.alloc (.cells #[.int .i64 4,.int .i64 s,.int .i64 f,.int .i64 r,.int .i64 b] 170)).cell? ⟨w.heap.size,2,none⟩=some (.int .i64 f) by go_simp);have k3:=Qb.aL (show (w.alloc (.cells #[.int .i64 4,.int .i64 s,.int .i64 f,.int .i64 r,.int .i64 b] 170)).cell? ⟨w.heap.size,3,none⟩=some (.int .i64 r) by go_simp);have k4:=Qb.aL (show (w.alloc (.cells #[.int .i64 4,.int .i64 s,.int .i64 f,.int .i64 r,.int .i64 b] 170)).cell? ⟨w.heap.size,4,none⟩=some (.int .i64 b) by go_simp)
 go_enter func166,ntmps166
 go_wp2_with fail;refine Qb.fG (by kernel_rfl) (by kernel_rfl) ?_
 repeat (quiet_step ((go_at_call 189;with_reducible exact Qb.of_below (EE.out _))))
 refine bk ?_
 intro _ hw'
 obtain ⟨pp,rfl⟩:=hw';go_wp2
 go_ret
 exact ⟨aC E,B0.trans (pp.below.mono B0.size)⟩
theorem Sr (w:World) (k s f r b:Int) (h1:k≠1) (h2:k≠2) (h3:k≠3) (h4:k≠4):Calls prog 166 #[.agg #[.int .i64 k,.int .i64 s,.int .i64 f,.int .i64 r,.int .i64 b]] w fun e w'=>e = .returned (.bool (xU (k,s,f,r,b)))/\Below w.heap.size w w':=by
 have B0:=Hh ((aa w.heap.size w).alloc (ac _) (.cells #[.int .i64 k,.int .i64 s,.int .i64 f,.int .i64 r,.int .i64 b] 170));have E:=Hh (ai (show ¬ fZ (k,s,f,r,b) by unfold fZ;simp only;omega)).symm
 go_enter func166,ntmps166
 go_wp2
 go_ret
 exact ⟨aC E,B0⟩
theorem bJ (w:World) (x:E5):Calls prog 166 #[fM x] w fun e w'=>e = .returned (.bool (xU x))/\Below w.heap.size w w':=by
 obtain ⟨k,s,f,r,b⟩:=x
 show Calls prog 166 #[.agg #[.int .i64 k,.int .i64 s,.int .i64 f,.int .i64 r,.int .i64 b]] w _
 by_cases h1:k=1
 ·exact zY w k s f r b 3 (.inl ⟨.inl h1,rfl⟩)
 ·by_cases h2:k=2
  ·exact zY w k s f r b 3 (.inl ⟨.inr h2,rfl⟩)
  ·by_cases h3:k=3
   ·exact zY w k s f r b 0 (.inr ⟨h3,rfl⟩)
   ·by_cases h4:k=4
    ·subst h4;exact Xr w s f r b
    ·exact Sr w k s f r b h1 h2 h3 h4
end Ro
namespace Pa
open Go.Maps
open Ro (bJ)
attribute [local irreducible] Sd.bA wpQuiet
structure RcI (w:World) (t:List E5) (k:Nat) (N:Nat) (vs:Int->Int->Value) (D:DataW Value) (wr:World):Prop where
 gm:Gm wr w.heap.size N (t.take k) vs D
 le:N<=k
 aI:Below w.heap.size w wr
theorem RcI.below {w:World} {t:List E5} {k N:Nat} {vs:Int->Int->Value} {D:DataW Value} {wr wr':World} (h:Hid (RcI w t k N vs D wr)) (b:Below wr.heap.size wr wr'):Hid (RcI w t k N vs D wr'):=⟨h.out.gm.below b,h.out.le,h.out.aI.trans (b.mono h.out.aI.size)⟩
def Gr (w:World) (t:List E5) (e:Ending) (w':World):Prop:=∃ b N vs D,e = .returned (.map (some b))/\Gm w' b N t vs D/\w.heap.size<=b/\N<=t.length/\Below w.heap.size w w'
variable {w wr wr' w' w1 w2:World} {b N j gv s iM g B0 B1 cnt':Nat} {t t' l:List E5} {vs:Int->Int->Value} {D:DataW Value}
theorem Gm.to (h:Gm w b N t vs D) (e:∀ f r,fU t f r=fU t' f r):Gm w b N t' vs D :=
 ⟨h.own,fun f r hf hr=>by rw [← e f r];exact h.has f r hf hr,fun f r hf hr hg=>h.val f r hf hr (by rw [e f r];exact hg),fun f r hg=>h.nil f r (by rw [e f r];exact hg),fun f r=>by rw [← e f r];exact h.row f r,h.far⟩
theorem Fv (w:World) (v:Value) (t:List E5) (R:Rd K5 w v t) (ok:∀ x∈t,fZ x) (hl:t.length<=1000):Calls prog 146 #[v] w (Gr w t):=by
 have OK:Hid (∀ k,k < t.length->fZ (bO t k)):=fun k hk=>ok _ (Ro.gQ hk);have hmm:=@run_makeMap prog;have G0:Hid (RcI w t 0 0 (fun _ _=>.slice none 0 0) (.map []) (w.alloc (.map #[] 0))):=⟨ac9 w,ac _,(aa w.heap.size w).alloc (ac _) _⟩;obtain ⟨a,cap,rfl,_,hm,hA⟩:=R;have HA:=Hh hA;clear hA ok;generalize hn:t.length=n at *;have HN:=Hh hn;clear hn
 go_enter func146,ntmps146
 go_wp2;clear hmm
 go_loopw [10] (fun i wr=>∃ (k:Nat) (N:Nat) (vs:Int->Int->Value) (D:DataW Value),k<=n/\i = .int .i64 k/\Hid (RcI w t k N vs D wr)) (fun i _=>n - (intOf i).toNat)
 case atStart=>exact ⟨0,0,_,_,cg _,rfl,G0⟩
 case round =>
  obtain ⟨k,N,vs,D,hk,rfl,I⟩:=hrel;clear G0
  by_cases hlt:k < n
  ·obtain ⟨b,off,rfl,A⟩:=HA (by omega)
   obtain ⟨c0,c1,c2,c3,c4⟩:=vK (A.below I.aI) k (by have:=HN.out;omega);rw [show t.getD k z5=bO t k from rfl] at c0 c1 c2 c3 c4;have oke:=OK.out k (by have:=HN.out;omega);have TK:=Hh (kU (t:=t) (j:=k) (by have:=HN.out;omega));have NO:Hid ((bO t k).1≠2->Hid (RcI w t (k+1) N vs D wr)):=fun h=>⟨I.gm.to (fun f r=>by rw [TK.out,kV,am];simp [mt,h]),by have:=I.out.le;omega,I.out.aI⟩;clear A OK;generalize bO t k=x at *;obtain ⟨q,s,f,r,y⟩:=x;simp only at c0 c1 c2 c3 c4 NO;have GA:=Hh (fun w=>bJ w (q,s,f,r,y));rw [og oke] at GA;unfold fM at GA;simp only at GA;have OKE:=Hh oke;clear oke
   by_cases h2:q=2
   ·clear NO
    subst h2;obtain ⟨_,_,⟨f0,f1⟩,⟨r0,r1⟩,_⟩:=bS OKE;simp only at f0 f1 r0 r1;have WF:=Hh (rZ (n:=f) ⟨f0,by omega⟩);have WR:=Hh (rZ (n:=r) ⟨r0,by omega⟩);clear f0 f1 r0 r1;go_wp2_with fail;refine (GA _).mono ?_;rintro e w1 ⟨rfl,b1⟩;have X1:=Hh ((b1.block _ (by simp)).trans (bc wr _));have B1:=Hh (((aa wr.heap.size wr).alloc (ac _) _).trans (b1.mono (by simp)));have x2:=Fl.rc X1 2;have x3:=Fl.rc X1 3;clear b1 c0 c1 c2 c3 c4 GA;go_upto_region 7 with fail;have P2:Hid ((w1.alloc (.cells #[.int .i64 f,.int .i64 r] 265)).heap[w1.heap.size]? = some (.cells #[.int .i64 f,.int .i64 r] 265 (0,0))):=Hh (bc w1 _);have B2:Hid (Below w1.heap.size w1 (w1.alloc (.cells #[.int .i64 f,.int .i64 r] 265))):=Hh ((aa w1.heap.size w1).alloc (ac _) _);clear x2 x3;generalize (w1.alloc (.cells #[.int .i64 f,.int .i64 r] 265))=W at *;have X2:=Hh (jf B2 X1);have GB:=aW B1 B2;have hgw:=bm P2;generalize w1.heap.size=g2 at *;clear B1 B2 X1;obtain ⟨p0,p1⟩:=pI P2;have x0:=Fl.rc X2 0;have x1:=Fl.rc X2 1;have x2:=Fl.rc X2 2;have x3:=Fl.rc X2 3;have x4:=Fl.rc X2 4;have bL:=(aa W.heap.size W).alloc (ac _) (.cells #[.int .i64 2,.int .i64 s,.int .i64 f,.int .i64 r,.int .i64 y] 170);have GM:=(I.gm.below (GB.trans (bL.mono (GB.size)))).step (x:=(2,s,f,r,y)) (by have:=I.out.le;unfold maxLen;omega) rfl WF.out WR.out;obtain ⟨st,w2,hE,hg2,hz2,hS⟩:=GM;simp only at hE hS;have hwb:=I.gm.own.lt;have hr2:=ii (fY ((I.gm.row f r).keep GB) (.cells #[.int .i64 2,.int .i64 s,.int .i64 f,.int .i64 r,.int .i64 y] 170)) hg2 (.inr fun e=>by have:=ci (I.out.gm.row f r) _ e;omega);have L2:=Hh ((hg2.block _ (by simp) (fun e=>by have:=cP e;have:=GB.out.size;omega)).trans (bc W _));have hz3:W.heap.size+1=w2.heap.size:=by rw [hz2];simp
    have BW:=Hh (((I.aI.trans (GB.mono I.aI.size)).alloc (by have:=GB.out.size;omega) (.cells #[.int .i64 2,.int .i64 s,.int .i64 f,.int .i64 r,.int .i64 y] 170)).grown hg2 (by have:=GB.out.size;simp;omega) (fun k e=>by injection e with e;omega));have O2:Hid (Ow K5 w2 (w.heap.size+1) 170 (vs f r) (fU (t.take k) f r)):=Hh hr2;have gw:=GB.size;have HX:=Hh (db hwb (db hz3 gw));have GX:=Hh hS;obtain ⟨av,cv,ev,_⟩:=O2.slice;generalize hgl:(fU (t.take k) f r).length=gl at ev;have HGL:=Hh hgl;have EV:=Hh ev;unfold Tz at hE;rw [ev] at hE O2;clear hg2 hz2 hS bL hr2 hwb hz3 gw ev hgl
    go_wp2_with (at_builtin;refine LH rfl _ _ rfl (w.heap.size+1) _ _ rfl O2 _ ((2,s,f,r,y):E5) rfl ?d1 ?d2 ?d3 ?_)
    case d1 =>
     intro j u hu
     match j,hu with
     | 0,hu=>simp [K5] at hu;subst hu;exact ah L2.out 0
     | 1,hu=>simp [K5] at hu;subst hu;exact ah L2.out 1
     | 2,hu=>simp [K5] at hu;subst hu;exact ah L2.out 2
     | 3,hu=>simp [K5] at hu;subst hu;exact ah L2.out 3
     | 4,hu=>simp [K5] at hu;subst hu;exact ah L2.out 4
     | j+5,hu=>simp [K5] at hu
    case d2 =>
     have:=List.length_filter_le (mt f r) (t.take k);have h2:(t.take k).length<=1000:=by rw [cH];have:=HN.out;omega
     unfold fU
     omega
    case d3=>have:=HX.out;omega
    intro v' w3 o3 g3 h3
    have hS:=GX.out;rw [EV.out] at hS;obtain ⟨w4,D',hS4,g4,G4⟩:=hS w3 v' g3 o3 (h3.imp id fun ⟨g,e,h⟩=>⟨g,e,h⟩);obtain ⟨av',cv',ev',_⟩:=o3.slice;generalize (fU (t.take k) f r ++ [((2,s,f,r,y):E5)]).length=gl' at ev';subst ev';have NEW:Hid (RcI w t (k+1) (N+1) (upP vs f r (.slice av' gl' cv')) D' w4):=Hh ⟨by rw [TK.out];exact G4,by have:=I.out.le;omega,(BW.out.grown g3 (by have:=HX.out;omega) (fun k e=>by have:=ci O2.out k e;omega)).grown g4 (by have:=HX.out;have:=g3.size;omega) (fun k e=>by injection e with e;omega)⟩;clear hS o3 g3 h3 g4 G4 hE;go_wp2
    go_roundw
    case rel=>exact ⟨k+1,N+1,_,D',by omega,by go_num,NEW⟩
    case measure=>simp [intOf];omega
   ·have NN:=NO.out h2
    clear NO;have d2:(q == 2)=false:=by simpa using h2
    clear h2;go_wp2
    go_roundw
    case rel=>exact ⟨k+1,N,vs,D,by omega,by go_num,RcI.below NN ((aa wr.heap.size wr).alloc (ac _) _)⟩
    case measure=>simp [intOf];omega
  ·obtain rfl:k=n:=by omega
   have E:Hid (Gr w t (.returned (.map (some w.heap.size))) wr):=⟨_,N,vs,D,rfl,by have h:=I.out.gm;rw [← HN.out,cW] at h;exact h,ac _,by have:=I.out.le;have:=HN.out;omega,I.out.aI⟩;go_wp2
   go_ret
   exact E
theorem Ih (v:R4) (x:Int) (hj:j < 4):(aY v).setIfInBounds j (.int .u8 x)=aY (rs v j x):=by
 obtain rfl | rfl | rfl | rfl:j=0\/j=1\/j=2\/j=3:=by omega
 all_goals rfl
theorem G8 (v:R4) (hj:j < 4):(aY v)[j]? = some (.int .u8 (rb v j)):=by
 obtain rfl | rfl | rfl | rfl:j=0\/j=1\/j=2\/j=3:=by omega
 all_goals rfl
structure ZC (w:World) (f r:Int) (gv:Nat) (v:R4) (wr:World):Prop where
 aI:Below w.heap.size w wr
 box:wr.heap[w.heap.size]? = some (.cells #[.int .i64 f,.int .i64 r] 265 (0,0))
 C9:wr.heap[gv]? = some (.cells (aY v) 42 (0,0))
 gt:w.heap.size < gv
variable {f r k d n:Int}
theorem ZC.below {v:R4} (h:ZC w f r gv v wr) (b:Below wr.heap.size wr wr'):ZC w f r gv v wr' :=
 ⟨h.aI.trans (b.mono h.aI.size),jf b h.box,jf b h.C9,h.gt⟩
theorem ZC.put {v:R4} (h:ZC w f r gv v wr) (hj:j < 4) (x:Int):ZC w f r gv (rs v j x) (wr.setCell ⟨gv,j,none⟩ (.int .u8 x)) :=
 ⟨h.aI.setCell (by have:=h.gt;simp;omega) _,(bt _ _ _ _ (by have:=h.gt;simp;omega)).trans h.box,by rw [Rw.aB h.C9,Ih v x hj],h.gt⟩
def D7 (w:World) (s:Nat) (F:Nat->Prop) (d:Int) (A':aU) (e:Ending) (w':World):Prop:=e = .returned (.tuple #[])/\St w' s (Fx F w w') A' d/\ay F w w'
variable {h:Hr}
theorem Us {k:Nat} (hk:k < l.length) (v:R4):mix h (l.take (k+1)) v=rs (mix h (l.take k) v) (bO l k).2.2.2.2 ((h (bO l k).2.1).getD 0):=by
 unfold mix;rw [kU hk,List.foldl_append]
 rfl
variable {v hv:Value} {F:Nat->Prop} {A A':aU}
theorem Jv (S:St w s F A d) (hf:Wf f) (R:Rd K5 w v l) (M:vw w hv h) (hh:TI h) (hl:∀ x∈l,Wf x.2.1/\0<=x.2.2.2.2/\x.2.2.2.2<=3) :
 Calls prog 147 #[.pointer (some ⟨s,0,none⟩),.agg #[.int .i64 f,.int .i64 r],v,hv] w (D7 w s F d (mY h l f r A)):=by
 have HL:Hid (∀ k,k < l.length->Wf (bO l k).2.1/\0<=(bO l k).2.2.2.2/\(bO l k).2.2.2.2<=3):=fun k hk=>hl _ (Ro.gQ hk);have G1:=Hh (fun W (b:Below w.heap.size w W)=>Fy (S.below b) hf r);have ok0:bQ (gV A f r):=by
  have hA:=S.okA;unfold gV
  split
  ·exact Fl.jZ
  ·rename_i e he
   split
   ·exact Fl.iH (hA.find he).2.2.1 _
   ·exact Fl.jZ
 have FIN:Hid (gB A f r=true->(∀ k,k < l.length->(h (bO l k).2.1).isSome=true)->mY h l f r A=sA A f r (mix h l (gV A f r))):=fun hg ha=>by
  unfold mY;rw [aw];rw [hg,Bool.true_and];unfold j3;rw [eh]
  intro x hx
  obtain ⟨k,hk,e⟩:=dy hx;have e':bO l k=x:=by rw [← e];unfold bO;rw [af,aq hk];rfl
  rw [← e'];exact ha k hk
 have NOG:Hid (gB A f r=false->mY h l f r A=A):=fun hg=>by unfold mY;rw [am (by simp [hg])]
 have NOH:Hid (∀ k,k < l.length->h (bO l k).2.1=none->mY h l f r A=A):=fun k hk e=>by
  unfold mY;rw [am]
  intro ha
  rw [ce] at ha;have:=eh.1 ha.2 _ (Ro.gQ hk);rw [e] at this
  cases this
 have SET:=Hh (fun W (b:Below w.heap.size w W)=>xW (S.below b) hf r (mix h l (gV A f r)) (Fp hh l ok0));have SAME:Hid (∀ W,Below w.heap.size w W->mY h l f r A=A->D7 w s F d (mY h l f r A) (.returned (.tuple #[])) W):=fun W b e=>⟨rfl,by rw [e];exact S.fx b,ay.of_below b⟩;have END:Hid (∀ W W' x b,Below w.heap.size w W->mY h l f r A=sA A f r x->jo W s F d b (sA A f r x) (.returned (.bool b)) W'->D7 w s F d (mY h l f r A) (.returned (.tuple #[])) W'):=fun W W' x b hb e ⟨_,q1,q2⟩=>by
  have o:=(ay.of_below (G:=F) hb).trans q2 fun _ _ g=>g
  exact ⟨rfl,by rw [e];exact q1.wide (fun k hk=>by
   rcases hk with hk | ⟨hk,hk2⟩
   ·exact .inl hk
   ·exact .inr ⟨cE hb.size hk,hk2⟩) (Fx.low S.low o.size),o⟩
 have MM:=Hh M;obtain ⟨a,cap,rfl,_,hm,hA⟩:=R;have HA:=Hh hA;unfold maxLen at hm;clear hA hl S M hh ok0;generalize hn:l.length=n at *;have HN:=Hh hn;clear hn;generalize gV A f r=v0 at *;have P0:Hid ((w.alloc (.cells #[.int .i64 f,.int .i64 r] 265)).heap[w.heap.size]? = some (.cells #[.int .i64 f,.int .i64 r] 265 (0,0))):=bc w _;have B0:Hid (Below w.heap.size w (w.alloc (.cells #[.int .i64 f,.int .i64 r] 265))):=(aa w.heap.size w).alloc (ac _) _
 go_enter func147,ntmps147
 go_wp2_with fail;generalize (w.alloc (.cells #[.int .i64 f,.int .i64 r] 265))=W at *;unfold dw at G1;unfold aH at G1;refine (G1.out W B0.out).mono ?_;rintro e w1 ⟨rfl,b1⟩;have I0:Hid (ZC w f r w1.heap.size v0 (w1.alloc (.cells #[.int .u8 v0.1,.int .u8 v0.2.1,.int .u8 v0.2.2.1,.int .u8 v0.2.2.2] 42))):=by
  have b2:=B0.out.trans (b1.mono B0.out.size);have p1:=(b1.block _ (bm P0.out)).trans P0.out;exact ⟨b2.alloc b2.size _,((aa w1.heap.size w1).alloc (ac _) _ |>.block _ (bm p1)).trans p1,bc w1 _,bm p1⟩
 clear P0 B0 b1 G1
 cases hg:gB A f r with
 | false =>
   have RES:=Hh (fun W b=>SAME.out W b (NOG.out hg));clear SAME NOG FIN NOH END SET hg;go_wp2;refine bp (results_none rfl _ _ _) rfl ?_;exact RES.out _ I0.out.aI
 | true =>
   have FN:=Hh (FIN.out hg);clear NOG FIN hg;go_upto_region 3 with fail;have hgv:=I0.out.gt;generalize (w1.alloc (.cells #[.int .u8 v0.1,.int .u8 v0.2.1,.int .u8 v0.2.2.1,.int .u8 v0.2.2.2] 42))=W0 at *;generalize w1.heap.size=gv at *;go_wp2
   go_loopw [27] (fun i wr=>∃ k:Nat,k<=n/\i = .int .i64 k/\Hid (ZC w f r gv (mix h (l.take k) v0) wr)/\Hid (∀ j,j < k->(h (bO l j).2.1).isSome=true)) (fun i _=>n - (intOf i).toNat)
   case atStart=>exact ⟨0,cg _,rfl,I0,fun j hj=>by omega⟩
   case round =>
    obtain ⟨k,hk,rfl,I,HS⟩:=hrel;clear I0
    by_cases hlt:k < n
    ·obtain ⟨b,off,rfl,A1⟩:=HA.out (by omega)
     obtain ⟨c0,c1,c2,c3,c4⟩:=vK (A1.below I.out.aI) k (by have:=HN.out;omega);rw [show l.getD k z5=bO l k from rfl] at c0 c1 c2 c3 c4;obtain ⟨ws,y0,y3⟩:=HL.out k (by have:=HN.out;omega);have MX:=Hh (Us (h:=h) (l:=l) (k:=k) (by have:=HN.out;omega) v0);have NH:Hid (h (bO l k).2.1=none->mY h l f r A=A):=fun e=>NOH.out k (by have:=HN.out;omega) e;have SN:Hid ((h (bO l k).2.1).isSome=true->∀ j,j < k+1->(h (bO l j).2.1).isSome=true):=fun g j hj=>by
      by_cases e:j=k
      ·rw [e];exact g
      ·exact HS.out j (by omega)
     clear A1 HS;generalize bO l k=x at *;obtain ⟨q,s',f',r',y⟩:=x;simp only at c0 c1 c2 c3 c4 ws y0 y3 MX NH SN;obtain ⟨j,rfl⟩:∃ j:Nat,y=j:=⟨y.toNat,by omega⟩;have hj:j < 4:=by omega
     have WS:=Hh ws;generalize mix h (l.take k) v0=vv at *;have I1:Hid (ZC w f r gv vv (wr.alloc (.cells #[.int .i64 q,.int .i64 s',.int .i64 f',.int .i64 r',.int .i64 (j:Int)] 170))):=I.out.below ((aa wr.heap.size wr).alloc (ac _) _);have M1:=Hh (MM.out.below I1.out.aI);have hfz:=aj I1.out.C9 j;have hcj:=(ah I1.out.C9 j).trans (G8 vv hj);clear ws y0 y3
     cases hs:h s' with
     | none =>
       have RES:=Hh (SAME.out _ I1.out.aI (NH.out hs));clear SAME NH NOH SN MX FN SET END
       go_wp2_with (at_lookup;refine JZ rfl _ _ rfl rfl M1.out s' rfl WS.out 0 false (by rw [hs];rfl) (by rw [hs];rfl) ?_)
       refine bp (results_none rfl _ _ _) rfl ?_;exact RES.out
     | some y =>
       have SS:=Hh (SN.out (by rw [hs];rfl));have MY:Hid (mix h (l.take (k+1)) v0=rs vv j y):=by rw [MX.out,hs];exact Hh rfl
       have I2:=Hh (I1.out.put hj y);clear NH NOH SN MX
       go_wp2_with (at_lookup;refine JZ rfl _ _ rfl rfl M1.out s' rfl WS.out y true (by rw [hs];rfl) (by rw [hs];rfl) ?_)
       go_roundw
       case rel=>exact ⟨k+1,by omega,by go_num,by rw [MY.out];exact I2,SS⟩
       case measure=>simp [intOf];omega
    ·obtain rfl:k=n:=by omega
     have TK:l.take k=l:=by rw [← HN.out,cW]
     rw [TK] at I;have EQ:=Hh (FN.out (fun j hj=>HS.out j (by have:=HN.out;omega)));have ED:=Hh (fun W' b q=>END.out wr W' (mix h l v0) b I.out.aI EQ.out q);have ST:=Hh (SET.out wr I.out.aI);have p0:=Fl.rc I.out.box 0;have p1:=Fl.rc I.out.box 1;have q0:=ah I.out.C9 0;have q1:=ah I.out.C9 1;have q2:=ah I.out.C9 2;have q3:=ah I.out.C9 3;unfold aY at q0 q1 q2 q3;unfold aH at ST;clear HS FN NOH SAME SET END EQ TK;generalize mix h l v0=vv at *;go_wp2_with fail;refine ST.out.mono ?_;rintro e w2 ⟨rfl,q1,q2⟩;have RES:=Hh (ED.out w2 false ⟨rfl,q1,q2⟩);clear q1 q2 ED;go_wp2
     go_end0
     exact RES.out
variable {left left':Lit->Bool}
theorem GJ {r n:Nat} (h:w.ranges prog 265 Rh b r n D left iM) (hb:w'.heap[b]? = w.heap[b]?) (hr:w'.heap[r]? = w.heap[r]?):w'.ranges prog 265 Rh b r n D left iM:=by
 obtain ⟨es,clock,since,jU,c0,q1,q2,q3,q4,q5,q6⟩:=h;exact ⟨es,clock,since,jU,c0,hb.trans q1,q2,q3,q4,hr.trans q5,q6⟩
def QT (t:List E5) (left:Lit->Bool) (n k:Int):Bool:=decide (fU t n k≠[]) && !left (pk n k)
structure abR (w:World) (t:List E5) (b r N B0 B1:Nat) (vs:Int->Int->Value) (D:DataW Value):Prop where
 has:∀ f r,Wf f->Wf r->Maps.has D (pk f r)=decide (fU t f r≠[])
 val:∀ f r,Wf f->Wf r->fU t f r≠[]->∀ z,D.atKey (pk f r) z = .held (vs f r)
 in_:∀ f r k,(vs f r).ownBlock=some k->B0<=k/\k < B1
 inb:B0<=b/\b < B1
 inr:B0<=r/\r < B1
 le:w.heap.size<=B0
structure AI (w:World) (t:List E5) (h:Hr) (A:aU) (d:Int) (b r N B0 B1:Nat) (vs:Int->Int->Value) (D:DataW Value) (g:Nat) (wr:World) (left:Lit->Bool) (iM:Nat) (F:Nat->Prop):Prop where
 rg:wr.ranges prog 265 Rh b r N D left iM
 has:∀ kl,left kl=true->Maps.has D kl=true
 st:St wr g F (dW h t (QT t left) A) d
 row:∀ f r,Rd K5 wr (vs f r) (fU t f r)
 lo:∀ k,F k->w.heap.size<=k
 off:∀ k,F k->k < B0\/B1<=k
 sz:B1<=wr.heap.size
 aI:Below w.heap.size w wr
def zX (w:World) (x:aU×Int) (e:Ending) (w':World):Prop:=∃ g F,e = .returned (ptr g)/\St w' g F x.1 x.2/\(∀ k,F k->w.heap.size<=k)/\Below w.heap.size w w'
theorem WY (ok:∀ x∈t,fZ x) (h:fU t n k≠[]):Wf n/\Wf k:=by
 obtain ⟨x,hx⟩:=List.exists_mem_of_ne_nil _ h;obtain ⟨h1,h2⟩:=eJ.1 hx;obtain ⟨_,_,q1,q2,_⟩:=bS (ok x h1);simp only [mt,cL] at h2;rw [← h2.2.1,← h2.2.2];exact ⟨rZ (by omega),rZ (by omega)⟩
theorem abK (ok:∀ x∈t,fZ x) (n k:Int):ZN (fU t n k):=fun x hx=>by
 obtain ⟨_,_,_,_,q⟩:=bS (ok x (eJ.1 hx).1);exact q
theorem aeh (ok:∀ x∈t,fZ x) (h:fU t n k≠[]):k≠0:=by
 obtain ⟨x,hx⟩:=List.exists_mem_of_ne_nil _ h;obtain ⟨h1,h2⟩:=eJ.1 hx;simp only [mt,cL] at h2;have:=ok x h1;unfold fZ Ro.place at this
 omega
theorem aed (ok:∀ x∈t,fZ x) (n k:Int):∀ x∈fU t n k,Wf x.2.1/\0<=x.2.2.2.2/\x.2.2.2.2<=3:=fun x hx=>by
 obtain ⟨_,q1,_,_,q⟩:=bS (ok x (eJ.1 hx).1);exact ⟨rZ (by omega),q⟩
theorem WE (ok:∀ x∈t,fZ x) (hf:Wf f) (hr:Wf r) (hl:left (pk f r)=true) (hg:fU t f r≠[]) (hA:eB A) :
 mY h (fU t f r) f r (dW h t (QT t left) A)=dW h t (QT t fun z=>left z && !z.sameKey (pk f r)) A:=by
 rw [Bw hA (aeh ok hg) (abK ok f r)];refine jG fun n k hnk=>?_;obtain ⟨hn,hk⟩:=WY ok hnk;unfold also QT
 by_cases e:n=f/\k=r
 ·obtain ⟨rfl,rfl⟩:=e
  have:(pk n k).sameKey (pk n k)=true:=by simp [pk,Lit.sameKey]
  simp [hnk,this]
 ·have:=sameKey_ne fun e2=>e (K6 hn hk hf hr e2)
  simp [this,e]
theorem Rf (ok:∀ x∈t,fZ x) (hD:∀ f r,Wf f->Wf r->Maps.has D (pk f r)=decide (fU t f r≠[])) (h:Hr) (A:aU):dW h t (QT t (Maps.has D)) A=A:=by
 rw [jG (V':=fun _ _=>false) fun n k hnk=>?_]
 ·exact sI fun _ _=>rfl
 ·obtain ⟨hn,hk⟩:=WY ok hnk
  unfold QT;rw [hD n k hn hk]
  simp [hnk]
theorem Nf (hl:∀ kl,left kl=false) (h:Hr) (A:aU):dW h t (QT t left) A=oM h t A:=M4 fun n k hnk=>by
 unfold QT;rw [hl]
 simp [hnk]
variable {x x':aU×Int}
theorem tV (H:Has w s x):Calls prog 120 #[.pointer (some ⟨s,0,none⟩)] w (jV w x.1 x.2):=by
 obtain ⟨F,S⟩:=H;exact y9 S
theorem YI (hg:fq w):0 < w.heap.size:=bo _ _ hg
structure XI (w:World) (g:Nat) (x:aU×Int) (wr:World) (F:Nat->Prop):Prop where
 st:St wr g F x.1 x.2
 lo:∀ k,F k->w.heap.size<=k
 aI:Below w.heap.size w wr
theorem XI.below {w:World} {g:Nat} {x:aU×Int} {wr wr':World} {F:Nat->Prop} (h:XI w g x wr F) (b:Below wr.heap.size wr wr'):XI w g x wr' F:=⟨h.st.below b,h.lo,h.aI.trans (b.mono h.aI.size)⟩
theorem XI.step (h:XI w g x wr F) (st:St wr' g (Fx F wr wr') x'.1 x'.2) (o:ay F wr wr'):XI w g x' wr' (Fx F wr wr') :=
 ⟨st,fun k hk=>by
  rcases hk with hk | ⟨hk,_⟩
  ·exact h.lo k hk
  ·exact cE h.aI.size hk,h.aI.trans (o.below h.aI.size h.lo)⟩
theorem AI.step {r:Nat}
 (I:AI w t h A d b r N B0 B1 vs D g wr left iM F) (X:abR w t b r N B0 B1 vs D) (rg:w1.ranges prog 265 Rh b r N D left' cnt') (has:∀ kl,left' kl=true->left kl=true) (g1:wr.grownBy w1 (some r)) (st:St w2 g (Fx F w1 w2) A' d) (o:ay F w1 w2) (e:A'=dW h t (QT t left') A) :
 AI w t h A d b r N B0 B1 vs D g w2 left' cnt' (Fx F w1 w2):=by
 have off:∀ k,B0<=k->k < B1->¬ F k:=fun k h0 h1 hk=>by rcases I.off k hk with h | h <;> omega
 have z1:=g1.size;have hs:=I.sz;have ib:=X.inb;have ir:=X.inr;have le:=X.le;have eb:=o.block b (by omega) (off b ib.1 ib.2);have er:=o.block r (by omega) (off r ir.1 ir.2);have bw1:Below w.heap.size w w1:=I.aI.grown g1 I.aI.size (fun j hj=>by injection hj with hj;omega);refine ⟨GJ rg eb er,fun kl hl=>I.has kl (has kl hl),by rw [← e];exact st,fun f r'=>?_,fun k hk=>?_,fun k hk=>?_,cE (cE hs z1) o.size,bw1.trans (o.below bw1.size I.lo)⟩
 ·have R:=I.row f r'
  obtain ⟨es,clock,since,jU,c0,_,_,_,_,hr,_⟩:=I.rg
  have R1:=gN R (G:=fun k=>k=r) (fun h0 k hk e=>by
   subst e;obtain ⟨a,cap,ea,_,_,h3⟩:=R;obtain ⟨b',off',rfl,hA⟩:=h3 h0;rw [ea] at hk;obtain rfl:b'=k:=by simpa [Value.ownBlock] using hk
   have c:=hA 0 h0 0 _ rfl
   simp [World.cell?,hr] at c) (ay.grown rfl g1)
  exact gN R1 (fun h0 k hk=>off k (X.in_ f r' k hk).1 (X.in_ f r' k hk).2) o
 ·rcases hk with hk | ⟨hk,_⟩
  ·exact I.lo k hk
  ·exact cE bw1.size hk
 ·rcases hk with hk | ⟨hk,_⟩
  ·exact I.off k hk
  ·exact .inr (by omega)
theorem vO (H:Has w s x) (hg:fq w) (hd:0<=x.2/\x.2 < 900000) (R:Rd K5 w v t) (ok:∀ y∈t,fZ y) (hl:t.length<=100) (M:vw w hv h) (hh:TI h) :
 Calls prog 118 #[.pointer (some ⟨s,0,none⟩),v,hv] w (zX w (Oh h t x)):=by
 have HG:=Hh hg;have C0:=Hh (tV H);have RR:=Hh R;have MM:=Hh M;have hA:=Hh H.okA;obtain ⟨A,d⟩:=x;unfold jV at C0;simp only at C0 hd hA;obtain ⟨a,cap,rfl,_,hm,hA0⟩:=R;have HA0:=Hh hA0;clear hA0;unfold maxLen at hm;clear H M hg;generalize hn:t.length=n at *;have HN:=Hh hn;have OKT:=Hh ok;have HH:=Hh hh;clear hn ok hh
 go_enter func118,ntmps118
 go_wp2_with fail;refine C0.mono ?_;rintro e w1 ⟨g,F1,rfl,s1,lo1,b1⟩;have S1:=Hh s1;have LO1:=Hh lo1;have B1:=Hh b1;clear s1 lo1 b1 C0;have RC:=Hh (Fv w1 _ t (RR.below B1) OKT (by have:=HN.out;omega));go_wp2_with fail;refine RC.mono ?_;rintro e w2 ⟨b,N,vs,D,rfl,gm,hb,hN,b2⟩;have GM:=Hh gm;have B2:=Hh b2;have own2:=gm.own;have HB:=Hh (db hb hN);clear gm b2 RC hb hN
 go_wp2_with (first
  | (at_range;refine wpList_range_own _ rfl _ 262 rfl 265 126 qX underlying262 _ b N _ rfl own2 ?_;intro w0 hrg0 hg0 hs0)
  | fail)
 go_frame
 have hz1:=B1.size;have hz2:=B2.size;have FX:Hid (abR w t b w2.heap.size N w1.heap.size w0.heap.size vs D):=Hh ⟨GM.has,GM.val,fun f r k hk=>by have:=ci (GM.out.row f r) k hk;have:=HB.out.1;omega,⟨HB.out.1,by have:=GM.out.own.lt;omega⟩,⟨hz2,by omega⟩,hz1⟩;have G0:Hid (Below w2.heap.size w2 w0):=Hh ((aa _ _).grown hg0 (ac _) (fun j hj=>by cases hj));have I0:Hid (AI w t h A d b w2.heap.size N w1.heap.size w0.heap.size vs D g w0 (Maps.has D) (Maps.size D) F1):=Hh
  ⟨hrg0,fun kl hk=>hk,by rw [Rf OKT.out GM.out.has];exact (S1.out.below B2.out).below G0.out,fun f r=>((GM.out.row f r).rd).below G0.out,LO1.out,fun k hk=>.inl (S1.out.low k hk),ac _,(B1.out.trans (B2.out.mono hz1)).trans (G0.out.mono (by omega))⟩
 clear hrg0 hg0 hs0 own2 G0 GM B1 B2 S1 LO1 hz1 hz2 HB;generalize w2.heap.size=r0 at *;generalize w1.heap.size=B0 at *;generalize w0.heap.size=B1 at *
 go_loopw [9] (fun _ wr=>∃ left iM F,Hid (AI w t h A d b r0 N B0 B1 vs D g wr left iM F)) (fun _ wr=>wr.rangeLeft b r0)
 case atStart=>exact ⟨_,_,_,I0⟩
 case round =>
  obtain ⟨left,iM,F,I⟩:=hrel;clear I0;have hrg:=I.rg
  go_wp2_with (first
   | (at_next;refine wpList_next_ranges _ rfl _ rfl 265 qX Rh (fun p:Int×Int=>Tz p.1 p.2) id (fun key kl hkey=>by obtain ⟨f,r,e,_⟩:=Jr hkey;exact ⟨(f,r),e⟩) (fun v y _=>⟨v,rfl⟩) b r0 N _ _ _ rfl hrg ?_ ?_)
   | fail)
  ·intro hc0 hl0
   have SA:Hid (Has wr g (oM h t A,d)):=Hh ⟨F,by have:=I.st;rwa [Nf hl0] at this⟩;have XI0:Hid (XI w g (rJ t (oM h t A,d) 0) wr F):=Hh ⟨by have:=I.st;rwa [Nf hl0] at this,I.lo,I.aI⟩;have XD:=Hh (fun k=>Gj (t:=t) (oM h t A,d) k);have XE:=Hh (xX (t:=t) h (A,d));have XY:=Hh (fun k hk h3=>MG (t:=t) (oM h t A,d) (j:=k) hk h3);have XN:=Hh (fun k hk h3=>XH (t:=t) (oM h t A,d) (j:=k) hk h3);clear SA hl0 hrg FX I;generalize oM h t A=RA at *;go_wp2;clear hc0 iM left
   go_loopw [29] (fun i wr=>∃ (k:Nat) (F:Nat->Prop),k<=n/\i = .int .i64 k/\Hid (XI w g (rJ t (RA,d) k) wr F)) (fun i _=>n - (intOf i).toNat)
   case atStart=>exact ⟨0,F,cg _,rfl,XI0⟩
   case round =>
    rename_i wr0 wr
    obtain ⟨k,F',hk,rfl,I⟩:=hrel;clear XI0
    by_cases hlt:k < n
    ·obtain ⟨b1,off,rfl,A1⟩:=HA0 (by omega)
     obtain ⟨c0,c1,c2,c3,c4⟩:=vK (A1.below I.aI) k (by have:=HN.out;omega);rw [show t.getD k z5=bO t k from rfl] at c0 c1 c2 c3 c4;have okx:=OKT.out _ (Ro.gQ (l:=t) (i:=k) (by have:=HN.out;omega));have Y3:=Hh (XY k (by have:=HN.out;omega));have N3:=Hh (XN k (by have:=HN.out;omega));have DD:=XD.out k;generalize bO t k=x at *;obtain ⟨q,s',f',r',y⟩:=x;simp only at c0 c1 c2 c3 c4 Y3 N3;have I1:=Hh (I.below ((aa wr.heap.size wr).alloc (ac _) (.cells #[.int .i64 q,.int .i64 s',.int .i64 f',.int .i64 r',.int .i64 y] 170)));clear A1 I
     by_cases h3:q=3
     ·subst h3
      have Y4:=Hh (Y3 rfl);have DO:=Hh (sJ I1.st (HG.below I1.aI) (fun hk=>by have:=I1.out.lo _ hk;have:=YI HG.out;omega) (by have:=HN.out;omega) 2 f' r' z4 Fl.jZ);unfold Ad.addr aH z4 at DO;clear Y3 N3 okx DD;go_wp2_with fail;refine DO.mono ?_;rintro e w5 ⟨rfl,q1,q2⟩;have I2:=Hh (I1.step (x':=rJ t (RA,d) (k+1)) (by rw [Y4.out];exact q1) q2);clear q1 q2 DO I1;go_wp2
      go_roundw
      case rel=>exact ⟨k+1,_,by omega,by go_num,I2⟩
      case measure=>simp [intOf];omega
     ·have d3:(q == 3)=false:=by simpa using h3
      have N4:=N3.out h3;have I2:Hid (XI w g (rJ t (RA,d) (k+1)) (wr.alloc (.cells #[.int .i64 q,.int .i64 s',.int .i64 f',.int .i64 r',.int .i64 y] 170)) F'):=by rw [N4];exact I1
      clear Y3 N3 okx DD N4 I1;go_wp2
      go_roundw
      case rel=>exact ⟨k+1,_,by omega,by go_num,I2⟩
      case measure=>simp [intOf];omega
    ·obtain rfl:k=n:=by omega
     have RES:Hid (zX w (Oh h t (A,d)) (.returned (ptr g)) wr):=Hh ⟨g,F',rfl,by have:=I.out.st;rw [← HN.out] at this;rw [← XE.out];exact this,I.out.lo,I.out.aI⟩;go_wp2
     go_ret
     exact RES
  ·intro f r u kl y y2 w1 cnt1 hkey hlk hv hat hrg1 hlt hg1 hs1 hen
   obtain ⟨f',r',e1,hf,hr⟩:=Jr hkey;obtain ⟨rfl,rfl⟩:f=f'/\r=r':=by
    unfold Tz at e1;injection e1 with e1;have h1:=c8 (fun t:Array Value=>t[0]?) e1;have h2:=c8 (fun t:Array Value=>t[1]?) e1
    simp at h1 h2
    exact ⟨h1,h2⟩
   obtain rfl:kl=pk f r:=by
    have:=aaQ hf hr;rw [hkey] at this;exact cP this
   have hg:=I.has _ hlk;rw [FX.out.has f r hf hr,cL] at hg;have hv':u=vs f r:=by
    obtain ⟨h2,_⟩:DataW.held u=y/\[]=y2:=by simpa [Rh] using hv
    have h1:=hat .nil;rw [FX.out.val f r hf hr hg,← h2] at h1;injection h1 with h1;exact h1.symm
   subst hv';have hsz:=I.sz;have g1:=hg1;have bw1:Below w.heap.size w w1:=I.aI.grown hg1 I.aI.size (fun j hj=>by injection hj with hj;have:=FX.out.inr.1;have:=FX.out.le;omega);have off:∀ k,B0<=k->k < B1->¬ F k:=fun k h0 h1 hk=>by rcases I.out.off k hk with h | h <;> omega
   have st1:St w1 g F (dW h t (QT t left) A) d:=I.st.only (G:=fun k=>k=r0) (fun k hk e=>by subst e;exact off k FX.out.inr.1 FX.out.inr.2 hk) (ay.grown rfl hg1)
   have R1:Rd K5 w1 (vs f r) (fU t f r):=gN (I.row f r) (G:=fun k=>k=r0) (fun h0 k hk e=>by
    subst e;obtain ⟨es,clock,since,jU,c0,_,_,_,_,hr0,_⟩:=I.rg;obtain ⟨a',cap',ea,_,_,h3⟩:=I.row f r;obtain ⟨b',off',rfl,hA'⟩:=h3 h0;rw [ea] at hk;obtain rfl:b'=k:=by simpa [Value.ownBlock] using hk
    have c:=hA' 0 h0 0 _ rfl
    simp [World.cell?,hr0] at c) (ay.grown rfl hg1)
   have bx:Below w1.heap.size w1 (w1.alloc (.cells #[.int .i64 f,.int .i64 r] 265)):=(aa _ _).alloc (ac _) _;have RV:=Hh (Jv (st1.below bx) hf (r:=r) (R1.below bx) ((MM.below bw1).below bx) HH (aed OKT f r));have EQ:Hid (mY h (fU t f r) f r (dW h t (QT t left) A)=dW h t (QT t fun z=>left z && !z.sameKey (pk f r)) A):=Hh (WE OKT hf hr hlk hg hA);have STEP:Hid (∀ w3 A',St w3 g (Fx F w1 w3) A' d->ay F w1 w3->A'=dW h t (QT t fun z=>left z && !z.sameKey (pk f r)) A->AI w t h A d b r0 N B0 B1 vs D g w3 (fun z=>left z && !z.sameKey (pk f r)) cnt1 (Fx F w1 w3)):=Hh (fun w3 A' st o e=>I.step FX hrg1 (fun kl hl=>by simp at hl;exact hl.1) hg1 st o e);have BX:=Hh bx;have LT:=Hh hlt;have RG:=Hh I.rg;obtain ⟨au,cu,ev,_⟩:=R1.slice;rw [ev] at hen RV ⊢;generalize (fU t f r).length=gl at *;unfold Tz at hen ⊢;clear st1 R1 bx off bw1 hrg1 hlt hg1 g1 hs1 hat hv hlk hkey hg hrg hsz I e1 ev;go_wp2_with fail;refine RV.mono ?_;rintro e w3 ⟨rfl,q1,q2⟩;have o3:=(ay.of_below (G:=F) BX).trans q2 fun _ _ g=>g
   have NEW:=Hh (STEP w3 _ (by
    refine q1.wide (fun k hk=>?_) (fun k hk=>?_)
    ·rcases hk with hk | ⟨hk,hk2⟩
     ·exact .inl hk
     ·exact .inr ⟨cE BX.size hk,hk2⟩
    ·rcases hk with hk | ⟨_,hk⟩
     ·exact q1.low k (.inl hk)
     ·exact hk) o3 EQ)
   have MS:Hid (w3.rangeLeft b r0 < wr.rangeLeft b r0):=by
    show _ < _
    rw [NEW.out.rg.left_eq,RG.out.left_eq];exact LT
   clear q1 q2 o3 STEP EQ RG LT RV hen;go_wp2
   go_roundw
   case rel=>exact ⟨_,_,_,NEW⟩
   case measure=>exact MS
end Pa
