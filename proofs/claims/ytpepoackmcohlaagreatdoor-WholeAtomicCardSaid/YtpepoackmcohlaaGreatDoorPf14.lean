import Derived.Test.YtpepoackmcohlaaGreatDoorPf13
set_option maxRecDepth 100000
set_option maxHeartbeats 16000000
namespace Go.Proofs.YtpepoackmcohlaaGreatDoor
open Go.Proofs.Tryz Go.RowKit
open Ck (Hd sl zh)
open Cu (C8 CH JA JL KP Lg U9 VC aX bE dw eG kC lF wU xQ zC zM)
open Fl (K4 R4 aH aL ah aj bN cZ file hdr newL z4)
open Fs (E3 Fx Glob Ls Only Rs St Wf aB aC aP dF dX sA sB)
open Pa (Ay K2 KB KN S2 bO bU fq ptr sat)
open Re (bJ)
open Rw (At Ow Rd)
namespace Cu
open Go.Maps
open Rw (Kind)
open Fl (jB)
open Fs (at3 zq lH fZ kI)
open Pa (eD Lt bT ZA Zp)
attribute [local irreducible] Sd.aW wpQuiet Sg.cK
theorem LX:(prog.info? 51).map (fun i=>(i.zero,i.size,i.bytes))=some (some (.pointer none),1,8):=by kernel_rfl
theorem Ms:(prog.info? 4).map (fun i=>(i.zero,i.size,i.bytes))=some (some (.bool false),1,1):=by kernel_rfl
structure sw (b o bf of_ g:Nat) (fl:Value) (n n' p:Int) (u:Value) (W:World):Prop where
 l:W.cell? ⟨b,o,none⟩=some fl
 prev:W.cell? ⟨bf,of_,none⟩=some (.int .i64 n')
 n:W.cell? ⟨g,0,none⟩=some (.int .i64 n)
 p:W.cell? ⟨g,1,none⟩=some (.int .i64 p)
 u:W.cell? ⟨g,2,none⟩=some u
variable {i B0 s j:Nat}
theorem QI {L:List Pl} (h:i < L.length):newC (L.take (i+1)) = { newC (L.take i) with S:=(newC (L.take i)).S ++ [((dJ L i).1,0)],V:=(newC (L.take i)).V ++ [true] }:=by
 obtain ⟨e1,e2⟩:=AQ h;rw [← e1,← e2]
 rfl
def Out (wr:World) (B0 s:Nat) (A:aP) (j:Nat) (q:Bool) (wx:World):Prop:=(q=false->IN wr B0 s A (j+1) wx)/\(q=true->¬ gdF A/\Below wr.heap.size wr wx)
theorem Mv {wr wk wx:World} {A A':aP} {n p z:Int} {l:List R4} (J:IN wr B0 s A j wk) (hk:A[j]? = some (n,p,l)) (ord:∀ c,0 < j->A[j - 1]? = some c->Fs.key c < n) (hs:wr.heap.size<=s) (hz:z=fZ (A.take j) n p l) (hA:A'=kI (A.take j) n p l) (b:Below wk.heap.size wk wx) {wy:World} (rs:Rs wy s (fun k=>B0<=k/\k < wr.heap.size) A' 0) (o:Only (fun k=>k=s) wx wy):Out wr B0 s A j (z != 0) wy:=by
 have bl:Below wr.heap.size wr wy:=o.below (J.aG.trans (b.mono J.aG.size)).size (fun k e=>e ▸ hs) |> fun q=>(J.aG.trans (b.mono J.aG.size)).trans q;subst hz;subst hA
 rcases Ez J.inn hk ord with ⟨e1,e2,e3⟩ | ⟨e1,e2⟩
 ·refine ⟨fun _=>⟨by rw [← e2];exact rs,bl,e3⟩,fun g=>?_⟩
  rw [e1] at g;exact absurd g (by decide)
 ·exact ⟨fun g=>absurd (by simpa using g) e1,fun _=>⟨e2,bl⟩⟩
theorem zL {w:World} {v:Value} {L:List lF} (H:C8 w v L B0) (hB:B0<=w.heap.size):Calls prog 8 #[v] w (oD w B0 (dw L)):=by
 have FL:=Hh H.file;obtain ⟨a,cap,rfl,_,hm,hA⟩:=H.rd;have HA:=Hh hA;have PAT:=Hh (fun i (h:i < L.length)=>Tm h);have PLN:=Hh (iw L);unfold maxLen at hm;clear hA H;generalize hn:L.length=n at *;have HN:=Hh hn;clear hn
 by_cases h2:n < 2
 ·have E:=Hh (tX (B0:=B0) (aa w.heap.size w) (tH (L:=dw L) (by rw [PLN.out];exact .inl h2)) (by decide))
  have p1:decide ((n:Int) < 2)=true:=bi (by omega)
  go_enter func8,ntmps8
  go_wp2
  go_ret2
  exact E
 ·by_cases h32:32 < n
  ·have E:=Hh (tX (B0:=B0) (aa w.heap.size w) (tH (L:=dw L) (by rw [PLN.out];exact .inr h32)) (by decide))
   have p1:decide ((n:Int) < 2)=false:=ai (by omega);have p2:decide ((32:Int) < n)=true:=bi (by omega)
   go_enter func8,ntmps8
   go_wp2
   go_ret2
   exact E
  ·have hlen:Hid (¬ ((dw L).length < 2\/32 < (dw L).length)):=Hh (by rw [PLN.out];omega)
   have hm2:n<=32:=by omega
   have hm1:2<=n:=by omega
   go_enter func8,ntmps8
   go_wp2_with fail;refine (Wt.nQ w).mono ?_;rintro e w1 ⟨p,rfl,pf,hp,b1⟩;have Z0:=Hh (abQ (B0:=B0) pf hp b1 (dw L));have B1:=Hh (b1.alloc b1.size (.cells #[.slice none 0 0,.slice none 0 0,.pointer (some ⟨p,0,none⟩),.int .i64 0,.slice none 0 0] 39));clear pf hp b1;go_upto_region 4 with fail;generalize (w1.alloc (.cells #[.slice none 0 0,.slice none 0 0,.pointer (some ⟨p,0,none⟩),.int .i64 0,.slice none 0 0] 39))=W1 at *;generalize w1.heap.size=r at *;have I0:Hid (NI w B0 r p (dw L) 0 (.slice none 0 0) [] (.slice none 0 0) W1):=Hh ⟨Z0,B1,Eg _⟩;clear Z0 B1;go_wp2
   go_loopw [5] (fun i wr=>∃ (k:Nat) (vs:Value) (ps:List Nat) (vl:Value),k<=n/\i = .int .i64 k/\Hid (NI w B0 r p (dw L) k vs ps vl wr)) (fun i _=>n - (intOf i).toNat)
   case atStart=>exact ⟨0,_,_,_,bt _,rfl,I0⟩
   case round =>
    clear I0;obtain ⟨k,vs,ps,vl,hk,rfl,I⟩:=hrel
    by_cases hlt:k < n
    ·obtain ⟨b,off,rfl,A1⟩:=HA (by omega)
     obtain ⟨c0,c1⟩:=Sy A1 (i:=k) (by rw [HN.out];exact hlt);have lb:b < w.heap.size:=bj _ _ c0;have FK:=Hh (FL k hlt);have PA:=Hh (PAT k hlt);have C0:=Hh c0;have C1:=Hh c1;have NB:=Hh (fun (g:¬ Mw (dJ (dw L) k))=>Kn hlen (by rw [PLN.out];exact hlt) g);clear A1 c0 c1;generalize zQ L k=c at *;obtain ⟨⟨fa,fn,fc⟩,rate,F⟩:=c;simp only [sl] at C0 C1 FK;obtain ⟨fa',fc',ef,_,hfm,hF⟩:=FK.rd;injection ef with e1 e2 e3;subst e1 e2 e3;have HF:=Hh hF;clear hF;unfold maxLen at hfm;have PA2:Hid (dJ (dw L) k=(F.map aB.abs,rate)):=Hh PA;clear PA;have R0:=Lt wr (fun j=>B0<=j/\j < wr.heap.size) (fun j h=>h.2);have J0:Hid (IN wr B0 wr.heap.size (F.map aB.abs) 0 (wr.alloc (.cells #[.slice none 0 0,.int .i64 0] 50))):=Hh ⟨R0.rs,R0.aG,Hy _⟩;have SZ:Hid (wr.heap.size < (wr.alloc (.cells #[.slice none 0 0,.int .i64 0] 50)).heap.size):=Hh (by simp);clear R0;generalize hfl:F.length=m at *;have HFL:=Hh hfl;clear hfl;go_upto_region 8 with fail;generalize (wr.alloc (.cells #[.slice none 0 0,.int .i64 0] 50))=Ws at *;generalize hs:wr.heap.size=s at *;have HS:=Hh hs;clear hs;obtain ⟨wo,hwo⟩:∃ x,x=wr:=⟨_,rfl⟩;subst hwo;go_wp2
     go_loopw [7] (fun i wk=>∃ j:Nat,j<=m/\i = .int .i64 j/\Hid (IN wo B0 s (F.map aB.abs) j wk)) (fun i _=>m - (intOf i).toNat)
     case atStart=>exact ⟨0,bt _,rfl,J0⟩
     case round =>
      obtain ⟨j,hj,rfl,J⟩:=hrel;clear J0;have BK:=Hh (I.aG.trans (J.aG.mono I.aG.size));have d0:=(BK.cell lb).trans C0
      by_cases hjl:j < m
      ·obtain ⟨bf,of_,rfl,A2⟩:=HF (by omega)
       obtain ⟨e,he⟩:∃ e:aB,F[j]? = some e:=⟨_,am (by have:=HFL.out;omega)⟩;obtain ⟨q0,q1,q2⟩:=at3 A2 he;have LQ:Hid (bf < w.heap.size):=Hh (bj _ _ q0);have Q0:=Hh q0;have Q1:=Hh q1;have Q2:=Hh q2;have d1:=(BK.out.cell LQ.out).trans q0;have d2:=(BK.out.cell LQ.out).trans q1;have d3:=(BK.out.cell LQ.out).trans q2;have HE:Hid ((F.map aB.abs)[j]? = some (e.n,e.p,e.l)):=Hh (by rw [cN,he];rfl);have ee:fq F j=e:=by unfold fq;rw [af,he];rfl
       have RE:Hid (Rd K4 w e.sl e.l/\cZ e.l):=Hh (by have:=FK.out.file j (by have:=HFL.out;omega);rw [ee] at this;exact this);have LW:Hid (0 < e.l.length->∀ k,e.sl.ownBlock=some k->k < B0):=Hh (by have:=FK.out.low j (by have:=HFL.out;omega);rw [ee] at this;exact this)
       have PRV:Hid (∀ i,j=i+1->∃ e',F[i]? = some e'/\w.cell? ⟨bf,of_+i * 3,none⟩=some (.int .i64 e'.n)):=Hh (fun i hi=>by
        obtain ⟨e',he'⟩:∃ e':aB,F[i]? = some e':=⟨_,am (by have:=HFL.out;omega)⟩
        exact ⟨e',he',(at3 A2 he').1⟩)
       clear q0 q1 q2 A2 he ee;obtain ⟨en,ep,ea,ec,el⟩:=e;simp only at Q0 Q1 Q2 d1 d2 d3 HE RE LW;unfold aB.sl at Q2 d3 RE LW;simp only at Q2 d3 RE LW;generalize hel:el.length=eq at *;have bx:=(aa wr.heap.size wr).alloc (ac _) (.cells #[.int .i64 en,.int .i64 ep,.slice ea eq ec] 81);have X1:=bh wr (.cells #[.int .i64 en,.int .i64 ep,.slice ea eq ec] 81);go_upto_region 12 with fail
       go_cut [77] from 34 to 77 (fun v wx=>∃ q:Bool,Value.bool q=v/\Hid (Out wo B0 s (F.map aB.abs) j q wx))
       case first =>
        have BX:Hid (Below wr.heap.size wr (wr.alloc (.cells #[.int .i64 en,.int .i64 ep,.slice ea eq ec] 81)).drew):=Hh (bx.trans ((aa _ _).drew.mono bx.size));have X2:Hid ((wr.alloc (.cells #[.int .i64 en,.int .i64 ep,.slice ea eq ec] 81)).drew.heap[wr.heap.size]? = some (.cells #[.int .i64 en,.int .i64 ep,.slice ea eq ec] 81 (0,0))):=Hh X1;have BW:=aR BK BX;have D0:=Hh ((BW.cell lb).trans C0);have SL:Hid (s < wr.heap.size):=Hh (by obtain ⟨_,_,h,_⟩:=J.rs;exact bm h.row);have HSW:=Hh (show w.heap.size<=s by rw [← HS.out];exact I.out.aG.size);have NS:Hid (b≠s/\bf≠s/\wr.heap.size≠s):=Hh ⟨by have:=HSW.out;omega,by have:=HSW.out;have:=LQ.out;omega,by have:=SL.out;omega⟩;generalize (wr.alloc (.cells #[.int .i64 en,.int .i64 ep,.slice ea eq ec] 81))=W2 at *
        have RA:=Hh (zq (Fs.Rs.below J.rs BX) (fun k h=>by have:=HS.out;have:=SL.out;have:=BX.out.size;omega) en ep (.slice ea eq ec) el (RE.out.1.below BW.out) (fun h0 q hq hh=>by
         have:=LW.out (by omega) q hq;have:=HSW.out;have:=HS.out
         rcases hh with hh | hh
         ·omega
         ·omega) RE.out.2)
        unfold file lH at RA;clear bx X1 d0 d1 d2 d3
        rcases j with _ | i
        ·have ORD:Hid (∀ c,0 < 0->(F.map aB.abs)[0 - 1]? = some c->Fs.key c < en):=Hh (fun c h=>by omega)
         have V0:=Hh ((BW.out.cell LQ.out).trans Q0.out);have CC:sw b (off+k * 2) bf (of_+0 * 3) wr.heap.size (.slice (some ⟨bf,of_,none⟩) m fc) en en ep (.slice ea eq ec) W2.drew:=⟨D0,V0,ah X2 0,ah X2 1,ah X2 2⟩;have x0:=Sc.ay (C:=sw b (off+k * 2) bf (of_+0 * 3) wr.heap.size (.slice (some ⟨bf,of_,none⟩) m fc) en en ep (.slice ea eq ec)) (a:=⟨b,off+k * 2,none⟩) (fun W' h=>h.l);have x1:=Sc.ay (C:=sw b (off+k * 2) bf (of_+0 * 3) wr.heap.size (.slice (some ⟨bf,of_,none⟩) m fc) en en ep (.slice ea eq ec)) (a:=⟨bf,of_+0 * 3,none⟩) (fun W' h=>h.prev);have x2:=Sc.ay (C:=sw b (off+k * 2) bf (of_+0 * 3) wr.heap.size (.slice (some ⟨bf,of_,none⟩) m fc) en en ep (.slice ea eq ec)) (a:=⟨wr.heap.size,0,none⟩) (fun W' h=>h.n);have x3:=Sc.ay (C:=sw b (off+k * 2) bf (of_+0 * 3) wr.heap.size (.slice (some ⟨bf,of_,none⟩) m fc) en en ep (.slice ea eq ec)) (a:=⟨wr.heap.size,1,none⟩) (fun W' h=>h.p);have x4:=Sc.ay (C:=sw b (off+k * 2) bf (of_+0 * 3) wr.heap.size (.slice (some ⟨bf,of_,none⟩) m fc) en en ep (.slice ea eq ec)) (a:=⟨wr.heap.size,2,none⟩) (fun W' h=>h.u);have x5:=Sc.ay (C:=sw b (off+k * 2) bf (of_+0 * 3) wr.heap.size (.slice (some ⟨bf,of_,none⟩) m fc) en en ep (.slice ea eq ec)) (a:=⟨wr.heap.size,1+1,none⟩) (fun W' h=>h.u);have ne:Nonempty (Sc.In (sw b (off+k * 2) bf (of_+0 * 3) wr.heap.size (.slice (some ⟨bf,of_,none⟩) m fc) en en ep (.slice ea eq ec))):=⟨⟨_,CC⟩⟩;refine Sc.start (sw b (off+k * 2) bf (of_+0 * 3) wr.heap.size (.slice (some ⟨bf,of_,none⟩) m fc) en en ep (.slice ea eq ec)) [(false,0),(false,1),(false,2),(false,3),(false,4),(false,5),(false,6),(false,7),(false,8),(false,9),(false,10),(false,11),(false,12),(false,13),(false,14),(false,15),(false,16),(false,17),(false,18),(false,19),(false,20),(false,21),(false,22),(true,23),(false,24),(false,25)] (by kernel_rfl) (by kernel_rfl) (by kernel_rfl) CC ?_;dsimp only [Sd.aM,List.getElem?_cons_succ,List.getElem?_cons_zero]
         iterate 23 (refine Sd.lit ?_;quiet_step (fail);refine bk ?_)
         clear x0 x1 x2 x3 x4 x5;refine Sd.call (by rfl) (fun K hK=>?_);go_simp;refine RA.mono ?_;rintro e w5 ⟨rfl,rs5,o5⟩;have OU:=Hh (Mv J HE (ORD) (by rw [HS.out];exact ac _) rfl rfl BX.out rs5 o5);have lx:=NS.out;refine hK _ _ (Sc.Cl.of ⟨o5.cell CC.l (fun g=>by simp only at g;omega),o5.cell CC.prev (fun g=>by simp only at g;omega),o5.cell CC.n (fun g=>by simp only at g;omega),o5.cell CC.p (fun g=>by simp only at g;omega),o5.cell CC.u (fun g=>by simp only at g;omega)⟩) ?_;clear hK K rs5 o5 RA CC;generalize fZ ((F.map aB.abs).take 0) en ep el=z at *
         iterate 2 (refine Sd.lit ?_;quiet_step (fail);refine bk ?_)
         refine Sd.done ?_;go_wp2
         go_meet
         exact ⟨_,rfl,OU⟩
        ·obtain ⟨e',hp1,hp2⟩:=PRV i rfl
         have V0:=Hh ((BW.out.cell LQ.out).trans hp2);have HP:Hid ((F.map aB.abs)[i]? = some (e'.n,e'.p,e'.l)):=Hh (by rw [cN,hp1];rfl);have wi:IntKind.i64.wrap (i:Int)=(i:Int):=cE _ (by omega);have him:i < m:=by omega
         have hi0:decide ((0:Int) < ((i+1:Nat):Int))=true:=bi (by omega);clear hp1 hp2;generalize e'.n=en' at *
         by_cases hle:en<=en'
         ·have OT:Hid (Out wo B0 s (F.map aB.abs) (i+1) true W2.drew):=Hh ⟨fun g=>absurd g (by decide),fun _=>⟨UR (by omega) HE.out HP.out hle,J.out.aG.trans (BX.out.mono J.out.aG.size)⟩⟩
          have p1:decide (en<=en')=true:=bi hle;clear RA HP hle;have CC:sw b (off+k * 2) bf (of_+i * 3) wr.heap.size (.slice (some ⟨bf,of_,none⟩) m fc) en en' ep (.slice ea eq ec) W2.drew:=⟨D0,V0,ah X2 0,ah X2 1,ah X2 2⟩;have x0:=Sc.ay (C:=sw b (off+k * 2) bf (of_+i * 3) wr.heap.size (.slice (some ⟨bf,of_,none⟩) m fc) en en' ep (.slice ea eq ec)) (a:=⟨b,off+k * 2,none⟩) (fun W' h=>h.l);have x1:=Sc.ay (C:=sw b (off+k * 2) bf (of_+i * 3) wr.heap.size (.slice (some ⟨bf,of_,none⟩) m fc) en en' ep (.slice ea eq ec)) (a:=⟨bf,of_+i * 3,none⟩) (fun W' h=>h.prev);have x2:=Sc.ay (C:=sw b (off+k * 2) bf (of_+i * 3) wr.heap.size (.slice (some ⟨bf,of_,none⟩) m fc) en en' ep (.slice ea eq ec)) (a:=⟨wr.heap.size,0,none⟩) (fun W' h=>h.n);have x3:=Sc.ay (C:=sw b (off+k * 2) bf (of_+i * 3) wr.heap.size (.slice (some ⟨bf,of_,none⟩) m fc) en en' ep (.slice ea eq ec)) (a:=⟨wr.heap.size,1,none⟩) (fun W' h=>h.p);have x4:=Sc.ay (C:=sw b (off+k * 2) bf (of_+i * 3) wr.heap.size (.slice (some ⟨bf,of_,none⟩) m fc) en en' ep (.slice ea eq ec)) (a:=⟨wr.heap.size,2,none⟩) (fun W' h=>h.u);have x5:=Sc.ay (C:=sw b (off+k * 2) bf (of_+i * 3) wr.heap.size (.slice (some ⟨bf,of_,none⟩) m fc) en en' ep (.slice ea eq ec)) (a:=⟨wr.heap.size,1+1,none⟩) (fun W' h=>h.u);have ne:Nonempty (Sc.In (sw b (off+k * 2) bf (of_+i * 3) wr.heap.size (.slice (some ⟨bf,of_,none⟩) m fc) en en' ep (.slice ea eq ec))):=⟨⟨_,CC⟩⟩;refine Sc.start (sw b (off+k * 2) bf (of_+i * 3) wr.heap.size (.slice (some ⟨bf,of_,none⟩) m fc) en en' ep (.slice ea eq ec)) [(false,0),(false,1),(false,2),(false,3),(false,4),(false,5),(false,6),(false,7),(false,8),(false,9),(false,10),(false,11),(false,12),(false,13),(false,14),(false,15),(false,16),(false,17),(false,18),(false,19),(false,20),(false,21),(false,22),(true,23),(false,24),(false,25)] (by kernel_rfl) (by kernel_rfl) (by kernel_rfl) CC ?_;dsimp only [Sd.aM,List.getElem?_cons_succ,List.getElem?_cons_zero]
          iterate 23 (refine Sd.lit ?_;quiet_step (fail);refine bk ?_)
          clear x0 x1 x2 x3 x4 x5;refine Sd.past (by rfl) ?_
          iterate 2 (refine Sd.lit ?_;quiet_step (fail);refine bk ?_)
          refine Sd.done ?_;go_wp2
          go_meet
          exact ⟨true,rfl,OT⟩
         ·have ORD:Hid (∀ c,0 < i+1->(F.map aB.abs)[i+1 - 1]? = some c->Fs.key c < en):=Hh (fun c _ h=>by
           have h:(F.map aB.abs)[i]? = some c:=h;rw [HP.out] at h;injection h with h;subst h
           show en' < en
           omega)
          have p1:decide (en<=en')=false:=ai hle;clear HP hle;have CC:sw b (off+k * 2) bf (of_+i * 3) wr.heap.size (.slice (some ⟨bf,of_,none⟩) m fc) en en' ep (.slice ea eq ec) W2.drew:=⟨D0,V0,ah X2 0,ah X2 1,ah X2 2⟩;have x0:=Sc.ay (C:=sw b (off+k * 2) bf (of_+i * 3) wr.heap.size (.slice (some ⟨bf,of_,none⟩) m fc) en en' ep (.slice ea eq ec)) (a:=⟨b,off+k * 2,none⟩) (fun W' h=>h.l);have x1:=Sc.ay (C:=sw b (off+k * 2) bf (of_+i * 3) wr.heap.size (.slice (some ⟨bf,of_,none⟩) m fc) en en' ep (.slice ea eq ec)) (a:=⟨bf,of_+i * 3,none⟩) (fun W' h=>h.prev);have x2:=Sc.ay (C:=sw b (off+k * 2) bf (of_+i * 3) wr.heap.size (.slice (some ⟨bf,of_,none⟩) m fc) en en' ep (.slice ea eq ec)) (a:=⟨wr.heap.size,0,none⟩) (fun W' h=>h.n);have x3:=Sc.ay (C:=sw b (off+k * 2) bf (of_+i * 3) wr.heap.size (.slice (some ⟨bf,of_,none⟩) m fc) en en' ep (.slice ea eq ec)) (a:=⟨wr.heap.size,1,none⟩) (fun W' h=>h.p);have x4:=Sc.ay (C:=sw b (off+k * 2) bf (of_+i * 3) wr.heap.size (.slice (some ⟨bf,of_,none⟩) m fc) en en' ep (.slice ea eq ec)) (a:=⟨wr.heap.size,2,none⟩) (fun W' h=>h.u);have x5:=Sc.ay (C:=sw b (off+k * 2) bf (of_+i * 3) wr.heap.size (.slice (some ⟨bf,of_,none⟩) m fc) en en' ep (.slice ea eq ec)) (a:=⟨wr.heap.size,1+1,none⟩) (fun W' h=>h.u);have ne:Nonempty (Sc.In (sw b (off+k * 2) bf (of_+i * 3) wr.heap.size (.slice (some ⟨bf,of_,none⟩) m fc) en en' ep (.slice ea eq ec))):=⟨⟨_,CC⟩⟩;refine Sc.start (sw b (off+k * 2) bf (of_+i * 3) wr.heap.size (.slice (some ⟨bf,of_,none⟩) m fc) en en' ep (.slice ea eq ec)) [(false,0),(false,1),(false,2),(false,3),(false,4),(false,5),(false,6),(false,7),(false,8),(false,9),(false,10),(false,11),(false,12),(false,13),(false,14),(false,15),(false,16),(false,17),(false,18),(false,19),(false,20),(false,21),(false,22),(true,23),(false,24),(false,25)] (by kernel_rfl) (by kernel_rfl) (by kernel_rfl) CC ?_;dsimp only [Sd.aM,List.getElem?_cons_succ,List.getElem?_cons_zero]
          iterate 23 (refine Sd.lit ?_;quiet_step (fail);refine bk ?_)
          clear x0 x1 x2 x3 x4 x5;refine Sd.call (by rfl) (fun K hK=>?_);go_simp;refine RA.mono ?_;rintro e w5 ⟨rfl,rs5,o5⟩;have OU:=Hh (Mv J HE (ORD) (by rw [HS.out];exact ac _) rfl rfl BX.out rs5 o5);have lx:=NS.out;refine hK _ _ (Sc.Cl.of ⟨o5.cell CC.l (fun g=>by simp only at g;omega),o5.cell CC.prev (fun g=>by simp only at g;omega),o5.cell CC.n (fun g=>by simp only at g;omega),o5.cell CC.p (fun g=>by simp only at g;omega),o5.cell CC.u (fun g=>by simp only at g;omega)⟩) ?_;clear hK K rs5 o5 RA CC;generalize fZ ((F.map aB.abs).take (i+1)) en ep el=z at *
          iterate 2 (refine Sd.lit ?_;quiet_step (fail);refine bk ?_)
          refine Sd.done ?_;go_wp2
          go_meet
          exact ⟨_,rfl,OU⟩
       case rest =>
        obtain ⟨q,e1,OU⟩:=hcut;subst e1;clear bx X1 PRV d0 d1 d2 d3
        cases q with
        | true =>
          have E:=Hh (tX (B0:=B0) (I.aG.trans ((OU.out.2 rfl).2.mono I.aG.size)) (NB (fun g=>(OU.out.2 rfl).1 (by rw [PA2.out] at g;exact g.1))) (by decide));clear OU;go_wp2
          go_ret2
          exact E
        | false =>
          have N:=Hh (OU.out.1 rfl);clear OU;go_wp2
          go_roundw
          case rel=>exact ⟨j+1,by omega,by go_num,N⟩
          case measure=>simp [intOf];omega
      ·obtain rfl:j=m:=by omega
       have d9:=(BK.cell lb).trans C1;have AL:Hid ((F.map aB.abs).length=j):=Hh (by rw [cm];exact HFL.out);have GD:Hid (gdF (F.map aB.abs)):=Hh (KQ (by rw [AL.out];exact J.out.inn));have RS:Hid (Rs wr s (fun k=>B0<=k/\k < wo.heap.size) (F.map aB.abs) 0):=Hh (by have:=J.out.rs;rw [← AL.out,cU] at this;exact this);have JB:=Hh J.aG;have SL:Hid (s < wr.heap.size):=Hh (by obtain ⟨_,_,h,_⟩:=J.rs;exact bm h.row);clear J hjl HF
       by_cases r1:rate < -2000
       ·have E:=Hh (tX (B0:=B0) BK (NB (fun g=>by rw [PA2.out] at g;have:=g.2.1;omega)) (by decide))
        clear NB GD RS;go_wp2
        go_ret2
        exact E
       ·by_cases r2:2000 < rate
        ·have E:=Hh (tX (B0:=B0) BK (NB (fun g=>by rw [PA2.out] at g;have:=g.2.2;simp only at this;omega)) (by decide))
         clear NB GD RS;go_wp2
         go_ret2
         exact E
        ·have GP:Hid (Mw (dJ (dw L) k)):=Hh (by rw [PA2.out];exact ⟨GD.out,by simp only;omega,by simp only;omega⟩)
         have ST:=Hh (QI (L:=dw L) (i:=k) (by rw [PLN.out];exact hlt));rw [PA2.out] at ST;clear NB GD;go_upto_region 16 with fail;clear d9 r1 r2;have RZ:=Hh I.rz;have RW:=Hh ((JB.block _ I.rz.QY).trans I.rz.row);have BW:=Hh I.aG;have GDS:=Hh I.gd;have LO:=Hh (show w.heap.size<=r from I.rz.lo.1);clear I;obtain ⟨va,vc,rfl,_,_⟩:=RZ.so.slice;obtain ⟨la,lc,rfl,_,_⟩:=RZ.lv.slice;generalize hvs:Value.slice va ps.length vc=vs at *;generalize hvl:Value.slice la (newC ((dw L).take k)).V.length lc=vl at *;have HVS:=Hh hvs;have HVL:=Hh hvl;clear hvs hvl;have n0:Hid (vs.ownBlock≠some r/\vl.ownBlock≠some r):=Hh ⟨RZ.vr.1,RZ.vr.2.1⟩
         have LV:Hid (∀ q,vs.ownBlock=some q\/vl.ownBlock=some q->w.heap.size<=q/\q < wr.heap.size):=Hh (fun q g=>by
          have:=RZ.Yo q (by rcases g with g | g;exact .inl g;exact .inr (.inl g));have:=JB.size
          omega)
         have x0:=Sc.ay (C:=Only (fun q=>vs.ownBlock=some q\/vl.ownBlock=some q) wr) (a:=⟨r,0,none⟩) (fun W' o=>o.cell (ah RW 0) (fun g=>by rcases g with g | g;exact n0.out.1 g;exact n0.out.2 g));have x1:=Sc.ay (C:=Only (fun q=>vs.ownBlock=some q\/vl.ownBlock=some q) wr) (a:=⟨r,1,none⟩) (fun W' o=>o.cell (ah RW 1) (fun g=>by rcases g with g | g;exact n0.out.1 g;exact n0.out.2 g));have ne:Nonempty (Sc.In (Only (fun q=>vs.ownBlock=some q\/vl.ownBlock=some q) wr)):=⟨⟨_,Only.refl _ _⟩⟩;have ne2:Nonempty (Sc.In (fun _:World=>True)):=⟨⟨wr,trivial⟩⟩;refine Sg.RY (Only (fun q=>vs.ownBlock=some q\/vl.ownBlock=some q) wr) [0,1,2,3,4,6,9,10,11] [5,12] [(2,7),(1,8),(2,13),(1,14)] [15,16,17,18,19,20]
          [⟨7,99,#[.pointer (some ⟨s,0,none⟩)],51,some (98,.pointer (some ⟨s,0,none⟩)),some 1⟩,⟨13,105,#[.bool true],4,none,some 1⟩]
          (by kernel_rfl) (by kernel_rfl) (by kernel_rfl) (by kernel_rfl) (by kernel_rfl) (by rfl) (by show ([99,105]:List Nat).Nodup;decide)
          (by intro f hf f' hf';simp only [cj,cY,fX] at hf hf';rcases hf with rfl | rfl <;> rcases hf' with rfl | rfl <;> simp)
          (by intro f hf f' hf';simp only [cj,cY,fX] at hf hf';rcases hf with rfl | rfl <;> rcases hf' with rfl | rfl <;> simp)
          (by
            intro f hf
            simp only [cj,cY,fX] at hf
            rcases hf with rfl | rfl
            ·exact Pa.Xa _ _ _ _ _ rfl rfl rfl rfl rfl underlying34 LX rfl
            ·exact Tz _ _ _ _ _ _ rfl rfl rfl rfl underlying35 Ms rfl rfl rfl)
          (Only.of_below ((aa _ _).drew)) (fun W' h=>h.size) (fun W' o h=>h.then ((aa _ _).alloc (ac _) o)) ?_
         dsimp only [Sg.dG,List.getElem?_cons_succ,List.getElem?_cons_zero]
         repeat (refine ZA ?_;quiet_step (fail);refine bk ?_)
         refine Zp ?_;refine ⟨fun f hf=>by simp only [cj,cY,fX] at hf;rcases hf with rfl | rfl <;> (intro s v e;cases e <;> rfl),?_⟩;dsimp only [Sg.aM,List.getElem?_cons_succ,List.getElem?_cons_zero];clear x0 x1;have SO:=Hh (RZ.so.keep JB);have SV:=Hh (RZ.lv.keep JB);have D0:=Hh ((aa wr.heap.size wr).drew);have WW:Hid (w.heap.size<=wr.heap.size):=Hh (by have:=BW.out.size;have:=JB.out.size;omega)
         have PS:Hid (ps.length<=32/\(newC ((dw L).take k)).V.length<=32):=Hh (by
          have h1:=RZ.sl;have h2:(newC ((dw L).take k)).S.length=((dw L).take k).length:=cm _;have h3:(newC ((dw L).take k)).V.length=((dw L).take k).length:=cm _;rw [cH] at h2 h3
          omega)
         refine Sg.meet (fun g1 wm hb hc row n1 hH hL=>?_);have B1:=Hh (D0.trans hb);have R1:=Hh row;clear hb hc row n1 hH hL;go_simp;refine Sg.call (fun xs w2 hb hc=>⟨by rfl,fun K hK=>?_⟩);have r1:=iP hb R1;have b2:Below wr.heap.size wr w2:=aR B1 hb;clear hb hc R1;simp only [Sg.fill,cy,br]
         refine bT (K:=KN) underlying34 LX rfl (by omega) _ _ rfl w.heap.size vs ps (by rfl) (SO.out.keep b2) ⟨g1,0,none⟩ s (by rfl) (fun j u hu=>by
          match j,hu with
          | 0,hu =>
            simp [KN,ptr] at hu
            subst hu;rw [Ck.iK];exact ah r1 0
          | j+1,hu=>simp [KN] at hu) (by have:=PS.out.1;omega) (by have:=WW.out;have:=b2.size;omega) ?_
         intro v' w3 own gr hq
         have o3:Only (fun q=>vs.ownBlock=some q\/vl.ownBlock=some q) wr w3:=(Only.of_below b2).trans (Pa.aQ gr) fun q _ e=>.inl e;refine hK _ _ (Sc.Cl.of o3) gr.size (fun g hg hl=>gr.block g hl fun e=>by have:=(LV.out g (.inl e.symm)).2;have:wr.heap.size<=g:=hg;omega) ?_;have O3:=Hh o3;have P3:=Hh own
         have Q3:Hid (v'.ownBlock=vs.ownBlock\/∃ g,v'.ownBlock=some g/\wr.heap.size<=g):=Hh (by
          rcases hq with e | ⟨g,e,hg⟩
          ·exact .inl e
          ·exact .inr ⟨g,e,by have:=b2.size;omega⟩)
         have V3:=Hh (aC (SV.keep b2) (fun k e=>Pa.aZ (SV.keep b2) (SO.keep b2) (by decide) k e) (Pa.aQ gr));clear hK K own gr hq o3 r1 b2 B1;refine Sg.meet (fun g2 wm hb hc row n2 hH hL=>?_);have R2:=Hh row;have O4:=Hh (O3.then hb);have P4:=Hh (P3.keep hb);have V4:=Hh (V3.keep hb);clear hb hc row n2 hH hL O3 P3 V3;go_simp;refine Sg.aap (fun xs w4 hb hc=>⟨by rfl,fun K hK=>?_⟩);have r2:=iP hb R2;have o4:=O4.then hb;have p4:=P4.keep hb;have v4:=V4.keep hb;clear hb hc R2 O4 P4 V4;simp only [Sg.fill,br]
         refine bT (K:=KB) underlying35 Ms rfl (by omega) _ _ rfl w.heap.size vl (newC ((dw L).take k)).V (by rfl) v4 ⟨g2,0,none⟩ true (by rfl) (fun j u hu=>by
          match j,hu with
          | 0,hu =>
            simp [KB] at hu
            subst hu;rw [Ck.iK];exact ah r2 0
          | j+1,hu=>simp [KB] at hu) (by have:=PS.out.2;omega) (by have:=WW.out;have:=o4.size;omega) ?_
         intro v2 w5 own gr hq
         have o5:Only (fun q=>vs.ownBlock=some q\/vl.ownBlock=some q) wr w5:=o4.trans (Pa.aQ gr) fun q _ e=>.inr e;refine hK _ _ (Sc.Cl.of o5) gr.size ?_;have O5:=Hh o5;have V5:=Hh own;have P5:=Hh (aC p4 (fun k e=>Pa.aZ p4 v4 (by decide) k e) (Pa.aQ gr))
         have Q5:Hid (v2.ownBlock=vl.ownBlock\/∃ g,v2.ownBlock=some g/\wr.heap.size<=g):=Hh (by
          rcases hq with e | ⟨g,e,hg⟩
          ·exact .inl e
          ·exact .inr ⟨g,e,by have:=o4.size;omega⟩)
         clear hK K own gr hq o4 p4 v4 o5 r2;refine Sg.ZZ (fun w6 hb hc=>?_);have o6:=O5.then hb;have V6:=Hh (V5.keep hb);have P6:=Hh (P5.keep hb);have R6:=Hh ((o6.block r (bm RW) (fun g=>by rcases g with g | g;exact n0.out.1 g;exact n0.out.2 g)).trans RW.out);have O6:=Hh o6;clear hb hc O5 V5 P5 o6
         have NX:Hid (NI w B0 r p (dw L) (k+1) v' (ps ++ [s]) v2 ((w6.setCell ⟨r,0,none⟩ v').setCell ⟨r,1,none⟩ v2)):=Hh (by
          have f0:=Rw.heap_setCell_same (j:=0) R6 v';have f1:=Rw.heap_setCell_same (j:=1) f0 v2;have s0:Only (fun q=>q=r) w6 ((w6.setCell ⟨r,0,none⟩ v').setCell ⟨r,1,none⟩ v2):=(Only.set (fun q=>q=r) w6 (a:=⟨r,0,none⟩) rfl v').trans (Only.set (fun q=>q=r) _ (a:=⟨r,1,none⟩) rfl v2) fun _ _ q=>q;have a1:=P6.apart R6 (by decide);have a2:=V6.apart R6 (by decide);refine ⟨?_,?_,Fh GDS GP⟩
          ·rw [ST.out]
           exact RZ.push (by omega) BW.out.size rfl JB.out (by have:=HS.out;omega) SL.out RS.out ((O6.out.mono fun q _ g=>by
            rcases g with g | g
            ·exact .inr (.inl g)
            ·exact .inr (.inr g)).trans s0 fun q _ g=>.inl g) f1
            (aC P6 (fun q e g=>a1 (by rw [e,g])) s0) Q3.out (aC V6.out (fun q e g=>a2 (by rw [e,g])) s0) Q5.out
          ·have b6:Below w.heap.size w w6:=(aR BW JB).trans (O6.below WW fun q g=>(LV q g).1)
           exact s0.below b6.size (fun q g=>by have:=LO.out;omega) |> fun z=>b6.trans z)
         obtain ⟨a3,c3,rfl,_⟩:=P6.slice;obtain ⟨a4,c4,rfl,_⟩:=V6.slice;generalize (ps ++ [s]).length=l3 at *;generalize ((newC ((dw L).take k)).V ++ [true]).length=l4 at *;obtain ⟨z0,z1,y0,y1⟩:=wE R6;dsimp only [Sg.dG,List.getElem?_cons_succ,List.getElem?_cons_zero];refine Sg.lastT (fun K hK=>?_);go_simp;refine hK _ _ ?_;clear hK K;refine Sg.lastT (fun K hK=>?_);go_simp;refine hK _ _ ?_;clear hK K;refine Sg.lastT (fun K hK=>?_);go_simp;refine hK _ _ ?_;clear hK K;refine Sg.lastT (fun K hK=>?_);go_simp;refine hK _ _ ?_;clear hK K;refine Sg.lastT (fun K hK=>?_);go_simp;refine hK _ _ ?_;clear hK K;refine Sg.lastT (fun K hK=>?_);go_simp;refine hK _ _ ?_;clear hK K;refine Sg.ac3 ?_;clear z0 z1 y0 y1 R6 P6 V6 O6;go_wp2
         go_roundw
         case rel=>exact ⟨k+1,_,_,_,by omega,by go_num,NX⟩
         case measure=>simp [intOf];omega
    ·obtain rfl:k=n:=by omega
     have NE:Hid ((pM (dJ (dw L) 0).1=true/\fB (dJ (dw L) 1).1 40=true/\fP (dJ (dw L) 0).1 40=fP (dJ (dw L) 1).1 40/\fR (dJ (dw L) 0).1 40=fR (dJ (dw L) 1).1 40->newE (dw L)=0)/\(¬ (pM (dJ (dw L) 0).1=true/\fB (dJ (dw L) 1).1 40=true/\fP (dJ (dw L) 0).1 40=fP (dJ (dw L) 1).1 40/\fR (dJ (dw L) 0).1 40=fR (dJ (dw L) 1).1 40)->newE (dw L)=10)):=Hh (Lv hlen (Ko (by rw [PLN.out];exact I.out.gd)));have TK:(dw L).take k=dw L:=dg (by rw [PLN.out];exact ac _);have IZ:=I.rz;have BW:=Hh I.aG;rw [TK] at IZ;have RZ:=Hh IZ;clear IZ I TK;have hps:ps.length=k:=by have h1:=RZ.out.sl;have h2:(newC (dw L)).S.length=(dw L).length:=cm _;have:=PLN.out;omega
     have S0_:sat (newC (dw L)).S ((0:Nat):Int)=((dJ (dw L) 0).1,0):=qF (by rw [PLN.out];omega);have S1_:sat (newC (dw L)).S ((1:Nat):Int)=((dJ (dw L) 1).1,0):=qF (by rw [PLN.out];omega);have T0:=RZ.st 0 (by omega);have T1:=RZ.st 1 (by omega);rw [S0_] at T0;rw [S1_] at T1;have OK0:Hid (dX (dJ (dw L) 0).1):=Hh (by obtain ⟨_,_,h,e⟩:=T0;rw [← e];exact h.ok);obtain ⟨gs,sc,rfl,_,_,_,_,_,hS⟩:=RZ.so.form (by omega);have cs0:=Pa.U1 hS (i:=0) (by omega);have cs1:=Pa.U1 hS (i:=1) (by omega);have d0:=RZ.cells.1;rw [hps] at d0;have D0:=Hh d0;have CS1:=Hh cs1;have RT0:=Hh (kM T0 40);have T1H:=Hh T1;have LB:Hid (r < wr.heap.size/\gs < wr.heap.size):=Hh ⟨RZ.QY,(RZ.Yo gs (.inl rfl)).2⟩;have FIN:Hid (∀ w',Below wr.heap.size wr w'->newE (dw L)=0->oD w B0 (dw L) (.returned (.tuple #[.pointer (some ⟨r,0,none⟩),.int .i64 0])) w'):=Hh (fun w' b h=>Yj (aR BW b) h (RZ.below b));have BAD:Hid (∀ w',Below wr.heap.size wr w'->newE (dw L)=10->oD w B0 (dw L) (.returned (.tuple #[.pointer none,.int .i64 10])) w'):=Hh (fun w' b h=>tX (aR BW b) h (by decide));unfold ptr at cs0 cs1;unfold kZ at RT0;clear hS S0_ S1_ T0 T1 RZ BW;generalize (dJ (dw L) 0).1=A0 at *;generalize (dJ (dw L) 1).1=A1 at *;generalize ps.getD 0 0=s0 at *;generalize ps.getD 1 0=s1 at *;unfold file at RT0;have OKL:=Hh (F8 OK0 40);clear OK0;go_wp2_with fail;refine RT0.mono ?_;rintro e w1 ⟨u0,rfl,rd0,b1⟩;have RD0:=Hh rd0;obtain ⟨q0,k0,rfl,_⟩:=rd0.slice;have ba:=b1.alloc b1.size (.cells #[.int .i64 (fP A0 40),.slice q0 (fR A0 40).length k0] 79);have BA:=Hh ba;have XA:=Hh (bh w1 (.cells #[.int .i64 (fP A0 40),.slice q0 (fR A0 40).length k0] 79));have RA:=Hh (rd0.below ((aa w1.heap.size w1).alloc (ac _) (.cells #[.int .i64 (fP A0 40),.slice q0 (fR A0 40).length k0] 79)));clear rd0 RD0 b1 ba RT0 cs0 cs1 d0;go_upto_region 18 with fail;generalize (w1.alloc (.cells #[.int .i64 (fP A0 40),.slice q0 (fR A0 40).length k0] 79))=W1 at *;generalize w1.heap.size=ga at *;have d0:=(BA.cell LB.out.1).trans D0;have cs1:W1.cell? ⟨gs,0+1,none⟩=some (.pointer (some ⟨s1,0,none⟩)):=(BA.cell LB.out.2).trans CS1;have cs1':W1.cell? ⟨gs,1,none⟩=some (.pointer (some ⟨s1,0,none⟩)):=cs1;have RT1:=Hh (kM (Fs.Rs.below T1H BA) 40);unfold kZ file at RT1;clear T1H D0 CS1 LB;go_wp2_with fail;refine RT1.mono ?_;rintro e w2 ⟨u1,rfl,rd1,b2⟩;obtain ⟨q1,k1,rfl,_⟩:=rd1.slice;have bb:=(aa w2.heap.size w2).alloc (ac _) (.cells #[.int .i64 (fP A1 40),.slice q1 (fR A1 40).length k1] 79);have B2:=Hh (b2.trans (bb.mono b2.size));have BB:=aR BA B2;have XB:=Hh (bh w2 (.cells #[.int .i64 (fP A1 40),.slice q1 (fR A1 40).length k1] 79));have XA2:=Hh (iP B2 XA);have RB:=Hh (rd1.below bb);have RA2:=Hh (RA.below B2);clear rd1 b2 bb RT1 cs1 cs1' d0 BA B2 XA RA;go_upto_region 19 with fail;generalize (w2.alloc (.cells #[.int .i64 (fP A1 40),.slice q1 (fR A1 40).length k1] 79))=W2 at *;generalize w2.heap.size=gb at *;obtain ⟨x0,x1⟩:=nN XA2;have SQ:=Hh (Re.pV W2 (fP A0 40) _ (fR A0 40) RA2 OKL);unfold Re.kQ file at SQ;go_wp2_with fail;refine SQ.mono ?_;rintro e w3 ⟨u2,rfl,_,b3⟩;have B3:=aR BB b3;have RA3:=Hh (RA2.below b3);have RB3:=Hh (RB.below b3);have y0:=ah (iP b3 XA2) 0;have y1:=ah (iP b3 XA2) 1;have z0:=ah (iP b3 XB) 0;have z1:=ah (iP b3 XB) 1;have SM:=Hh (Fl.vC w3 (fP A0 40) (fP A1 40) _ _ (fR A0 40) (fR A1 40) RA3 RB3);unfold file at SM;have SQ0:Hid (pM A0=(fB A0 40 && decide (Re.sN (fP A0 40) (fR A0 40)=0))):=Hh rfl;have SM0:Hid (jB (fP A0 40) (fR A0 40) (fP A1 40) (fR A1 40)=true↔(fP A0 40=fP A1 40/\fR A0 40=fR A1 40)):=Hh decide_eq_true_iff;clear b3 x0 x1 SQ RA2 RB XA2 XB RA3 RB3 BB OKL;generalize hfa:fB A0 40=fa at *;generalize hfb:fB A1 40=fb at *;generalize Re.sN (fP A0 40) (fR A0 40)=sn at *;generalize jB (fP A0 40) (fR A0 40) (fP A1 40) (fR A1 40)=sm at *;generalize (fR A0 40).length=m0 at *;generalize (fR A1 40).length=m1 at *
     have bad:Hid ((fa=false\/fb=false\/sn≠0\/sm=false)->newE (dw L)=10):=Hh (fun g=>NE.out.2 (fun ⟨h1,h2,h3⟩=>by
      rw [SQ0.out,ce,cM] at h1
      rcases g with g | g | g | g
      ·rw [g] at h1;exact Bool.noConfusion h1.1
      ·rw [g] at h2;exact Bool.noConfusion h2
      ·exact g h1.2
      ·rw [SM0.out.2 h3] at g;exact Bool.noConfusion g))
     have good:Hid (fa=true->fb=true->sn=0->sm=true->newE (dw L)=0):=Hh (fun h1 h2 h3 h4=>NE.out.1 ⟨by rw [SQ0.out,h1,h3];rfl,h2,SM0.out.1 h4⟩);clear NE SQ0 SM0 hfa hfb
     cases fa with
     | false =>
       have E:=Hh (BAD w3 B3 (bad (.inl rfl)));clear FIN BAD bad good SM;go_wp2
       go_ret2
       exact E
     | true =>
       cases fb with
       | false =>
         have E:=Hh (BAD w3 B3 (bad (.inr (.inl rfl))));clear FIN BAD bad good SM;go_wp2
         go_ret2
         exact E
       | true =>
         by_cases hsn:sn=0
         ·subst hsn
          go_wp2_with fail;refine SM.mono ?_;rintro e w4 ⟨rfl,b4⟩;have B4:=aR B3 b4;clear b4 SM
          cases sm with
          | true =>
            have E:=Hh (FIN w4 B4 (good (by simp) (by simp) (by simp) (by simp)));clear FIN BAD bad good;go_wp2
            go_ret2
            exact E
          | false =>
            have E:=Hh (BAD w4 B4 (bad (by simp)));clear FIN BAD bad good;go_wp2
            go_ret2
            exact E
         ·have E:=Hh (BAD w3 B3 (bad (.inr (.inr (.inl hsn)))))
          have p1:(sn != 0)=true:=fj.2 hsn;clear FIN BAD bad good SM hsn;go_wp2
          go_ret2
          exact E
end Cu
namespace Cu
open Go.Maps
open Fs (qI lG)
attribute [local irreducible] Sd.aW wpQuiet
theorem QH {w:World} {B r t p:Nat} {F:Nat->Prop} {c:Cs} {vs vl vq:Value} {ps:List Nat} (h:Rz B F r c t vs ps vl p vq w) (ok:kC c t) (x:Ac) (hk:x.k=2) (hn:¬ no c x.n) (hlv:bU c.V x.n=true) (hx:bN x.v):Calls prog 12 #[.pointer (some ⟨r,0,none⟩),eG x] w (nM w B F r p vl c t x):=by
 have B0:=Hh ((aa w.heap.size w).alloc (ac _) (.cells (bC x) 44));have he:aX x c=if sB (sat c.S x.n).1 x.f x.r=true then 0 else 3:=by
  unfold aX;rw [aq (by omega),aq (by omega),aq (by rintro (g | g | g);omega;omega;exact hn g),aw hk,aw hlv]
 have hc0:sB (sat c.S x.n).1 x.f x.r=true->bE x c = { c with S:=jT c.S x.n (sA (sat c.S x.n).1 x.f x.r x.v,(sat c.S x.n).2) }:=fun g=>by
  unfold bE;rw [aq (by omega),aq (by rw [he,aw g];simp),aq (by omega),aw hk]
 have hc1:sB (sat c.S x.n).1 x.f x.r=false->bE x c=c:=fun g=>by
  unfold bE;rw [aq (by omega),aw (by rw [he,g];decide)]
 have Z:=Hh (h.below B0);have d0:=Z.cells.1;have d1:=Z.cells.2.1;have hl:=h.sl;have hv:=ok.lv;have hlen:=ok.len;unfold no at hn;obtain ⟨gs,sc,rfl,_,_,_,_,_,hS⟩:=Z.so.form (by omega);have cs:=Pa.U1 hS (i:=x.n.toNat) (by omega);rw [cX] at cs;obtain ⟨gl,cl,rfl,_,_,_,_,_,hA⟩:=Z.lv.form (by omega);rw [hl] at d0;rw [hv] at d1;have cb:=Pa.Mf hA (i:=x.n.toNat) (by omega);rw [cX] at cb;have hnl:x.n.toNat < ps.length:=by omega
 have hnn:((x.n.toNat:Nat):Int)=x.n:=by omega
 have ST:=Hh (Z.st x.n.toNat hnl);rw [hnn] at ST
 have FIN:Hid (∀ w1 w2 (bq:Bool),Below (w.alloc (.cells (bC x) 44)).heap.size (w.alloc (.cells (bC x) 44)) w1->bq=sB (sat c.S x.n).1 x.f x.r->Rs w2 (ps.getD x.n.toNat 0) (AV (Gz F r p (.slice (some ⟨gl,0,none⟩) c.V.length cl)) (Value.slice (some ⟨gs,0,none⟩) ps.length sc).ownBlock ps x.n.toNat) (sA (sat c.S x.n).1 x.f x.r x.v) (sat c.S x.n).2->Only (fun k=>k=ps.getD x.n.toNat 0) w1 w2->nM w B F r p (.slice (some ⟨gl,0,none⟩) c.V.length cl) c t x (.returned (.int .i64 (if bq=true then 0 else 3))) w2):=Hh (fun w1 w2 bq b1 hq hs o=>by
  subst hq;have z:=((Z.below b1).store hnl (x:=(sA (sat c.S x.n).1 x.f x.r x.v,(sat c.S x.n).2)) o hs).late;rw [hnn] at z;refine ⟨.slice (some ⟨gs,0,none⟩) ps.length sc,ps,.slice (some ⟨gl,0,none⟩) c.V.length cl,vq,rfl,by rw [he],?_,(Only.of_below (G:=Mine B F) (aR B0 b1)).trans o fun k _ g=>by rw [g];exact (Z.out.below b1).mine.2.2.1 _ hnl⟩
  cases g:sB (sat c.S x.n).1 x.f x.r with
  | true=>rw [hc0 g];exact z
  | false =>
    have e1:sA (sat c.S x.n).1 x.f x.r x.v=(sat c.S x.n).1:=by
     unfold sA
     split
     ·rfl
     ·rw [g];rfl
    rw [hc1 g];rw [e1] at z;have e2:jT c.S x.n ((sat c.S x.n).1,(sat c.S x.n).2)=c.S:=by
     unfold jT
     show c.S.set x.n.toNat (sat c.S x.n)=c.S
     unfold sat;rw [af,am (by omega)];exact List.set_getElem_self (by omega)
    rw [e2] at z
    exact z)
 have AL:=Hh (fun k (g:AV (Gz F r p (.slice (some ⟨gl,0,none⟩) c.V.length cl)) (Value.slice (some ⟨gs,0,none⟩) ps.length sc).ownBlock ps x.n.toNat k)=>Z.abm x.n.toNat k g);have off:=Z.JY hnl;have slt:=LG (h.st x.n.toNat hnl);have NG:Hid (w.heap.size≠ps.getD x.n.toNat 0/\r≠ps.getD x.n.toNat 0/\gs≠ps.getD x.n.toNat 0):=Hh ⟨by omega,fun e=>off (.inl (.inr (.inl e.symm))),fun e=>off (.inr (.inl (by rw [← e];rfl)))⟩;clear h hl ok hA hS he hc0 hc1 off slt;unfold bC at B0 d0 d1 cb cs ST FIN AL;unfold eG bC;obtain ⟨k,n,f,rr,v,s,m,tt⟩:=x;simp only at hk hn hlv hx hnl hnn B0 FIN ST AL NG d0 d1 cb cs ⊢;subst hk;obtain ⟨n,rfl⟩:∃ j:Nat,n=j:=⟨n.toNat,by omega⟩;rw [cg] at cb cs hnl hnn FIN ST AL NG;have hlv':c.V.getD n false=true:=by unfold bU at hlv;rw [cg] at hlv;exact hlv
 rw [hlv'] at cb;clear hlv hlv';have hlt:n < c.S.length:=by omega
 generalize c.S.length=ln at *
 go_enter func12,ntmps12
 go_upto_region 10 with fail;have X0:=Hh (bh w (.cells #[.int .i64 2,.int .i64 n,.int .i64 f,.int .i64 rr,.int .u8 v.1,.int .u8 v.2.1,.int .u8 v.2.2.1,.int .u8 v.2.2.2,.int .i64 s,.int .i64 m,.int .i64 tt] 44));generalize w.alloc (.cells #[.int .i64 2,.int .i64 n,.int .i64 f,.int .i64 rr,.int .u8 v.1,.int .u8 v.2.1,.int .u8 v.2.2.1,.int .u8 v.2.2.2,.int .i64 s,.int .i64 m,.int .i64 tt] 44)=W at *;generalize w.heap.size=gx at X0 NG ⊢;obtain ⟨x0,x1⟩:=nN X0;have p3:decide ((n:Int) < 0)=false:=ai (by omega);have p4:decide ((ln:Int)<=(n:Int))=false:=ai (by omega);have p5:decide (ln<=n)=false:=ai (by omega);clear hn hv hlen
 go_quiet (fail)
 go_wp2
 go_quiet (fail)
 generalize hW:(W.drewN _).drewN _=W3 at *;generalize hsn:ps.getD n 0=sn at *;clear hsn;have B3:Hid (Below W.heap.size W W3):=Hh (by rw [← hW];exact db (db (aa _ _) _) _);clear hW x0 x1;have y0:W3.cell? ⟨gx,0,none⟩=some (.int .i64 2):=(B3.out.cell (bm X0.out)).trans (ah X0.out 0);go_upto_region 17 with fail;clear y0;have BD:=Hh (B3.trans ((aa W3.heap.size W3).drew.mono B3.size));have OD:Hid (Only (fun k=>k=sn) W W3.drew):=Hh (Only.of_below BD);have CSET:=Hh (qI (Fs.Rs.below ST BD) (fun k g=>cd (AL k g) BD.size) f rr v hx);have Q0:=Hh d0;have QS:=Hh cs;have cell_:∀ (k:Nat) (u:Value),W.cell? ⟨gx,k,none⟩=some u->∀ W',Only (fun k=>k=sn) W W'->W'.cell? ⟨gx,k,none⟩=some u:=fun k u hc W' o=>o.cell hc (fun e=>NG.out.1 e);have s0:=Sc.ay (C:=fun W'=>Only (fun k=>k=sn) W W') (a:=⟨r,0,none⟩) (fun W' o=>o.cell Q0 (fun e=>NG.out.2.1 e));have s1:=Sc.ay (C:=fun W'=>Only (fun k=>k=sn) W W') (a:=⟨gs,n,none⟩) (fun W' o=>o.cell QS (fun e=>NG.out.2.2 e));have x1:=Sc.ay (C:=fun W'=>Only (fun k=>k=sn) W W') (a:=⟨gx,1,none⟩) (cell_ 1 _ (ah X0 1));have x2:=Sc.ay (C:=fun W'=>Only (fun k=>k=sn) W W') (a:=⟨gx,2,none⟩) (cell_ 2 _ (ah X0 2));have x3:=Sc.ay (C:=fun W'=>Only (fun k=>k=sn) W W') (a:=⟨gx,3,none⟩) (cell_ 3 _ (ah X0 3));have x4:=Sc.ay (C:=fun W'=>Only (fun k=>k=sn) W W') (a:=⟨gx,4,none⟩) (cell_ 4 _ (ah X0 4));have x5:=Sc.ay (C:=fun W'=>Only (fun k=>k=sn) W W') (a:=⟨gx,5,none⟩) (cell_ 5 _ (ah X0 5));have x6:=Sc.ay (C:=fun W'=>Only (fun k=>k=sn) W W') (a:=⟨gx,6,none⟩) (cell_ 6 _ (ah X0 6));have x7:=Sc.ay (C:=fun W'=>Only (fun k=>k=sn) W W') (a:=⟨gx,7,none⟩) (cell_ 7 _ (ah X0 7));have ne:Nonempty (Sc.In (fun W'=>Only (fun k=>k=sn) W W')):=⟨⟨_,OD⟩⟩;unfold lG aH at CSET;clear d0 d1 cs cb cell_ hnn;generalize hbq:sB (sat c.S n).1 f rr=bq at *;unfold ptr at s1;refine Sc.start (fun W'=>Only (fun k=>k=sn) W W') [(false,0),(false,1),(false,2),(false,3),(false,4),(false,5),(false,6),(false,7),(false,8),(false,9),(false,10),(false,11),(false,12),(false,13),(true,14),(false,15)] (by kernel_rfl) (by kernel_rfl) (by kernel_rfl) OD ?_;dsimp only [Sd.aM,List.getElem?_cons_succ,List.getElem?_cons_zero]
 iterate 14 (refine Sd.lit ?_;quiet_step (fail);refine bk ?_)
 clear s0 s1 x1 x2 x3 x4 x5 x6 x7;refine Sd.call (by rfl) (fun K hK=>?_);go_simp;refine CSET.mono ?_;rintro e w5 ⟨rfl,rs5,o5⟩;have E:=Hh (FIN W3.drew w5 bq BD rfl rs5 o5);refine hK _ _ (Sc.Cl.of (OD.trans o5 fun k _ g=>g)) ?_;clear hK K rs5 o5 CSET FIN
 iterate 1 (refine Sd.lit ?_;quiet_step (fail);refine bk ?_)
 refine Sd.done ?_
 cases bq with
 | true =>
   go_wp2
   go_ret
   exact E
 | false =>
   go_wp2
   go_ret
   exact E
end Cu
namespace Cu
open Go.Maps
theorem Rz.live {B r t p gl cap i:Nat} {F:Nat->Prop} {c:Cs} {vs vq:Value} {ps:List Nat} {w:World} (h:Rz B F r c t vs ps (.slice (some ⟨gl,0,none⟩) c.V.length cap) p vq w) (hi:i < c.V.length) (b:Bool):Rz B F r { c with V:=c.V.set i b } t vs ps (.slice (some ⟨gl,0,none⟩) (c.V.set i b).length cap) p vq (w.setCell ⟨gl,i,none⟩ (.bool b)):=by
 have o:Only (fun k=>k=gl) w (w.setCell ⟨gl,i,none⟩ (.bool b)):=Only.set (fun k=>k=gl) w (a:=⟨gl,i,none⟩) rfl _;have own:=Rw.Ow.set h.lv i 0 hi (by decide) (.bool b) b rfl;rw [show i * KB.n+0=i from Nat.mul_one i] at own;have hgl:(Value.slice (some ⟨gl,0,none⟩) c.V.length cap).ownBlock=some gl:=rfl;have nr:r≠gl:=fun e=>h.vr.2.1 (by rw [hgl,e]);have np:p≠gl:=fun e=>h.vp.2.1 (by rw [hgl,e]);have ns:vs.ownBlock≠some gl:=fun e=>pX h.so h.lv (by decide) gl e hgl;have nq:vq.ownBlock≠some gl:=fun e=>pX h.sp h.lv (by decide) gl e hgl;rw [cA];exact ⟨(o.block r h.QY nr).trans h.row,aC h.so (fun k e g=>ns (by rw [e,g])) o,h.sl,fun j hj=>h.wG hj o (fun k g=>.inl (.inr (.inr (.inr (by rw [hgl,g]))))),h.WG,own,h.pr.only o np,aC h.sp (fun k e g=>nq (by rw [e,g])) o,h.lo,h.nr,h.np,h.nv,fun k g=>cd (h.low k g) o.size⟩
attribute [local irreducible] Sd.aW wpQuiet
variable {w:World} {B r t p:Nat} {F:Nat->Prop} {c:Cs} {vs vl vq:Value} {ps:List Nat}
theorem Qs (h:Rz B F r c t vs ps vl p vq w) (ok:kC c t) (x:Ac) (hk:x.k=4) (hn:¬ no c x.n) (hlv:bU c.V x.n=true):Calls prog 12 #[.pointer (some ⟨r,0,none⟩),eG x] w (nM w B F r p vl c t x):=by
 have B0:=Hh ((aa w.heap.size w).alloc (ac _) (.cells (bC x) 44));have he:aX x c=0:=by
  unfold aX;rw [aq (by omega),aq (by omega),aq (by rintro (g | g | g);omega;omega;exact hn g),aq (by omega),aw hk,aw hlv]
 have hc0:bE x c = { c with V:=c.V.set x.n.toNat false,P:=Wt.kG c.P x.n }:=by
  unfold bE;rw [aq (by omega),aq (fun g=>g he),aq (by omega),aq (by omega),aw hk]
 have Z:=Hh (h.below B0);have d0:=Z.cells.1;have d1:=Z.cells.2.1;have hl:=h.sl;have hv:=ok.lv;have hlen:=ok.len;obtain ⟨sa,sc,rfl,_,_⟩:=h.so.slice;unfold no at hn;obtain ⟨gl,cl,rfl,_,gll,_,_,gfz,hA⟩:=Z.lv.form (by omega);have GFZ:=Hh gfz;have NP0:Hid (w.heap.size≠p/\r≠p):=Hh ⟨fun e=>by have:=h.plt;omega,h.rp⟩;have NE0:Hid (w.heap.size≠gl):=Hh (fun e=>by obtain ⟨hb,hlt⟩:=h.Yo gl (.inr (.inl rfl));omega);clear gfz;rw [hl] at d0;rw [hv] at d1;have cb:=Pa.Mf hA (i:=x.n.toNat) (by omega);rw [cX] at cb;have hin:x.n.toNat < c.V.length:=by omega
 have hnn:((x.n.toNat:Nat):Int)=x.n:=by omega
 have ZL:=Hh (fun w1 (b1:Below (w.alloc (.cells (bC x) 44)).heap.size (w.alloc (.cells (bC x) 44)) w1)=>(Z.below b1).live hin false);have CR:=Hh (fun w1 b1=>Wt.yE (ZL w1 b1).pr x.n);have FZ:=Hh (fun w1 (b1:Below (w.alloc (.cells (bC x) 44)).heap.size (w.alloc (.cells (bC x) 44)) w1)=>(Z.below b1).lv)
 have FIN1:Hid (∀ w1 w2,Below (w.alloc (.cells (bC x) 44)).heap.size (w.alloc (.cells (bC x) 44)) w1->Only (fun k=>k=p) (w1.setCell ⟨gl,x.n.toNat,none⟩ (.bool false)) w2->Wt.Pf w2 p (Wt.kG c.P x.n) t->nM w B F r p (.slice (some ⟨gl,0,none⟩) c.V.length cl) c t x (.returned (.int .i64 0)) w2):=Hh (fun w1 w2 b1 o hp=>by
  have z:=((ZL w1 b1).pair o hp).late;have ol:Only (Mine B F) w1 (w1.setCell ⟨gl,x.n.toNat,none⟩ (.bool false)):=(Only.set (fun k=>k=gl) w1 (a:=⟨gl,x.n.toNat,none⟩) rfl _).mono fun k _ g=>by rw [g];exact (Z.out.below b1).mine.2.2.2 gl rfl
  exact ⟨.slice sa ps.length sc,ps,.slice (some ⟨gl,0,none⟩) (c.V.set x.n.toNat false).length cl,vq,rfl,by rw [he],by rw [hc0];exact z,(Only.of_below (G:=Mine B F) (aR B0 b1)).trans (ol.trans o fun k _ g=>by rw [g];exact Z.out.mine.2.1) fun k _ g=>g⟩)
 clear h hl ok hA he hc0;unfold bC at B0 d0 d1 cb ZL CR FZ FIN1 GFZ gll;unfold eG bC;obtain ⟨k,n,f,rr,v,s,m,tt⟩:=x;simp only at hk hn hlv hin hnn B0 ZL CR FZ FIN1 GFZ gll d0 d1 cb ⊢;subst hk;obtain ⟨n,rfl⟩:∃ j:Nat,n=j:=⟨n.toNat,by omega⟩;simp only [cg] at cb hin ZL CR FZ FIN1;clear hnn;have hlv':c.V.getD n false=true:=by unfold bU at hlv;rw [cg] at hlv;exact hlv
 rw [hlv'] at cb;clear hlv hlv';have hlt:n < c.S.length:=by omega
 generalize c.S.length=ln at *
 go_enter func12,ntmps12
 go_upto_region 10 with fail;have X0:=Hh (bh w (.cells #[.int .i64 4,.int .i64 n,.int .i64 f,.int .i64 rr,.int .u8 v.1,.int .u8 v.2.1,.int .u8 v.2.2.1,.int .u8 v.2.2.2,.int .i64 s,.int .i64 m,.int .i64 tt] 44));generalize w.alloc (.cells #[.int .i64 4,.int .i64 n,.int .i64 f,.int .i64 rr,.int .u8 v.1,.int .u8 v.2.1,.int .u8 v.2.2.1,.int .u8 v.2.2.2,.int .i64 s,.int .i64 m,.int .i64 tt] 44)=W at *;have NE:=NE0;have NP:=NP0;clear NE0 NP0;generalize w.heap.size=gx at X0 NE NP ⊢;obtain ⟨x0,x1⟩:=nN X0;have p3:decide ((n:Int) < 0)=false:=ai (by omega);have p4:decide ((ln:Int)<=(n:Int))=false:=ai (by omega);have p5:decide (ln<=n)=false:=ai (by omega);clear hn hv hlen
 go_quiet (fail)
 go_wp2
 go_quiet (fail)
 generalize hW:(W.drewN _).drewN _=W3 at *;have B3:Hid (Below W.heap.size W W3):=Hh (by rw [← hW];exact db (db (aa _ _) _) _);have y0:=(B3.out.cell (bm X0.out)).trans (ah X0.out 0);have y1:=(B3.out.cell (bm X0.out)).trans (ah X0.out 1);have fz:=(B3.frozen (p:=⟨gl,n,none⟩) gll).trans (GFZ n);have yd:=gP B3 d1;have yb:=gP B3 cb;clear hW x0 x1;go_upto_region 23 with fail;have hnI:(n:Int) < (ln:Int):=by omega
 go_region
 have ZP:=Hh (ZL W3 B3);have FI:=Hh (fun w2 o hp=>FIN1 W3 w2 B3 o hp);have RD:=Hh ZP.cells.2.2.1;have PF:=Hh ZP.pr;have xg:(W3.setCell ⟨gl,n,none⟩ (.bool false)).cell? ⟨gx,1,none⟩=some (.int .i64 n)/\(W3.setCell ⟨gl,n,none⟩ (.bool false)).cell? ⟨gx,0,none⟩=some (.int .i64 4):=by
  have hb:=bp W3 ⟨gl,n,none⟩ (.bool false) gx NE;exact ⟨(ia hb).trans y1,(ia hb).trans y0⟩
 clear y0 y1 yd yb fz ZP ZL CR FZ FIN1 X0 d0 d1 cb;generalize W3.setCell ⟨gl,n,none⟩ (.bool false)=V at *;have BV:=Hh ((aa V.heap.size V).drew);have xg1:=gP BV xg.1;have xg0:=gP BV xg.2;have xr:=gP BV RD;have PD:=Hh (PF.below BV);have FJ:=Hh (fun w2 (o:Only (fun k=>k=p) V.drew w2) hp=>FI w2 ((Only.of_below (G:=fun k=>k=p) BV).trans o fun k _ g=>g) hp);clear xg RD PF BV FI;generalize V.drew=V2 at *
 by_cases h2:(n:Int) < 2
 ·have CC:=Hh (fun W' (o:Below V2.heap.size V2 W')=>Wt.yE (PD.below o) (n:Int))
  unfold Wt.dh at CC;go_upto_region 25 with fail;have l1:=bj _ _ xg1;have lr:=bj _ _ xr;have X1:=Hh xg1;have XR:=Hh xr;clear xg1 xg0 xr;have s1:=Sc.ay (C:=fun W'=>Only (fun k=>k=p) V2 W') (a:=⟨gx,1,none⟩) (fun W' o=>o.cell X1 (fun e=>NP.out.1 e));have s2:=Sc.ay (C:=fun W'=>Only (fun k=>k=p) V2 W') (a:=⟨r,2,none⟩) (fun W' o=>o.cell XR (fun e=>NP.out.2 e));have BW:=Hh ((aa V2.heap.size V2).drew);have OW:Hid (Only (fun k=>k=p) V2 V2.drew):=Hh (Only.of_below BW);have ne:Nonempty (Sc.In (fun W'=>Only (fun k=>k=p) V2 W')):=⟨⟨_,OW⟩⟩;refine Sc.start (fun W'=>Only (fun k=>k=p) V2 W') [(false,0),(false,1),(false,2),(false,3),(false,4),(false,5),(true,6)] (by kernel_rfl) (by kernel_rfl) (by kernel_rfl) OW ?_;dsimp only [Sd.aM,List.getElem?_cons_succ,List.getElem?_cons_zero]
  iterate 6 (refine Sd.lit ?_;quiet_step (fail);refine bk ?_)
  clear s1 s2;refine Sd.call (by rfl) (fun K hK=>?_);go_simp;refine (CC V2.drew BW).mono ?_;rintro e w5 ⟨rfl,p5,o5⟩;have O5:=Hh (OW.trans o5 fun k _ g=>g);have E:=Hh (FJ w5 O5 p5);refine hK _ _ (Sc.Cl.of O5) ?_;clear hK K p5 o5 FJ CC;refine Sd.done ?_;go_wp2
  go_ret
  exact E
 ·have E:=Hh (FJ V2 (Only.refl _ _) (by
   have e:Wt.kG c.P n=c.P:=by unfold Wt.kG;rw [aq (by omega),aq (by omega)]
   rw [e];exact PD.out))
  clear FJ PD xr;go_wp2
  go_ret
  exact E
theorem Gf (h:Rz B F r c t vs ps vl p vq w) (ok:kC c t) (x:Ac) (hk:x.k=5) (hn:¬ no c x.n) (hlv:bU c.V x.n=false):Calls prog 12 #[.pointer (some ⟨r,0,none⟩),eG x] w (nM w B F r p vl c t x):=by
 have B0:=Hh ((aa w.heap.size w).alloc (ac _) (.cells (bC x) 44));have he:aX x c=0:=by
  unfold aX;rw [aq (by omega),aq (by omega),aq (by rintro (g | g | g);omega;omega;exact hn g),aq (by omega),aq (by omega),aw hk,aq (by rw [hlv];decide)]
 have hc0:bE x c = { c with V:=c.V.set x.n.toNat true,P:=Wt.kH c.P x.n }:=by
  unfold bE;rw [aq (by omega),aq (fun g=>g he),aq (by omega),aq (by omega),aq (by omega),aw hk]
 have Z:=Hh (h.below B0);have d0:=Z.cells.1;have d1:=Z.cells.2.1;have hl:=h.sl;have hv:=ok.lv;have hlen:=ok.len;obtain ⟨sa,sc,rfl,_,_⟩:=h.so.slice;unfold no at hn;obtain ⟨gl,cl,rfl,_,gll,_,_,gfz,hA⟩:=Z.lv.form (by omega);have GFZ:=Hh gfz;have NP0:Hid (w.heap.size≠p/\r≠p):=Hh ⟨fun e=>by have:=h.plt;omega,h.rp⟩;have NE0:Hid (w.heap.size≠gl):=Hh (fun e=>by obtain ⟨hb,hlt⟩:=h.Yo gl (.inr (.inl rfl));omega);clear gfz;rw [hl] at d0;rw [hv] at d1;have cb:=Pa.Mf hA (i:=x.n.toNat) (by omega);rw [cX] at cb;have hin:x.n.toNat < c.V.length:=by omega
 have hnn:((x.n.toNat:Nat):Int)=x.n:=by omega
 have ZL:=Hh (fun w1 (b1:Below (w.alloc (.cells (bC x) 44)).heap.size (w.alloc (.cells (bC x) 44)) w1)=>(Z.below b1).live hin true);have CR:=Hh (fun w1 b1=>Wt.rY (ZL w1 b1).pr x.n);have FZ:=Hh (fun w1 (b1:Below (w.alloc (.cells (bC x) 44)).heap.size (w.alloc (.cells (bC x) 44)) w1)=>(Z.below b1).lv)
 have FIN1:Hid (∀ w1 w2,Below (w.alloc (.cells (bC x) 44)).heap.size (w.alloc (.cells (bC x) 44)) w1->Only (fun k=>k=p) (w1.setCell ⟨gl,x.n.toNat,none⟩ (.bool true)) w2->Wt.Pf w2 p (Wt.kH c.P x.n) t->nM w B F r p (.slice (some ⟨gl,0,none⟩) c.V.length cl) c t x (.returned (.int .i64 0)) w2):=Hh (fun w1 w2 b1 o hp=>by
  have z:=((ZL w1 b1).pair o hp).late;have ol:Only (Mine B F) w1 (w1.setCell ⟨gl,x.n.toNat,none⟩ (.bool true)):=(Only.set (fun k=>k=gl) w1 (a:=⟨gl,x.n.toNat,none⟩) rfl _).mono fun k _ g=>by rw [g];exact (Z.out.below b1).mine.2.2.2 gl rfl
  exact ⟨.slice sa ps.length sc,ps,.slice (some ⟨gl,0,none⟩) (c.V.set x.n.toNat true).length cl,vq,rfl,by rw [he],by rw [hc0];exact z,(Only.of_below (G:=Mine B F) (aR B0 b1)).trans (ol.trans o fun k _ g=>by rw [g];exact Z.out.mine.2.1) fun k _ g=>g⟩)
 clear h hl ok hA he hc0;unfold bC at B0 d0 d1 cb ZL CR FZ FIN1 GFZ gll;unfold eG bC;obtain ⟨k,n,f,rr,v,s,m,tt⟩:=x;simp only at hk hn hlv hin hnn B0 ZL CR FZ FIN1 GFZ gll d0 d1 cb ⊢;subst hk;obtain ⟨n,rfl⟩:∃ j:Nat,n=j:=⟨n.toNat,by omega⟩;simp only [cg] at cb hin ZL CR FZ FIN1;clear hnn;have hlv':c.V.getD n false=false:=by unfold bU at hlv;rw [cg] at hlv;exact hlv
 rw [hlv'] at cb;clear hlv hlv';have hlt:n < c.S.length:=by omega
 generalize c.S.length=ln at *
 go_enter func12,ntmps12
 go_upto_region 10 with fail;have X0:=Hh (bh w (.cells #[.int .i64 5,.int .i64 n,.int .i64 f,.int .i64 rr,.int .u8 v.1,.int .u8 v.2.1,.int .u8 v.2.2.1,.int .u8 v.2.2.2,.int .i64 s,.int .i64 m,.int .i64 tt] 44));generalize w.alloc (.cells #[.int .i64 5,.int .i64 n,.int .i64 f,.int .i64 rr,.int .u8 v.1,.int .u8 v.2.1,.int .u8 v.2.2.1,.int .u8 v.2.2.2,.int .i64 s,.int .i64 m,.int .i64 tt] 44)=W at *;have NE:=NE0;have NP:=NP0;clear NE0 NP0;generalize w.heap.size=gx at X0 NE NP ⊢;obtain ⟨x0,x1⟩:=nN X0;have p3:decide ((n:Int) < 0)=false:=ai (by omega);have p4:decide ((ln:Int)<=(n:Int))=false:=ai (by omega);have p5:decide (ln<=n)=false:=ai (by omega);clear hn hv hlen
 go_quiet (fail)
 go_wp2
 go_quiet (fail)
 generalize hW:(W.drewN _).drewN _=W3 at *;have B3:Hid (Below W.heap.size W W3):=Hh (by rw [← hW];exact db (db (aa _ _) _) _);have y0:=(B3.out.cell (bm X0.out)).trans (ah X0.out 0);have y1:=(B3.out.cell (bm X0.out)).trans (ah X0.out 1);have fz:=(B3.frozen (p:=⟨gl,n,none⟩) gll).trans (GFZ n);have yd:=gP B3 d1;have yb:=gP B3 cb;clear hW x0 x1;go_upto_region 23 with fail;have hnI:(n:Int) < (ln:Int):=by omega
 go_region
 have ZP:=Hh (ZL W3 B3);have FI:=Hh (fun w2 o hp=>FIN1 W3 w2 B3 o hp);have RD:=Hh ZP.cells.2.2.1;have PF:=Hh ZP.pr;have xg:(W3.setCell ⟨gl,n,none⟩ (.bool true)).cell? ⟨gx,1,none⟩=some (.int .i64 n)/\(W3.setCell ⟨gl,n,none⟩ (.bool true)).cell? ⟨gx,0,none⟩=some (.int .i64 5):=by
  have hb:=bp W3 ⟨gl,n,none⟩ (.bool true) gx NE;exact ⟨(ia hb).trans y1,(ia hb).trans y0⟩
 clear y0 y1 yd yb fz ZP ZL CR FZ FIN1 X0 d0 d1 cb;generalize W3.setCell ⟨gl,n,none⟩ (.bool true)=V at *;have BV:=Hh ((aa V.heap.size V).drew);have xg1:=gP BV xg.1;have xg0:=gP BV xg.2;have xr:=gP BV RD;have PD:=Hh (PF.below BV);have FJ:=Hh (fun w2 (o:Only (fun k=>k=p) V.drew w2) hp=>FI w2 ((Only.of_below (G:=fun k=>k=p) BV).trans o fun k _ g=>g) hp);clear xg RD PF BV FI;generalize V.drew=V2 at *
 by_cases h2:(n:Int) < 2
 ·have CC:=Hh (fun W' (o:Below V2.heap.size V2 W')=>Wt.rY (PD.below o) (n:Int))
  unfold Wt.dh at CC;go_upto_region 27 with fail;have l1:=bj _ _ xg1;have lr:=bj _ _ xr;have X1:=Hh xg1;have XR:=Hh xr;clear xg1 xg0 xr;have s1:=Sc.ay (C:=fun W'=>Only (fun k=>k=p) V2 W') (a:=⟨gx,1,none⟩) (fun W' o=>o.cell X1 (fun e=>NP.out.1 e));have s2:=Sc.ay (C:=fun W'=>Only (fun k=>k=p) V2 W') (a:=⟨r,2,none⟩) (fun W' o=>o.cell XR (fun e=>NP.out.2 e));have BW:=Hh ((aa V2.heap.size V2).drew);have OW:Hid (Only (fun k=>k=p) V2 V2.drew):=Hh (Only.of_below BW);have ne:Nonempty (Sc.In (fun W'=>Only (fun k=>k=p) V2 W')):=⟨⟨_,OW⟩⟩;refine Sc.start (fun W'=>Only (fun k=>k=p) V2 W') [(false,0),(false,1),(false,2),(false,3),(false,4),(false,5),(true,6)] (by kernel_rfl) (by kernel_rfl) (by kernel_rfl) OW ?_;dsimp only [Sd.aM,List.getElem?_cons_succ,List.getElem?_cons_zero]
  iterate 6 (refine Sd.lit ?_;quiet_step (fail);refine bk ?_)
  clear s1 s2;refine Sd.call (by rfl) (fun K hK=>?_);go_simp;refine (CC V2.drew BW).mono ?_;rintro e w5 ⟨rfl,p5,o5⟩;have O5:=Hh (OW.trans o5 fun k _ g=>g);have E:=Hh (FJ w5 O5 p5);refine hK _ _ (Sc.Cl.of O5) ?_;clear hK K p5 o5 FJ CC;refine Sd.done ?_;go_wp2
  go_ret
  exact E
 ·have E:=Hh (FJ V2 (Only.refl _ _) (by
   have e:Wt.kH c.P n=c.P:=by unfold Wt.kH;rw [aq (by omega),aq (by omega)]
   rw [e];exact PD.out))
  clear FJ PD xr;go_wp2
  go_ret
  exact E
end Cu
namespace Cu
open Go.Maps
theorem wO {w:World} {B r t p:Nat} {F:Nat->Prop} {c:Cs} {vs vl vq:Value} {ps:List Nat} (h:Rz B F r c t vs ps vl p vq w) (hB:B<=w.heap.size) (ok:kC c t) (ht:t<=1000) (x:Ac) (hx:bN x.v):Calls prog 12 #[.pointer (some ⟨r,0,none⟩),eG x] w (nM w B F r p vl c t x):=by
 by_cases h1:x.k=1
 ·exact NA h hB ok ht x h1
 ·by_cases h3:x.k=3
  ·by_cases hq:c.Q.length=32
   ·exact Uo h x h3 hq
   ·exact Qa h hB x h3 hq ok.few
  ·by_cases hb:x.k < 2\/6 < x.k\/no c x.n
   ·exact Zc h x h1 h3 hb
   ·have hn:¬ no c x.n:=fun g=>hb (.inr (.inr g))
    rcases (by omega:x.k=2\/x.k=4\/x.k=5\/x.k=6) with hk | hk | hk | hk
    ·cases hv:bU c.V x.n with
     | true=>exact QH h ok x hk hn hv hx
     | false=>exact CJ h ok x hk hn hv
    ·cases hv:bU c.V x.n with
     | true=>exact Qs h ok x hk hn hv
     | false=>exact Bq h ok x hk hn hv
    ·cases hv:bU c.V x.n with
     | true=>exact y8 h ok x hk hn hv
     | false=>exact Gf h ok x hk hn hv
    ·exact Qh h ok x hk hn
def CD (w0:World) (s r:Nat) (c:Cs) (t:Nat) (c':Cs) (t':Nat) (W:World):Prop:=∃ B F vs ps vl p vq,ClE W s F c t/\Rz B F r c' t' vs ps vl p vq W/\(∀ k,F k->w0.heap.size<=k)/\w0.heap.size<=B/\B<=W.heap.size/\Below w0.heap.size w0 W
section
variable {w0 W w':World} {s r t t':Nat} {c c':Cs}
theorem CD.aG (h:CD w0 s r c t c' t' W):Below w0.heap.size w0 W:=by obtain ⟨_,_,_,_,_,_,_,_,_,_,_,_,h⟩:=h;exact h
theorem CD.below (h:CD w0 s r c t c' t' W) (b:Below W.heap.size W w'):CD w0 s r c t c' t' w':=by
 obtain ⟨B,F,vs,ps,vl,p,vq,⟨vn,L,q,v2,Fs,h1⟩,h2,h3,h4,h5,h6⟩:=h;exact ⟨B,F,vs,ps,vl,p,vq,⟨vn,L,q,v2,Fs,h1.below b⟩,h2.below b,h3,h4,cG h5 b.size,h6.trans (b.mono h6.size)⟩
theorem CD.ch (h:CD w0 s r c t c' t' W):CH w0 s c t W:=by
 obtain ⟨B,F,vs,ps,vl,p,vq,h1,h2,h3,h4,h5,h6⟩:=h;exact ⟨F,h1,h3,h6⟩
variable {w1 w2:World} {L:List lF} {v vs vl vq:Value}
theorem ab0 (h:CH w0 s c t w1) (b:Below w1.heap.size w1 w2) (H:C8 w2 v L w0.heap.size) (e0:newE (dw L)=0):Calls prog 8 #[v] w2 fun e w'=>∃ r,e = .returned (.tuple #[.pointer (some ⟨r,0,none⟩),.int .i64 0])/\CD w0 s r c t (newC (dw L)) 0 w':=by
 obtain ⟨F,⟨vn,L1,q,v2,Fs,h1⟩,h2,h3⟩:=h.below b;have z:=h3.size;refine (zL H z).mono fun e w' d=>?_;obtain ⟨d1,-,d3⟩:=d;obtain ⟨r,vs,ps,vl,p,rfl,rz⟩:=d1 e0;exact ⟨r,rfl,w2.heap.size,Fw w2 w0.heap.size,vs,ps,vl,p,_,⟨vn,L1,q,v2,Fs,(h1.below d3).wide (fun k g=>⟨h2 k g,h1.low k g⟩) fun k g=>cd g.2 d3.size⟩,rz,fun k g=>g.1,z,d3.size,h3.trans (d3.mono z)⟩
variable {B p t2 n:Nat}
theorem YW {z:Int} (H:C8 w2 v L B) (hB:B<=w2.heap.size) (e0:newE (dw L)=z) (hz:z≠0):Calls prog 8 #[v] w2 fun e w'=>e = .returned (.tuple #[.pointer none,.int .i64 z])/\Below w2.heap.size w2 w':=by
 refine (zL H hB).mono fun e w' d=>?_;obtain ⟨-,d2,d3⟩:=d;exact ⟨by rw [d2 (by rw [e0];exact hz),e0],d3⟩
variable {F:Nat->Prop} {ps:List Nat} {c2:Cs}
theorem WV (h2:Rz B F r c' t' vs ps vl p vq W) (h3:∀ k,F k->w0.heap.size<=k) (h4:w0.heap.size<=B) (h5:B<=W.heap.size) (h6:Below w0.heap.size w0 W) (e:ClE w' s (Fx F W w') c2 t2) (o:Only F W w'):CD w0 s r c2 t2 c' t' w' :=
 ⟨B,Fx F W w',vs,ps,vl,p,vq,e,h2.only o,fun k g=>by
  have:=h6.size
  rcases g with g | g
  ·exact h3 k g
  ·omega,h4,cG h5 o.size,h6.trans (o.below h6.size h3)⟩
theorem VQ (h1:ClE W s F c t) (h3:∀ k,F k->w0.heap.size<=k) (h4:w0.heap.size<=B) (h5:B<=W.heap.size) (h6:Below w0.heap.size w0 W) (z:Rz B F r c2 t2 vs ps vl p vq w') (o:Only (Mine B F) W w'):CD w0 s r c t c2 t2 w':=by
 obtain ⟨vn,L,q,v2,Fs,h1⟩:=h1;exact ⟨B,F,vs,ps,vl,p,vq,⟨vn,L,q,v2,Fs,h1.only (fun k g m=>m.2 g) o⟩,z,h3,h4,cG h5 o.size,h6.trans (o.below h6.size fun k g=>cG h4 g.1)⟩
theorem adg (h:CD w0 s r c t c' t' W) (hg:Glob w0) (ok:kC c t) (sy:wU c) (ht:t<=1000) (x:Ac) (hx:bN x.v) (hf:Wf x.f):Calls prog 11 #[ptr s,eG x] W fun e w'=>e = .returned (.int .i64 (aX x c))/\CD w0 s r (bE x c) (t+1) c' t' w':=by
 obtain ⟨B,F,vs,ps,vl,p,vq,⟨vn,L,q,v2,Fs,h1⟩,h2,h3,h4,h5,h6⟩:=h;have gl:=bj _ _ hg;refine (Kr h1 ok sy ht (hg.below h6) (fun g=>by have:=h3 _ g;exact absurd gl (by show ¬ 0 < _;omega)) x hx hf).mono fun e w' d=>⟨d.1,WV h2 h3 h4 h5 h6 d.2.1 d.2.2⟩
theorem abE (h:CD w0 s r c t c' t' W) (ok:kC c' t') (ht:t'<=1000) (x:Ac) (hx:bN x.v):Calls prog 12 #[.pointer (some ⟨r,0,none⟩),eG x] W fun e w'=>e = .returned (.int .i64 (aX x c'))/\CD w0 s r c t (bE x c') (t'+1) w':=by
 obtain ⟨B,F,vs,ps,vl,p,vq,h1,h2,h3,h4,h5,h6⟩:=h;refine (wO h2 h5 ok ht x hx).mono fun e w' d=>?_;obtain ⟨vs',ps',vl',vq',_,rfl,z,o⟩:=d;exact ⟨rfl,VQ h1 h3 h4 h5 h6 z o⟩
theorem CD.place (h:CD w0 s r c t c' t' W):W.cell? ⟨r,3,none⟩=some (.int .i64 c'.pl):=by
 obtain ⟨B,F,vs,ps,vl,p,vq,h1,h2,h3,h4,h5,h6⟩:=h;exact h2.cells.2.2.2.1
theorem CD.stores (h:CD w0 s r c t c' t' W):∃ a cap,W.cell? ⟨r,0,none⟩=some (.slice a c'.S.length cap):=by
 obtain ⟨B,F,vs,ps,vl,p,vq,h1,h2,h3,h4,h5,h6⟩:=h;obtain ⟨a,cap,e,_⟩:=h2.so.slice;exact ⟨a,cap,by rw [← h2.sl,← e];exact h2.cells.1⟩
theorem CD.store (h:CD w0 s r c t c' t' W) (hn:n < c'.S.length):∃ b off cap u v,W.cell? ⟨r,0,none⟩=some (.slice (some ⟨b,off,none⟩) c'.S.length cap)/\W.cell? ⟨b,off+n,none⟩=some (.pointer (some ⟨u,0,none⟩))/\W.cell? ⟨u,0,none⟩=some v/\Ls (fun _=>False) W v (sat c'.S n).1:=by
 obtain ⟨B,F,vs,ps,vl,p,vq,h1,h2,h3,h4,h5,h6⟩:=h;have hn':n < ps.length:=by rw [h2.sl];exact hn
 obtain ⟨a,cap,e,_,_,hA⟩:=h2.so.rd;obtain ⟨b,off,rfl,h9⟩:=hA (by omega);obtain ⟨v,L,hh,ha⟩:=h2.st n hn';refine ⟨b,off,cap,ps.getD n 0,v,by rw [← h2.sl,← e];exact h2.cells.1,?_,ah hh.row 0,L,hh.list.mono fun k _ g=>g.elim,ha⟩;have:=h9 n hn' 0 _ rfl
 simpa [KN,ptr] using this
theorem CD.live (h:CD w0 s r c t c' t' W) (hn:n < c'.V.length):∃ b off cap m,W.cell? ⟨r,1,none⟩=some (.slice (some ⟨b,off,none⟩) m cap)/\n < m/\W.cell? ⟨b,off+n,none⟩=some (.bool (bU c'.V n)):=by
 obtain ⟨B,F,vs,ps,vl,p,vq,h1,h2,h3,h4,h5,h6⟩:=h;obtain ⟨a,cap,e,_,_,hA⟩:=h2.lv.rd;obtain ⟨b,off,rfl,h9⟩:=hA (by omega);refine ⟨b,off,cap,c'.V.length,by rw [← e];exact h2.cells.2.1,hn,?_⟩;have:=h9 n hn 0 _ rfl
 simpa [KB,bU] using this
end
open Fl (rat)
open Fs (vZ key dY gB)
open Pa (gM mF wh gZ ny Mi hr nG dN rV jb)
open Ro (E5 jJ)
open Ck (LL bQ tE)
open Re (gq sL sN gH)
variable {A:aP} {n:Int}
theorem Yn (h:fB A n=false):fP A n=0/\fR A n = []:=by
 unfold fB at h;unfold fP fR
 cases e:Fs.look key n A with
 | none=>exact ⟨rfl,rfl⟩
 | some x=>rw [e] at h;cases h
theorem Te:jJ 0 [] = []:=by
 unfold jJ Ro.tJ;rw [aq (by unfold aL;simp)]
 rfl
variable {S:bO}
theorem QJ (h:∀ x∈S,fB x.1 (32+n)=false):Kv S n=List.replicate S.length []:=by
 unfold Kv;rw [List.eq_replicate_iff];refine ⟨cm _,fun y hy=>?_⟩;obtain ⟨x,hx,rfl⟩:=dC.1 hy;obtain ⟨e1,e2⟩:=Yn (h x hx);rw [e1,e2,Te]
theorem tK (p:Nat->E5->Bool):∀ k n,Ck.zR p n (List.replicate k [])=none
 | 0,_=>rfl
 | k+1,n=>by rw [ii];exact tK p k (n+1)
theorem As:∀ k n,Ck.idx Ck.bad n (List.replicate k []) = -1
 | 0,_=>rfl
 | k+1,n=>by
   rw [ii,Ck.idx,aq (by decide)];exact As k (n+1)
theorem Uq (k:Nat):tE (List.replicate k [])=0:=by
 unfold tE Ck.bI Ck.DL Ck.E8 Ck.jF;rw [As,tK,tK]
 decide
theorem Qy (k i:Nat):bQ (List.replicate k []) i = []:=by
 unfold bQ;rw [af,List.getElem?_replicate]
 split <;> rfl
theorem Tc (h:Pa.Hr) (s:aP×Int):Mi h [] s=s:=by
 have e:nG h [] s.1=s.1:=by
  show dN h [] (fun _ _=>true) s.1=s.1
  rw [jb (V':=fun _ _=>false) (fun n k g=>absurd rfl g),rV fun _ _=>rfl]
 unfold Mi;rw [e]
 rfl
theorem SF {V:List Bool} {Q:List S2} (hl:1<=S.length/\S.length<=32) (hv:V.length=S.length):gM S (List.replicate S.length []) V=0/\mF S (List.replicate S.length []) V Q=S:=by
 have e0:gM S (List.replicate S.length []) V=0:=by
  unfold gM;rw [aw ⟨hl.1,hl.2,d7,hv⟩,Uq]
 refine ⟨e0,?_⟩;have er:mF S (List.replicate S.length []) V Q=wh S (List.replicate S.length []) V (hr S (List.replicate S.length []) V Q):=aw e0;rw [er];refine eM fun i=>?_
 by_cases hi:i < S.length
 ·have a:=ny S (List.replicate S.length []) V (hr S (List.replicate S.length []) V Q) hi
  rw [Qy,Tc] at a;have a:sat (wh S (List.replicate S.length []) V (hr S (List.replicate S.length []) V Q)) i=sat S i:=by rw [a];split <;> rfl
  unfold sat at a;rw [cg,af,af,am hi,am (by rw [gZ];exact hi)] at a;rw [am hi,am (by rw [gZ];exact hi)];exact c8 some a
 ·rw [eI (show S.length<=i by omega),eI (show (wh S (List.replicate S.length []) V (hr S (List.replicate S.length []) V Q)).length<=i by rw [gZ];omega)]
structure Blk (A:aP) (l:List Int):Prop where
 has:fB A 40=true
 p:fP A 40=3
 r:fR A 40=bJ l
 seq:gH l
variable {l:List Int}
theorem Blk.sq (h:Blk A l):pM A=true/\jA A=l:=by
 obtain ⟨e1,e2⟩:=Re.Vo h.seq;unfold pM jA;rw [h.has,h.p,h.r,e1,e2];exact ⟨rfl,rfl⟩
theorem D3 {c:Cs} (ho:0<=Wt.opn c.P) (hb:Blk (own c) l) (hn:∀ x∈c.S,∀ n∈l,fB x.1 (32+n)=false) (hl:1<=c.S.length/\c.S.length<=32) (hv:c.V.length=c.S.length) :
 rE c=0/\rC c=⟨c.S,c.V,Wt.jo c.P,pE c l,[]⟩:=by
 obtain ⟨q1,q2⟩:=hb.sq;have hs:=hb.seq.1;have hi:kD c l < l.length:=by
  unfold kD
  split <;> omega
 have hm:gq l (kD c l)∈l:=by
  unfold gq;rw [af,am hi];exact dk hi
 have ht:rT c=List.replicate c.S.length []:=by
  unfold rT;rw [q2];exact QJ fun x hx=>hn x hx _ hm
 obtain ⟨r1,r2⟩:=SF (S:=c.S) (V:=c.V) (Q:=c.Q) hl hv;unfold rE rC;rw [aq (by omega),aw q1,aq (by omega),aw q1,ht,r1,q2,aw rfl,r2];exact ⟨rfl,rfl⟩
def acR:Ac:=⟨1,0,0,0,z4,0,0,0⟩
theorem Ov (c:Cs):aX acR c=rE c/\bE acR c=rC c:=⟨aw rfl,aw rfl⟩
def A0:aP:=[(40,3,bJ [0,1])]
def S0:bO:=[(A0,0),(A0,0)]
theorem no0:∀ x∈S0,∀ n∈([0,1]:List Int),fB x.1 (32+n)=false:=fun x hx n hn=>by
 have hx:x=(A0,0):=by
  rcases cj.1 hx with h | h
  ·exact h
  ·exact cW.1 h
 rw [hx]
 rcases cj.1 hn with h | h
 ·rw [h];rfl
 ·rw [cW.1 h];rfl
def ak (k:Int):Wt.A:=⟨4,k,2,k⟩
def c1:Cs:=⟨S0,[true,true],Wt.new,1,[]⟩
def ck (k:Int):Cs:=⟨S0,[false,true],ak k,1,[]⟩
def c9:Cs:=⟨S0,[false,true],⟨4,0,1,0⟩,0,[]⟩
def A1:aP:=[(1,7,newL 7 1),(40,3,bJ [0])]
def r7:R4:=(7,0,0,0)
def A2:aP:=[(1,7,[hdr 7 1,r7]),(40,3,bJ [0])]
def L1:List Pl:=[(A1,2000),(A1,2000)]
def acW:Ac:=⟨2,1,1,1,r7,0,0,0⟩
def d1:Cs:=⟨[(A1,0),(A2,0)],[true,true],Wt.new,0,[]⟩
theorem JZ:gH [0]:=by decide
theorem adb:Blk A1 [0]:=⟨rfl,rfl,rfl,JZ⟩
theorem gd1:Mw (A1,2000):=by
 refine ⟨⟨de.2 ⟨fun y hy=>by rw [cW.1 hy];decide,List.pairwise_singleton _ _⟩,fun e he=>?_⟩,by decide,by decide⟩
 rcases cj.1 he with h | h
 ·rw [h]
  exact ⟨⟨by decide,by decide⟩,by decide,by decide,by decide,by decide,rfl⟩
 ·rw [cW.1 h]
  exact ⟨⟨by decide,by decide⟩,Re.A7 JZ⟩
theorem new1:newE L1=0:=by
 unfold newE;rw [aq (by decide),aw,aw]
 ·refine ⟨adb.sq.1,rfl,rfl,rfl⟩
 ·intro p hp
  have:p=(A1,2000):=by
   rcases cj.1 hp with h | h
   ·exact h
   ·exact cW.1 h
  rw [this];exact gd1
theorem wQ:aX acW (newC L1)=0/\bE acW (newC L1)=d1:=⟨rfl,rfl⟩
theorem no1:∀ x∈d1.S,∀ n∈([0]:List Int),fB x.1 (32+n)=false:=fun x hx n hn=>by
 rw [cW.1 hn]
 rcases cj.1 hx with h | h
 ·rw [h];rfl
 ·rw [cW.1 h];rfl
theorem Ks:aX acR d1=0/\bE acR d1=⟨d1.S,[true,true],Wt.new,0,[]⟩:=by
 obtain ⟨a,b⟩:=D3 (c:=d1) (l:=[0]) (by decide) adb no1 (by decide) rfl;obtain ⟨x,y⟩:=Ov d1;rw [x,y,a,b];exact ⟨rfl,rfl⟩
end Cu
namespace Sn
open Sd (qG fF aM good)
open Sc (In Cl)
def Xv (P:Program) (ops:Array Oper) (Q:Exit->Act->World->Prop):List (Bool×Oper)->(World->Prop)->Act->World->Prop
 | [],_,a,w=>Q .normal a w
 | (false,o) :: r,C,a,w=>wpQuiet P ops C (fun a'=>Xv P ops Q r C a' w) [o] a
 | (true,o) :: r,C,a,w=>if Region.wanted o (yielded ops a.tmps) then o.wp P a w (fun a' w'=>∃ C':World->Prop,(∀ x,C' x->C x)/\C' w'/\Xv P ops Q r C' a' w') Q else Xv P ops Q r C (a.put o.dst undef) w
section
end
end Sn
namespace Cu
variable {w:World} {b off i B:Nat} {l:List Ac}
theorem acK (h:At KA w b off l) (hi:i < l.length) :
 w.cell? ⟨b,off+i * 11,none⟩=some (.int .i64 (Ir l i).k)/\w.cell? ⟨b,off+i * 11+1,none⟩=some (.int .i64 (Ir l i).n)/\w.cell? ⟨b,off+i * 11+2,none⟩=some (.int .i64 (Ir l i).f)/\w.cell? ⟨b,off+i * 11+3,none⟩=some (.int .i64 (Ir l i).r)/\w.cell? ⟨b,off+i * 11+4,none⟩=some (.int .u8 (Ir l i).v.1)/\w.cell? ⟨b,off+i * 11+5,none⟩=some (.int .u8 (Ir l i).v.2.1)/\w.cell? ⟨b,off+i * 11+6,none⟩=some (.int .u8 (Ir l i).v.2.2.1)/\w.cell? ⟨b,off+i * 11+7,none⟩=some (.int .u8 (Ir l i).v.2.2.2)/\w.cell? ⟨b,off+i * 11+8,none⟩=some (.int .i64 (Ir l i).s)/\w.cell? ⟨b,off+i * 11+9,none⟩=some (.int .i64 (Ir l i).m)/\w.cell? ⟨b,off+i * 11+10,none⟩=some (.int .i64 (Ir l i).t) :=
 ⟨h i hi 0 _ rfl,h i hi 1 _ rfl,h i hi 2 _ rfl,h i hi 3 _ rfl,h i hi 4 _ rfl,h i hi 5 _ rfl,h i hi 6 _ rfl,h i hi 7 _ rfl,h i hi 8 _ rfl,h i hi 9 _ rfl,h i hi 10 _ rfl⟩
theorem Zr (hi:i < l.length):Ir l i∈l:=by
 unfold Ir;rw [af,am hi];exact dk hi
variable {v:Value} {L:List lF}
theorem Zs (H:C8 w v L B):∀ p∈dw L,∀ e∈p.1,cZ e.2.2:=fun p hp e he=>by
 obtain ⟨c,hc,rfl⟩:=dC.1 hp;obtain ⟨x,hx,rfl⟩:=dC.1 he;obtain ⟨i,hi⟩:=dq hc;have hl:=(bs.1 hi).1;have f:=H.file i hl;unfold zQ at f;rw [af,hi] at f;obtain ⟨j,hj⟩:=dq hx;have hjl:=(bs.1 hj).1;have g:=(f.file j hjl).2;unfold fq at g;rw [af] at g;have e2:((some c:Option lF).getD plD).F[j]? = some x:=hj;rw [e2] at g;exact g
structure Oc (c:Cs) (t:Nat):Prop where
 ok:kC c t
 sy:wU c
theorem Oc.act {c:Cs} {t:Nat} (h:Oc c t) {x:Ac} (hx:bN x.v):Oc (bE x c) (t+1):=⟨h.ok.act x hx,h.sy.act h.ok x⟩
theorem aa9 (H:C8 w v L B) (h:newE (dw L)=0):Oc (newC (dw L)) 0:=by
 have o:=Uh h (Zs H);refine ⟨o,KT _ ?_⟩;have:=o.len.1;have e:(newC (dw L)).S.length=(dw L).length:=cm _
 omega
section
end
section
end
end Cu
namespace Wn
open Fl (newP kU nQ)
open Re (KI gJ Be)
attribute [local irreducible] Sd.aW wpQuiet
def MJ (w:World):Prop:=Glob w
theorem MJ.below {w w':World} (h:MJ w) (b:Below w.heap.size w w'):MJ w':=Fs.Glob.below h b
theorem Hl:cZ (newL 7 1):=by
 intro r h
 simp only [newL,cj] at h
 rcases h with rfl | h
 ·unfold bN;decide
 ·have:r=z4:=(List.mem_replicate.1 h).2
  rw [this];exact Fl.lZ
variable {w:World}
theorem Qj {c:lF} (h:Pa.Ay w (sl c.files) c.F w.heap.size):C8 (w.alloc (.cells #[sl c.files,.int .i64 c.rate,sl c.files,.int .i64 c.rate] 71)) (.slice (some ⟨w.heap.size,0,none⟩) 2 2) [c,c] (w.alloc (.cells #[sl c.files,.int .i64 c.rate,sl c.files,.int .i64 c.rate] 71)).heap.size:=by
 have rd:=(Rw.Ow.lit (K:=KP) w w.heap.size 71 [c,c] (ac _) (by unfold maxLen;simp)).rd;have b:=(aa w.heap.size w).alloc (ac _) (.cells #[sl c.files,.int .i64 c.rate,sl c.files,.int .i64 c.rate] 71);refine VC rd fun x hx=>?_;have e:x=c:=by
  rcases cj.1 hx with h | h
  ·exact h
  ·exact cW.1 h
 rw [e];have f:=h.below b;exact JA f.rd fun y hy=>by
  obtain ⟨i,hi⟩:=dq hy;have hl:=(bs.1 hi).1;have:=f.file i hl;unfold Pa.fq at this;rw [af,hi] at this;exact this
theorem ok1:kC (Cu.newC Cu.L1) 0:=Cu.Uh Cu.new1 fun p hp e he=>by
 have:p=(Cu.A1,2000):=by
  rcases cj.1 hp with h | h
  ·exact h
  ·exact cW.1 h
 subst this
 rcases cj.1 he with h | h
 ·rw [h];exact Hl
 ·rw [cW.1 h];exact Re.KX Cu.JZ
theorem sy1:wU (Cu.newC Cu.L1):=Cu.KT _ (by decide)
theorem ac1:bN Cu.r7:=by unfold bN;decide
theorem ok2:kC Cu.d1 1:=by
 have:=ok1.act Cu.acW ac1;rw [Cu.wQ.2] at this;exact this
theorem sy2:wU Cu.d1:=by
 have:=sy1.act ok1 Cu.acW;rw [Cu.wQ.2] at this;exact this
theorem MZ (h:MJ w):Calls prog 21 #[] w fun e w'=>e = .returned (.bool true)/\Below w.heap.size w w':=by
 have HG:=Hh h;clear h;have L1:Hid (Rd KI (w.alloc (.cells #[.int .i64 0] 3)) (.slice (some ⟨w.heap.size,0,none⟩) 1 1) [0]):=Hh (Rw.Ow.lit (K:=KI) w w.heap.size 3 [0] (ac _) (by unfold maxLen;simp)).rd;have B1:=Hh ((aa w.heap.size w).alloc (ac _) (.cells #[.int .i64 0] 3))
 have C1:Hid (Calls prog 30 #[.slice (some ⟨w.heap.size,0,none⟩) 1 1] (w.alloc (.cells #[.int .i64 0] 3)) fun e w'=>∃ a cap,e = .returned (.tuple #[.agg #[.int .i64 3,.slice a 2 cap],.int .i64 0])/\Rd K4 w' (.slice a 2 cap) (bJ [0])/\Below (w.alloc (.cells #[.int .i64 0] 3)).heap.size (w.alloc (.cells #[.int .i64 0] 3)) w'):=Hh ((Be _ _ [0] L1).mono fun e w' ⟨u,he,hu,hb⟩=>by
  have e1:Re.fL [0]=bJ [0]:=aw Cu.JZ;rw [e1] at hu;obtain ⟨a,cap,rfl,_⟩:=hu.slice
  exact ⟨a,cap,by rw [he];unfold Re.fP Re.fN;rw [aw Cu.JZ,aw Cu.JZ];rfl,hu,hb⟩)
 have C2:Hid (∀ W,Calls prog 46 #[.int .i64 7,.int .i64 1] W fun e w'=>∃ a cap,e = .returned (.tuple #[.agg #[.int .i64 7,.slice a 2 cap],.int .i64 0])/\Rd K4 w' (.slice a 2 cap) (newL 7 1)/\Below W.heap.size W w'):=Hh (fun W=>(nQ W 7 1).mono fun e w' ⟨v,he,hv,hb⟩=>by
  have hp:newP 7 1:=⟨by decide,by decide,by decide,by decide⟩;rw [aw hp] at hv;rw [aw hp,aw hp] at he;obtain ⟨a,cap,rfl,_⟩:=hv.slice
  exact ⟨a,cap,he,hv,hb⟩)
 go_enter func21,ntmps21
 go_wp2_with fail;refine C1.mono ?_;rintro e w2 ⟨fa,fc,rfl,r2,b2⟩;have B2:=aR B1 b2;have X2:=Hh (bh w2 (.cells #[.int .i64 3,.slice fa 2 fc] 79));have N2:=Hh ((aa w2.heap.size w2).alloc (ac _) (.cells #[.int .i64 3,.slice fa 2 fc] 79));have R2:=Hh (r2.below N2);have B3:=aR B2 N2;clear C1 L1 B1 r2 b2 B2 N2;go_upto_region 2 with fail;generalize (w2.alloc (.cells #[.int .i64 3,.slice fa 2 fc] 79))=w3 at *;generalize w2.heap.size=g1 at *;have D2:=Hh (C2 w3);clear C2;go_wp2_with fail;refine D2.mono ?_;rintro e w4 ⟨na,nc,rfl,r4,b4⟩;have X4:=Hh (bh w4 (.cells #[.int .i64 7,.slice na 2 nc] 79));have N4:=Hh ((aa w4.heap.size w4).alloc (ac _) (.cells #[.int .i64 7,.slice na 2 nc] 79));have R4a:=Hh (r4.below N4);have R5:=Hh ((R2.below b4).below N4);have X5:=Hh ((N4.block _ (cd (bm X2) b4.size)).trans (iP b4 X2));have B5:=Hh ((aR B3 b4).trans (N4.mono (cG B3.size b4.size)));clear D2 r4 b4 R2 X2 B3 N4;go_upto_region 3 with fail;generalize (w4.alloc (.cells #[.int .i64 7,.slice na 2 nc] 79))=w5 at *;generalize w4.heap.size=g2 at *;obtain ⟨x0,x1⟩:=nN X4;obtain ⟨y0,y1⟩:=nN X5;have hBN:=Fs.qo;have RE:Hid (Rd E3 (w5.alloc (.cells #[.int .i64 1,.int .i64 7,.slice na 2 nc,.int .i64 40,.int .i64 3,.slice fa 2 fc] 81)) (.slice (some ⟨w5.heap.size,0,none⟩) 2 2) [⟨1,7,na,nc,newL 7 1⟩,⟨40,3,fa,fc,bJ [0]⟩]):=Hh (Rw.Ow.lit (K:=E3) w5 w5.heap.size 81 [⟨1,7,na,nc,newL 7 1⟩,⟨40,3,fa,fc,bJ [0]⟩] (ac _) (by unfold maxLen;simp)).rd;have B6:=Hh ((aa w5.heap.size w5).alloc (ac _) (.cells #[.int .i64 1,.int .i64 7,.slice na 2 nc,.int .i64 40,.int .i64 3,.slice fa 2 fc] 81));have Z6:Hid ((w5.alloc (.cells #[.int .i64 1,.int .i64 7,.slice na 2 nc,.int .i64 40,.int .i64 3,.slice fa 2 fc] 81)).heap.size=w5.heap.size+1):=Hh (by simp);have B7:=Hh (B6.alloc B6.size (.cells #[.slice (some ⟨w5.heap.size,0,none⟩) 2 2,.int .i64 2000] 71));have X7:Hid (((w5.alloc (.cells #[.int .i64 1,.int .i64 7,.slice na 2 nc,.int .i64 40,.int .i64 3,.slice fa 2 fc] 81)).alloc (.cells #[.slice (some ⟨w5.heap.size,0,none⟩) 2 2,.int .i64 2000] 71)).heap[w5.heap.size+1]? = some (.cells #[.slice (some ⟨w5.heap.size,0,none⟩) 2 2,.int .i64 2000] 71 (0,0))):=Hh (by rw [← Z6.out];exact bh _ _)
 have FL:Hid (Pa.Ay ((w5.alloc (.cells #[.int .i64 1,.int .i64 7,.slice na 2 nc,.int .i64 40,.int .i64 3,.slice fa 2 fc] 81)).alloc (.cells #[.slice (some ⟨w5.heap.size,0,none⟩) 2 2,.int .i64 2000] 71)) (.slice (some ⟨w5.heap.size,0,none⟩) 2 2) [⟨1,7,na,nc,newL 7 1⟩,⟨40,3,fa,fc,bJ [0]⟩] ((w5.alloc (.cells #[.int .i64 1,.int .i64 7,.slice na 2 nc,.int .i64 40,.int .i64 3,.slice fa 2 fc] 81)).alloc (.cells #[.slice (some ⟨w5.heap.size,0,none⟩) 2 2,.int .i64 2000] 71)).heap.size):=Hh (JA (RE.below ((aa _ _).alloc (ac _) _)) fun c hc=>by
  rcases cj.1 hc with h | h
  ·rw [h];exact ⟨R4a.out.below B7.out,Hl⟩
  ·rw [cW.1 h];exact ⟨R5.out.below B7.out,Re.KX Cu.JZ⟩)
 have BB:=aR B5 B7;clear RE B6 Z6 B7 R4a R5 B5 X4 X5;go_upto_region 4 with fail;clear x0 x1 y0 y1 hBN;generalize ((w5.alloc (.cells #[.int .i64 1,.int .i64 7,.slice na 2 nc,.int .i64 40,.int .i64 3,.slice fa 2 fc] 81)).alloc (.cells #[.slice (some ⟨w5.heap.size,0,none⟩) 2 2,.int .i64 2000] 71))=w7 at *;generalize w5.heap.size=g5 at *;obtain ⟨x0,x1⟩:=nN X7;have PL:=Hh (Qj (c:=⟨(some ⟨g5,0,none⟩,2,2),2000,[⟨1,7,na,nc,newL 7 1⟩,⟨40,3,fa,fc,bJ [0]⟩]⟩) FL);have NW:Hid (Calls prog 6 #[.slice (some ⟨w7.heap.size,0,none⟩) 2 2] (w7.alloc (.cells #[.slice (some ⟨g5,0,none⟩) 2 2,.int .i64 2000,.slice (some ⟨g5,0,none⟩) 2 2,.int .i64 2000] 71)) fun e w'=>∃ s,e = .returned (.tuple #[.pointer (some ⟨s,0,none⟩),.int .i64 0])/\CH w s (Cu.newC Cu.L1) 0 w'):=Hh (JL PL (w0:=w) Cu.new1 (BB.alloc BB.size _));clear FL PL BB X7;go_wp2_with fail;refine NW.mono ?_;rintro e w8 ⟨s,rfl,ch8⟩;have H8:=Hh ch8
 have DW:Hid (Calls prog 11 #[.pointer (some ⟨s,0,none⟩),.agg #[.int .i64 2,.int .i64 1,.int .i64 1,.int .i64 1,.int .u8 7,.int .u8 0,.int .u8 0,.int .u8 0,.int .i64 0,.int .i64 0,.int .i64 0]] w8 fun e w'=>e = .returned (.int .i64 0)/\CH w s Cu.d1 1 w'):=Hh (by
  have:=U9 H8 HG ok1 sy1 (by decide) Cu.acW ac1 (WalkArith.wf_i64 (by decide));rw [Cu.wQ.1,Cu.wQ.2] at this
  exact this)
 have hA:=xQ;have hB:=zM;clear NW ch8 x0 x1;go_wp2_with fail;refine DW.mono ?_;rintro e w9 ⟨rfl,ch9⟩;have H9:=Hh ch9
 have DR:Hid (Calls prog 11 #[.pointer (some ⟨s,0,none⟩),.agg #[.int .i64 1,.int .i64 0,.int .i64 0,.int .i64 0,.int .u8 0,.int .u8 0,.int .u8 0,.int .u8 0,.int .i64 0,.int .i64 0,.int .i64 0]] w9 fun e w'=>e = .returned (.int .i64 0)/\CH w s ⟨Cu.d1.S,[true,true],Wt.new,0,[]⟩ 2 w'):=Hh (by
  have:=U9 H9 HG ok2 sy2 (by decide) Cu.acR Fl.lZ (WalkArith.wf_i64 (by decide));rw [Cu.Ks.1,Cu.Ks.2] at this
  exact this)
 clear DW H8 ch9;go_wp2_with fail;refine DR.mono ?_;rintro e w10 ⟨rfl,ch10⟩;have H10:=Hh ch10;have FI:=Hh (zC H10 (n:=1) (by decide));unfold dF ptr at FI;clear DR H9 ch10 hA hB;go_wp2_with fail;refine FI.mono ?_;rintro e w11 ⟨v,rfl,hv,b11⟩;have H11:=Hh (H10.below b11);obtain ⟨L,hL,eL⟩:=hv (fun _=>False) nofun;have EA:(sat (⟨Cu.d1.S,[true,true],Wt.new,0,[]⟩:Cu.Cs).S (1:Nat)).1=Cu.A2:=rfl;rw [EA] at eL;have hl:L.length=2:=by
  have:=c8 List.length eL;rw [cm] at this;exact this
 rcases L with _ | ⟨c,_ | ⟨d,_ | ⟨x,r⟩⟩⟩
 ·cases hl
 ·cases hl
 ·have ec:c.abs=(1,7,[hdr 7 1,Cu.r7]):=by injection eL
  have el:c.l = [hdr 7 1,Cu.r7]:=c8 (fun x=>x.2.2) ec;obtain ⟨a,cap,rfl,_,_,h3⟩:=hL.rd;obtain ⟨b,off,rfl,hA⟩:=h3 (by simp);have c2:w11.cell? ⟨b,off+2,none⟩=some c.sl:=by
   have:=hA 0 (by simp) 2 c.sl rfl
   simpa [E3] using this
  obtain ⟨a2,cap2,e2,_,_,h4⟩:=hL.file c cD;rw [el] at e2 h4;obtain ⟨b2,off2,rfl,hB⟩:=h4 (by simp);rw [e2] at c2;have y0:w11.cell? ⟨b2,off2+4,none⟩=some (.int .u8 7):=by have:=hB 1 (by simp) 0 _ rfl;simpa [K4,Cu.r7] using this
  have y1:w11.cell? ⟨b2,off2+4+1,none⟩=some (.int .u8 0):=by have:=hB 1 (by simp) 1 _ rfl;simpa [K4,Cu.r7] using this
  have y2:w11.cell? ⟨b2,off2+4+2,none⟩=some (.int .u8 0):=by have:=hB 1 (by simp) 2 _ rfl;simpa [K4,Cu.r7] using this
  have y3:w11.cell? ⟨b2,off2+4+3,none⟩=some (.int .u8 0):=by have:=hB 1 (by simp) 3 _ rfl;simpa [K4,Cu.r7] using this
  have es:∀ w,(Op.equalIn 10000 42 (.agg #[.int .u8 7,.int .u8 0,.int .u8 0,.int .u8 0]) (.agg #[.int .u8 7,.int .u8 0,.int .u8 0,.int .u8 0])).run prog w = .ok true w:=fun w=>by
   have:=Fl.sI (7,0,0,0) (7,0,0,0) w
   simpa using this
  have RO:=Hh (Lg H11 0);have BF:=Hh H11.aG;unfold ptr at RO;clear FI H10 hv hL eL EA hl ec el hA hB e2 h3 h4 b11 H11;go_wp2_with fail;refine RO.mono ?_;rintro e w12 ⟨rfl,b12⟩;have E:=aR BF b12;clear RO b12 BF c2 y0 y1 y2 y3;go_wp2
  go_ret
  exact ⟨rfl,E⟩
 ·cases hl
end Wn
namespace Cu
open Fs (L6)
attribute [local irreducible] Sd.aW Sn.Xv wpQuiet
theorem Ka {w:World} (hg:Glob w) {v u:Value} {L:List lF} {l:List Ac} (H:C8 w v L w.heap.size) (R:Rd KA w u l) (ok:∀ x∈l,bN x.v/\Wf x.f):Calls prog 5 #[v,u] w fun e w'=>e = .returned (.bool true)/\Below w.heap.size w w':=by
 have HG:=Hh hg;have OX:Hid (∀ k,k < l.length->bN (Ir l k).v/\Wf (Ir l k).f):=Hh (fun k hk=>ok _ (Zr hk));have F1:=Hh (Fv H);have F2:=Hh (fun W (b:Below w.heap.size w W)=>Fv (H.below b));have AW:=Hh (fun W (b:Below w.heap.size w W)=>Wn.MZ (w:=W) (hg.below b));obtain ⟨a,cap,rfl,_,hm,hA⟩:=R;have HA:=Hh hA;have OK:=Hh hm;clear hA hm ok hg H;unfold Dg at F1 F2;generalize abF (dw L)=lp at *;generalize hn:l.length=n at *;have HN:=Hh hn;clear hn;unfold maxLen at OK;have hm:=OK.out;clear OK
 go_enter func5,ntmps5
 go_wp2_with fail;refine F1.out.mono ?_;rintro e w1 ⟨v1,L1,rfl,h1,e1,b1⟩;clear F1
 by_cases e0:newE lp=0
 ·have N1:=JL (w0:=w) h1 (by rw [e1];exact e0) b1
  have K0:=aa9 h1 (by rw [e1];exact e0);rw [e1] at N1 K0;have NN:=Hh N1;have KK:=Hh K0;clear N1 K0 h1 e1 b1;go_wp2_with fail;refine NN.out.mono ?_;rintro e w2 ⟨s,rfl,c2⟩;have C2:=Hh c2;have FF:=Hh (F2.out w2 c2.aG);clear c2 NN F2;go_wp2_with fail;refine FF.out.mono ?_;rintro e w3 ⟨v3,L3,rfl,h3,e3,b3⟩;have N3:=ab0 (w0:=w) C2.out b3 h3 (by rw [e3];exact e0);rw [e3] at N3;have NN:=Hh N3;clear N3 FF h3 e3 b3 C2;go_wp2_with fail;refine NN.out.mono ?_;rintro e w4 ⟨r,rfl,d4⟩;have D5:=Hh d4;clear NN d4 e0;generalize newC lp=c0 at *;go_upto_region 5 with fail;go_wp2
  go_loopw [9] (fun i wr=>∃ (k:Nat) (c:Cs),k<=n/\k<=30/\i = .int .i64 k/\Hid (CD w s r c k c k wr)/\Hid (Oc c k)) (fun i _=>30 - (intOf i).toNat)
  case atStart=>exact ⟨0,c0,bt _,bt _,rfl,D5,KK⟩
  case round =>
   clear D5 KK;obtain ⟨k,c,hk,hk30,rfl,D,KC⟩:=hrel
   by_cases hlt:k < n/\k < 30
   ·obtain ⟨hkn,hk3⟩:=hlt
    obtain ⟨b,off,rfl,hA⟩:=HA.out (by omega);have AA:=Hh (acK hA (i:=k) (by rw [HN.out];exact hkn));have XO:=Hh (OX.out k hkn);clear hA;generalize Ir l k=x at *;obtain ⟨a0,a1,a2,a3,a4,a5,a6,a7,a8,a9,a10⟩:=AA.out;have x0:=Sc.ay (C:=Below w.heap.size w) (fun W' h=>(h.cell (bj _ _ a0)).trans a0);have x1:=Sc.ay (C:=Below w.heap.size w) (fun W' h=>(h.cell (bj _ _ a1)).trans a1);have x2:=Sc.ay (C:=Below w.heap.size w) (fun W' h=>(h.cell (bj _ _ a2)).trans a2);have x3:=Sc.ay (C:=Below w.heap.size w) (fun W' h=>(h.cell (bj _ _ a3)).trans a3);have x4:=Sc.ay (C:=Below w.heap.size w) (fun W' h=>(h.cell (bj _ _ a4)).trans a4);have x5:=Sc.ay (C:=Below w.heap.size w) (fun W' h=>(h.cell (bj _ _ a5)).trans a5);have x6:=Sc.ay (C:=Below w.heap.size w) (fun W' h=>(h.cell (bj _ _ a6)).trans a6);have x7:=Sc.ay (C:=Below w.heap.size w) (fun W' h=>(h.cell (bj _ _ a7)).trans a7);have x8:=Sc.ay (C:=Below w.heap.size w) (fun W' h=>(h.cell (bj _ _ a8)).trans a8);have x9:=Sc.ay (C:=Below w.heap.size w) (fun W' h=>(h.cell (bj _ _ a9)).trans a9);have x10:=Sc.ay (C:=Below w.heap.size w) (fun W' h=>(h.cell (bj _ _ a10)).trans a10);have ne:Nonempty (Sc.In (Below w.heap.size w)):=⟨⟨_,aa _ _⟩⟩;clear a0 a1 a2 a3 a4 a5 a6 a7 a8 a9 a10;have CD1:=Hh (adg (D.out.below (aa wr.heap.size wr).drew) HG.out KC.out.ok KC.out.sy (by omega) x XO.out.1 XO.out.2);have CD2:=Hh (fun W (d:CD w s r (bE x c) (k+1) c k W)=>abE d KC.out.ok (by omega) x XO.out.1);have K1:=Hh (KC.out.act XO.out.1);have BD:=Hh (D.out.aG.drew);clear D KC;unfold eG bC ptr at CD1;unfold eG bC at CD2;generalize bE x c=c1 at *;generalize aX x c=z at *;have nz:(z != z)=false:=by simp
    go_upto_region 8 with fail;refine Sc.start (Below w.heap.size w) [(false,0),(false,1),(false,2),(false,3),(false,4),(false,6),(false,7),(false,8),(false,9),(false,10),(true,5),(true,11),(false,12)] (by kernel_rfl) (by kernel_rfl) (by kernel_rfl) BD.out ?_;dsimp only [Sd.aM,List.getElem?_cons_succ,List.getElem?_cons_zero]
    iterate 10 (refine Sd.lit ?_;quiet_step (fail);refine bk ?_)
    clear x0 x1 x2 x3 x4 x5 x6 x7 x8 x9 x10;refine Sd.call (by rfl) (fun K hK=>?_);go_simp;refine CD1.out.mono ?_;rintro e w5 ⟨rfl,d5⟩;have E5:=Hh (CD2.out w5 d5);refine hK _ _ (Sc.Cl.of d5.aG) ?_;clear hK K d5 CD1 CD2;refine Sd.call (by rfl) (fun K hK=>?_);go_simp;refine E5.out.mono ?_;rintro e w6 ⟨rfl,d6⟩;have D7:=Hh d6;refine hK _ _ (Sc.Cl.of d6.aG) ?_;clear hK K d6 E5
    iterate 1 (refine Sd.lit ?_;quiet_step (fail);refine bk ?_)
    refine Sd.done ?_;clear ne nz;go_upto_region 10 with fail;have q0:w6.cell? ⟨b,off+k * 11,none⟩=some (.int .i64 x.k):=(D7.out.aG.cell (bj _ _ AA.out.1)).trans AA.out.1;clear AA XO;generalize x.k=kk at *
    by_cases hk1:kk=1
    ·subst hk1
     go_upto_region 12 with fail;clear q0;go_wp2
     go_loopw [10] (fun i wr2=>∃ m:Nat,m<=c1.S.length/\i = .int .i64 m/\Hid (CD w s r c1 (k+1) c1 (k+1) wr2)) (fun i _=>c1.S.length - (intOf i).toNat)
     case atStart=>exact ⟨0,bt _,rfl,D7⟩
     case round =>
      clear D7;obtain ⟨m,hms,rfl,D⟩:=hrel;obtain ⟨sa,sc,hs0⟩:=D.out.stores;have SH:Hid (c1.S.length<=32):=Hh K1.out.ok.len.2;have s32:=SH.out;generalize hq:c1.S.length=q at *;have HQ:=Hh hq;clear hq
      by_cases hmq:m < q
      ·go_upto_region 14 with fail
       clear hs0;obtain ⟨sb,so,sc2,su,sv,t0,t1,t2,LS⟩:=D.out.store (n:=m) (by rw [HQ.out];exact hmq);rw [HQ.out] at t0;have X0:=Sd.aD t0;have X1:=Sd.aD t1;have X2:=Sd.aD t2;clear t0 t1 t2;have LSH:=Hh LS;clear LS;have CF:=Hh (fun W (b:Below wr.heap.size wr W)=>zC (D.out.ch.below b) (n:=m) (by rw [HQ.out];exact hmq));have LE:=Hh ((K1.out.ok.st m (by rw [HQ.out];exact hmq)).1.len);generalize (sat c1.S m).1=A at *;unfold ptr at CF;unfold dF at CF;refine Sd.start [(false,0),(false,1),(false,3),(false,4),(false,5),(false,6),(false,7),(false,8),(false,9),(false,10),(false,11),(false,12),(true,2),(true,13),(false,14)] (by kernel_rfl) (by kernel_rfl) (by kernel_rfl) ?_;dsimp only [Sd.aM,List.getElem?_cons_succ,List.getElem?_cons_zero]
       iterate 12 (refine Sd.lit ?_;quiet_step (fail);refine bk ?_)
       have B0:=Hh ((aa wr.heap.size wr).drew);refine Sd.call (by rfl) (fun K hK=>?_);go_simp;refine (CF.out _ B0.out).mono ?_;rintro e w8 ⟨fv,rfl,hfv,b8⟩;have B8:=Hh (B0.out.trans (b8.mono B0.out.size));have LF:=Hh (hfv (fun _=>False) nofun);refine hK _ _ (Sd.Cl.of B8.out) ?_;clear hK K b8 hfv CF;refine Sd.call (by rfl) (fun K hK=>?_);go_simp;refine (L6 LF.out (LSH.out.below B8.out) LE.out).mono ?_;rintro e w9 ⟨rfl,b9⟩;have B9:=Hh (B8.out.trans (b9.mono B8.out.size));refine hK _ _ (Sd.Cl.of B9.out) ?_;clear hK K b9 LF LSH B8 B0
       iterate 1 (refine Sd.lit ?_;quiet_step (fail);refine bk ?_)
       refine Sd.done ?_;have DD:=Hh (D.out.below B9.out);clear D B9 X0 X1 X2;go_wp2
       go_roundw
       case rel=>exact ⟨m+1,by omega,by go_num,DD⟩
       case measure=>simp [intOf];omega
      ·go_wp2
       go_roundw
       case rel=>exact ⟨k+1,c1,by omega,by omega,by go_num,D,K1⟩
       case measure=>simp [intOf];omega
    ·go_wp2
     go_roundw
     case rel=>exact ⟨k+1,c1,by omega,by omega,by go_num,D7,K1⟩
     case measure=>simp [intOf];omega
   ·clear HA OX HN
    have AWK:=Hh (AW.out wr D.out.aG);clear AW;have EX:¬ ((k:Int) < n)\/((k:Int) < n/\¬ ((k:Int) < 30)):=by omega
    clear hlt
    rcases EX with h1 | ⟨h1,h2⟩
    all_goals
     go_wp2_with fail;refine AWK.out.mono ?_;rintro e w5 ⟨rfl,b5⟩;have E:=Hh (D.out.below b5).aG;clear b5 AWK D;go_wp2
     go_ret
     exact ⟨rfl,E.out⟩
 ·generalize hz:newE lp=z at *
  have N1:=abb h1 (z:=z) (by rw [e1];exact hz) e0;have NN:=Hh N1;clear N1;have B1:=Hh b1;clear h1 e1 b1;go_wp2_with fail;refine NN.out.mono ?_;rintro e w2 ⟨rfl,b2⟩;have B2:=Hh (B1.out.trans (b2.mono B1.out.size));have FF:=Hh (F2.out w2 B2.out);clear b2 NN F2 B1;go_wp2_with fail;refine FF.out.mono ?_;rintro e w3 ⟨v3,L3,rfl,h3,e3,b3⟩;have B3:=Hh (B2.out.trans (b3.mono B2.out.size));have NN:=Hh (YW h3 B3.out.size (z:=z) (by rw [e3];exact hz) e0);clear FF h3 e3 b3 B2;go_wp2_with fail;refine NN.out.mono ?_;rintro e w4 ⟨rfl,b4⟩;have B4:=Hh (B3.out.trans (b4.mono B3.out.size));have AWK:=Hh (AW.out w4 B4.out);clear NN b4 B3;go_wp2_with fail;refine AWK.out.mono ?_;rintro e w5 ⟨rfl,b5⟩;have E:=Hh (B4.out.trans (b5.mono B4.out.size));go_wp2
  go_ret
  exact ⟨rfl,E.out⟩
end Cu
