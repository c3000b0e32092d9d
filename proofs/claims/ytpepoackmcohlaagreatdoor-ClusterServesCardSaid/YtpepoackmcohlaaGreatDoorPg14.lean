import Derived.Test.YtpepoackmcohlaaGreatDoorPg13
set_option maxRecDepth 100000
set_option maxHeartbeats 16000000
namespace Go.Proofs.YtpepoackmcohlaaGreatDoor
open Go.Proofs.Tryz Go.RowKit
open Ck (Hd sl zh)
open Fl (K4 R4 aH aO aY ah aj bQ dF file z4)
open Fs (Fx Ls Rs St Wf aD aG aU ay dR eB fq sA sB)
open Pa (KB KN aN bU bX fQ ptr xV)
open Rw (At Ow Rd)
namespace Cu
open Go.Maps
open Rw (Kind)
open Fl (l6)
open Fs (E3 at3 yV mG gT lM)
open Pa (S2 K2 dY NY cK aa8 aa3)
attribute [local irreducible] Sd.bA wpQuiet Sg.dG
theorem NF:(prog.info? 51).map (fun i=>(i.zero,i.size,i.bytes))=some (some (.pointer none),1,8):=by kernel_rfl
theorem Oi:(prog.info? 4).map (fun i=>(i.zero,i.size,i.bytes))=some (some (.bool false),1,1):=by kernel_rfl
structure xq (b o bf of_ g:Nat) (fl:Value) (n n' p:Int) (u:Value) (W:World):Prop where
 l:W.cell? ⟨b,o,none⟩=some fl
 prev:W.cell? ⟨bf,of_,none⟩=some (.int .i64 n')
 n:W.cell? ⟨g,0,none⟩=some (.int .i64 n)
 p:W.cell? ⟨g,1,none⟩=some (.int .i64 p)
 u:W.cell? ⟨g,2,none⟩=some u
variable {i B0 s j:Nat}
theorem S8 {L:List Pl} (h:i < L.length):bT (L.take (i+1)) = { bT (L.take i) with S:=(bT (L.take i)).S ++ [((dP L i).1,0)],V:=(bT (L.take i)).V ++ [true] }:=by
 obtain ⟨e1,e2⟩:=Cy h;rw [← e1,← e2]
 rfl
def Out (wr:World) (B0 s:Nat) (A:aU) (j:Nat) (q:Bool) (wx:World):Prop:=(q=false->IN wr B0 s A (j+1) wx)/\(q=true->¬ gdF A/\Below wr.heap.size wr wx)
theorem MU {wr wk wx:World} {A A':aU} {n p z:Int} {l:List R4} (J:IN wr B0 s A j wk) (hk:A[j]? = some (n,p,l)) (ord:∀ c,0 < j->A[j - 1]? = some c->Fs.key c < n) (hs:wr.heap.size<=s) (hz:z=gT (A.take j) n p l) (hA:A'=lM (A.take j) n p l) (b:Below wk.heap.size wk wx) {wy:World} (rs:Rs wy s (fun k=>B0<=k/\k < wr.heap.size) A' 0) (o:ay (fun k=>k=s) wx wy):Out wr B0 s A j (z != 0) wy:=by
 have bl:Below wr.heap.size wr wy:=o.below (J.aI.trans (b.mono J.aI.size)).size (fun k e=>e ▸ hs) |> fun q=>(J.aI.trans (b.mono J.aI.size)).trans q;subst hz;subst hA
 rcases Iz J.inn hk ord with ⟨e1,e2,e3⟩ | ⟨e1,e2⟩
 ·refine ⟨fun _=>⟨by rw [← e2];exact rs,bl,e3⟩,fun g=>?_⟩
  rw [e1] at g;exact absurd g (by decide)
 ·exact ⟨fun g=>absurd (by simpa using g) e1,fun _=>⟨e2,bl⟩⟩
theorem za {w:World} {v:Value} {L:List mF} (H:Cz w v L B0) (hB:B0<=w.heap.size):Calls prog 8 #[v] w (pO w B0 (dK L)):=by
 have FL:=Hh H.file;obtain ⟨a,cap,rfl,_,hm,hA⟩:=H.rd;have HA:=Hh hA;have PAT:=Hh (fun i (h:i < L.length)=>XU h);have PLN:=Hh (iR L);unfold maxLen at hm;clear hA H;generalize hn:L.length=n at *;have HN:=Hh hn;clear hn
 by_cases h2:n < 2
 ·have E:=Hh (vP (B0:=B0) (aa w.heap.size w) (vZ (L:=dK L) (by rw [PLN.out];exact .inl h2)) (by decide))
  have p1:decide ((n:Int) < 2)=true:=bj (by omega)
  go_enter func8,ntmps8
  go_wp2
  go_ret2
  exact E
 ·by_cases h32:32 < n
  ·have E:=Hh (vP (B0:=B0) (aa w.heap.size w) (vZ (L:=dK L) (by rw [PLN.out];exact .inr h32)) (by decide))
   have p1:decide ((n:Int) < 2)=false:=ai (by omega);have p2:decide ((32:Int) < n)=true:=bj (by omega)
   go_enter func8,ntmps8
   go_wp2
   go_ret2
   exact E
  ·have hlen:Hid (¬ ((dK L).length < 2\/32 < (dK L).length)):=Hh (by rw [PLN.out];omega)
   have hm2:n<=32:=by omega
   have hm1:2<=n:=by omega
   go_enter func8,ntmps8
   go_wp2_with fail;refine (Wt.UZ w).mono ?_;rintro e w1 ⟨p,rfl,pf,hp,b1⟩;have Z0:=Hh (adE (B0:=B0) pf hp b1 (dK L));have B1:=Hh (b1.alloc b1.size (.cells #[.slice none 0 0,.slice none 0 0,.pointer (some ⟨p,0,none⟩),.int .i64 0,.slice none 0 0] 39));clear pf hp b1;go_upto_region 4 with fail;generalize (w1.alloc (.cells #[.slice none 0 0,.slice none 0 0,.pointer (some ⟨p,0,none⟩),.int .i64 0,.slice none 0 0] 39))=W1 at *;generalize w1.heap.size=r at *;have I0:Hid (NI w B0 r p (dK L) 0 (.slice none 0 0) [] (.slice none 0 0) W1):=Hh ⟨Z0,B1,JV _⟩;clear Z0 B1;go_wp2
   go_loopw [5] (fun i wr=>∃ (k:Nat) (vs:Value) (ps:List Nat) (vl:Value),k<=n/\i = .int .i64 k/\Hid (NI w B0 r p (dK L) k vs ps vl wr)) (fun i _=>n - (intOf i).toNat)
   case atStart=>exact ⟨0,_,_,_,cg _,rfl,I0⟩
   case round =>
    clear I0;obtain ⟨k,vs,ps,vl,hk,rfl,I⟩:=hrel
    by_cases hlt:k < n
    ·obtain ⟨b,off,rfl,A1⟩:=HA (by omega)
     obtain ⟨c0,c1⟩:=Xh A1 (i:=k) (by rw [HN.out];exact hlt);have lb:b < w.heap.size:=bo _ _ c0;have FK:=Hh (FL k hlt);have PA:=Hh (PAT k hlt);have C0:=Hh c0;have C1:=Hh c1;have NB:=Hh (fun (g:¬ Oq (dP (dK L) k))=>Oj hlen (by rw [PLN.out];exact hlt) g);clear A1 c0 c1;generalize Be L k=c at *;obtain ⟨⟨fa,fn,fc⟩,rate,F⟩:=c;simp only [sl] at C0 C1 FK;obtain ⟨fa',fc',ef,_,hfm,hF⟩:=FK.rd;injection ef with e1 e2 e3;subst e1 e2 e3;have HF:=Hh hF;clear hF;unfold maxLen at hfm;have PA2:Hid (dP (dK L) k=(F.map aD.abs,rate)):=Hh PA;clear PA;have R0:=NY wr (fun j=>B0<=j/\j < wr.heap.size) (fun j h=>h.2);have J0:Hid (IN wr B0 wr.heap.size (F.map aD.abs) 0 (wr.alloc (.cells #[.slice none 0 0,.int .i64 0] 50))):=Hh ⟨R0.rs,R0.aI,J5 _⟩;have SZ:Hid (wr.heap.size < (wr.alloc (.cells #[.slice none 0 0,.int .i64 0] 50)).heap.size):=Hh (by simp);clear R0;generalize hfl:F.length=m at *;have HFL:=Hh hfl;clear hfl;go_upto_region 8 with fail;generalize (wr.alloc (.cells #[.slice none 0 0,.int .i64 0] 50))=Ws at *;generalize hs:wr.heap.size=s at *;have HS:=Hh hs;clear hs;obtain ⟨wo,hwo⟩:∃ x,x=wr:=⟨_,rfl⟩;subst hwo;go_wp2
     go_loopw [7] (fun i wk=>∃ j:Nat,j<=m/\i = .int .i64 j/\Hid (IN wo B0 s (F.map aD.abs) j wk)) (fun i _=>m - (intOf i).toNat)
     case atStart=>exact ⟨0,cg _,rfl,J0⟩
     case round =>
      obtain ⟨j,hj,rfl,J⟩:=hrel;clear J0;have BK:=Hh (I.aI.trans (J.aI.mono I.aI.size));have d0:=(BK.cell lb).trans C0
      by_cases hjl:j < m
      ·obtain ⟨bf,of_,rfl,A2⟩:=HF (by omega)
       obtain ⟨e,he⟩:∃ e:aD,F[j]? = some e:=⟨_,aq (by have:=HFL.out;omega)⟩;obtain ⟨q0,q1,q2⟩:=at3 A2 he;have LQ:Hid (bf < w.heap.size):=Hh (bo _ _ q0);have Q0:=Hh q0;have Q1:=Hh q1;have Q2:=Hh q2;have d1:=(BK.out.cell LQ.out).trans q0;have d2:=(BK.out.cell LQ.out).trans q1;have d3:=(BK.out.cell LQ.out).trans q2;have HE:Hid ((F.map aD.abs)[j]? = some (e.n,e.p,e.l)):=Hh (by rw [cX,he];rfl);have ee:fQ F j=e:=by unfold fQ;rw [af,he];rfl
       have RE:Hid (Rd K4 w e.sl e.l/\dF e.l):=Hh (by have:=FK.out.file j (by have:=HFL.out;omega);rw [ee] at this;exact this);have LW:Hid (0 < e.l.length->∀ k,e.sl.ownBlock=some k->k < B0):=Hh (by have:=FK.out.low j (by have:=HFL.out;omega);rw [ee] at this;exact this)
       have PRV:Hid (∀ i,j=i+1->∃ e',F[i]? = some e'/\w.cell? ⟨bf,of_+i * 3,none⟩=some (.int .i64 e'.n)):=Hh (fun i hi=>by
        obtain ⟨e',he'⟩:∃ e':aD,F[i]? = some e':=⟨_,aq (by have:=HFL.out;omega)⟩
        exact ⟨e',he',(at3 A2 he').1⟩)
       clear q0 q1 q2 A2 he ee;obtain ⟨en,ep,ea,ec,el⟩:=e;simp only at Q0 Q1 Q2 d1 d2 d3 HE RE LW;unfold aD.sl at Q2 d3 RE LW;simp only at Q2 d3 RE LW;generalize hel:el.length=eq at *;have bx:=(aa wr.heap.size wr).alloc (ac _) (.cells #[.int .i64 en,.int .i64 ep,.slice ea eq ec] 81);have X1:=bc wr (.cells #[.int .i64 en,.int .i64 ep,.slice ea eq ec] 81);go_upto_region 12 with fail
       go_cut [77] from 34 to 77 (fun v wx=>∃ q:Bool,Value.bool q=v/\Hid (Out wo B0 s (F.map aD.abs) j q wx))
       case first =>
        have BX:Hid (Below wr.heap.size wr (wr.alloc (.cells #[.int .i64 en,.int .i64 ep,.slice ea eq ec] 81)).drew):=Hh (bx.trans ((aa _ _).drew.mono bx.size));have X2:Hid ((wr.alloc (.cells #[.int .i64 en,.int .i64 ep,.slice ea eq ec] 81)).drew.heap[wr.heap.size]? = some (.cells #[.int .i64 en,.int .i64 ep,.slice ea eq ec] 81 (0,0))):=Hh X1;have BW:=aW BK BX;have D0:=Hh ((BW.cell lb).trans C0);have SL:Hid (s < wr.heap.size):=Hh (by obtain ⟨_,_,h,_⟩:=J.rs;exact bm h.row);have HSW:=Hh (show w.heap.size<=s by rw [← HS.out];exact I.out.aI.size);have NS:Hid (b≠s/\bf≠s/\wr.heap.size≠s):=Hh ⟨by have:=HSW.out;omega,by have:=HSW.out;have:=LQ.out;omega,by have:=SL.out;omega⟩;generalize (wr.alloc (.cells #[.int .i64 en,.int .i64 ep,.slice ea eq ec] 81))=W2 at *
        have RA:=Hh (yV (Fs.Rs.below J.rs BX) (fun k h=>by have:=HS.out;have:=SL.out;have:=BX.out.size;omega) en ep (.slice ea eq ec) el (RE.out.1.below BW.out) (fun h0 q hq hh=>by
         have:=LW.out (by omega) q hq;have:=HSW.out;have:=HS.out
         rcases hh with hh | hh
         ·omega
         ·omega) RE.out.2)
        unfold file mG at RA;clear bx X1 d0 d1 d2 d3
        rcases j with _ | i
        ·have ORD:Hid (∀ c,0 < 0->(F.map aD.abs)[0 - 1]? = some c->Fs.key c < en):=Hh (fun c h=>by omega)
         have V0:=Hh ((BW.out.cell LQ.out).trans Q0.out);have CC:xq b (off+k * 2) bf (of_+0 * 3) wr.heap.size (.slice (some ⟨bf,of_,none⟩) m fc) en en ep (.slice ea eq ec) W2.drew:=⟨D0,V0,ah X2 0,ah X2 1,ah X2 2⟩;have x0:=Sc.aA (C:=xq b (off+k * 2) bf (of_+0 * 3) wr.heap.size (.slice (some ⟨bf,of_,none⟩) m fc) en en ep (.slice ea eq ec)) (a:=⟨b,off+k * 2,none⟩) (fun W' h=>h.l);have x1:=Sc.aA (C:=xq b (off+k * 2) bf (of_+0 * 3) wr.heap.size (.slice (some ⟨bf,of_,none⟩) m fc) en en ep (.slice ea eq ec)) (a:=⟨bf,of_+0 * 3,none⟩) (fun W' h=>h.prev);have x2:=Sc.aA (C:=xq b (off+k * 2) bf (of_+0 * 3) wr.heap.size (.slice (some ⟨bf,of_,none⟩) m fc) en en ep (.slice ea eq ec)) (a:=⟨wr.heap.size,0,none⟩) (fun W' h=>h.n);have x3:=Sc.aA (C:=xq b (off+k * 2) bf (of_+0 * 3) wr.heap.size (.slice (some ⟨bf,of_,none⟩) m fc) en en ep (.slice ea eq ec)) (a:=⟨wr.heap.size,1,none⟩) (fun W' h=>h.p);have x4:=Sc.aA (C:=xq b (off+k * 2) bf (of_+0 * 3) wr.heap.size (.slice (some ⟨bf,of_,none⟩) m fc) en en ep (.slice ea eq ec)) (a:=⟨wr.heap.size,2,none⟩) (fun W' h=>h.u);have x5:=Sc.aA (C:=xq b (off+k * 2) bf (of_+0 * 3) wr.heap.size (.slice (some ⟨bf,of_,none⟩) m fc) en en ep (.slice ea eq ec)) (a:=⟨wr.heap.size,1+1,none⟩) (fun W' h=>h.u);have ne:Nonempty (Sc.In (xq b (off+k * 2) bf (of_+0 * 3) wr.heap.size (.slice (some ⟨bf,of_,none⟩) m fc) en en ep (.slice ea eq ec))):=⟨⟨_,CC⟩⟩;refine Sc.start (xq b (off+k * 2) bf (of_+0 * 3) wr.heap.size (.slice (some ⟨bf,of_,none⟩) m fc) en en ep (.slice ea eq ec)) [(false,0),(false,1),(false,2),(false,3),(false,4),(false,5),(false,6),(false,7),(false,8),(false,9),(false,10),(false,11),(false,12),(false,13),(false,14),(false,15),(false,16),(false,17),(false,18),(false,19),(false,20),(false,21),(false,22),(true,23),(false,24),(false,25)] (by kernel_rfl) (by kernel_rfl) (by kernel_rfl) CC ?_;dsimp only [Sd.aP,List.getElem?_cons_succ,List.getElem?_cons_zero]
         iterate 23 (refine Sd.lit ?_;quiet_step (fail);refine bk ?_)
         clear x0 x1 x2 x3 x4 x5;refine Sd.call (by rfl) (fun K hK=>?_);go_simp;refine RA.mono ?_;rintro e w5 ⟨rfl,rs5,o5⟩;have OU:=Hh (MU J HE (ORD) (by rw [HS.out];exact ac _) rfl rfl BX.out rs5 o5);have lx:=NS.out;refine hK _ _ (Sc.Cl.of ⟨o5.cell CC.l (fun g=>by simp only at g;omega),o5.cell CC.prev (fun g=>by simp only at g;omega),o5.cell CC.n (fun g=>by simp only at g;omega),o5.cell CC.p (fun g=>by simp only at g;omega),o5.cell CC.u (fun g=>by simp only at g;omega)⟩) ?_;clear hK K rs5 o5 RA CC;generalize gT ((F.map aD.abs).take 0) en ep el=z at *
         iterate 2 (refine Sd.lit ?_;quiet_step (fail);refine bk ?_)
         refine Sd.done ?_;go_wp2
         go_meet
         exact ⟨_,rfl,OU⟩
        ·obtain ⟨e',hp1,hp2⟩:=PRV i rfl
         have V0:=Hh ((BW.out.cell LQ.out).trans hp2);have HP:Hid ((F.map aD.abs)[i]? = some (e'.n,e'.p,e'.l)):=Hh (by rw [cX,hp1];rfl);have wi:IntKind.i64.wrap (i:Int)=(i:Int):=cG _ (by omega);have him:i < m:=by omega
         have hi0:decide ((0:Int) < ((i+1:Nat):Int))=true:=bj (by omega);clear hp1 hp2;generalize e'.n=en' at *
         by_cases hle:en<=en'
         ·have OT:Hid (Out wo B0 s (F.map aD.abs) (i+1) true W2.drew):=Hh ⟨fun g=>absurd g (by decide),fun _=>⟨VQ (by omega) HE.out HP.out hle,J.out.aI.trans (BX.out.mono J.out.aI.size)⟩⟩
          have p1:decide (en<=en')=true:=bj hle;clear RA HP hle;have CC:xq b (off+k * 2) bf (of_+i * 3) wr.heap.size (.slice (some ⟨bf,of_,none⟩) m fc) en en' ep (.slice ea eq ec) W2.drew:=⟨D0,V0,ah X2 0,ah X2 1,ah X2 2⟩;have x0:=Sc.aA (C:=xq b (off+k * 2) bf (of_+i * 3) wr.heap.size (.slice (some ⟨bf,of_,none⟩) m fc) en en' ep (.slice ea eq ec)) (a:=⟨b,off+k * 2,none⟩) (fun W' h=>h.l);have x1:=Sc.aA (C:=xq b (off+k * 2) bf (of_+i * 3) wr.heap.size (.slice (some ⟨bf,of_,none⟩) m fc) en en' ep (.slice ea eq ec)) (a:=⟨bf,of_+i * 3,none⟩) (fun W' h=>h.prev);have x2:=Sc.aA (C:=xq b (off+k * 2) bf (of_+i * 3) wr.heap.size (.slice (some ⟨bf,of_,none⟩) m fc) en en' ep (.slice ea eq ec)) (a:=⟨wr.heap.size,0,none⟩) (fun W' h=>h.n);have x3:=Sc.aA (C:=xq b (off+k * 2) bf (of_+i * 3) wr.heap.size (.slice (some ⟨bf,of_,none⟩) m fc) en en' ep (.slice ea eq ec)) (a:=⟨wr.heap.size,1,none⟩) (fun W' h=>h.p);have x4:=Sc.aA (C:=xq b (off+k * 2) bf (of_+i * 3) wr.heap.size (.slice (some ⟨bf,of_,none⟩) m fc) en en' ep (.slice ea eq ec)) (a:=⟨wr.heap.size,2,none⟩) (fun W' h=>h.u);have x5:=Sc.aA (C:=xq b (off+k * 2) bf (of_+i * 3) wr.heap.size (.slice (some ⟨bf,of_,none⟩) m fc) en en' ep (.slice ea eq ec)) (a:=⟨wr.heap.size,1+1,none⟩) (fun W' h=>h.u);have ne:Nonempty (Sc.In (xq b (off+k * 2) bf (of_+i * 3) wr.heap.size (.slice (some ⟨bf,of_,none⟩) m fc) en en' ep (.slice ea eq ec))):=⟨⟨_,CC⟩⟩;refine Sc.start (xq b (off+k * 2) bf (of_+i * 3) wr.heap.size (.slice (some ⟨bf,of_,none⟩) m fc) en en' ep (.slice ea eq ec)) [(false,0),(false,1),(false,2),(false,3),(false,4),(false,5),(false,6),(false,7),(false,8),(false,9),(false,10),(false,11),(false,12),(false,13),(false,14),(false,15),(false,16),(false,17),(false,18),(false,19),(false,20),(false,21),(false,22),(true,23),(false,24),(false,25)] (by kernel_rfl) (by kernel_rfl) (by kernel_rfl) CC ?_;dsimp only [Sd.aP,List.getElem?_cons_succ,List.getElem?_cons_zero]
          iterate 23 (refine Sd.lit ?_;quiet_step (fail);refine bk ?_)
          clear x0 x1 x2 x3 x4 x5;refine Sd.past (by rfl) ?_
          iterate 2 (refine Sd.lit ?_;quiet_step (fail);refine bk ?_)
          refine Sd.done ?_;go_wp2
          go_meet
          exact ⟨true,rfl,OT⟩
         ·have ORD:Hid (∀ c,0 < i+1->(F.map aD.abs)[i+1 - 1]? = some c->Fs.key c < en):=Hh (fun c _ h=>by
           have h:(F.map aD.abs)[i]? = some c:=h;rw [HP.out] at h;injection h with h;subst h
           show en' < en
           omega)
          have p1:decide (en<=en')=false:=ai hle;clear HP hle;have CC:xq b (off+k * 2) bf (of_+i * 3) wr.heap.size (.slice (some ⟨bf,of_,none⟩) m fc) en en' ep (.slice ea eq ec) W2.drew:=⟨D0,V0,ah X2 0,ah X2 1,ah X2 2⟩;have x0:=Sc.aA (C:=xq b (off+k * 2) bf (of_+i * 3) wr.heap.size (.slice (some ⟨bf,of_,none⟩) m fc) en en' ep (.slice ea eq ec)) (a:=⟨b,off+k * 2,none⟩) (fun W' h=>h.l);have x1:=Sc.aA (C:=xq b (off+k * 2) bf (of_+i * 3) wr.heap.size (.slice (some ⟨bf,of_,none⟩) m fc) en en' ep (.slice ea eq ec)) (a:=⟨bf,of_+i * 3,none⟩) (fun W' h=>h.prev);have x2:=Sc.aA (C:=xq b (off+k * 2) bf (of_+i * 3) wr.heap.size (.slice (some ⟨bf,of_,none⟩) m fc) en en' ep (.slice ea eq ec)) (a:=⟨wr.heap.size,0,none⟩) (fun W' h=>h.n);have x3:=Sc.aA (C:=xq b (off+k * 2) bf (of_+i * 3) wr.heap.size (.slice (some ⟨bf,of_,none⟩) m fc) en en' ep (.slice ea eq ec)) (a:=⟨wr.heap.size,1,none⟩) (fun W' h=>h.p);have x4:=Sc.aA (C:=xq b (off+k * 2) bf (of_+i * 3) wr.heap.size (.slice (some ⟨bf,of_,none⟩) m fc) en en' ep (.slice ea eq ec)) (a:=⟨wr.heap.size,2,none⟩) (fun W' h=>h.u);have x5:=Sc.aA (C:=xq b (off+k * 2) bf (of_+i * 3) wr.heap.size (.slice (some ⟨bf,of_,none⟩) m fc) en en' ep (.slice ea eq ec)) (a:=⟨wr.heap.size,1+1,none⟩) (fun W' h=>h.u);have ne:Nonempty (Sc.In (xq b (off+k * 2) bf (of_+i * 3) wr.heap.size (.slice (some ⟨bf,of_,none⟩) m fc) en en' ep (.slice ea eq ec))):=⟨⟨_,CC⟩⟩;refine Sc.start (xq b (off+k * 2) bf (of_+i * 3) wr.heap.size (.slice (some ⟨bf,of_,none⟩) m fc) en en' ep (.slice ea eq ec)) [(false,0),(false,1),(false,2),(false,3),(false,4),(false,5),(false,6),(false,7),(false,8),(false,9),(false,10),(false,11),(false,12),(false,13),(false,14),(false,15),(false,16),(false,17),(false,18),(false,19),(false,20),(false,21),(false,22),(true,23),(false,24),(false,25)] (by kernel_rfl) (by kernel_rfl) (by kernel_rfl) CC ?_;dsimp only [Sd.aP,List.getElem?_cons_succ,List.getElem?_cons_zero]
          iterate 23 (refine Sd.lit ?_;quiet_step (fail);refine bk ?_)
          clear x0 x1 x2 x3 x4 x5;refine Sd.call (by rfl) (fun K hK=>?_);go_simp;refine RA.mono ?_;rintro e w5 ⟨rfl,rs5,o5⟩;have OU:=Hh (MU J HE (ORD) (by rw [HS.out];exact ac _) rfl rfl BX.out rs5 o5);have lx:=NS.out;refine hK _ _ (Sc.Cl.of ⟨o5.cell CC.l (fun g=>by simp only at g;omega),o5.cell CC.prev (fun g=>by simp only at g;omega),o5.cell CC.n (fun g=>by simp only at g;omega),o5.cell CC.p (fun g=>by simp only at g;omega),o5.cell CC.u (fun g=>by simp only at g;omega)⟩) ?_;clear hK K rs5 o5 RA CC;generalize gT ((F.map aD.abs).take (i+1)) en ep el=z at *
          iterate 2 (refine Sd.lit ?_;quiet_step (fail);refine bk ?_)
          refine Sd.done ?_;go_wp2
          go_meet
          exact ⟨_,rfl,OU⟩
       case rest =>
        obtain ⟨q,e1,OU⟩:=hcut;subst e1;clear bx X1 PRV d0 d1 d2 d3
        cases q with
        | true =>
          have E:=Hh (vP (B0:=B0) (I.aI.trans ((OU.out.2 rfl).2.mono I.aI.size)) (NB (fun g=>(OU.out.2 rfl).1 (by rw [PA2.out] at g;exact g.1))) (by decide));clear OU;go_wp2
          go_ret2
          exact E
        | false =>
          have N:=Hh (OU.out.1 rfl);clear OU;go_wp2
          go_roundw
          case rel=>exact ⟨j+1,by omega,by go_num,N⟩
          case measure=>simp [intOf];omega
      ·obtain rfl:j=m:=by omega
       have d9:=(BK.cell lb).trans C1;have AL:Hid ((F.map aD.abs).length=j):=Hh (by rw [cy];exact HFL.out);have GD:Hid (gdF (F.map aD.abs)):=Hh (Ot (by rw [AL.out];exact J.out.inn));have RS:Hid (Rs wr s (fun k=>B0<=k/\k < wo.heap.size) (F.map aD.abs) 0):=Hh (by have:=J.out.rs;rw [← AL.out,cW] at this;exact this);have JB:=Hh J.aI;have SL:Hid (s < wr.heap.size):=Hh (by obtain ⟨_,_,h,_⟩:=J.rs;exact bm h.row);clear J hjl HF
       by_cases r1:rate < -2000
       ·have E:=Hh (vP (B0:=B0) BK (NB (fun g=>by rw [PA2.out] at g;have:=g.2.1;omega)) (by decide))
        clear NB GD RS;go_wp2
        go_ret2
        exact E
       ·by_cases r2:2000 < rate
        ·have E:=Hh (vP (B0:=B0) BK (NB (fun g=>by rw [PA2.out] at g;have:=g.2.2;simp only at this;omega)) (by decide))
         clear NB GD RS;go_wp2
         go_ret2
         exact E
        ·have GP:Hid (Oq (dP (dK L) k)):=Hh (by rw [PA2.out];exact ⟨GD.out,by simp only;omega,by simp only;omega⟩)
         have ST:=Hh (S8 (L:=dK L) (i:=k) (by rw [PLN.out];exact hlt));rw [PA2.out] at ST;clear NB GD;go_upto_region 16 with fail;clear d9 r1 r2;have RZ:=Hh I.rz;have RW:=Hh ((JB.block _ I.rz.Ri).trans I.rz.row);have BW:=Hh I.aI;have GDS:=Hh I.gd;have LO:=Hh (show w.heap.size<=r from I.rz.lo.1);clear I;obtain ⟨va,vc,rfl,_,_⟩:=RZ.so.slice;obtain ⟨la,lc,rfl,_,_⟩:=RZ.lv.slice;generalize hvs:Value.slice va ps.length vc=vs at *;generalize hvl:Value.slice la (bT ((dK L).take k)).V.length lc=vl at *;have HVS:=Hh hvs;have HVL:=Hh hvl;clear hvs hvl;have n0:Hid (vs.ownBlock≠some r/\vl.ownBlock≠some r):=Hh ⟨RZ.vr.1,RZ.vr.2.1⟩
         have LV:Hid (∀ q,vs.ownBlock=some q\/vl.ownBlock=some q->w.heap.size<=q/\q < wr.heap.size):=Hh (fun q g=>by
          have:=RZ.Yx q (by rcases g with g | g;exact .inl g;exact .inr (.inl g));have:=JB.size
          omega)
         have x0:=Sc.aA (C:=ay (fun q=>vs.ownBlock=some q\/vl.ownBlock=some q) wr) (a:=⟨r,0,none⟩) (fun W' o=>o.cell (ah RW 0) (fun g=>by rcases g with g | g;exact n0.out.1 g;exact n0.out.2 g));have x1:=Sc.aA (C:=ay (fun q=>vs.ownBlock=some q\/vl.ownBlock=some q) wr) (a:=⟨r,1,none⟩) (fun W' o=>o.cell (ah RW 1) (fun g=>by rcases g with g | g;exact n0.out.1 g;exact n0.out.2 g));have ne:Nonempty (Sc.In (ay (fun q=>vs.ownBlock=some q\/vl.ownBlock=some q) wr)):=⟨⟨_,ay.refl _ _⟩⟩;have ne2:Nonempty (Sc.In (fun _:World=>True)):=⟨⟨wr,trivial⟩⟩;refine Sg.UN (ay (fun q=>vs.ownBlock=some q\/vl.ownBlock=some q) wr) [0,1,2,3,4,6,9,10,11] [5,12] [(2,7),(1,8),(2,13),(1,14)] [15,16,17,18,19,20]
          [⟨7,99,#[.pointer (some ⟨s,0,none⟩)],51,some (98,.pointer (some ⟨s,0,none⟩)),some 1⟩,⟨13,105,#[.bool true],4,none,some 1⟩]
          (by kernel_rfl) (by kernel_rfl) (by kernel_rfl) (by kernel_rfl) (by kernel_rfl) (by rfl) (by show ([99,105]:List Nat).Nodup;decide)
          (by intro f hf f' hf';simp only [cj,cY,fS] at hf hf';rcases hf with rfl | rfl <;> rcases hf' with rfl | rfl <;> simp)
          (by intro f hf f' hf';simp only [cj,cY,fS] at hf hf';rcases hf with rfl | rfl <;> rcases hf' with rfl | rfl <;> simp)
          (by
            intro f hf
            simp only [cj,cY,fS] at hf
            rcases hf with rfl | rfl
            ·exact Pa.YV _ _ _ _ _ rfl rfl rfl rfl rfl underlying34 NF rfl
            ·exact Xz _ _ _ _ _ _ rfl rfl rfl rfl underlying35 Oi rfl rfl rfl)
          (ay.of_below ((aa _ _).drew)) (fun W' h=>h.size) (fun W' o h=>h.then ((aa _ _).alloc (ac _) o)) ?_
         dsimp only [Sg.dL,List.getElem?_cons_succ,List.getElem?_cons_zero]
         repeat (refine aa8 ?_;quiet_step (fail);refine bk ?_)
         refine aa3 ?_;refine ⟨fun f hf=>by simp only [cj,cY,fS] at hf;rcases hf with rfl | rfl <;> (intro s v e;cases e <;> rfl),?_⟩;dsimp only [Sg.aP,List.getElem?_cons_succ,List.getElem?_cons_zero];clear x0 x1;have SO:=Hh (RZ.so.keep JB);have SV:=Hh (RZ.lv.keep JB);have D0:=Hh ((aa wr.heap.size wr).drew);have WW:Hid (w.heap.size<=wr.heap.size):=Hh (by have:=BW.out.size;have:=JB.out.size;omega)
         have PS:Hid (ps.length<=32/\(bT ((dK L).take k)).V.length<=32):=Hh (by
          have h1:=RZ.sl;have h2:(bT ((dK L).take k)).S.length=((dK L).take k).length:=cy _;have h3:(bT ((dK L).take k)).V.length=((dK L).take k).length:=cy _;rw [cH] at h2 h3
          omega)
         refine Sg.meet (fun g1 wm hb hc row n1 hH hL=>?_);have B1:=Hh (D0.trans hb);have R1:=Hh row;clear hb hc row n1 hH hL;go_simp;refine Sg.call (fun xs w2 hb hc=>⟨by rfl,fun K hK=>?_⟩);have r1:=jf hb R1;have b2:Below wr.heap.size wr w2:=aW B1 hb;clear hb hc R1;simp only [Sg.fill,cm,br]
         refine cK (K:=KN) underlying34 NF rfl (by omega) _ _ rfl w.heap.size vs ps (by rfl) (SO.out.keep b2) ⟨g1,0,none⟩ s (by rfl) (fun j u hu=>by
          match j,hu with
          | 0,hu =>
            simp [KN,ptr] at hu
            subst hu;rw [Ck.jb];exact ah r1 0
          | j+1,hu=>simp [KN] at hu) (by have:=PS.out.1;omega) (by have:=WW.out;have:=b2.size;omega) ?_
         intro v' w3 own gr hq
         have o3:ay (fun q=>vs.ownBlock=some q\/vl.ownBlock=some q) wr w3:=(ay.of_below b2).trans (Pa.aV gr) fun q _ e=>.inl e;refine hK _ _ (Sc.Cl.of o3) gr.size (fun g hg hl=>gr.block g hl fun e=>by have:=(LV.out g (.inl e.symm)).2;have:wr.heap.size<=g:=hg;omega) ?_;have O3:=Hh o3;have P3:=Hh own
         have Q3:Hid (v'.ownBlock=vs.ownBlock\/∃ g,v'.ownBlock=some g/\wr.heap.size<=g):=Hh (by
          rcases hq with e | ⟨g,e,hg⟩
          ·exact .inl e
          ·exact .inr ⟨g,e,by have:=b2.size;omega⟩)
         have V3:=Hh (aG (SV.keep b2) (fun k e=>Pa.bG (SV.keep b2) (SO.keep b2) (by decide) k e) (Pa.aV gr));clear hK K own gr hq o3 r1 b2 B1;refine Sg.meet (fun g2 wm hb hc row n2 hH hL=>?_);have R2:=Hh row;have O4:=Hh (O3.then hb);have P4:=Hh (P3.keep hb);have V4:=Hh (V3.keep hb);clear hb hc row n2 hH hL O3 P3 V3;go_simp;refine Sg.abJ (fun xs w4 hb hc=>⟨by rfl,fun K hK=>?_⟩);have r2:=jf hb R2;have o4:=O4.then hb;have p4:=P4.keep hb;have v4:=V4.keep hb;clear hb hc R2 O4 P4 V4;simp only [Sg.fill,br]
         refine cK (K:=KB) underlying35 Oi rfl (by omega) _ _ rfl w.heap.size vl (bT ((dK L).take k)).V (by rfl) v4 ⟨g2,0,none⟩ true (by rfl) (fun j u hu=>by
          match j,hu with
          | 0,hu =>
            simp [KB] at hu
            subst hu;rw [Ck.jb];exact ah r2 0
          | j+1,hu=>simp [KB] at hu) (by have:=PS.out.2;omega) (by have:=WW.out;have:=o4.size;omega) ?_
         intro v2 w5 own gr hq
         have o5:ay (fun q=>vs.ownBlock=some q\/vl.ownBlock=some q) wr w5:=o4.trans (Pa.aV gr) fun q _ e=>.inr e;refine hK _ _ (Sc.Cl.of o5) gr.size ?_;have O5:=Hh o5;have V5:=Hh own;have P5:=Hh (aG p4 (fun k e=>Pa.bG p4 v4 (by decide) k e) (Pa.aV gr))
         have Q5:Hid (v2.ownBlock=vl.ownBlock\/∃ g,v2.ownBlock=some g/\wr.heap.size<=g):=Hh (by
          rcases hq with e | ⟨g,e,hg⟩
          ·exact .inl e
          ·exact .inr ⟨g,e,by have:=o4.size;omega⟩)
         clear hK K own gr hq o4 p4 v4 o5 r2;refine Sg.abH (fun w6 hb hc=>?_);have o6:=O5.then hb;have V6:=Hh (V5.keep hb);have P6:=Hh (P5.keep hb);have R6:=Hh ((o6.block r (bm RW) (fun g=>by rcases g with g | g;exact n0.out.1 g;exact n0.out.2 g)).trans RW.out);have O6:=Hh o6;clear hb hc O5 V5 P5 o6
         have NX:Hid (NI w B0 r p (dK L) (k+1) v' (ps ++ [s]) v2 ((w6.setCell ⟨r,0,none⟩ v').setCell ⟨r,1,none⟩ v2)):=Hh (by
          have f0:=Rw.aB (j:=0) R6 v';have f1:=Rw.aB (j:=1) f0 v2;have s0:ay (fun q=>q=r) w6 ((w6.setCell ⟨r,0,none⟩ v').setCell ⟨r,1,none⟩ v2):=(ay.set (fun q=>q=r) w6 (a:=⟨r,0,none⟩) rfl v').trans (ay.set (fun q=>q=r) _ (a:=⟨r,1,none⟩) rfl v2) fun _ _ q=>q;have a1:=P6.apart R6 (by decide);have a2:=V6.apart R6 (by decide);refine ⟨?_,?_,Jg GDS GP⟩
          ·rw [ST.out]
           exact RZ.push (by omega) BW.out.size rfl JB.out (by have:=HS.out;omega) SL.out RS.out ((O6.out.mono fun q _ g=>by
            rcases g with g | g
            ·exact .inr (.inl g)
            ·exact .inr (.inr g)).trans s0 fun q _ g=>.inl g) f1
            (aG P6 (fun q e g=>a1 (by rw [e,g])) s0) Q3.out (aG V6.out (fun q e g=>a2 (by rw [e,g])) s0) Q5.out
          ·have b6:Below w.heap.size w w6:=(aW BW JB).trans (O6.below WW fun q g=>(LV q g).1)
           exact s0.below b6.size (fun q g=>by have:=LO.out;omega) |> fun z=>b6.trans z)
         obtain ⟨a3,c3,rfl,_⟩:=P6.slice;obtain ⟨a4,c4,rfl,_⟩:=V6.slice;generalize (ps ++ [s]).length=l3 at *;generalize ((bT ((dK L).take k)).V ++ [true]).length=l4 at *;obtain ⟨z0,z1,y0,y1⟩:=yH R6;dsimp only [Sg.dL,List.getElem?_cons_succ,List.getElem?_cons_zero];refine Sg.sU (fun K hK=>?_);go_simp;refine hK _ _ ?_;clear hK K;refine Sg.sU (fun K hK=>?_);go_simp;refine hK _ _ ?_;clear hK K;refine Sg.sU (fun K hK=>?_);go_simp;refine hK _ _ ?_;clear hK K;refine Sg.sU (fun K hK=>?_);go_simp;refine hK _ _ ?_;clear hK K;refine Sg.sU (fun K hK=>?_);go_simp;refine hK _ _ ?_;clear hK K;refine Sg.sU (fun K hK=>?_);go_simp;refine hK _ _ ?_;clear hK K;refine Sg.aeF ?_;clear z0 z1 y0 y1 R6 P6 V6 O6;go_wp2
         go_roundw
         case rel=>exact ⟨k+1,_,_,_,by omega,by go_num,NX⟩
         case measure=>simp [intOf];omega
    ·obtain rfl:k=n:=by omega
     have NE:Hid ((qF (dP (dK L) 0).1=true/\fB (dP (dK L) 1).1 40=true/\fP (dP (dK L) 0).1 40=fP (dP (dK L) 1).1 40/\fR (dP (dK L) 0).1 40=fR (dP (dK L) 1).1 40->gK (dK L)=0)/\(¬ (qF (dP (dK L) 0).1=true/\fB (dP (dK L) 1).1 40=true/\fP (dP (dK L) 0).1 40=fP (dP (dK L) 1).1 40/\fR (dP (dK L) 0).1 40=fR (dP (dK L) 1).1 40)->gK (dK L)=10)):=Hh (OY hlen (OJ (by rw [PLN.out];exact I.out.gd)));have TK:(dK L).take k=dK L:=dq (by rw [PLN.out];exact ac _);have IZ:=I.rz;have BW:=Hh I.aI;rw [TK] at IZ;have RZ:=Hh IZ;clear IZ I TK;have hps:ps.length=k:=by have h1:=RZ.out.sl;have h2:(bT (dK L)).S.length=(dK L).length:=cy _;have:=PLN.out;omega
     have S0_:aN (bT (dK L)).S ((0:Nat):Int)=((dP (dK L) 0).1,0):=rY (by rw [PLN.out];omega);have S1_:aN (bT (dK L)).S ((1:Nat):Int)=((dP (dK L) 1).1,0):=rY (by rw [PLN.out];omega);have T0:=RZ.st 0 (by omega);have T1:=RZ.st 1 (by omega);rw [S0_] at T0;rw [S1_] at T1;have OK0:Hid (eB (dP (dK L) 0).1):=Hh (by obtain ⟨_,_,h,e⟩:=T0;rw [← e];exact h.ok);obtain ⟨gs,sc,rfl,_,_,_,_,_,hS⟩:=RZ.so.form (by omega);have cs0:=Pa.TL hS (i:=0) (by omega);have cs1:=Pa.TL hS (i:=1) (by omega);have d0:=RZ.cells.1;rw [hps] at d0;have D0:=Hh d0;have CS1:=Hh cs1;have RT0:=Hh (mh T0 40);have T1H:=Hh T1;have LB:Hid (r < wr.heap.size/\gs < wr.heap.size):=Hh ⟨RZ.Ri,(RZ.Yx gs (.inl rfl)).2⟩;have FIN:Hid (∀ w',Below wr.heap.size wr w'->gK (dK L)=0->pO w B0 (dK L) (.returned (.tuple #[.pointer (some ⟨r,0,none⟩),.int .i64 0])) w'):=Hh (fun w' b h=>aag (aW BW b) h (RZ.below b));have BAD:Hid (∀ w',Below wr.heap.size wr w'->gK (dK L)=10->pO w B0 (dK L) (.returned (.tuple #[.pointer none,.int .i64 10])) w'):=Hh (fun w' b h=>vP (aW BW b) h (by decide));unfold ptr at cs0 cs1;unfold mg at RT0;clear hS S0_ S1_ T0 T1 RZ BW;generalize (dP (dK L) 0).1=A0 at *;generalize (dP (dK L) 1).1=A1 at *;generalize ps.getD 0 0=s0 at *;generalize ps.getD 1 0=s1 at *;unfold file at RT0;have OKL:=Hh (Jb OK0 40);clear OK0;go_wp2_with fail;refine RT0.mono ?_;rintro e w1 ⟨u0,rfl,rd0,b1⟩;have RD0:=Hh rd0;obtain ⟨q0,k0,rfl,_⟩:=rd0.slice;have ba:=b1.alloc b1.size (.cells #[.int .i64 (fP A0 40),.slice q0 (fR A0 40).length k0] 79);have BA:=Hh ba;have XA:=Hh (bc w1 (.cells #[.int .i64 (fP A0 40),.slice q0 (fR A0 40).length k0] 79));have RA:=Hh (rd0.below ((aa w1.heap.size w1).alloc (ac _) (.cells #[.int .i64 (fP A0 40),.slice q0 (fR A0 40).length k0] 79)));clear rd0 RD0 b1 ba RT0 cs0 cs1 d0;go_upto_region 18 with fail;generalize (w1.alloc (.cells #[.int .i64 (fP A0 40),.slice q0 (fR A0 40).length k0] 79))=W1 at *;generalize w1.heap.size=ga at *;have d0:=(BA.cell LB.out.1).trans D0;have cs1:W1.cell? ⟨gs,0+1,none⟩=some (.pointer (some ⟨s1,0,none⟩)):=(BA.cell LB.out.2).trans CS1;have cs1':W1.cell? ⟨gs,1,none⟩=some (.pointer (some ⟨s1,0,none⟩)):=cs1;have RT1:=Hh (mh (Fs.Rs.below T1H BA) 40);unfold mg file at RT1;clear T1H D0 CS1 LB;go_wp2_with fail;refine RT1.mono ?_;rintro e w2 ⟨u1,rfl,rd1,b2⟩;obtain ⟨q1,k1,rfl,_⟩:=rd1.slice;have bb:=(aa w2.heap.size w2).alloc (ac _) (.cells #[.int .i64 (fP A1 40),.slice q1 (fR A1 40).length k1] 79);have B2:=Hh (b2.trans (bb.mono b2.size));have BB:=aW BA B2;have XB:=Hh (bc w2 (.cells #[.int .i64 (fP A1 40),.slice q1 (fR A1 40).length k1] 79));have XA2:=Hh (jf B2 XA);have RB:=Hh (rd1.below bb);have RA2:=Hh (RA.below B2);clear rd1 b2 bb RT1 cs1 cs1' d0 BA B2 XA RA;go_upto_region 19 with fail;generalize (w2.alloc (.cells #[.int .i64 (fP A1 40),.slice q1 (fR A1 40).length k1] 79))=W2 at *;generalize w2.heap.size=gb at *;obtain ⟨x0,x1⟩:=pI XA2;have SQ:=Hh (Re.qL W2 (fP A0 40) _ (fR A0 40) RA2 OKL);unfold Re.lQ file at SQ;go_wp2_with fail;refine SQ.mono ?_;rintro e w3 ⟨u2,rfl,_,b3⟩;have B3:=aW BB b3;have RA3:=Hh (RA2.below b3);have RB3:=Hh (RB.below b3);have y0:=ah (jf b3 XA2) 0;have y1:=ah (jf b3 XA2) 1;have z0:=ah (jf b3 XB) 0;have z1:=ah (jf b3 XB) 1;have SM:=Hh (Fl.Cx w3 (fP A0 40) (fP A1 40) _ _ (fR A0 40) (fR A1 40) RA3 RB3);unfold file at SM;have SQ0:Hid (qF A0=(fB A0 40 && decide (Re.sN (fP A0 40) (fR A0 40)=0))):=Hh rfl;have SM0:Hid (l6 (fP A0 40) (fR A0 40) (fP A1 40) (fR A1 40)=true↔(fP A0 40=fP A1 40/\fR A0 40=fR A1 40)):=Hh decide_eq_true_iff;clear b3 x0 x1 SQ RA2 RB XA2 XB RA3 RB3 BB OKL;generalize hfa:fB A0 40=fa at *;generalize hfb:fB A1 40=fb at *;generalize Re.sN (fP A0 40) (fR A0 40)=sn at *;generalize l6 (fP A0 40) (fR A0 40) (fP A1 40) (fR A1 40)=sm at *;generalize (fR A0 40).length=m0 at *;generalize (fR A1 40).length=m1 at *
     have bad:Hid ((fa=false\/fb=false\/sn≠0\/sm=false)->gK (dK L)=10):=Hh (fun g=>NE.out.2 (fun ⟨h1,h2,h3⟩=>by
      rw [SQ0.out,ce,cL] at h1
      rcases g with g | g | g | g
      ·rw [g] at h1;exact Bool.noConfusion h1.1
      ·rw [g] at h2;exact Bool.noConfusion h2
      ·exact g h1.2
      ·rw [SM0.out.2 h3] at g;exact Bool.noConfusion g))
     have good:Hid (fa=true->fb=true->sn=0->sm=true->gK (dK L)=0):=Hh (fun h1 h2 h3 h4=>NE.out.1 ⟨by rw [SQ0.out,h1,h3];rfl,h2,SM0.out.1 h4⟩);clear NE SQ0 SM0 hfa hfb
     cases fa with
     | false =>
       have E:=Hh (BAD w3 B3 (bad (.inl rfl)));clear FIN BAD bad good SM;go_wp2
       go_ret2
       exact E
     | true =>
       cases fb with
       | false =>
         have E:=Hh (BAD w3 B3 (bad (.inr (.inl rfl))));clear FIN BAD bad good SM;go_wp2
         go_ret2
         exact E
       | true =>
         by_cases hsn:sn=0
         ·subst hsn
          go_wp2_with fail;refine SM.mono ?_;rintro e w4 ⟨rfl,b4⟩;have B4:=aW B3 b4;clear b4 SM
          cases sm with
          | true =>
            have E:=Hh (FIN w4 B4 (good (by simp) (by simp) (by simp) (by simp)));clear FIN BAD bad good;go_wp2
            go_ret2
            exact E
          | false =>
            have E:=Hh (BAD w4 B4 (bad (by simp)));clear FIN BAD bad good;go_wp2
            go_ret2
            exact E
         ·have E:=Hh (BAD w3 B3 (bad (.inr (.inr (.inl hsn)))))
          have p1:(sn != 0)=true:=fe.2 hsn;clear FIN BAD bad good SM hsn;go_wp2
          go_ret2
          exact E
end Cu
namespace Cu
open Go.Maps
open Fl (bC aR aJ dz)
open Fs (dE dV dA dD sW jW Kv gG aS)
open Pa (S2 K2)
attribute [local irreducible] Sd.bA wpQuiet
def Qd (w:World) (B:Nat) (F:Nat->Prop) (r p:Nat) (vl:Value) (c:Cs) (t:Nat) (n o f j:Int) (x:R4) (e:Ending) (w':World):Prop:=∃ vs' ps' vq',e = .returned (.tuple #[aH (QY c n o f j x),.int .i64 (Bg c n o f j)])/\Rz B F r (Bf c n o f j x) (t+1) vs' ps' vl p vq' w'/\ay (lD B F) w w'
variable {w w':World} {B r t p:Nat} {F:Nat->Prop} {c:Cs} {vs vl vq:Value} {ps:List Nat} {n o f j z:Int} {x:R4}
theorem Ho (h:Rz B F r c t vs ps vl p vq w) (b:Below w.heap.size w w') (hz:z=Bg c n o f j) (h0:z≠0) (hc:Bf c n o f j x=c):Qd w B F r p vl c t n o f j x (.returned (.tuple #[aH z4,.int .i64 z])) w' :=
 ⟨vs,ps,vq,by unfold QY;rw [← hz,am h0],by rw [hc];exact (h.below b).late,ay.of_below b⟩
theorem Tc (h:Rz B F r c t vs ps vl p vq w) (n o f j:Int) (x:R4) (hn:no c n):Calls prog 19 #[.pointer (some ⟨r,0,none⟩),.int .i64 n,Ad.addr o f j,aH x] w (Qd w B F r p vl c t n o f j x):=by
 have he:Bg c n o f j=1:=by unfold Bg;rw [aw hn]
 have hc:Bf c n o f j x=c:=by unfold Bf;rw [aw (.inl hn)]
 have E:=Hh (fun w' b=>Ho h (w':=w') b he.symm (by decide) hc);have S0:=Hh (gG w o f j x);have hl:=h.sl;have d0:=(h.below S0.aI).cells.1;obtain ⟨sa,sc,rfl,_,_⟩:=h.so.slice;rw [hl] at d0;unfold no at hn;clear h he hc hl;generalize c.S.length=ln at *;unfold aH Ad.addr
 go_enter func19,ntmps19
 go_upto_region 1 with fail;generalize (((w.alloc (.cells #[.int .i64 o,.int .i64 f,.int .i64 j] 59)).alloc (.cells #[.int .u8 x.1,.int .u8 x.2.1,.int .u8 x.2.2.1,.int .u8 x.2.2.2] 42)).alloc (.cells #[.int .u8 0,.int .u8 0,.int .u8 0,.int .u8 0] 42))=W at *;obtain ⟨e0,e1,e2,e3,k0,k1,k2,k3⟩:=xL S0.res;have R3:=Hh (aR S0.res z4);have E3:=Hh (E _ (aJ (o:=0) (r:=z4) S0.aI (show w.heap.size<=w.heap.size+2 by omega)));clear S0 E
 by_cases g3:n < 0
 ·have p3:decide (n < 0)=true:=bj g3
  clear hn;go_wp2
  (try simp only [Exit.inBlock,Exit.then])
  exact bp (aS (p:=8) (r:=9) rfl _ _ (w.heap.size+2) z4 (.int .i64 1) rfl rfl R3) rfl E3
 ·have p3:decide (n < 0)=false:=ai g3
  have p4:decide ((ln:Int)<=n)=true:=bj (by omega);clear hn;go_wp2
  (try simp only [Exit.inBlock,Exit.then])
  exact bp (aS (p:=8) (r:=9) rfl _ _ (w.heap.size+2) z4 (.int .i64 1) rfl rfl R3) rfl E3
theorem JU (h:Rz B F r c t vs ps vl p vq w) (ok:jB c t) (n o f j:Int) (x:R4) (hn:¬ no c n) (hlv:bU c.V n=false):Calls prog 19 #[.pointer (some ⟨r,0,none⟩),.int .i64 n,Ad.addr o f j,aH x] w (Qd w B F r p vl c t n o f j x):=by
 have he:Bg c n o f j=13:=by unfold Bg;rw [am hn,hlv];rfl
 have hc:Bf c n o f j x=c:=by unfold Bf;rw [aw (.inr hlv)]
 have E:=Hh (fun w' b=>Ho h (w':=w') b he.symm (by decide) hc);have S0:=Hh (gG w o f j x);have Z:=Hh (h.below S0.aI);have hl:=h.sl;have hv:=ok.lv;have hlen:=ok.len;have d0:=Z.cells.1;have d1:=Z.cells.2.1;obtain ⟨sa,sc,rfl,_,_⟩:=h.so.slice;obtain ⟨gl,cl,rfl,_,_,_,_,_,hA⟩:=Z.lv.form (by omega);rw [hl] at d0;rw [hv] at d1;unfold no at hn;obtain ⟨n,rfl⟩:∃ k:Nat,n=k:=⟨n.toNat,by omega⟩;have cb:=Pa.Ka hA (i:=n) (by omega);rw [cQ] at cb;have hlv':c.V.getD n false=false:=by unfold bU at hlv;rw [ch] at hlv;exact hlv
 rw [hlv'] at cb;have hlt:n < c.S.length:=by omega
 have p3:decide ((n:Int) < 0)=false:=ai (by omega);have p4:decide ((c.S.length:Int)<=(n:Int))=false:=ai (by omega);have p5:decide (c.S.length<=n)=false:=ai (by omega);clear h he hc hl hA hlv hlv' ok Z hv hlen hn;generalize c.S.length=ln at *;unfold aH Ad.addr
 go_enter func19,ntmps19
 go_upto_region 1 with fail;generalize (((w.alloc (.cells #[.int .i64 o,.int .i64 f,.int .i64 j] 59)).alloc (.cells #[.int .u8 x.1,.int .u8 x.2.1,.int .u8 x.2.2.1,.int .u8 x.2.2.2] 42)).alloc (.cells #[.int .u8 0,.int .u8 0,.int .u8 0,.int .u8 0] 42))=W at *;obtain ⟨e0,e1,e2,e3,k0,k1,k2,k3⟩:=xL S0.res;have R3:=Hh (aR S0.res z4);have E3:=Hh (E _ (aJ (o:=0) (r:=z4) S0.aI (show w.heap.size<=w.heap.size+2 by omega)));clear S0 E;go_wp2
 (try simp only [Exit.inBlock,Exit.then])
 exact bp (aS (p:=8) (r:=9) rfl _ _ (w.heap.size+2) z4 (.int .i64 13) rfl rfl R3) rfl E3
theorem ael {A:aU} (h:dE A o f j≠0):dV A o f j x=z4:=by
 unfold dV
 split
 ·rfl
 ·rw [am h]
theorem wX (w:World) (g:Nat) (y:R4):ay (fun k=>k=g) w (bC w g 0 y) :=
 (((ay.set (fun k=>k=g) w (a:=⟨g,0,none⟩) rfl _).trans (ay.set (fun k=>k=g) _ (a:=⟨g,1,none⟩) rfl _) fun _ _ q=>q).trans (ay.set (fun k=>k=g) _ (a:=⟨g,2,none⟩) rfl _) fun _ _ q=>q).trans (ay.set (fun k=>k=g) _ (a:=⟨g,3,none⟩) rfl _) fun _ _ q=>q
theorem IY (h:Rz B F r c t vs ps vl p vq w) (ok:jB c t) (ht:t<=1000) (n o f j:Int) (x:R4) (hx:bQ x) (hn:¬ no c n) (hlv:bU c.V n=true):Calls prog 19 #[.pointer (some ⟨r,0,none⟩),.int .i64 n,Ad.addr o f j,aH x] w (Qd w B F r p vl c t n o f j x):=by
 have he:Bg c n o f j=dE (aN c.S n).1 o f j:=by unfold Bg;rw [am hn,aw hlv]
 have hc:Bf c n o f j x = { c with S:=jh c.S n (dA (aN c.S n).1 o f j x,dD (aN c.S n).1 o f j (aN c.S n).2) }:=by
  unfold Bf;rw [am];rintro (g | g)
  ·exact hn g
  ·rw [hlv] at g;cases g
 have S0:=Hh (gG w o f j x);have Z:=Hh (h.below S0.aI);have hl:=h.sl;have hv:=ok.lv;have hlen:=ok.len;have d0:=Z.cells.1;have d1:=Z.cells.2.1;obtain ⟨gs,sc,rfl,_,_,_,_,_,hS⟩:=Z.so.form (by omega);obtain ⟨gl,cl,rfl,_,_,_,_,_,hA⟩:=Z.lv.form (by omega);unfold no at hn;obtain ⟨n,rfl⟩:∃ k:Nat,n=k:=⟨n.toNat,by omega⟩;have hlt:n < c.S.length:=by omega
 have hnl:n < ps.length:=by omega
 have cs:=Pa.TL hS (i:=n) (by omega);rw [cQ] at cs;have cb:=Pa.Ka hA (i:=n) (by omega);rw [cQ] at cb;have hlv':c.V.getD n false=true:=by unfold bU at hlv;rw [ch] at hlv;exact hlv
 rw [hlv'] at cb;rw [hl] at d0;rw [hv] at d1;have off:=h.Dz hnl;have slt:=Jp (h.st n hnl);have zb:=S0.CL;have ST:=Hh (Fs.Rs.only (h.st n hnl) (ay.of_below S0.aI));have AL:=Hh (fun k g=>Fx.low (w:=w) (w':=(((w.alloc (.cells #[.int .i64 o,.int .i64 f,.int .i64 j] 59)).alloc (.cells #[.int .u8 x.1,.int .u8 x.2.1,.int .u8 x.2.2.1,.int .u8 x.2.2.2] 42)).alloc (.cells #[.int .u8 0,.int .u8 0,.int .u8 0,.int .u8 0] 42))) (fun k g=>h.WV n k g) (by omega) k g);have NG:Hid (w.heap.size+2≠ps.getD n 0/\w.heap.size≠ps.getD n 0/\w.heap.size+1≠ps.getD n 0/\r≠ps.getD n 0/\gs≠ps.getD n 0/\r < w.heap.size/\gs < w.heap.size):=Hh ⟨by omega,by omega,by omega,fun e=>off (.inl (.inr (.inl e.symm))),fun e=>off (.inr (.inl (by rw [← e];rfl))),h.Ri,(h.Yx gs (.inl rfl)).2⟩;have DB:Hid (0<=(aN c.S n).2/\(aN c.S n).2 < 1000000):=Hh (by have:=ok.st n hlt;omega)
 have FIN:Hid (∀ W1 w5,Below (((w.alloc (.cells #[.int .i64 o,.int .i64 f,.int .i64 j] 59)).alloc (.cells #[.int .u8 x.1,.int .u8 x.2.1,.int .u8 x.2.2.1,.int .u8 x.2.2.2] 42)).alloc (.cells #[.int .u8 0,.int .u8 0,.int .u8 0,.int .u8 0] 42)).heap.size (((w.alloc (.cells #[.int .i64 o,.int .i64 f,.int .i64 j] 59)).alloc (.cells #[.int .u8 x.1,.int .u8 x.2.1,.int .u8 x.2.2.1,.int .u8 x.2.2.2] 42)).alloc (.cells #[.int .u8 0,.int .u8 0,.int .u8 0,.int .u8 0] 42)) W1->Rs w5 (ps.getD n 0) (Fx (AV (Gz F r p (.slice (some ⟨gl,0,none⟩) c.V.length cl)) (Value.slice (some ⟨gs,0,none⟩) ps.length sc).ownBlock ps n) w (((w.alloc (.cells #[.int .i64 o,.int .i64 f,.int .i64 j] 59)).alloc (.cells #[.int .u8 x.1,.int .u8 x.2.1,.int .u8 x.2.2.1,.int .u8 x.2.2.2] 42)).alloc (.cells #[.int .u8 0,.int .u8 0,.int .u8 0,.int .u8 0] 42))) (dA (aN c.S n).1 o f j x) (dD (aN c.S n).1 o f j (aN c.S n).2)->ay (fun k=>k=ps.getD n 0) W1 w5->Qd w B F r p (.slice (some ⟨gl,0,none⟩) c.V.length cl) c t n o f j x (.returned (.tuple #[aH (dV (aN c.S n).1 o f j x),.int .i64 (dE (aN c.S n).1 o f j)])) (bC w5 (w.heap.size+2) 0 (dV (aN c.S n).1 o f j x))):=Hh (fun W1 w5 b1 hs o1=>by
  have oo:ay (fun k=>k=ps.getD n 0) w (bC w5 (w.heap.size+2) 0 (dV (aN c.S n).1 o f j x)):=(((ay.of_below (S0.aI.trans (b1.mono S0.aI.size))).trans o1 fun _ _ q=>q).trans (wX w5 _ _) fun k hk q=>by omega);have rs:=Pa.dY (Fs.Rs.only hs ((wX w5 (w.heap.size+2) (dV (aN c.S n).1 o f j x)).mono fun k _ q=>by rw [q];exact .inr ⟨by omega,by omega⟩)) (G:=AV (Gz F r p (.slice (some ⟨gl,0,none⟩) c.V.length cl)) (Value.slice (some ⟨gs,0,none⟩) ps.length sc).ownBlock ps n) fun k _ q=>.inl (.inl q);have z:=(h.store hnl (x:=(dA (aN c.S n).1 o f j x,dD (aN c.S n).1 o f j (aN c.S n).2)) oo rs).late;refine ⟨_,ps,vq,?_,by rw [hc];exact z,oo.mono fun k _ q=>by rw [q];exact h.mine.2.2.1 _ hnl⟩;unfold QY;rw [he]
  by_cases g:dE (aN c.S n).1 o f j=0
  ·rw [aw g]
  ·rw [am g,ael g])
 have p3:decide ((n:Int) < 0)=false:=ai (by omega);have p4:decide ((c.S.length:Int)<=(n:Int))=false:=ai (by omega);have p5:decide (c.S.length<=n)=false:=ai (by omega);clear he hc hl hA hS hlv hlv' ok Z hv hlen hn h off slt;generalize c.S.length=ln at *;unfold aH Ad.addr
 go_enter func19,ntmps19
 go_upto_region 1 with fail;generalize (((w.alloc (.cells #[.int .i64 o,.int .i64 f,.int .i64 j] 59)).alloc (.cells #[.int .u8 x.1,.int .u8 x.2.1,.int .u8 x.2.2.1,.int .u8 x.2.2.2] 42)).alloc (.cells #[.int .u8 0,.int .u8 0,.int .u8 0,.int .u8 0] 42))=W0 at *;go_upto_region 5 with fail;clear p3 p4 p5;generalize hsn:ps.getD n 0=sn at *;clear hsn;have BD:=Hh ((aa W0.heap.size W0).drew);have OD:Hid (ay (fun k=>k=sn\/k=w.heap.size+2) W0 W0.drew):=Hh (ay.of_below BD);have CSET:=Hh (sW (Fs.Rs.below ST BD) (fun k g=>cd (AL k g) BD.size) DB o f j x hx);have Q0:=Hh d0;have QS:=Hh cs;have s0:=Sc.aA (C:=fun W'=>ay (fun k=>k=sn\/k=w.heap.size+2) W0 W') (a:=⟨r,0,none⟩) (fun W' oo=>oo.cell Q0 (fun e=>by have:=NG.out;simp only at e;omega));have s1:=Sc.aA (C:=fun W'=>ay (fun k=>k=sn\/k=w.heap.size+2) W0 W') (a:=⟨gs,n,none⟩) (fun W' oo=>oo.cell QS (fun e=>by have:=NG.out;simp only at e;omega));have ca:∀ (k:Nat) (u:Value),W0.cell? ⟨w.heap.size,k,none⟩=some u->∀ W',ay (fun k=>k=sn\/k=w.heap.size+2) W0 W'->W'.cell? ⟨w.heap.size,k,none⟩=some u:=fun k u hc W' oo=>oo.cell hc (fun e=>by have:=NG.out;simp only at e;omega);have cr:∀ (k:Nat) (u:Value),W0.cell? ⟨w.heap.size+1,k,none⟩=some u->∀ W',ay (fun k=>k=sn\/k=w.heap.size+2) W0 W'->W'.cell? ⟨w.heap.size+1,k,none⟩=some u:=fun k u hc W' oo=>oo.cell hc (fun e=>by have:=NG.out;simp only at e;omega);have x0:=Sc.aA (C:=fun W'=>ay (fun k=>k=sn\/k=w.heap.size+2) W0 W') (a:=⟨w.heap.size,0,none⟩) (ca 0 _ (ah S0.nP 0));have x1:=Sc.aA (C:=fun W'=>ay (fun k=>k=sn\/k=w.heap.size+2) W0 W') (a:=⟨w.heap.size,1,none⟩) (ca 1 _ (ah S0.nP 1));have x2:=Sc.aA (C:=fun W'=>ay (fun k=>k=sn\/k=w.heap.size+2) W0 W') (a:=⟨w.heap.size,2,none⟩) (ca 2 _ (ah S0.nP 2));have y0:=Sc.aA (C:=fun W'=>ay (fun k=>k=sn\/k=w.heap.size+2) W0 W') (a:=⟨w.heap.size+1,0,none⟩) (cr 0 (.int .u8 x.1) (ah S0.arg 0));have y1:=Sc.aA (C:=fun W'=>ay (fun k=>k=sn\/k=w.heap.size+2) W0 W') (a:=⟨w.heap.size+1,1,none⟩) (cr 1 (.int .u8 x.2.1) (ah S0.arg 1));have y2:=Sc.aA (C:=fun W'=>ay (fun k=>k=sn\/k=w.heap.size+2) W0 W') (a:=⟨w.heap.size+1,2,none⟩) (cr 2 (.int .u8 x.2.2.1) (ah S0.arg 2));have y3:=Sc.aA (C:=fun W'=>ay (fun k=>k=sn\/k=w.heap.size+2) W0 W') (a:=⟨w.heap.size+1,3,none⟩) (cr 3 (.int .u8 x.2.2.2) (ah S0.arg 3));have ne:Nonempty (Sc.In (fun W'=>ay (fun k=>k=sn\/k=w.heap.size+2) W0 W')):=⟨⟨_,OD⟩⟩;unfold jW aH Ad.addr at CSET;clear d0 d1 cs cb ca cr;unfold ptr at s1;refine Sc.start (fun W'=>ay (fun k=>k=sn\/k=w.heap.size+2) W0 W') [(false,0),(false,1),(false,2),(false,3),(false,4),(false,5),(false,6),(false,7),(false,8),(true,9),(false,10),(false,11),(true,12),(false,13)] (by kernel_rfl) (by kernel_rfl) (by kernel_rfl) OD ?_;dsimp only [Sd.aP,List.getElem?_cons_succ,List.getElem?_cons_zero]
 iterate 9 (refine Sd.lit ?_;quiet_step (fail);refine bk ?_)
 clear s0 s1 x0 x1 x2 y0 y1 y2 y3;refine Sd.call (by rfl) (fun K hK=>?_);go_simp;refine CSET.mono ?_;rintro e w5 ⟨rfl,rs5,o5⟩;have R5:=Hh ((o5.block _ (by have:=zb;have:=BD.out.size;omega) (by have:=NG.out;omega)).trans ((BD.out.block _ (by have:=zb;omega)).trans S0.out.res));have E:=Hh (FIN W0.drew w5 BD rs5 o5);have O5:=Hh (OD.trans o5 fun k _ g=>.inl g);refine hK _ _ (Sc.Cl.of O5) ?_;clear hK K rs5 o5 CSET FIN;generalize dV (aN c.S n).1 o f j x=y at *;generalize dE (aN c.S n).1 o f j=z at *
 iterate 2 (refine Sd.lit ?_;quiet_step (fail);refine bk ?_)
 refine Sd.call (by rfl) (fun K hK=>?_);obtain ⟨e0,e1,e2,e3,k0,k1,k2,k3⟩:=xL R5;go_simp;have R6:=Hh (aR R5 y);refine hK _ _ (Sc.Cl.of (O5.trans (wX w5 (w.heap.size+2) y) fun k _ g=>.inr g)) ?_
 show Sd.bA _ _ _ _ _ _ (bC w5 (w.heap.size+2) 0 y)
 clear hK K e0 e1 e2 e3 k0 k1 k2 k3 R5 O5;generalize bC w5 (w.heap.size+2) 0 y=W6 at *
 iterate 1 (refine Sd.lit ?_;quiet_step (fail);refine bk ?_)
 refine Sd.done ?_;go_wp2
 (try simp only [Exit.inBlock,Exit.then])
 exact bp (aS (p:=8) (r:=9) rfl _ _ (w.heap.size+2) y (.int .i64 z) rfl rfl R6) rfl E
theorem Mc (h:Rz B F r c t vs ps vl p vq w) (ok:jB c t) (ht:t<=1000) (n o f j:Int) (x:R4) (hx:bQ x):Calls prog 19 #[.pointer (some ⟨r,0,none⟩),.int .i64 n,Ad.addr o f j,aH x] w (Qd w B F r p vl c t n o f j x):=by
 by_cases hn:no c n
 ·exact Tc h n o f j x hn
 ·cases hv:bU c.V n with
  | true=>exact IY h ok ht n o f j x hx hn hv
  | false=>exact JU h ok n o f j x hn hv
open Fs (sw mM)
theorem Qy (h:Rz B F r c t vs ps vl p vq w) (ok:jB c t) (x:Ac) (hk:x.k=2) (hn:¬ no c x.n) (hlv:bU c.V x.n=true) (hx:bQ x.v):Calls prog 12 #[.pointer (some ⟨r,0,none⟩),eU x] w (oV w B F r p vl c t x):=by
 have B0:=Hh ((aa w.heap.size w).alloc (ac _) (.cells (bH x) 44));have he:bE x c=if sB (aN c.S x.n).1 x.f x.r=true then 0 else 3:=by
  unfold bE;rw [am (by omega),am (by omega),am (by rintro (g | g | g);omega;omega;exact hn g),aw hk,aw hlv]
 have hc0:sB (aN c.S x.n).1 x.f x.r=true->bK x c = { c with S:=jh c.S x.n (sA (aN c.S x.n).1 x.f x.r x.v,(aN c.S x.n).2) }:=fun g=>by
  unfold bK;rw [am (by omega),am (by rw [he,aw g];simp),am (by omega),aw hk]
 have hc1:sB (aN c.S x.n).1 x.f x.r=false->bK x c=c:=fun g=>by
  unfold bK;rw [am (by omega),aw (by rw [he,g];decide)]
 have Z:=Hh (h.below B0);have d0:=Z.cells.1;have d1:=Z.cells.2.1;have hl:=h.sl;have hv:=ok.lv;have hlen:=ok.len;unfold no at hn;obtain ⟨gs,sc,rfl,_,_,_,_,_,hS⟩:=Z.so.form (by omega);have cs:=Pa.TL hS (i:=x.n.toNat) (by omega);rw [cQ] at cs;obtain ⟨gl,cl,rfl,_,_,_,_,_,hA⟩:=Z.lv.form (by omega);rw [hl] at d0;rw [hv] at d1;have cb:=Pa.Ka hA (i:=x.n.toNat) (by omega);rw [cQ] at cb;have hnl:x.n.toNat < ps.length:=by omega
 have hnn:((x.n.toNat:Nat):Int)=x.n:=by omega
 have ST:=Hh (Z.st x.n.toNat hnl);rw [hnn] at ST
 have FIN:Hid (∀ w1 w2 (bq:Bool),Below (w.alloc (.cells (bH x) 44)).heap.size (w.alloc (.cells (bH x) 44)) w1->bq=sB (aN c.S x.n).1 x.f x.r->Rs w2 (ps.getD x.n.toNat 0) (AV (Gz F r p (.slice (some ⟨gl,0,none⟩) c.V.length cl)) (Value.slice (some ⟨gs,0,none⟩) ps.length sc).ownBlock ps x.n.toNat) (sA (aN c.S x.n).1 x.f x.r x.v) (aN c.S x.n).2->ay (fun k=>k=ps.getD x.n.toNat 0) w1 w2->oV w B F r p (.slice (some ⟨gl,0,none⟩) c.V.length cl) c t x (.returned (.int .i64 (if bq=true then 0 else 3))) w2):=Hh (fun w1 w2 bq b1 hq hs o=>by
  subst hq;have z:=((Z.below b1).store hnl (x:=(sA (aN c.S x.n).1 x.f x.r x.v,(aN c.S x.n).2)) o hs).late;rw [hnn] at z;refine ⟨.slice (some ⟨gs,0,none⟩) ps.length sc,ps,.slice (some ⟨gl,0,none⟩) c.V.length cl,vq,rfl,by rw [he],?_,(ay.of_below (G:=lD B F) (aW B0 b1)).trans o fun k _ g=>by rw [g];exact (Z.out.below b1).mine.2.2.1 _ hnl⟩
  cases g:sB (aN c.S x.n).1 x.f x.r with
  | true=>rw [hc0 g];exact z
  | false =>
    have e1:sA (aN c.S x.n).1 x.f x.r x.v=(aN c.S x.n).1:=by
     unfold sA
     split
     ·rfl
     ·rw [g];rfl
    rw [hc1 g];rw [e1] at z;have e2:jh c.S x.n ((aN c.S x.n).1,(aN c.S x.n).2)=c.S:=by
     unfold jh
     show c.S.set x.n.toNat (aN c.S x.n)=c.S
     unfold aN;rw [af,aq (by omega)];exact List.set_getElem_self (by omega)
    rw [e2] at z
    exact z)
 have AL:=Hh (fun k (g:AV (Gz F r p (.slice (some ⟨gl,0,none⟩) c.V.length cl)) (Value.slice (some ⟨gs,0,none⟩) ps.length sc).ownBlock ps x.n.toNat k)=>Z.WV x.n.toNat k g);have off:=Z.Dz hnl;have slt:=Jp (h.st x.n.toNat hnl);have NG:Hid (w.heap.size≠ps.getD x.n.toNat 0/\r≠ps.getD x.n.toNat 0/\gs≠ps.getD x.n.toNat 0):=Hh ⟨by omega,fun e=>off (.inl (.inr (.inl e.symm))),fun e=>off (.inr (.inl (by rw [← e];rfl)))⟩;clear h hl ok hA hS he hc0 hc1 off slt;unfold bH at B0 d0 d1 cb cs ST FIN AL;unfold eU bH;obtain ⟨k,n,f,rr,v,s,m,tt⟩:=x;simp only at hk hn hlv hx hnl hnn B0 FIN ST AL NG d0 d1 cb cs ⊢;subst hk;obtain ⟨n,rfl⟩:∃ j:Nat,n=j:=⟨n.toNat,by omega⟩;rw [ch] at cb cs hnl hnn FIN ST AL NG;have hlv':c.V.getD n false=true:=by unfold bU at hlv;rw [ch] at hlv;exact hlv
 rw [hlv'] at cb;clear hlv hlv';have hlt:n < c.S.length:=by omega
 generalize c.S.length=ln at *
 go_enter func12,ntmps12
 go_upto_region 10 with fail;have X0:=Hh (bc w (.cells #[.int .i64 2,.int .i64 n,.int .i64 f,.int .i64 rr,.int .u8 v.1,.int .u8 v.2.1,.int .u8 v.2.2.1,.int .u8 v.2.2.2,.int .i64 s,.int .i64 m,.int .i64 tt] 44));generalize w.alloc (.cells #[.int .i64 2,.int .i64 n,.int .i64 f,.int .i64 rr,.int .u8 v.1,.int .u8 v.2.1,.int .u8 v.2.2.1,.int .u8 v.2.2.2,.int .i64 s,.int .i64 m,.int .i64 tt] 44)=W at *;generalize w.heap.size=gx at X0 NG ⊢;obtain ⟨x0,x1⟩:=pI X0;have p3:decide ((n:Int) < 0)=false:=ai (by omega);have p4:decide ((ln:Int)<=(n:Int))=false:=ai (by omega);have p5:decide (ln<=n)=false:=ai (by omega);clear hn hv hlen
 go_quiet (fail)
 go_wp2
 go_quiet (fail)
 generalize hW:(W.drewN _).drewN _=W3 at *;generalize hsn:ps.getD n 0=sn at *;clear hsn;have B3:Hid (Below W.heap.size W W3):=Hh (by rw [← hW];exact da (da (aa _ _) _) _);clear hW x0 x1;have y0:W3.cell? ⟨gx,0,none⟩=some (.int .i64 2):=(B3.out.cell (bm X0.out)).trans (ah X0.out 0);go_upto_region 17 with fail;clear y0;have BD:=Hh (B3.trans ((aa W3.heap.size W3).drew.mono B3.size));have OD:Hid (ay (fun k=>k=sn) W W3.drew):=Hh (ay.of_below BD);have CSET:=Hh (sw (Fs.Rs.below ST BD) (fun k g=>cd (AL k g) BD.size) f rr v hx);have Q0:=Hh d0;have QS:=Hh cs;have cell_:∀ (k:Nat) (u:Value),W.cell? ⟨gx,k,none⟩=some u->∀ W',ay (fun k=>k=sn) W W'->W'.cell? ⟨gx,k,none⟩=some u:=fun k u hc W' o=>o.cell hc (fun e=>NG.out.1 e);have s0:=Sc.aA (C:=fun W'=>ay (fun k=>k=sn) W W') (a:=⟨r,0,none⟩) (fun W' o=>o.cell Q0 (fun e=>NG.out.2.1 e));have s1:=Sc.aA (C:=fun W'=>ay (fun k=>k=sn) W W') (a:=⟨gs,n,none⟩) (fun W' o=>o.cell QS (fun e=>NG.out.2.2 e));have x1:=Sc.aA (C:=fun W'=>ay (fun k=>k=sn) W W') (a:=⟨gx,1,none⟩) (cell_ 1 _ (ah X0 1));have x2:=Sc.aA (C:=fun W'=>ay (fun k=>k=sn) W W') (a:=⟨gx,2,none⟩) (cell_ 2 _ (ah X0 2));have x3:=Sc.aA (C:=fun W'=>ay (fun k=>k=sn) W W') (a:=⟨gx,3,none⟩) (cell_ 3 _ (ah X0 3));have x4:=Sc.aA (C:=fun W'=>ay (fun k=>k=sn) W W') (a:=⟨gx,4,none⟩) (cell_ 4 _ (ah X0 4));have x5:=Sc.aA (C:=fun W'=>ay (fun k=>k=sn) W W') (a:=⟨gx,5,none⟩) (cell_ 5 _ (ah X0 5));have x6:=Sc.aA (C:=fun W'=>ay (fun k=>k=sn) W W') (a:=⟨gx,6,none⟩) (cell_ 6 _ (ah X0 6));have x7:=Sc.aA (C:=fun W'=>ay (fun k=>k=sn) W W') (a:=⟨gx,7,none⟩) (cell_ 7 _ (ah X0 7));have ne:Nonempty (Sc.In (fun W'=>ay (fun k=>k=sn) W W')):=⟨⟨_,OD⟩⟩;unfold mM aH at CSET;clear d0 d1 cs cb cell_ hnn;generalize hbq:sB (aN c.S n).1 f rr=bq at *;unfold ptr at s1;refine Sc.start (fun W'=>ay (fun k=>k=sn) W W') [(false,0),(false,1),(false,2),(false,3),(false,4),(false,5),(false,6),(false,7),(false,8),(false,9),(false,10),(false,11),(false,12),(false,13),(true,14),(false,15)] (by kernel_rfl) (by kernel_rfl) (by kernel_rfl) OD ?_;dsimp only [Sd.aP,List.getElem?_cons_succ,List.getElem?_cons_zero]
 iterate 14 (refine Sd.lit ?_;quiet_step (fail);refine bk ?_)
 clear s0 s1 x1 x2 x3 x4 x5 x6 x7;refine Sd.call (by rfl) (fun K hK=>?_);go_simp;refine CSET.mono ?_;rintro e w5 ⟨rfl,rs5,o5⟩;have E:=Hh (FIN W3.drew w5 bq BD rfl rs5 o5);refine hK _ _ (Sc.Cl.of (OD.trans o5 fun k _ g=>g)) ?_;clear hK K rs5 o5 CSET FIN
 iterate 1 (refine Sd.lit ?_;quiet_step (fail);refine bk ?_)
 refine Sd.done ?_
 cases bq with
 | true =>
   go_wp2
   go_ret
   exact E
 | false =>
   go_wp2
   go_ret
   exact E
end Cu
namespace Cu
open Go.Maps
open Pa (S2 K2)
theorem Rz.live {B r t p gl cap i:Nat} {F:Nat->Prop} {c:Cs} {vs vq:Value} {ps:List Nat} {w:World} (h:Rz B F r c t vs ps (.slice (some ⟨gl,0,none⟩) c.V.length cap) p vq w) (hi:i < c.V.length) (b:Bool):Rz B F r { c with V:=c.V.set i b } t vs ps (.slice (some ⟨gl,0,none⟩) (c.V.set i b).length cap) p vq (w.setCell ⟨gl,i,none⟩ (.bool b)):=by
 have o:ay (fun k=>k=gl) w (w.setCell ⟨gl,i,none⟩ (.bool b)):=ay.set (fun k=>k=gl) w (a:=⟨gl,i,none⟩) rfl _;have own:=Rw.Ow.set h.lv i 0 hi (by decide) (.bool b) b rfl;rw [show i * KB.n+0=i from Nat.mul_one i] at own;have hgl:(Value.slice (some ⟨gl,0,none⟩) c.V.length cap).ownBlock=some gl:=rfl;have nr:r≠gl:=fun e=>h.vr.2.1 (by rw [hgl,e]);have np:p≠gl:=fun e=>h.vp.2.1 (by rw [hgl,e]);have ns:vs.ownBlock≠some gl:=fun e=>qY h.so h.lv (by decide) gl e hgl;have nq:vq.ownBlock≠some gl:=fun e=>qY h.sp h.lv (by decide) gl e hgl;rw [cz];exact ⟨(o.block r h.Ri nr).trans h.row,aG h.so (fun k e g=>ns (by rw [e,g])) o,h.sl,fun j hj=>h.yN hj o (fun k g=>.inl (.inr (.inr (.inr (by rw [hgl,g]))))),h.Yy,own,h.pr.only o np,aG h.sp (fun k e g=>nq (by rw [e,g])) o,h.lo,h.nr,h.np,h.nv,fun k g=>cd (h.low k g) o.size⟩
attribute [local irreducible] Sd.bA wpQuiet
variable {w:World} {B r t p:Nat} {F:Nat->Prop} {c:Cs} {vs vl vq:Value} {ps:List Nat}
theorem S7 (h:Rz B F r c t vs ps vl p vq w) (ok:jB c t) (x:Ac) (hk:x.k=4) (hn:¬ no c x.n) (hlv:bU c.V x.n=true):Calls prog 12 #[.pointer (some ⟨r,0,none⟩),eU x] w (oV w B F r p vl c t x):=by
 have B0:=Hh ((aa w.heap.size w).alloc (ac _) (.cells (bH x) 44));have he:bE x c=0:=by
  unfold bE;rw [am (by omega),am (by omega),am (by rintro (g | g | g);omega;omega;exact hn g),am (by omega),aw hk,aw hlv]
 have hc0:bK x c = { c with V:=c.V.set x.n.toNat false,P:=Wt.lJ c.P x.n }:=by
  unfold bK;rw [am (by omega),am (fun g=>g he),am (by omega),am (by omega),aw hk]
 have Z:=Hh (h.below B0);have d0:=Z.cells.1;have d1:=Z.cells.2.1;have hl:=h.sl;have hv:=ok.lv;have hlen:=ok.len;obtain ⟨sa,sc,rfl,_,_⟩:=h.so.slice;unfold no at hn;obtain ⟨gl,cl,rfl,_,gll,_,_,gfz,hA⟩:=Z.lv.form (by omega);have GFZ:=Hh gfz;have NP0:Hid (w.heap.size≠p/\r≠p):=Hh ⟨fun e=>by have:=h.plt;omega,h.rp⟩;have NE0:Hid (w.heap.size≠gl):=Hh (fun e=>by obtain ⟨hb,hlt⟩:=h.Yx gl (.inr (.inl rfl));omega);clear gfz;rw [hl] at d0;rw [hv] at d1;have cb:=Pa.Ka hA (i:=x.n.toNat) (by omega);rw [cQ] at cb;have hin:x.n.toNat < c.V.length:=by omega
 have hnn:((x.n.toNat:Nat):Int)=x.n:=by omega
 have ZL:=Hh (fun w1 (b1:Below (w.alloc (.cells (bH x) 44)).heap.size (w.alloc (.cells (bH x) 44)) w1)=>(Z.below b1).live hin false);have CR:=Hh (fun w1 b1=>Wt.AU (ZL w1 b1).pr x.n);have FZ:=Hh (fun w1 (b1:Below (w.alloc (.cells (bH x) 44)).heap.size (w.alloc (.cells (bH x) 44)) w1)=>(Z.below b1).lv)
 have FIN1:Hid (∀ w1 w2,Below (w.alloc (.cells (bH x) 44)).heap.size (w.alloc (.cells (bH x) 44)) w1->ay (fun k=>k=p) (w1.setCell ⟨gl,x.n.toNat,none⟩ (.bool false)) w2->Wt.Pf w2 p (Wt.lJ c.P x.n) t->oV w B F r p (.slice (some ⟨gl,0,none⟩) c.V.length cl) c t x (.returned (.int .i64 0)) w2):=Hh (fun w1 w2 b1 o hp=>by
  have z:=((ZL w1 b1).pair o hp).late;have ol:ay (lD B F) w1 (w1.setCell ⟨gl,x.n.toNat,none⟩ (.bool false)):=(ay.set (fun k=>k=gl) w1 (a:=⟨gl,x.n.toNat,none⟩) rfl _).mono fun k _ g=>by rw [g];exact (Z.out.below b1).mine.2.2.2 gl rfl
  exact ⟨.slice sa ps.length sc,ps,.slice (some ⟨gl,0,none⟩) (c.V.set x.n.toNat false).length cl,vq,rfl,by rw [he],by rw [hc0];exact z,(ay.of_below (G:=lD B F) (aW B0 b1)).trans (ol.trans o fun k _ g=>by rw [g];exact Z.out.mine.2.1) fun k _ g=>g⟩)
 clear h hl ok hA he hc0;unfold bH at B0 d0 d1 cb ZL CR FZ FIN1 GFZ gll;unfold eU bH;obtain ⟨k,n,f,rr,v,s,m,tt⟩:=x;simp only at hk hn hlv hin hnn B0 ZL CR FZ FIN1 GFZ gll d0 d1 cb ⊢;subst hk;obtain ⟨n,rfl⟩:∃ j:Nat,n=j:=⟨n.toNat,by omega⟩;simp only [ch] at cb hin ZL CR FZ FIN1;clear hnn;have hlv':c.V.getD n false=true:=by unfold bU at hlv;rw [ch] at hlv;exact hlv
 rw [hlv'] at cb;clear hlv hlv';have hlt:n < c.S.length:=by omega
 generalize c.S.length=ln at *
 go_enter func12,ntmps12
 go_upto_region 10 with fail;have X0:=Hh (bc w (.cells #[.int .i64 4,.int .i64 n,.int .i64 f,.int .i64 rr,.int .u8 v.1,.int .u8 v.2.1,.int .u8 v.2.2.1,.int .u8 v.2.2.2,.int .i64 s,.int .i64 m,.int .i64 tt] 44));generalize w.alloc (.cells #[.int .i64 4,.int .i64 n,.int .i64 f,.int .i64 rr,.int .u8 v.1,.int .u8 v.2.1,.int .u8 v.2.2.1,.int .u8 v.2.2.2,.int .i64 s,.int .i64 m,.int .i64 tt] 44)=W at *;have NE:=NE0;have NP:=NP0;clear NE0 NP0;generalize w.heap.size=gx at X0 NE NP ⊢;obtain ⟨x0,x1⟩:=pI X0;have p3:decide ((n:Int) < 0)=false:=ai (by omega);have p4:decide ((ln:Int)<=(n:Int))=false:=ai (by omega);have p5:decide (ln<=n)=false:=ai (by omega);clear hn hv hlen
 go_quiet (fail)
 go_wp2
 go_quiet (fail)
 generalize hW:(W.drewN _).drewN _=W3 at *;have B3:Hid (Below W.heap.size W W3):=Hh (by rw [← hW];exact da (da (aa _ _) _) _);have y0:=(B3.out.cell (bm X0.out)).trans (ah X0.out 0);have y1:=(B3.out.cell (bm X0.out)).trans (ah X0.out 1);have fz:=(B3.frozen (p:=⟨gl,n,none⟩) gll).trans (GFZ n);have yd:=iI B3 d1;have yb:=iI B3 cb;clear hW x0 x1;go_upto_region 23 with fail;have hnI:(n:Int) < (ln:Int):=by omega
 go_region
 have ZP:=Hh (ZL W3 B3);have FI:=Hh (fun w2 o hp=>FIN1 W3 w2 B3 o hp);have RD:=Hh ZP.cells.2.2.1;have PF:=Hh ZP.pr;have xg:(W3.setCell ⟨gl,n,none⟩ (.bool false)).cell? ⟨gx,1,none⟩=some (.int .i64 n)/\(W3.setCell ⟨gl,n,none⟩ (.bool false)).cell? ⟨gx,0,none⟩=some (.int .i64 4):=by
  have hb:=bt W3 ⟨gl,n,none⟩ (.bool false) gx NE;exact ⟨(gO hb).trans y1,(gO hb).trans y0⟩
 clear y0 y1 yd yb fz ZP ZL CR FZ FIN1 X0 d0 d1 cb;generalize W3.setCell ⟨gl,n,none⟩ (.bool false)=V at *;have BV:=Hh ((aa V.heap.size V).drew);have xg1:=iI BV xg.1;have xg0:=iI BV xg.2;have xr:=iI BV RD;have PD:=Hh (PF.below BV);have FJ:=Hh (fun w2 (o:ay (fun k=>k=p) V.drew w2) hp=>FI w2 ((ay.of_below (G:=fun k=>k=p) BV).trans o fun k _ g=>g) hp);clear xg RD PF BV FI;generalize V.drew=V2 at *
 by_cases h2:(n:Int) < 2
 ·have CC:=Hh (fun W' (o:Below V2.heap.size V2 W')=>Wt.AU (PD.below o) (n:Int))
  unfold Wt.dH at CC;go_upto_region 25 with fail;have l1:=bo _ _ xg1;have lr:=bo _ _ xr;have X1:=Hh xg1;have XR:=Hh xr;clear xg1 xg0 xr;have s1:=Sc.aA (C:=fun W'=>ay (fun k=>k=p) V2 W') (a:=⟨gx,1,none⟩) (fun W' o=>o.cell X1 (fun e=>NP.out.1 e));have s2:=Sc.aA (C:=fun W'=>ay (fun k=>k=p) V2 W') (a:=⟨r,2,none⟩) (fun W' o=>o.cell XR (fun e=>NP.out.2 e));have BW:=Hh ((aa V2.heap.size V2).drew);have OW:Hid (ay (fun k=>k=p) V2 V2.drew):=Hh (ay.of_below BW);have ne:Nonempty (Sc.In (fun W'=>ay (fun k=>k=p) V2 W')):=⟨⟨_,OW⟩⟩;refine Sc.start (fun W'=>ay (fun k=>k=p) V2 W') [(false,0),(false,1),(false,2),(false,3),(false,4),(false,5),(true,6)] (by kernel_rfl) (by kernel_rfl) (by kernel_rfl) OW ?_;dsimp only [Sd.aP,List.getElem?_cons_succ,List.getElem?_cons_zero]
  iterate 6 (refine Sd.lit ?_;quiet_step (fail);refine bk ?_)
  clear s1 s2;refine Sd.call (by rfl) (fun K hK=>?_);go_simp;refine (CC V2.drew BW).mono ?_;rintro e w5 ⟨rfl,p5,o5⟩;have O5:=Hh (OW.trans o5 fun k _ g=>g);have E:=Hh (FJ w5 O5 p5);refine hK _ _ (Sc.Cl.of O5) ?_;clear hK K p5 o5 FJ CC;refine Sd.done ?_;go_wp2
  go_ret
  exact E
 ·have E:=Hh (FJ V2 (ay.refl _ _) (by
   have e:Wt.lJ c.P n=c.P:=by unfold Wt.lJ;rw [am (by omega),am (by omega)]
   rw [e];exact PD.out))
  clear FJ PD xr;go_wp2
  go_ret
  exact E
theorem Gv (h:Rz B F r c t vs ps vl p vq w) (ok:jB c t) (x:Ac) (hk:x.k=5) (hn:¬ no c x.n) (hlv:bU c.V x.n=false):Calls prog 12 #[.pointer (some ⟨r,0,none⟩),eU x] w (oV w B F r p vl c t x):=by
 have B0:=Hh ((aa w.heap.size w).alloc (ac _) (.cells (bH x) 44));have he:bE x c=0:=by
  unfold bE;rw [am (by omega),am (by omega),am (by rintro (g | g | g);omega;omega;exact hn g),am (by omega),am (by omega),aw hk,am (by rw [hlv];decide)]
 have hc0:bK x c = { c with V:=c.V.set x.n.toNat true,P:=Wt.lI c.P x.n }:=by
  unfold bK;rw [am (by omega),am (fun g=>g he),am (by omega),am (by omega),am (by omega),aw hk]
 have Z:=Hh (h.below B0);have d0:=Z.cells.1;have d1:=Z.cells.2.1;have hl:=h.sl;have hv:=ok.lv;have hlen:=ok.len;obtain ⟨sa,sc,rfl,_,_⟩:=h.so.slice;unfold no at hn;obtain ⟨gl,cl,rfl,_,gll,_,_,gfz,hA⟩:=Z.lv.form (by omega);have GFZ:=Hh gfz;have NP0:Hid (w.heap.size≠p/\r≠p):=Hh ⟨fun e=>by have:=h.plt;omega,h.rp⟩;have NE0:Hid (w.heap.size≠gl):=Hh (fun e=>by obtain ⟨hb,hlt⟩:=h.Yx gl (.inr (.inl rfl));omega);clear gfz;rw [hl] at d0;rw [hv] at d1;have cb:=Pa.Ka hA (i:=x.n.toNat) (by omega);rw [cQ] at cb;have hin:x.n.toNat < c.V.length:=by omega
 have hnn:((x.n.toNat:Nat):Int)=x.n:=by omega
 have ZL:=Hh (fun w1 (b1:Below (w.alloc (.cells (bH x) 44)).heap.size (w.alloc (.cells (bH x) 44)) w1)=>(Z.below b1).live hin true);have CR:=Hh (fun w1 b1=>Wt.tL (ZL w1 b1).pr x.n);have FZ:=Hh (fun w1 (b1:Below (w.alloc (.cells (bH x) 44)).heap.size (w.alloc (.cells (bH x) 44)) w1)=>(Z.below b1).lv)
 have FIN1:Hid (∀ w1 w2,Below (w.alloc (.cells (bH x) 44)).heap.size (w.alloc (.cells (bH x) 44)) w1->ay (fun k=>k=p) (w1.setCell ⟨gl,x.n.toNat,none⟩ (.bool true)) w2->Wt.Pf w2 p (Wt.lI c.P x.n) t->oV w B F r p (.slice (some ⟨gl,0,none⟩) c.V.length cl) c t x (.returned (.int .i64 0)) w2):=Hh (fun w1 w2 b1 o hp=>by
  have z:=((ZL w1 b1).pair o hp).late;have ol:ay (lD B F) w1 (w1.setCell ⟨gl,x.n.toNat,none⟩ (.bool true)):=(ay.set (fun k=>k=gl) w1 (a:=⟨gl,x.n.toNat,none⟩) rfl _).mono fun k _ g=>by rw [g];exact (Z.out.below b1).mine.2.2.2 gl rfl
  exact ⟨.slice sa ps.length sc,ps,.slice (some ⟨gl,0,none⟩) (c.V.set x.n.toNat true).length cl,vq,rfl,by rw [he],by rw [hc0];exact z,(ay.of_below (G:=lD B F) (aW B0 b1)).trans (ol.trans o fun k _ g=>by rw [g];exact Z.out.mine.2.1) fun k _ g=>g⟩)
 clear h hl ok hA he hc0;unfold bH at B0 d0 d1 cb ZL CR FZ FIN1 GFZ gll;unfold eU bH;obtain ⟨k,n,f,rr,v,s,m,tt⟩:=x;simp only at hk hn hlv hin hnn B0 ZL CR FZ FIN1 GFZ gll d0 d1 cb ⊢;subst hk;obtain ⟨n,rfl⟩:∃ j:Nat,n=j:=⟨n.toNat,by omega⟩;simp only [ch] at cb hin ZL CR FZ FIN1;clear hnn;have hlv':c.V.getD n false=false:=by unfold bU at hlv;rw [ch] at hlv;exact hlv
 rw [hlv'] at cb;clear hlv hlv';have hlt:n < c.S.length:=by omega
 generalize c.S.length=ln at *
 go_enter func12,ntmps12
 go_upto_region 10 with fail;have X0:=Hh (bc w (.cells #[.int .i64 5,.int .i64 n,.int .i64 f,.int .i64 rr,.int .u8 v.1,.int .u8 v.2.1,.int .u8 v.2.2.1,.int .u8 v.2.2.2,.int .i64 s,.int .i64 m,.int .i64 tt] 44));generalize w.alloc (.cells #[.int .i64 5,.int .i64 n,.int .i64 f,.int .i64 rr,.int .u8 v.1,.int .u8 v.2.1,.int .u8 v.2.2.1,.int .u8 v.2.2.2,.int .i64 s,.int .i64 m,.int .i64 tt] 44)=W at *;have NE:=NE0;have NP:=NP0;clear NE0 NP0;generalize w.heap.size=gx at X0 NE NP ⊢;obtain ⟨x0,x1⟩:=pI X0;have p3:decide ((n:Int) < 0)=false:=ai (by omega);have p4:decide ((ln:Int)<=(n:Int))=false:=ai (by omega);have p5:decide (ln<=n)=false:=ai (by omega);clear hn hv hlen
 go_quiet (fail)
 go_wp2
 go_quiet (fail)
 generalize hW:(W.drewN _).drewN _=W3 at *;have B3:Hid (Below W.heap.size W W3):=Hh (by rw [← hW];exact da (da (aa _ _) _) _);have y0:=(B3.out.cell (bm X0.out)).trans (ah X0.out 0);have y1:=(B3.out.cell (bm X0.out)).trans (ah X0.out 1);have fz:=(B3.frozen (p:=⟨gl,n,none⟩) gll).trans (GFZ n);have yd:=iI B3 d1;have yb:=iI B3 cb;clear hW x0 x1;go_upto_region 23 with fail;have hnI:(n:Int) < (ln:Int):=by omega
 go_region
 have ZP:=Hh (ZL W3 B3);have FI:=Hh (fun w2 o hp=>FIN1 W3 w2 B3 o hp);have RD:=Hh ZP.cells.2.2.1;have PF:=Hh ZP.pr;have xg:(W3.setCell ⟨gl,n,none⟩ (.bool true)).cell? ⟨gx,1,none⟩=some (.int .i64 n)/\(W3.setCell ⟨gl,n,none⟩ (.bool true)).cell? ⟨gx,0,none⟩=some (.int .i64 5):=by
  have hb:=bt W3 ⟨gl,n,none⟩ (.bool true) gx NE;exact ⟨(gO hb).trans y1,(gO hb).trans y0⟩
 clear y0 y1 yd yb fz ZP ZL CR FZ FIN1 X0 d0 d1 cb;generalize W3.setCell ⟨gl,n,none⟩ (.bool true)=V at *;have BV:=Hh ((aa V.heap.size V).drew);have xg1:=iI BV xg.1;have xg0:=iI BV xg.2;have xr:=iI BV RD;have PD:=Hh (PF.below BV);have FJ:=Hh (fun w2 (o:ay (fun k=>k=p) V.drew w2) hp=>FI w2 ((ay.of_below (G:=fun k=>k=p) BV).trans o fun k _ g=>g) hp);clear xg RD PF BV FI;generalize V.drew=V2 at *
 by_cases h2:(n:Int) < 2
 ·have CC:=Hh (fun W' (o:Below V2.heap.size V2 W')=>Wt.tL (PD.below o) (n:Int))
  unfold Wt.dH at CC;go_upto_region 27 with fail;have l1:=bo _ _ xg1;have lr:=bo _ _ xr;have X1:=Hh xg1;have XR:=Hh xr;clear xg1 xg0 xr;have s1:=Sc.aA (C:=fun W'=>ay (fun k=>k=p) V2 W') (a:=⟨gx,1,none⟩) (fun W' o=>o.cell X1 (fun e=>NP.out.1 e));have s2:=Sc.aA (C:=fun W'=>ay (fun k=>k=p) V2 W') (a:=⟨r,2,none⟩) (fun W' o=>o.cell XR (fun e=>NP.out.2 e));have BW:=Hh ((aa V2.heap.size V2).drew);have OW:Hid (ay (fun k=>k=p) V2 V2.drew):=Hh (ay.of_below BW);have ne:Nonempty (Sc.In (fun W'=>ay (fun k=>k=p) V2 W')):=⟨⟨_,OW⟩⟩;refine Sc.start (fun W'=>ay (fun k=>k=p) V2 W') [(false,0),(false,1),(false,2),(false,3),(false,4),(false,5),(true,6)] (by kernel_rfl) (by kernel_rfl) (by kernel_rfl) OW ?_;dsimp only [Sd.aP,List.getElem?_cons_succ,List.getElem?_cons_zero]
  iterate 6 (refine Sd.lit ?_;quiet_step (fail);refine bk ?_)
  clear s1 s2;refine Sd.call (by rfl) (fun K hK=>?_);go_simp;refine (CC V2.drew BW).mono ?_;rintro e w5 ⟨rfl,p5,o5⟩;have O5:=Hh (OW.trans o5 fun k _ g=>g);have E:=Hh (FJ w5 O5 p5);refine hK _ _ (Sc.Cl.of O5) ?_;clear hK K p5 o5 FJ CC;refine Sd.done ?_;go_wp2
  go_ret
  exact E
 ·have E:=Hh (FJ V2 (ay.refl _ _) (by
   have e:Wt.lI c.P n=c.P:=by unfold Wt.lI;rw [am (by omega),am (by omega)]
   rw [e];exact PD.out))
  clear FJ PD xr;go_wp2
  go_ret
  exact E
end Cu
namespace Cu
open Go.Maps
theorem yA {w:World} {B r t p:Nat} {F:Nat->Prop} {c:Cs} {vs vl vq:Value} {ps:List Nat} (h:Rz B F r c t vs ps vl p vq w) (hB:B<=w.heap.size) (ok:jB c t) (ht:t<=1000) (x:Ac) (hx:bQ x.v):Calls prog 12 #[.pointer (some ⟨r,0,none⟩),eU x] w (oV w B F r p vl c t x):=by
 by_cases h1:x.k=1
 ·exact Rv h hB ok ht x h1
 ·by_cases h3:x.k=3
  ·by_cases hq:c.Q.length=32
   ·exact WO h x h3 hq
   ·exact Sb h hB x h3 hq ok.few
  ·by_cases hb:x.k < 2\/6 < x.k\/no c x.n
   ·exact aaD h x h1 h3 hb
   ·have hn:¬ no c x.n:=fun g=>hb (.inr (.inr g))
    rcases (by omega:x.k=2\/x.k=4\/x.k=5\/x.k=6) with hk | hk | hk | hk
    ·cases hv:bU c.V x.n with
     | true=>exact Qy h ok x hk hn hv hx
     | false=>exact Fe h ok x hk hn hv
    ·cases hv:bU c.V x.n with
     | true=>exact S7 h ok x hk hn hv
     | false=>exact Ez h ok x hk hn hv
    ·cases hv:bU c.V x.n with
     | true=>exact zW h ok x hk hn hv
     | false=>exact Gv h ok x hk hn hv
    ·exact QC h ok x hk hn
open Fs (E3)
def CD (w0:World) (s r:Nat) (c:Cs) (t:Nat) (c':Cs) (t':Nat) (W:World):Prop:=∃ B F vs ps vl p vq,ClE W s F c t/\Rz B F r c' t' vs ps vl p vq W/\(∀ k,F k->w0.heap.size<=k)/\w0.heap.size<=B/\B<=W.heap.size/\Below w0.heap.size w0 W
section
variable {w0 W w':World} {s r t t':Nat} {c c':Cs}
theorem CD.aI (h:CD w0 s r c t c' t' W):Below w0.heap.size w0 W:=by obtain ⟨_,_,_,_,_,_,_,_,_,_,_,_,h⟩:=h;exact h
theorem CD.below (h:CD w0 s r c t c' t' W) (b:Below W.heap.size W w'):CD w0 s r c t c' t' w':=by
 obtain ⟨B,F,vs,ps,vl,p,vq,⟨vn,L,q,v2,Fs,h1⟩,h2,h3,h4,h5,h6⟩:=h;exact ⟨B,F,vs,ps,vl,p,vq,⟨vn,L,q,v2,Fs,h1.below b⟩,h2.below b,h3,h4,cE h5 b.size,h6.trans (b.mono h6.size)⟩
variable {w1 w2:World} {L:List mF} {v vs vl vq:Value}
theorem acv (h:CH w0 s c t w1) (b:Below w1.heap.size w1 w2) (H:Cz w2 v L w0.heap.size) (e0:gK (dK L)=0):Calls prog 8 #[v] w2 fun e w'=>∃ r,e = .returned (.tuple #[.pointer (some ⟨r,0,none⟩),.int .i64 0])/\CD w0 s r c t (bT (dK L)) 0 w':=by
 obtain ⟨F,⟨vn,L1,q,v2,Fs,h1⟩,h2,h3⟩:=h.below b;have z:=h3.size;refine (za H z).mono fun e w' d=>?_;obtain ⟨d1,-,d3⟩:=d;obtain ⟨r,vs,ps,vl,p,rfl,rz⟩:=d1 e0;exact ⟨r,rfl,w2.heap.size,Fw w2 w0.heap.size,vs,ps,vl,p,_,⟨vn,L1,q,v2,Fs,(h1.below d3).wide (fun k g=>⟨h2 k g,h1.low k g⟩) fun k g=>cd g.2 d3.size⟩,rz,fun k g=>g.1,z,d3.size,h3.trans (d3.mono z)⟩
variable {B p t2 n:Nat}
theorem aaW {z:Int} (H:Cz w2 v L B) (hB:B<=w2.heap.size) (e0:gK (dK L)=z) (hz:z≠0):Calls prog 8 #[v] w2 fun e w'=>e = .returned (.tuple #[.pointer none,.int .i64 z])/\Below w2.heap.size w2 w':=by
 refine (za H hB).mono fun e w' d=>?_;obtain ⟨-,d2,d3⟩:=d;exact ⟨by rw [d2 (by rw [e0];exact hz),e0],d3⟩
variable {F:Nat->Prop} {ps:List Nat} {c2:Cs}
theorem Pv (h2:Rz B F r c' t' vs ps vl p vq W) (h3:∀ k,F k->w0.heap.size<=k) (h4:w0.heap.size<=B) (h5:B<=W.heap.size) (h6:Below w0.heap.size w0 W) (e:ClE w' s (Fx F W w') c2 t2) (o:ay F W w'):CD w0 s r c2 t2 c' t' w' :=
 ⟨B,Fx F W w',vs,ps,vl,p,vq,e,h2.only o,fun k g=>by
  have:=h6.size
  rcases g with g | g
  ·exact h3 k g
  ·omega,h4,cE h5 o.size,h6.trans (o.below h6.size h3)⟩
theorem JL (h1:ClE W s F c t) (h3:∀ k,F k->w0.heap.size<=k) (h4:w0.heap.size<=B) (h5:B<=W.heap.size) (h6:Below w0.heap.size w0 W) (z:Rz B F r c2 t2 vs ps vl p vq w') (o:ay (lD B F) W w'):CD w0 s r c t c2 t2 w':=by
 obtain ⟨vn,L,q,v2,Fs,h1⟩:=h1;exact ⟨B,F,vs,ps,vl,p,vq,⟨vn,L,q,v2,Fs,h1.only (fun k g m=>m.2 g) o⟩,z,h3,h4,cE h5 o.size,h6.trans (o.below h6.size fun k g=>cE h4 g.1)⟩
theorem aeY (h:CD w0 s r c t c' t' W) (hg:fq w0) (ok:jB c t) (sy:sQ c) (ht:t<=1000) (x:Ac) (hx:bQ x.v) (hf:Wf x.f):Calls prog 11 #[ptr s,eU x] W fun e w'=>e = .returned (.int .i64 (bE x c))/\CD w0 s r (bK x c) (t+1) c' t' w':=by
 obtain ⟨B,F,vs,ps,vl,p,vq,⟨vn,L,q,v2,Fs,h1⟩,h2,h3,h4,h5,h6⟩:=h;have gl:=bo _ _ hg;refine (NV h1 ok sy ht (hg.below h6) (fun g=>by have:=h3 _ g;exact absurd gl (by show ¬ 0 < _;omega)) x hx hf).mono fun e w' d=>⟨d.1,Pv h2 h3 h4 h5 h6 d.2.1 d.2.2⟩
theorem adb (h:CD w0 s r c t c' t' W) (ok:jB c' t') (ht:t'<=1000) (x:Ac) (hx:bQ x.v):Calls prog 12 #[.pointer (some ⟨r,0,none⟩),eU x] W fun e w'=>e = .returned (.int .i64 (bE x c'))/\CD w0 s r c t (bK x c') (t'+1) w':=by
 obtain ⟨B,F,vs,ps,vl,p,vq,h1,h2,h3,h4,h5,h6⟩:=h;refine (yA h2 h5 ok ht x hx).mono fun e w' d=>?_;obtain ⟨vs',ps',vl',vq',_,rfl,z,o⟩:=d;exact ⟨rfl,JL h1 h3 h4 h5 h6 z o⟩
theorem CD.place (h:CD w0 s r c t c' t' W):W.cell? ⟨r,3,none⟩=some (.int .i64 c'.pl):=by
 obtain ⟨B,F,vs,ps,vl,p,vq,h1,h2,h3,h4,h5,h6⟩:=h;exact h2.cells.2.2.2.1
theorem CD.stores (h:CD w0 s r c t c' t' W):∃ a cap,W.cell? ⟨r,0,none⟩=some (.slice a c'.S.length cap):=by
 obtain ⟨B,F,vs,ps,vl,p,vq,h1,h2,h3,h4,h5,h6⟩:=h;obtain ⟨a,cap,e,_⟩:=h2.so.slice;exact ⟨a,cap,by rw [← h2.sl,← e];exact h2.cells.1⟩
theorem CD.store (h:CD w0 s r c t c' t' W) (hn:n < c'.S.length):∃ b off cap u v,W.cell? ⟨r,0,none⟩=some (.slice (some ⟨b,off,none⟩) c'.S.length cap)/\W.cell? ⟨b,off+n,none⟩=some (.pointer (some ⟨u,0,none⟩))/\W.cell? ⟨u,0,none⟩=some v/\Ls (fun _=>False) W v (aN c'.S n).1:=by
 obtain ⟨B,F,vs,ps,vl,p,vq,h1,h2,h3,h4,h5,h6⟩:=h;have hn':n < ps.length:=by rw [h2.sl];exact hn
 obtain ⟨a,cap,e,_,_,hA⟩:=h2.so.rd;obtain ⟨b,off,rfl,h9⟩:=hA (by omega);obtain ⟨v,L,hh,ha⟩:=h2.st n hn';refine ⟨b,off,cap,ps.getD n 0,v,by rw [← h2.sl,← e];exact h2.cells.1,?_,ah hh.row 0,L,hh.list.mono fun k _ g=>g.elim,ha⟩;have:=h9 n hn' 0 _ rfl
 simpa [KN,ptr] using this
theorem CD.live (h:CD w0 s r c t c' t' W) (hn:n < c'.V.length):∃ b off cap m,W.cell? ⟨r,1,none⟩=some (.slice (some ⟨b,off,none⟩) m cap)/\n < m/\W.cell? ⟨b,off+n,none⟩=some (.bool (bU c'.V n)):=by
 obtain ⟨B,F,vs,ps,vl,p,vq,h1,h2,h3,h4,h5,h6⟩:=h;obtain ⟨a,cap,e,_,_,hA⟩:=h2.lv.rd;obtain ⟨b,off,rfl,h9⟩:=hA (by omega);refine ⟨b,off,cap,c'.V.length,by rw [← e];exact h2.cells.2.1,hn,?_⟩;have:=h9 n hn 0 _ rfl
 simpa [KB,bU] using this
end
open Fl (kL bD newL)
open Fs (yj key eO gB)
open Pa (S2 iG nQ xS iU nS Oh hr oM dW sI jG)
open Ro (E5 kD)
open Ck (LL bZ tE)
open Re (gU sL sN gY bM)
variable {A:aU} {n k:Int}
theorem aa9 (h:fB A n=false):fP A n=0/\fR A n = []:=by
 unfold fB at h;unfold fP fR
 cases e:Fs.look key n A with
 | none=>exact ⟨rfl,rfl⟩
 | some x=>rw [e] at h;cases h
theorem V7:kD 0 [] = []:=by
 unfold kD Ro.wN;rw [am (by unfold aO;simp)]
 rfl
variable {S:bX}
theorem QV (h:∀ x∈S,fB x.1 (32+n)=false):OR S n=List.replicate S.length []:=by
 unfold OR;rw [List.eq_replicate_iff];refine ⟨cy _,fun y hy=>?_⟩;obtain ⟨x,hx,rfl⟩:=dp.1 hy;obtain ⟨e1,e2⟩:=aa9 (h x hx);rw [e1,e2,V7]
theorem wT (p:Nat->E5->Bool):∀ k n,Ck.Bb p n (List.replicate k [])=none
 | 0,_=>rfl
 | k+1,n=>by rw [hJ];exact wT p k (n+1)
theorem BO:∀ k n,Ck.idx Ck.bad n (List.replicate k []) = -1
 | 0,_=>rfl
 | k+1,n=>by
   rw [hJ,Ck.idx,am (by decide)];exact BO k (n+1)
theorem Vv (k:Nat):tE (List.replicate k [])=0:=by
 unfold tE Ck.bI Ck.FT Ck.JY Ck.j6;rw [BO,wT,wT]
 decide
theorem Si (k i:Nat):bZ (List.replicate k []) i = []:=by
 unfold bZ;rw [af,List.getElem?_replicate]
 split <;> rfl
theorem Xc (h:Pa.Hr) (s:aU×Int):Oh h [] s=s:=by
 have e:oM h [] s.1=s.1:=by
  show dW h [] (fun _ _=>true) s.1=s.1
  rw [jG (V':=fun _ _=>false) (fun n k g=>absurd rfl g),sI fun _ _=>rfl]
 unfold Oh;rw [e]
 rfl
theorem UQ {V:List Bool} {Q:List S2} (hl:1<=S.length/\S.length<=32) (hv:V.length=S.length):iG S (List.replicate S.length []) V=0/\nQ S (List.replicate S.length []) V Q=S:=by
 have e0:iG S (List.replicate S.length []) V=0:=by
  unfold iG;rw [aw ⟨hl.1,hl.2,dv,hv⟩,Vv]
 refine ⟨e0,?_⟩;have er:nQ S (List.replicate S.length []) V Q=xS S (List.replicate S.length []) V (hr S (List.replicate S.length []) V Q):=aw e0;rw [er];refine eE fun i=>?_
 by_cases hi:i < S.length
 ·have a:=nS S (List.replicate S.length []) V (hr S (List.replicate S.length []) V Q) hi
  rw [Si,Xc] at a;have a:aN (xS S (List.replicate S.length []) V (hr S (List.replicate S.length []) V Q)) i=aN S i:=by rw [a];split <;> rfl
  unfold aN at a;rw [ch,af,af,aq hi,aq (by rw [iU];exact hi)] at a;rw [aq hi,aq (by rw [iU];exact hi)];exact c8 some a
 ·rw [eA (show S.length<=i by omega),eA (show (xS S (List.replicate S.length []) V (hr S (List.replicate S.length []) V Q)).length<=i by rw [iU];omega)]
structure Blk (A:aU) (l:List Int):Prop where
 has:fB A 40=true
 p:fP A 40=3
 r:fR A 40=bM l
 seq:gY l
variable {l:List Int}
theorem Blk.sq (h:Blk A l):qF A=true/\jT A=l:=by
 obtain ⟨e1,e2⟩:=Re.UK h.seq;unfold qF jT;rw [h.has,h.p,h.r,e1,e2];exact ⟨rfl,rfl⟩
variable {c:Cs}
theorem xH (ho:0<=Wt.opn c.P) (hb:Blk (own c) l) (hn:∀ x∈c.S,∀ n∈l,fB x.1 (32+n)=false) (hl:1<=c.S.length/\c.S.length<=32) (hv:c.V.length=c.S.length) :
 rE c=0/\rC c=⟨c.S,c.V,Wt.jv c.P,qh c l,[]⟩:=by
 obtain ⟨q1,q2⟩:=hb.sq;have hs:=hb.seq.1;have hi:lH c l < l.length:=by
  unfold lH
  split <;> omega
 have hm:gU l (lH c l)∈l:=by
  unfold gU;rw [af,aq hi];exact dg hi
 have ht:rT c=List.replicate c.S.length []:=by
  unfold rT;rw [q2];exact QV fun x hx=>hn x hx _ hm
 obtain ⟨r1,r2⟩:=UQ (S:=c.S) (V:=c.V) (Q:=c.Q) hl hv;unfold rE rC;rw [am (by omega),aw q1,am (by omega),aw q1,ht,r1,q2,aw rfl,r2];exact ⟨rfl,rfl⟩
theorem Fq (ho:Wt.opn c.P < 0):rE c=0/\rC c=⟨c.S,c.V,Wt.jv c.P,c.pl,[]⟩:=by
 unfold rE rC;rw [aw ho,aw ho];exact ⟨rfl,rfl⟩
def FD:Ac:=⟨1,0,0,0,z4,0,0,0⟩
theorem wJ (c:Cs):bE FD c=rE c/\bK FD c=rC c:=⟨aw rfl,aw rfl⟩
def A0:aU:=[(40,3,bM [0,1])]
def S0:bX:=[(A0,0),(A0,0)]
def L0:List Pl:=[(A0,100),(A0,100)]
theorem ze:gY [0,1]:=by decide
theorem acm:Blk A0 [0,1]:=⟨rfl,rfl,rfl,ze⟩
theorem gd0:Oq (A0,100):=⟨⟨List.pairwise_singleton _ _,fun e he=>by
 rw [cM.1 he]
 exact ⟨⟨by decide,by decide⟩,Re.CQ ze⟩⟩,by decide,by decide⟩
theorem aeA:gK L0=0:=by
 unfold gK;rw [am (by decide),aw,aw]
 ·refine ⟨acm.sq.1,rfl,rfl,rfl⟩
 ·intro p hp
  have:p=(A0,100):=by
   rcases cj.1 hp with h | h
   ·exact h
   ·exact cM.1 h
  rw [this];exact gd0
theorem no0:∀ x∈S0,∀ n∈([0,1]:List Int),fB x.1 (32+n)=false:=fun x hx n hn=>by
 have hx:x=(A0,0):=by
  rcases cj.1 hx with h | h
  ·exact h
  ·exact cM.1 h
 rw [hx]
 rcases cj.1 hn with h | h
 ·rw [h];rfl
 ·rw [cM.1 h];rfl
def ak (k:Int):Wt.A:=⟨4,k,2,k⟩
theorem ZE (h:k < 4):Wt.opn (ak k) = -1/\Wt.jv (ak k)=ak (k+1):=by
 unfold Wt.opn Wt.jv Wt.tk Wt.t1 Wt.t2 Wt.op Wt.hd ak;have:¬ 4<=k:=by omega
 simp [this]
theorem Ky:Wt.opn (ak 4)=1/\Wt.jv (ak 4)=⟨4,0,1,0⟩:=⟨by decide,rfl⟩
def c1:Cs:=⟨S0,[true,true],Wt.new,1,[]⟩
def ck (k:Int):Cs:=⟨S0,[false,true],ak k,1,[]⟩
def c9:Cs:=⟨S0,[false,true],⟨4,0,1,0⟩,0,[]⟩
def acC:Ac:=⟨4,0,0,0,z4,0,0,0⟩
theorem Dl:bE FD (bT L0)=0/\bK FD (bT L0)=c1:=by
 obtain ⟨a,b⟩:=xH (c:=bT L0) (l:=[0,1]) (by decide) acm no0 (by decide) rfl;obtain ⟨x,y⟩:=wJ (bT L0);rw [x,y,a,b];exact ⟨rfl,rfl⟩
theorem Er:bE acC c1=0/\bK acC c1=ck 0:=⟨by decide,rfl⟩
theorem Ye (h:k < 4):bE FD (ck k)=0/\bK FD (ck k)=ck (k+1):=by
 obtain ⟨e1,e2⟩:=ZE h;obtain ⟨a,b⟩:=Fq (c:=ck k) (by show Wt.opn (ak k) < 0;rw [e1];decide);obtain ⟨x,y⟩:=wJ (ck k);rw [x,y,a,b];refine ⟨rfl,?_⟩
 show (⟨S0,[false,true],Wt.jv (ak k),1,[]⟩:Cs)=_
 rw [e2]
 rfl
theorem ab3:bE FD (ck 4)=0/\bK FD (ck 4)=c9:=by
 obtain ⟨a,b⟩:=xH (c:=ck 4) (l:=[0,1]) (by show 0<=Wt.opn (ak 4);rw [Ky.1];decide) (by
  show Blk (aN S0 (Wt.opn (ak 4))).1 _
  rw [Ky.1]
  exact acm) no0 (by show 1<=S0.length/\_;decide) rfl
 obtain ⟨x,y⟩:=wJ (ck 4);rw [x,y,a,b];refine ⟨rfl,?_⟩
 show (⟨S0,[false,true],Wt.jv (ak 4),_,[]⟩:Cs)=_
 rw [Ky.2]
 rfl
theorem aeE:gK [(A0,100)]=1:=new_shortL (by decide)
where
 new_shortL {L:List Pl} (h:L.length < 2\/32 < L.length):gK L=1:=by unfold gK;rw [aw h]
theorem Zc:gK [(A0,100),([],0)]=10:=by
 unfold gK;rw [am (by decide),aw,am]
 ·rintro ⟨_,h,_⟩
  exact absurd h (by decide)
 ·intro p hp
  rcases cj.1 hp with h | h
  ·rw [h];exact gd0
  ·rw [cM.1 h]
   exact ⟨⟨fW,nofun⟩,by decide,by decide⟩
def A1:aU:=[(1,7,newL 7 1),(40,3,bM [0])]
def r7:R4:=(7,0,0,0)
def A2:aU:=[(1,7,[kL 7 1,r7]),(40,3,bM [0])]
def L1:List Pl:=[(A1,2000),(A1,2000)]
def d1:Cs:=⟨[(A1,0),(A2,0)],[true,true],Wt.new,0,[]⟩
open Re (KI gW Cq)
attribute [local irreducible] Sd.bA wpQuiet
variable {w:World}
theorem wL (l:List mF) (h:∀ c∈l,xV w (sl c.files) c.F w.heap.size) (hl:l.length<=maxLen):Cz (w.alloc (.cells (KP.flat l).toArray 71)) (.slice (some ⟨w.heap.size,0,none⟩) l.length l.length) l (w.alloc (.cells (KP.flat l).toArray 71)).heap.size:=by
 have rd:=(Rw.Ow.lit (K:=KP) w w.heap.size 71 l (ac _) hl).rd;have b:=(aa w.heap.size w).alloc (ac _) (.cells (KP.flat l).toArray 71);refine adG rd fun x hx=>?_;have f:=(h x hx).below b;exact AQ f.rd fun y hy=>by
  obtain ⟨i,hi⟩:=dj hy;have hl:=(bs.1 hi).1;have:=f.file i hl;unfold Pa.fQ at this;rw [af,hi] at this;exact this
theorem aac (w:World):xV w (.slice none 0 0) [] w.heap.size:=AQ (Rw.Rd.nil w) nofun
theorem ok0:jB (bT L0) 0:=Uv aeA fun p hp e he=>by
 have:p=(A0,100):=by
  rcases cj.1 hp with h | h
  ·exact h
  ·exact cM.1 h
 subst this;rw [cM.1 he];exact Re.ON ze
theorem sy0:sQ (bT L0):=Oy _ (by decide)
def YA (k:Nat):Cs:=if k=5 then c9 else ck k
theorem JK:jB c1 1/\sQ c1:=by
 have a:=ok0.act FD Fl.jZ;have b:=sy0.act ok0 FD;rw [Dl.2] at a b;exact ⟨a,b⟩
theorem aeM:jB (YA 0) 2/\sQ (YA 0):=by
 have a:=JK.1.act acC Fl.jZ;have b:=JK.2.act JK.1 acC;rw [Er.2] at a b;exact ⟨a,b⟩
theorem at_next {k:Nat} (hk:k < 5):bE FD (YA k)=0/\bK FD (YA k)=YA (k+1):=by
 unfold YA
 by_cases h:k < 4
 ·rw [am (by omega),am (by omega)]
  exact Ye (k:=(k:Int)) (by omega)
 ·obtain rfl:k=4:=by omega
  exact ab3
theorem Ue:∀ k:Nat,k<=5->jB (YA k) (2+k)/\sQ (YA k)
 | 0,_=>aeM
 | k+1,h=>by
   obtain ⟨a,b⟩:=Ue k (by omega);have a':=a.act FD Fl.jZ;have b':=b.act a FD;rw [(at_next (by omega)).2] at a' b';exact ⟨a',b'⟩
theorem IG (h:fq w):Calls prog 9 #[] w fun e w'=>e = .returned (.bool true)/\Below w.heap.size w w':=by
 have HG:=Hh h;clear h;have LI:=Hh (Rw.Ow.lit (K:=KI) w w.heap.size 3 [0,1] (ac _) (by unfold maxLen;simp)).rd;have B1:=Hh ((aa w.heap.size w).alloc (ac _) (.cells #[.int .i64 0,.int .i64 1] 3))
 have C1:Hid (Calls prog 30 #[.slice (some ⟨w.heap.size,0,none⟩) 2 2] (w.alloc (.cells #[.int .i64 0,.int .i64 1] 3)) fun e w'=>∃ a cap,e = .returned (.tuple #[.agg #[.int .i64 3,.slice a 3 cap],.int .i64 0])/\Rd K4 w' (.slice a 3 cap) (bM [0,1])/\Below (w.alloc (.cells #[.int .i64 0,.int .i64 1] 3)).heap.size (w.alloc (.cells #[.int .i64 0,.int .i64 1] 3)) w'):=Hh ((Cq _ _ [0,1] LI).mono fun e w' ⟨u,he,hu,hb⟩=>by
  have e1:Re.fL [0,1]=bM [0,1]:=aw ze;rw [e1] at hu;obtain ⟨a,cap,rfl,_⟩:=hu.slice
  exact ⟨a,cap,by rw [he];unfold Re.fP Re.fN;rw [aw ze,aw ze];rfl,hu,hb⟩)
 go_enter func9,ntmps9
 go_wp2_with fail;refine C1.mono ?_;rintro e w2 ⟨fa,fc,rfl,r2,b2⟩;have X2:=Hh (bc w2 (.cells #[.int .i64 3,.slice fa 3 fc] 79));have N2:=Hh ((aa w2.heap.size w2).alloc (ac _) (.cells #[.int .i64 3,.slice fa 3 fc] 79));have R2:=Hh (r2.below N2);have B5:=Hh ((aW B1 b2).trans (N2.mono (cE B1.size b2.size)));clear C1 LI B1 r2 b2 N2;go_upto_region 2 with fail;generalize (w2.alloc (.cells #[.int .i64 3,.slice fa 3 fc] 79))=w5 at *;generalize w2.heap.size=g1 at *;obtain ⟨y0,y1⟩:=pI X2;have hBN:=Fs.rD;have RE:=Hh (Rw.Ow.lit (K:=E3) w5 w5.heap.size 81 [⟨40,3,fa,fc,bM [0,1]⟩] (ac _) (by unfold maxLen;simp)).rd;have B6:=Hh ((aa w5.heap.size w5).alloc (ac _) (.cells #[.int .i64 40,.int .i64 3,.slice fa 3 fc] 81));have Z6:Hid ((w5.alloc (.cells #[.int .i64 40,.int .i64 3,.slice fa 3 fc] 81)).heap.size=w5.heap.size+1):=Hh (by simp);have B7:=Hh (B6.alloc B6.size (.cells #[.slice (some ⟨w5.heap.size,0,none⟩) 1 1,.int .i64 100] 71));have X7:Hid (((w5.alloc (.cells #[.int .i64 40,.int .i64 3,.slice fa 3 fc] 81)).alloc (.cells #[.slice (some ⟨w5.heap.size,0,none⟩) 1 1,.int .i64 100] 71)).heap[w5.heap.size+1]? = some (.cells #[.slice (some ⟨w5.heap.size,0,none⟩) 1 1,.int .i64 100] 71 (0,0))):=Hh (by rw [← Z6.out];exact bc _ _)
 have FL:Hid (Pa.xV ((w5.alloc (.cells #[.int .i64 40,.int .i64 3,.slice fa 3 fc] 81)).alloc (.cells #[.slice (some ⟨w5.heap.size,0,none⟩) 1 1,.int .i64 100] 71)) (.slice (some ⟨w5.heap.size,0,none⟩) 1 1) [⟨40,3,fa,fc,bM [0,1]⟩] ((w5.alloc (.cells #[.int .i64 40,.int .i64 3,.slice fa 3 fc] 81)).alloc (.cells #[.slice (some ⟨w5.heap.size,0,none⟩) 1 1,.int .i64 100] 71)).heap.size):=Hh (AQ (RE.below ((aa _ _).alloc (ac _) _)) fun c hc=>by
  rw [cM.1 hc]
  exact ⟨R2.below B7,Re.ON ze⟩)
 have BB:=aW B5 B7;clear RE B6 Z6 B7 R2 B5 X2;go_upto_region 3 with fail;clear y0 y1 hBN;generalize ((w5.alloc (.cells #[.int .i64 40,.int .i64 3,.slice fa 3 fc] 81)).alloc (.cells #[.slice (some ⟨w5.heap.size,0,none⟩) 1 1,.int .i64 100] 71))=w7 at *;generalize w5.heap.size=g5 at *;obtain ⟨x0,x1⟩:=pI X7;have G7:=Hh (HG.below BB)
 have PL:=Hh (wL (w:=w7) [⟨(some ⟨g5,0,none⟩,1,1),100,[⟨40,3,fa,fc,bM [0,1]⟩]⟩,⟨(some ⟨g5,0,none⟩,1,1),100,[⟨40,3,fa,fc,bM [0,1]⟩]⟩] (fun c hc=>by
  rcases cj.1 hc with h | h
  ·rw [h];exact FL.out
  ·rw [cM.1 h];exact FL.out) (by unfold maxLen;simp))
 have NW:=Hh (VD PL (w0:=w7) aeA ((aa _ _).alloc (ac _) _));clear PL;go_wp2_with fail;refine NW.mono ?_;rintro e w8 ⟨s,rfl,ch8⟩;have H8:=Hh ch8
 have RND:Hid (∀ c t c' W,CH w7 s c t W->jB c t->sQ c->t<=100->bE FD c=0->bK FD c=c'->Calls prog 11 #[.pointer (some ⟨s,0,none⟩),.agg #[.int .i64 1,.int .i64 0,.int .i64 0,.int .i64 0,.int .u8 0,.int .u8 0,.int .u8 0,.int .u8 0,.int .i64 0,.int .i64 0,.int .i64 0]] W fun e w'=>e = .returned (.int .i64 0)/\CH w7 s c' (t+1) w'):=Hh (fun c t c' W hc ok sy ht e1 e2=>by
  have:=abE hc G7 ok sy (by omega) FD Fl.jZ (WalkArith.wf_i64 (by decide));rw [e1,e2] at this
  exact this)
 have DR:=Hh (RND _ _ _ w8 H8 ok0 sy0 (by decide) Dl.1 Dl.2);have hB:=y7;clear NW ch8 x0 x1;go_wp2_with fail;refine DR.mono ?_;rintro e w9 ⟨rfl,ch9⟩;have H9:=Hh ch9;have PLC:=Hh (F7 H9);unfold ptr at PLC;clear DR H8 ch9;go_wp2_with fail;refine PLC.mono ?_;rintro e w10 ⟨rfl,b10⟩;have H10:=Hh (H9.below b10)
 have DC:Hid (Calls prog 11 #[.pointer (some ⟨s,0,none⟩),.agg #[.int .i64 4,.int .i64 0,.int .i64 0,.int .i64 0,.int .u8 0,.int .u8 0,.int .u8 0,.int .u8 0,.int .i64 0,.int .i64 0,.int .i64 0]] w10 fun e w'=>e = .returned (.int .i64 0)/\CH w7 s (YA 0) 2 w'):=Hh (by
  have:=abE H10 G7 JK.1 JK.2 (by decide) acC Fl.jZ (WalkArith.wf_i64 (by decide));rw [Er.1,Er.2] at this
  exact this)
 clear PLC b10 H9;rw [show ((c1.pl:Nat):Int)=1 from rfl];go_wp2_with fail;refine DC.mono ?_;rintro e w11 ⟨rfl,ch11⟩;have H11:=Hh ch11;clear DC ch11 H10;have FIN:Hid (∀ W,Below w7.heap.size w7 W->Below w.heap.size w W):=Hh (fun W b=>aW BB b);have lx:=bm X7;have HB:=Hh hB;clear BB;go_upto_region 10 with fail
 go_loopw [9] (fun i wr=>∃ k:Nat,k<=5/\i = .int .i64 k/\Hid (CH w7 s (YA k) (2+k) wr)) (fun i _=>5 - (intOf i).toNat)
 case atStart=>exact ⟨0,by decide,rfl,H11⟩
 case round =>
  clear H11;obtain ⟨k,hk,rfl,H⟩:=hrel;have hB:=HB.out
  by_cases hlt:k < 5
  ·have DR:=Hh (RND _ _ _ wr H (Ue k hk).1 (Ue k hk).2 (by omega) (at_next hlt).1 (at_next hlt).2)
   go_wp2_with fail;refine DR.mono ?_;rintro e w12 ⟨rfl,ch12⟩;have H12:=Hh ch12;clear DR ch12 H;go_wp2
   go_roundw
   case rel=>exact ⟨k+1,by omega,by go_num,H12⟩
   case measure=>simp [intOf];omega
  ·obtain rfl:k=5:=by omega
   have H5:=Hh (H);clear H;have x0:=(H5.aI.cell lx).trans (ah X7 0);have x1:=(H5.aI.cell lx).trans (ah X7 1)
   have FLr:Hid (Pa.xV wr (sl (some ⟨g5,0,none⟩,1,1)) [⟨40,3,fa,fc,bM [0,1]⟩] wr.heap.size):=Hh (by
    have f:=FL.below H5.aI;exact AQ f.rd fun y hy=>by
     rw [cM.1 hy]
     exact f.file 0 (by simp))
   have PL1:=Hh (wL (w:=wr) [⟨(some ⟨g5,0,none⟩,1,1),100,[⟨40,3,fa,fc,bM [0,1]⟩]⟩] (fun c hc=>by rw [cM.1 hc];exact FLr.out) (by unfold maxLen;simp));have N1:=Hh (KZ PL1 aeE (by decide));have BA:=Hh ((aa wr.heap.size wr).alloc (ac _) (.cells #[.slice (some ⟨g5,0,none⟩) 1 1,.int .i64 100] 71));clear PL1 FLr RND HB hB hlt;go_wp2_with fail;refine N1.mono ?_;rintro e w12 ⟨rfl,b12⟩;have H12:=Hh ((H5.below BA).below b12);clear N1 BA b12 H5 x0 x1;have x0:=(H12.aI.cell lx).trans (ah X7 0);have x1:=(H12.aI.cell lx).trans (ah X7 1)
   have FLr:Hid (Pa.xV w12 (sl (some ⟨g5,0,none⟩,1,1)) [⟨40,3,fa,fc,bM [0,1]⟩] w12.heap.size):=Hh (by
    have f:=FL.below H12.aI;exact AQ f.rd fun y hy=>by
     rw [cM.1 hy]
     exact f.file 0 (by simp))
   have PL2:=Hh (wL (w:=w12) [⟨(some ⟨g5,0,none⟩,1,1),100,[⟨40,3,fa,fc,bM [0,1]⟩]⟩,⟨zh,0,[]⟩] (fun c hc=>by
    rcases cj.1 hc with h | h
    ·rw [h];exact FLr.out
    ·rw [cM.1 h];exact aac w12) (by unfold maxLen;simp))
   have N2:=Hh (KZ PL2 Zc (by decide));have BA:=Hh ((aa w12.heap.size w12).alloc (ac _) (.cells #[.slice (some ⟨g5,0,none⟩) 1 1,.int .i64 100,.slice none 0 0,.int .i64 0] 71));clear PL2 FLr FL;go_wp2_with fail;refine N2.mono ?_;rintro e w13 ⟨rfl,b13⟩;have H13:=Hh ((H12.below BA).below b13);clear N2 BA b13 H12 x0 x1 X7;have C1:=Hh (F7 H13);go_wp2_with fail;refine C1.mono ?_;rintro e w14 ⟨rfl,b14⟩;have H14:=Hh (H13.below b14);clear C1 b14 H13;have C1:=Hh (aaJ H14 1);go_wp2_with fail;refine C1.mono ?_;rintro e w15 ⟨rfl,b15⟩;have H15:=Hh (H14.below b15);clear C1 b15 H14;have C1:=Hh (aaT H15 (n:=0) (by decide));go_wp2_with fail;refine C1.mono ?_;rintro e w16 ⟨rfl,b16⟩;have H16:=Hh (H15.below b16);clear C1 b16 H15;have C1:=Hh (UU H16);go_wp2_with fail;refine C1.mono ?_;rintro e w17 ⟨rfl,b17⟩;have H17:=Hh (H16.below b17);clear C1 b17 H16;have C1:=Hh (UY H17 (n:=1) (by decide));unfold dR at C1;go_wp2_with fail;refine C1.mono ?_;rintro e w18 ⟨v,rfl,hv,b18⟩;obtain ⟨L,hL,eL⟩:=hv (fun _=>False) nofun;have hl:L.length=1:=by
    have:=c8 List.length eL;rw [cy] at this;exact this
   obtain ⟨a,cap,rfl,_⟩:=hL.rd.slice;rw [hl];have E:=Hh (FIN w18 (H17.aI.trans (b18.mono H17.aI.size)));clear C1 hv hL eL hl b18 H17 FIN;go_wp2
   go_ret
   exact ⟨rfl,E⟩
end Cu
namespace Sn
open Sd (vg fV aP good)
open Sc (In Cl)
def Zf (P:Program) (ops:Array Oper) (Q:Exit->Act->World->Prop):List (Bool×Oper)->(World->Prop)->Act->World->Prop
 | [],_,a,w=>Q .normal a w
 | (false,o) :: r,C,a,w=>wpQuiet P ops C (fun a'=>Zf P ops Q r C a' w) [o] a
 | (true,o) :: r,C,a,w=>if Region.wanted o (yielded ops a.tmps) then o.wp P a w (fun a' w'=>∃ C':World->Prop,(∀ x,C' x->C x)/\C' w'/\Zf P ops Q r C' a' w') Q else Zf P ops Q r C (a.put o.dst undef) w
section
end
end Sn
namespace Cu
open Fs (E3)
variable {w:World} {b off i B:Nat} {l:List Ac}
theorem aet (h:At KA w b off l) (hi:i < l.length) :
 w.cell? ⟨b,off+i * 11,none⟩=some (.int .i64 (Kb l i).k)/\w.cell? ⟨b,off+i * 11+1,none⟩=some (.int .i64 (Kb l i).n)/\w.cell? ⟨b,off+i * 11+2,none⟩=some (.int .i64 (Kb l i).f)/\w.cell? ⟨b,off+i * 11+3,none⟩=some (.int .i64 (Kb l i).r)/\w.cell? ⟨b,off+i * 11+4,none⟩=some (.int .u8 (Kb l i).v.1)/\w.cell? ⟨b,off+i * 11+5,none⟩=some (.int .u8 (Kb l i).v.2.1)/\w.cell? ⟨b,off+i * 11+6,none⟩=some (.int .u8 (Kb l i).v.2.2.1)/\w.cell? ⟨b,off+i * 11+7,none⟩=some (.int .u8 (Kb l i).v.2.2.2)/\w.cell? ⟨b,off+i * 11+8,none⟩=some (.int .i64 (Kb l i).s)/\w.cell? ⟨b,off+i * 11+9,none⟩=some (.int .i64 (Kb l i).m)/\w.cell? ⟨b,off+i * 11+10,none⟩=some (.int .i64 (Kb l i).t) :=
 ⟨h i hi 0 _ rfl,h i hi 1 _ rfl,h i hi 2 _ rfl,h i hi 3 _ rfl,h i hi 4 _ rfl,h i hi 5 _ rfl,h i hi 6 _ rfl,h i hi 7 _ rfl,h i hi 8 _ rfl,h i hi 9 _ rfl,h i hi 10 _ rfl⟩
theorem aaf (hi:i < l.length):Kb l i∈l:=by
 unfold Kb;rw [af,aq hi];exact dg hi
variable {v:Value} {L:List mF}
theorem aaU (H:Cz w v L B):∀ p∈dK L,∀ e∈p.1,dF e.2.2:=fun p hp e he=>by
 obtain ⟨c,hc,rfl⟩:=dp.1 hp;obtain ⟨x,hx,rfl⟩:=dp.1 he;obtain ⟨i,hi⟩:=dj hc;have hl:=(bs.1 hi).1;have f:=H.file i hl;unfold Be at f;rw [af,hi] at f;obtain ⟨j,hj⟩:=dj hx;have hjl:=(bs.1 hj).1;have g:=(f.file j hjl).2;unfold fQ at g;rw [af] at g;have e2:((some c:Option mF).getD plD).F[j]? = some x:=hj;rw [e2] at g;exact g
structure Oc (c:Cs) (t:Nat):Prop where
 ok:jB c t
 sy:sQ c
theorem Oc.act {c:Cs} {t:Nat} (h:Oc c t) {x:Ac} (hx:bQ x.v):Oc (bK x c) (t+1):=⟨h.ok.act x hx,h.sy.act h.ok x⟩
theorem Oc.serve {c:Cs} {t:Nat} (h:Oc c t) (n o f r:Int) {x:R4} (hx:bQ x):Oc (Bf c n o f r x) (t+1):=⟨h.ok.serve n o f r x hx,h.sy.serve n o f r x⟩
theorem acf (H:Cz w v L B) (h:gK (dK L)=0):Oc (bT (dK L)) 0:=by
 have o:=Uv h (aaU H);refine ⟨o,Oy _ ?_⟩;have:=o.len.1;have e:(bT (dK L)).S.length=(dK L).length:=cy _
 omega
section
end
section
variable {w0 W w':World} {s t r t':Nat} {c c':Cs}
theorem Xj (h:CD w0 s r c t c' t' W) (hg:fq w0) (ok:jB c t) (ht:t<=1000) (n o f j:Int) (x:R4) (hx:bQ x):Calls prog 18 #[ptr s,.int .i64 n,Ad.addr o f j,aH x] W fun e w'=>e = .returned (.tuple #[aH (QY c n o f j x),.int .i64 (Bg c n o f j)])/\CD w0 s r (Bf c n o f j x) (t+1) c' t' w':=by
 obtain ⟨B,F,vs,ps,vl,p,vq,⟨vn,L,q,v2,Fs,h1⟩,h2,h3,h4,h5,h6⟩:=h;have gl:=bo _ _ hg;refine (Ml h1 ok ht (hg.below h6) (fun g=>by have:=h3 _ g;exact absurd gl (by show ¬ 0 < _;omega)) n o f j x hx).mono fun e w' d=>⟨d.1,Pv h2 h3 h4 h5 h6 d.2.1 d.2.2⟩
end
open Fl (qU)
attribute [local irreducible] Sd.bA Sn.Zf wpQuiet
theorem Wv {B':Nat} (h:Cz w v L B) (hb:B<=B'):Cz w v L B':=⟨h.rd,fun i hi=>⟨(h.file i hi).rd,(h.file i hi).file,fun j hj h0 k hk=>cd ((h.file i hi).low j hj h0 k hk) hb⟩⟩
theorem Ed {w0 w7 W:World} {s t r t':Nat} {c c':Cs} (h:CD w0 s r c t c' t' w7) (b:Below w7.heap.size w7 W) (ok:jB c' t') (ht:t'<=1000) (n o f j:Int) (x:R4) (hx:bQ x):Calls prog 19 #[.pointer (some ⟨r,0,none⟩),.int .i64 n,Ad.addr o f j,aH x] W fun e w'=>e = .returned (.tuple #[aH (QY c' n o f j x),.int .i64 (Bg c' n o f j)])/\CD w0 s r c t (Bf c' n o f j x) (t'+1) w'/\(∀ k,w7.heap.size<=k->k < W.heap.size->w'.heap[k]? = W.heap[k]?):=by
 obtain ⟨B,F,vs,ps,vl,p,vq,⟨vn,L,q,v2,Fz,h1⟩,h2,h3,h4,h5,h6⟩:=h;have z6:=h6.size;refine (Mc (h2.only (Fs.ay.of_below b)) ok ht n o f j x hx).mono fun e w' d=>?_;obtain ⟨vs',ps',vq',rfl,z,o⟩:=d;refine ⟨rfl,JL (F:=Fs.Fx F w7 W) ⟨vn,L,q,v2,Fz,(h1.below b).fx w7⟩ (fun k g=>?_) h4 (cE h5 b.size) (h6.trans (b.mono z6)) z o,fun k hk hk2=>o.block k hk2 fun m=>m.2 (.inr ⟨hk,hk2⟩)⟩
 rcases g with g | g
 ·exact h3 k g
 ·omega
theorem Kl (hg:fq w) {u:Value} (H:Cz w v L w.heap.size) (R:Rd KA w u l) (ok:∀ x∈l,bQ x.v/\Wf x.f) (nd o f j:Int) (y:R4) (hy:bQ y):Calls prog 4 #[v,u,.int .i64 nd,Ad.addr o f j,aH y] w fun e w'=>e = .returned (.bool true)/\Below w.heap.size w w':=by
 have b0:Below w.heap.size w ((w.alloc (.cells #[.int .i64 o,.int .i64 f,.int .i64 j] 59)).alloc (.cells #[.int .u8 y.1,.int .u8 y.2.1,.int .u8 y.2.2.1,.int .u8 y.2.2.2] 42)):=((aa w.heap.size w).alloc (ac _) _).alloc (by simp) _;have z1:(w.alloc (.cells #[.int .i64 o,.int .i64 f,.int .i64 j] 59)).heap.size=w.heap.size+1:=by simp
 have g0:((w.alloc (.cells #[.int .i64 o,.int .i64 f,.int .i64 j] 59)).alloc (.cells #[.int .u8 y.1,.int .u8 y.2.1,.int .u8 y.2.2.1,.int .u8 y.2.2.2] 42)).heap[w.heap.size]? = some (.cells #[.int .i64 o,.int .i64 f,.int .i64 j] 59 (0,0)):=(((aa _ (w.alloc (.cells #[.int .i64 o,.int .i64 f,.int .i64 j] 59))).alloc (ac _) _).block _ (by rw [z1];exact Nat.lt_succ_self _)).trans (bc w _);have g1:=bc (w.alloc (.cells #[.int .i64 o,.int .i64 f,.int .i64 j] 59)) (.cells #[.int .u8 y.1,.int .u8 y.2.1,.int .u8 y.2.2.1,.int .u8 y.2.2.2] 42);rw [z1] at g1;have B0:=Hh b0;have G0:=Hh g0;have G1:=Hh g1;have HG:=Hh (hg.below b0);have H0:=Wv (H.below b0) b0.size;have R0:=R.below b0;have OX:Hid (∀ k,k < l.length->bQ (Kb l k).v/\Wf (Kb l k).f):=Hh (fun k hk=>ok _ (aaf hk));clear ok hg H R z1 b0 g0 g1
 go_enter func4,ntmps4
 unfold Ad.addr aH;go_upto_region 1 with fail;generalize hW:((w.alloc (.cells #[.int .i64 o,.int .i64 f,.int .i64 j] 59)).alloc (.cells #[.int .u8 y.1,.int .u8 y.2.1,.int .u8 y.2.2.1,.int .u8 y.2.2.2] 42))=W at *;clear hW;have F1:=Hh (Df H0);have F2:=Hh (fun W' (b:Below W.heap.size W W')=>Df (H0.below b));have AW:=Hh (fun W' (b:Below W.heap.size W W')=>IG (HG.below b));have FIN:=Hh (fun W' (b:Below W.heap.size W W')=>aW B0 b);have hz:w.heap.size < W.heap.size/\w.heap.size+1 < W.heap.size:=⟨bm G0,bm G1⟩;have AD:Hid (∀ W',Below W.heap.size W W'->W'.cell? ⟨w.heap.size,0,none⟩=some (.int .i64 o)/\W'.cell? ⟨w.heap.size,1,none⟩=some (.int .i64 f)/\W'.cell? ⟨w.heap.size,2,none⟩=some (.int .i64 j)):=Hh (fun W' b=>⟨(b.cell hz.1).trans (ah G0 0),(b.cell hz.1).trans (ah G0 1),(b.cell hz.1).trans (ah G0 2)⟩);have RE:Hid (∀ W',Below W.heap.size W W'->W'.cell? ⟨w.heap.size+1,0,none⟩=some (.int .u8 y.1)/\W'.cell? ⟨w.heap.size+1,1,none⟩=some (.int .u8 y.2.1)/\W'.cell? ⟨w.heap.size+1,2,none⟩=some (.int .u8 y.2.2.1)/\W'.cell? ⟨w.heap.size+1,3,none⟩=some (.int .u8 y.2.2.2)):=Hh (fun W' b=>⟨(b.cell hz.2).trans (ah G1 0),(b.cell hz.2).trans (ah G1 1),(b.cell hz.2).trans (ah G1 2),(b.cell hz.2).trans (ah G1 3)⟩);clear G0 G1 hz;have HH0:=Hh H0;clear H0;generalize w.heap.size=ga at AD RE ⊢;obtain ⟨a,cap,rfl,_,hm,hA⟩:=R0;have HA:=Hh hA;have OK:=Hh hm;clear hA hm;unfold EW at F1 F2;generalize adM (dK L)=lp at *;generalize hn:l.length=n at *;have HN:=Hh hn;clear hn;unfold maxLen at OK;have hm:=OK.out;clear OK;go_wp2_with fail;refine F1.mono ?_;rintro e w1 ⟨v1,L1,rfl,h1,e1,b1⟩;clear F1
 by_cases e0:gK lp=0
 ·have N1:=VD (w0:=W) h1 (by rw [e1];exact e0) b1
  have K0:=acf h1 (by rw [e1];exact e0);rw [e1] at N1 K0;have NN:=Hh N1;have KK:=Hh K0;clear N1 K0 h1 e1 b1;go_wp2_with fail;refine NN.mono ?_;rintro e w2 ⟨s,rfl,c2⟩;have C2:=Hh c2;have FF:=Hh (F2 w2 c2.aI);clear c2 NN F2;go_wp2_with fail;refine FF.mono ?_;rintro e w3 ⟨v3,L3,rfl,h3,e3,b3⟩;have N3:=acv (w0:=W) C2 b3 h3 (by rw [e3];exact e0);rw [e3] at N3;have NN:=Hh N3;clear N3 FF h3 e3 b3 C2;go_wp2_with fail;refine NN.mono ?_;rintro e w4 ⟨r,rfl,d4⟩;have D5:=Hh d4;clear NN d4 e0;generalize bT lp=c0 at *;go_upto_region 5 with fail;go_wp2
  go_loopw [15] (fun i wr=>∃ (k:Nat) (c:Cs),k<=n/\k<=12/\i = .int .i64 k/\Hid (CD W s r c (k+k) c (k+k) wr)/\Hid (Oc c (k+k))) (fun i _=>12 - (intOf i).toNat)
  case atStart=>exact ⟨0,c0,cg _,cg _,rfl,D5,KK⟩
  case round =>
   clear D5 KK;obtain ⟨k,c,hk,hk30,rfl,D,KC⟩:=hrel
   by_cases hlt:k < n/\k < 12
   ·obtain ⟨hkn,hk3⟩:=hlt
    obtain ⟨b,off,rfl,hA⟩:=HA (by omega);have AA:=Hh (fun W' (b:Below W.heap.size W W')=>aet (hA.below b) (i:=k) (by rw [HN.out];exact hkn));have XO:=Hh (OX k hkn);clear hA;generalize Kb l k=x at *;obtain ⟨a0,a1,a2,a3,a4,a5,a6,a7,a8,a9,a10⟩:=AA wr D.aI;have CD1:=Hh (aeY D HG KC.ok KC.sy (by omega) x XO.out.1 XO.out.2);have CD2:=Hh (fun W' (d:CD W s r (bK x c) (k+k+1) c (k+k) W')=>adb d KC.ok (by omega) x XO.out.1);have K1:=Hh (KC.act XO.out.1);clear D KC;unfold eU bH ptr at CD1;unfold eU bH at CD2;generalize bK x c=c1 at *;generalize bE x c=z at *;go_wp2_with fail;refine CD1.mono ?_;rintro e w5 ⟨rfl,d5⟩;clear a0 a1 a2 a3 a4 a5 a6 a7 a8 a9 a10 CD1;obtain ⟨a0,a1,a2,a3,a4,a5,a6,a7,a8,a9,a10⟩:=AA w5 d5.aI;have E5:=Hh (CD2 w5 d5);clear d5 CD2;go_wp2_with fail;refine E5.mono ?_;rintro e w6 ⟨rfl,d6⟩;clear a0 a1 a2 a3 a4 a5 a6 a7 a8 a9 a10 E5 AA;obtain ⟨a0,a1,a2⟩:=AD w6 d6.aI;obtain ⟨y0,y1,y2,y3⟩:=RE w6 d6.aI;have S1:=Xj d6 HG K1.ok (by omega) nd o f j y hy;have S2:=Hh (fun w7 W8 (d:CD W s r (Bf c1 nd o f j y) (k+k+1+1) c1 (k+k+1) w7) (b:Below w7.heap.size w7 W8)=>Ed d b K1.ok (by omega) nd o f j y hy);have K2:=Hh (K1.serve nd o f j hy);unfold ptr Ad.addr at S1;unfold Ad.addr at S2;generalize Bf c1 nd o f j y=c2 at *;generalize Bg c1 nd o f j=q at *;generalize QY c1 nd o f j y=yy at *;unfold aH at S1 S2;have T1:=Hh S1;clear S1 d6 K1;go_wp2_with fail;refine T1.mono ?_;rintro e w7 ⟨rfl,d7⟩;have bh:=(aa w7.heap.size w7).alloc (ac _) (.cells #[.int .u8 yy.1,.int .u8 yy.2.1,.int .u8 yy.2.2.1,.int .u8 yy.2.2.2] 42);have Y1:=Hh (bc w7 (.cells #[.int .u8 yy.1,.int .u8 yy.2.1,.int .u8 yy.2.2.1,.int .u8 yy.2.2.2] 42));have D8:=Hh (d7.below bh);have T2:=Hh (S2 w7 _ d7 bh);have LT7:=bm Y1;clear T1 bh d7 a0 a1 a2 y0 y1 y2 y3;go_upto_region 11 with fail;generalize (w7.alloc (.cells #[.int .u8 yy.1,.int .u8 yy.2.1,.int .u8 yy.2.2.1,.int .u8 yy.2.2.2] 42))=W8 at *;generalize hgy:w7.heap.size=gy at *;clear hgy;obtain ⟨a0,a1,a2⟩:=AD W8 D8.aI;obtain ⟨y0,y1,y2,y3⟩:=RE W8 D8.aI;clear S2;go_wp2_with fail;refine T2.mono ?_;rintro e w9 ⟨rfl,d9,kp⟩;have Y3:=(kp gy (ac _) LT7).trans Y1;have bh:=(aa w9.heap.size w9).alloc (ac _) (.cells #[.int .u8 yy.1,.int .u8 yy.2.1,.int .u8 yy.2.2.1,.int .u8 yy.2.2.2] 42);have Y2:=Hh (bc w9 (.cells #[.int .u8 yy.1,.int .u8 yy.2.1,.int .u8 yy.2.2.1,.int .u8 yy.2.2.2] 42));have DX:=Hh (d9.below bh);have bh9:=Hh bh;clear T2 bh d9 a0 a1 a2 y0 y1 y2 y3;go_upto_region 12 with fail;generalize (w9.alloc (.cells #[.int .u8 yy.1,.int .u8 yy.2.1,.int .u8 yy.2.2.1,.int .u8 yy.2.2.2] 42))=WX at *;have Y4:=Hh (jf bh9 Y3);clear Y3 kp Y1;generalize w9.heap.size=gz at *;obtain ⟨x0,x1,x2,x3⟩:=AB Y4;obtain ⟨y0,y1,y2,y3⟩:=AB Y2;have es:∀ w,(Op.equalIn 10000 42 (.agg #[.int .u8 yy.1,.int .u8 yy.2.1,.int .u8 yy.2.2.1,.int .u8 yy.2.2.2]) (.agg #[.int .u8 yy.1,.int .u8 yy.2.1,.int .u8 yy.2.2.1,.int .u8 yy.2.2.2])).run prog w = .ok true w:=fun w=>by
     have:=qU yy yy w
     simpa using this
    have DY:Hid (CD W s r c2 (k+1+(k+1)) c2 (k+1+(k+1)) WX):=Hh (by rw [show k+1+(k+1)=k+k+1+1 by omega];exact DX.out);have K3:Hid (Oc c2 (k+1+(k+1))):=Hh (by rw [show k+1+(k+1)=k+k+1+1 by omega];exact K2.out);clear DX K2 Y4 Y2 D8 bh9 XO;go_wp2
    go_roundw
    case rel=>exact ⟨k+1,c2,by omega,by omega,by go_num,DY,K3⟩
    case measure=>simp [intOf];omega
   ·clear HA OX HN
    have EX:¬ ((k:Int) < n)\/((k:Int) < n/\¬ ((k:Int) < 12)):=by omega
    obtain ⟨a0,a1,a2⟩:=AD wr D.aI;obtain ⟨y0,y1,y2,y3⟩:=RE wr D.aI;have SN:=Hh (Kn wr nd o f j y);unfold Ad.addr aH at SN;clear hlt
    rcases EX with h1 | ⟨h1,h2⟩
    all_goals
     go_wp2_with fail;refine SN.mono ?_;rintro e w5 ⟨rfl,b5⟩;have B5:=Hh (D.aI.trans (b5.mono D.aI.size));have B6:=Hh (B5.alloc B5.size (.cells #[.int .u8 (z4:R4).1,.int .u8 (z4:R4).2.1,.int .u8 (z4:R4).2.2.1,.int .u8 (z4:R4).2.2.2] 42));clear b5 SN a0 a1 a2 y0 y1 y2 y3;have hB:=y7;go_upto_region 16 with fail;generalize (w5.alloc (.cells #[.int .u8 (z4:R4).1,.int .u8 (z4:R4).2.1,.int .u8 (z4:R4).2.2.1,.int .u8 (z4:R4).2.2.2] 42))=w6 at *;have AWK:=Hh (AW w6 B6);clear AW;go_wp2_with fail;refine AWK.mono ?_;rintro e w7 ⟨rfl,b7⟩;have B7:=aW B6 b7;have C:=Hh (aa2 w7 FD);unfold eU bH FD at C;clear b7 AWK B6 B5;go_wp2_with fail;refine C.mono ?_;rintro e w8 ⟨rfl,b8⟩;have B8:=aW B7 b8;clear C b8 B7;go_wp2_with fail;refine (Lb w8).mono ?_;rintro e w9 ⟨rfl,b9⟩;have B9:=aW B8 b9;clear b9 B8;go_wp2_with fail;refine (LY w9 0).mono ?_;rintro e wa ⟨rfl,ba⟩;have BA:=aW B9 ba;clear ba B9;go_wp2_with fail;refine (Sy wa 0).mono ?_;rintro e wb ⟨rfl,bb⟩;have BB:=aW BA bb;clear bb BA;go_wp2_with fail;refine (Sk wb 0).mono ?_;rintro e wd ⟨rfl,bd⟩;have BD:=aW BB bd;clear bd BB;go_wp2_with fail;refine (Mo wd).mono ?_;rintro e wf ⟨rfl,bf⟩;have E:=Hh (FIN wf (aW BD bf));clear bf BD;go_wp2
     go_ret
     exact ⟨rfl,E⟩
 ·generalize hz:gK lp=z at *
  have N1:=KZ h1 (z:=z) (by rw [e1];exact hz) e0;have NN:=Hh N1;clear N1;have B1:=Hh b1;clear h1 e1 b1;go_wp2_with fail;refine NN.mono ?_;rintro e w2 ⟨rfl,b2⟩;have B2:=aW B1 b2;have FF:=Hh (F2 w2 B2);clear b2 NN F2 B1;go_wp2_with fail;refine FF.mono ?_;rintro e w3 ⟨v3,L3,rfl,h3,e3,b3⟩;have B3:=aW B2 b3;have NN:=Hh (aaW h3 B3.size (z:=z) (by rw [e3];exact hz) e0);clear FF h3 e3 b3 B2;go_wp2_with fail;refine NN.mono ?_;rintro e w4 ⟨rfl,b4⟩;have B4:=aW B3 b4;have AWK:=Hh (AW w4 B4);clear NN b4 B3;go_wp2_with fail;refine AWK.mono ?_;rintro e w5 ⟨rfl,b5⟩;have E:=Hh (FIN _ (aW B4 b5));go_wp2
  go_ret
  exact ⟨rfl,E⟩
end Cu
