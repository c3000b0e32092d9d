import Derived.Test.YtpepoackmcohlaaGreatDoorPg5
set_option maxRecDepth 100000
set_option maxHeartbeats 4000000
namespace Go.Proofs.YtpepoackmcohlaaGreatDoor
open Tryz Go.RowKit
open Ck (LL WQ bZ kF kK sE sN snd tE tN)
open Fl (K4 aC aH aJ aK aM aO ah aj bC bD bQ file kL z4)
open Fs (Fx St aU ay)
open Ro (E5 K5 bJ bO bS fM fZ gH gQ iY og vK xU z5)
open Rw (At Ow Rd)
open Ua (Row cB dB dJ dO dU iF nJ pP tb tp)
namespace Ck
attribute [local irreducible] Sd.bA wpQuiet
def qT (w:World) (g:Nat) (x:E5):World:=((((w.setCell ⟨g,0,none⟩ (.int .i64 x.1)).setCell ⟨g,1,none⟩ (.int .i64 x.2.1)).setCell ⟨g,2,none⟩ (.int .i64 x.2.2.1)).setCell ⟨g,3,none⟩ (.int .i64 x.2.2.2.1)).setCell ⟨g,4,none⟩ (.int .i64 x.2.2.2.2)
variable {w W:World} {g k B:Nat} {y x:E5}
theorem ny (h:iV w g y) (x:E5):iV (qT w g x) g x :=
 Rw.aB (Rw.aB (Rw.aB (Rw.aB (Rw.aB h _) _) _) _) _
theorem KH {o:Option Obj} (h:w.heap[k]? = o) (hne:k≠g):(qT w g x).heap[k]? = o :=
 (bt _ _ _ _ hne).trans ((bt _ _ _ _ hne).trans ((bt _ _ _ _ hne).trans ((bt _ _ _ _ hne).trans ((bt _ _ _ _ hne).trans h))))
theorem iZ (h:Below B w W) (hb:B<=g):Below B w (qT W g x) :=
 ((((h.setCell (p:=⟨g,0,none⟩) hb _).setCell (p:=⟨g,1,none⟩) hb _).setCell (p:=⟨g,2,none⟩) hb _).setCell (p:=⟨g,3,none⟩) hb _).setCell (p:=⟨g,4,none⟩) hb _
theorem PW (w:World) (g:Nat) (x:E5):(qT w g x).heap.size=w.heap.size:=by simp [qT]
def tO (g:Nat) (lb:Array Value) (p:Nat->E5->Bool) (L:LL) (w:World):Prop :=
 ∀ (W:World) (n:Nat) (x:E5),n < L.length->x∈bZ L n->Below w.heap.size w W->Calls prog g (#[.int .i64 n,.agg #[.int .i64 x.1,.int .i64 x.2.1,.int .i64 x.2.2.1,.int .i64 x.2.2.2.1,.int .i64 x.2.2.2.2]] ++ lb) W fun e w'=>e = .returned (.bool (p n x))/\Below W.heap.size W w'
def eZ (w:World) (n:Int) (x:E5) (e:Ending) (w':World):Prop:=e = .returned (.tuple #[.int .i64 n,fM x])/\Below w.heap.size w w'
theorem Az (w:World) (v:Value) (L:LL) (g:Nat) (lb:Array Value) (p:Nat->E5->Bool) (eg:∀ args w,(callFunc g args).run prog w = .ok (.enter g args) w) (R:kF w v L) (hp:tO g lb p L w) :
 Calls prog 194 #[v,.func (.func g) #[] lb] w (eZ w (j6 p L) (p9 p L)):=by
 obtain ⟨a,cap,rfl,_,hm,hA⟩:=R;have HA:=Hh hA;have HP:=Hh hp;have HH:Hid (∀ k i w',jI p L k i->k < L.length->i < (bZ L k).length->p k (bO (bZ L k) i)=true->Below w.heap.size w w'->eZ w (j6 p L) (p9 p L) (.returned (.tuple #[.int .i64 (k:Int),fM (bO (bZ L k) i)])) w'):=fun k i w' h hk hi hq b=>by
  obtain ⟨e1,e2⟩:=oD h hk hi hq;rw [e1,e2];exact ⟨rfl,b⟩
 have HM:Hid (∀ w',lZ p L L.length->Below w.heap.size w w'->eZ w (j6 p L) (p9 p L) (.returned (.tuple #[.int .i64 (-1),fM z5])) w'):=fun w' h b=>by
  obtain ⟨e1,e2⟩:=qz h;rw [e1,e2];exact ⟨rfl,b⟩
 clear hA hp;generalize j6 p L=rn at *;generalize p9 p L=re at *;unfold maxLen at hm;generalize hn:L.length=n at *;have HN:=Hh hn;clear hn;have R0:Hid (iV (w.alloc (.cells #[.int .i64 0,.int .i64 0,.int .i64 0,.int .i64 0,.int .i64 0] 170)) w.heap.size z5):=bc w _;have B0:=Hh ((aa w.heap.size w).alloc (ac _) (.cells #[.int .i64 0,.int .i64 0,.int .i64 0,.int .i64 0,.int .i64 0] 170))
 go_enter func194,ntmps194
 go_wp2;generalize w.alloc (.cells #[.int .i64 0,.int .i64 0,.int .i64 0,.int .i64 0,.int .i64 0] 170)=w0 at *
 go_loopw [12] (fun i wr=>∃ k:Nat,k<=n/\i = .int .i64 k/\Hid (iV wr w.heap.size z5)/\Hid (Below w.heap.size w wr)/\Hid (lZ p L k)) (fun i _=>n - (intOf i).toNat)
 case atStart=>exact ⟨0,cg _,rfl,R0,B0,oI⟩
 case round =>
  obtain ⟨k,hk,rfl,rr,bw,hs⟩:=hrel
  by_cases hlt:k < n
  ·obtain ⟨b,off,rfl,A⟩:=HA (by omega)
   obtain ⟨u,c,a',cap',rfl,_,hm',hA'⟩:=A k hlt;have c':=iI bw c;have HA':=Hh hA';have HX:=Hh (fun i (h:i < (bZ L k).length)=>gQ h);have HAA:=Hh A;have HK:=Hh (show k < L.length by rw [HN.out];exact hlt);clear hA' c A;unfold maxLen at hm';generalize hl:(bZ L k).length=m at *;have HL:=Hh hl;clear hl;have W0:=Hh (lU hs);clear hs;go_wp2
   go_loopw [19] (fun i wr=>∃ j:Nat,j<=m/\i = .int .i64 j/\Hid (iV wr w.heap.size z5)/\Hid (Below w.heap.size w wr)/\Hid (jI p L k j)) (fun i _=>m - (intOf i).toNat)
   case atStart=>exact ⟨0,cg _,rfl,rr,bw,W0⟩
   case round =>
    clear c' rr bw W0;obtain ⟨j,hj,rfl,rr,bw,hs⟩:=hrel
    by_cases hjt:j < m
    ·obtain ⟨b',off',rfl,A'⟩:=HA' (by omega)
     obtain ⟨c0,c1,c2,c3,c4⟩:=vK (A'.below bw) j (by rw [HL.out];exact hjt);rw [show (bZ L k).getD j z5=bO (bZ L k) j from rfl] at c0 c1 c2 c3 c4;have hc:=fun W hb=>HP W k (bO (bZ L k) j) HK (HX j hjt) hb;have YES:=Hh (fun w' h hb=>HH k j w' hs (by have:=HK.out;rw [HN.out] at this;exact this) (by rw [HL.out];exact hjt) h hb);have NO:=Hh (fun h=>lY hs (by rw [HL.out];exact hjt) h);clear A' hs;generalize bO (bZ L k) j=x at *;have bx:=(aa wr.heap.size wr).alloc (ac _) (.cells #[.int .i64 x.1,.int .i64 x.2.1,.int .i64 x.2.2.1,.int .i64 x.2.2.2.1,.int .i64 x.2.2.2.2] 170);have gr:=rr.lt;have B1:=aW bw bx;have R1:=Hh (rr.below bx gr);have X1:iV (wr.alloc (.cells #[.int .i64 x.1,.int .i64 x.2.1,.int .i64 x.2.2.1,.int .i64 x.2.2.2.1,.int .i64 x.2.2.2.2] 170)) wr.heap.size x:=bc wr _;clear bx;go_upto_region 7 with fail;clear c0 c1 c2 c3 c4;generalize wr.alloc (.cells #[.int .i64 x.1,.int .i64 x.2.1,.int .i64 x.2.2.1,.int .i64 x.2.2.2.1,.int .i64 x.2.2.2.2] 170)=V at *;generalize wr.heap.size=gx at *;have x0:=Fl.rc X1 0;have x1:=Fl.rc X1 1;have x2:=Fl.rc X1 2;have x3:=Fl.rc X1 3;have x4:=Fl.rc X1 4;have C:=Hh (hc V B1);have XX:=Hh X1;clear hc X1;generalize hq:p k x=q at *
     cases q with
     | true =>
       have Y:=Hh (fun w' hb=>YES w' rfl hb);clear hq YES NO;go_wp2_with fail;refine C.mono ?_;rintro e w1 ⟨rfl,b1⟩;have B2:=aW B1 b1;have X2:=XX.below b1 XX.lt;have R2:=Hh (R1.below b1 R1.lt);clear b1 x0 x1 x2 x3 x4 C XX B1 R1;go_upto_region 8 with fail;have C0:iV w1.drew gx x:=X2;have ne:Nonempty (Sc.In (fun W=>iV W gx x)):=⟨⟨_,C0⟩⟩;have x0:=Sc.aA (C:=fun W=>iV W gx x) (a:=⟨gx,0,none⟩) (v:=.int .i64 x.1) (fun W h=>ah h 0);have x1:=Sc.aA (C:=fun W=>iV W gx x) (a:=⟨gx,1,none⟩) (v:=.int .i64 x.2.1) (fun W h=>ah h 1);have x2:=Sc.aA (C:=fun W=>iV W gx x) (a:=⟨gx,2,none⟩) (v:=.int .i64 x.2.2.1) (fun W h=>ah h 2);have x3:=Sc.aA (C:=fun W=>iV W gx x) (a:=⟨gx,3,none⟩) (v:=.int .i64 x.2.2.2.1) (fun W h=>ah h 3);have x4:=Sc.aA (C:=fun W=>iV W gx x) (a:=⟨gx,4,none⟩) (v:=.int .i64 x.2.2.2.2) (fun W h=>ah h 4);refine Sc.start (fun W=>iV W gx x) [(false,0),(false,1),(false,2),(true,3)] (by kernel_rfl) (by kernel_rfl) (by kernel_rfl) C0 ?_;dsimp only [Sd.aP,List.getElem?_cons_succ,List.getElem?_cons_zero]
       iterate 3 (refine Sd.lit ?_;quiet_step (fail);refine bk ?_)
       refine Sd.call (by rfl) (fun K hK=>?_);clear x0 x1 x2 x3 x4 ne;have R2d:Hid (iV w1.drew w.heap.size z5):=Hh R2;have B2d:=Hh (B2.drew);clear R2 B2 X2;generalize w1.drew=W2 at *;have d0:=Fl.rc R2d 0;have d1:=Fl.rc R2d 1;have d2:=Fl.rc R2d 2;have d3:=Fl.rc R2d 3;have d4:=Fl.rc R2d 4;have f0:W2.frozen? ⟨w.heap.size,0,none⟩=false:=aj R2d 0;have f1:W2.frozen? ⟨w.heap.size,1,none⟩=false:=aj R2d 1;have f2:W2.frozen? ⟨w.heap.size,2,none⟩=false:=aj R2d 2;have f3:W2.frozen? ⟨w.heap.size,3,none⟩=false:=aj R2d 3;have f4:W2.frozen? ⟨w.heap.size,4,none⟩=false:=aj R2d 4;have hne:gx≠w.heap.size:=by have:=gr;omega
       have X3:iV (qT W2 w.heap.size x) gx x:=KH C0 hne;have R3:=Hh (ny (y:=z5) R2d x);have B3:=Hh (iZ (g:=w.heap.size) (x:=x) B2d (ac _));go_simp;refine hK _ _ (Sc.Cl.of X3) ?_;clear hK K d0 d1 d2 d3 d4 f0 f1 f2 f3 f4;refine Sd.done ?_
       show Exit.then _ _ _ _ (qT W2 w.heap.size x)
       generalize qT W2 w.heap.size x=wS at *;go_wp2
       (try simp only [Exit.inBlock,Exit.then])
       exact bp (v:=.tuple #[.int .i64 (k:Int),fM x]) (jP (p:=5) (r:=4) rfl _ _ w.heap.size k x rfl rfl R3) rfl (Y _ B3)
     | false =>
       have ST:=Hh (NO rfl);clear hq YES NO;go_wp2_with fail;refine C.mono ?_;rintro e w1 ⟨rfl,b1⟩;have B2:=aW B1 b1;have R2:=Hh (R1.below b1 R1.lt);clear b1 x0 x1 x2 x3 x4 C XX B1 R1;go_wp2
       go_roundw
       case rel=>exact ⟨j+1,by omega,by go_num,R2,B2,ST⟩
       case measure=>simp [intOf];omega
    ·obtain rfl:j=m:=by omega
     have ST:=Hh (nW (by rw [HL.out];exact hs.out) HK.out);clear hs;go_wp2
     go_roundw
     case rel=>exact ⟨k+1,by omega,by go_num,rr,bw,ST⟩
     case measure=>simp [intOf];omega
  ·obtain rfl:k=n:=by omega
   have d0:=Fl.rc rr 0;have d1:=Fl.rc rr 1;have d2:=Fl.rc rr 2;have d3:=Fl.rc rr 3;have d4:=Fl.rc rr 4;have f0:=aj rr 0;have f1:=aj rr 1;have f2:=aj rr 2;have f3:=aj rr 3;have f4:=aj rr 4;have R3:=Hh (ny (y:=z5) rr z5);have B3:=Hh (iZ (g:=w.heap.size) (x:=z5) bw (ac _));have E:=Hh (HM _ hs B3);go_wp2
   (try simp only [Exit.inBlock,Exit.then])
   exact bp (v:=.tuple #[.int .i64 (-1),fM z5]) (jP (p:=5) (r:=4) rfl _ _ w.heap.size (-1) z5 rfl rfl R3) rfl E
theorem Ug (fn:Fn) (first cap:Array Value) (w:World):(Instr.makeFunc fn first cap).run prog w = .ok (.func fn first cap) w:=rfl
theorem Rb (w:World) (B:Nat) (s:Int) (L:LL) (hc:w.cell? ⟨B,0,none⟩=some (.int .i64 s)):tO 230 #[.pointer (some ⟨B,0,none⟩)] (snd s) L w:=fun W n x _ _ hb=>by
 have hlt:=bo _ _ hc;have d:=(hb.cell hlt).trans hc;have hBW:=cd hlt hb.size;clear hc hlt hb
 show Calls prog 230 #[.int .i64 n,.agg #[.int .i64 x.1,.int .i64 x.2.1,.int .i64 x.2.2.1,.int .i64 x.2.2.2.1,.int .i64 x.2.2.2.2],.pointer (some ⟨B,0,none⟩)] W _
 have HB:=Hh (fun o=>(aa W.heap.size W).alloc (ac _) o);obtain ⟨x1,x2,x3,x4,x5⟩:=x;have Y:=fun h1 h2=>EK (s:=s) (n:=n) (x:=(x1,x2,x3,x4,x5)) h1 h2;have N:=fun h=>Uq (s:=s) (n:=n) (x:=(x1,x2,x3,x4,x5)) h;simp only at Y N ⊢
 by_cases h1:x1=1
 ·by_cases h2:x2=s
  ·rw [Y h1 h2]
   clear Y N
   go_enter func230,ntmps230
   go_wp2
   go_ret
   exact ⟨aC (by first | rfl | simpa using h2),HB.out _⟩
  ·rw [N (fun h=>h2 h.2)]
   clear Y N
   go_enter func230,ntmps230
   go_wp2
   go_ret
   exact ⟨aC (by first | rfl | simpa using h2),HB.out _⟩
 ·rw [N (fun h=>h1 h.1)]
  clear Y N
  go_enter func230,ntmps230
  go_wp2
  go_ret
  exact ⟨aC (by first | rfl | simpa using h2),HB.out _⟩
def DK (L:LL):Prop:=∀ n,n < L.length->∀ x∈bZ L n,0<=x.2.1/\x.2.1<=16
theorem PG (w:World) (B:Nat) (F:Nat->Int) (L:LL) (hi:DK L) (hr:fT w B F):tO 214 #[.pointer (some ⟨B,0,none⟩)] (qc F) L w:=fun W n x hn hx hb=>by
 have R:=hr.below hb hr.lt;have hBW:=R.lt;obtain ⟨g1,g2⟩:=hi n hn x hx;clear hr hb hi hn hx
 show Calls prog 214 #[.int .i64 n,.agg #[.int .i64 x.1,.int .i64 x.2.1,.int .i64 x.2.2.1,.int .i64 x.2.2.2.1,.int .i64 x.2.2.2.2],.pointer (some ⟨B,0,none⟩)] W _
 have HB:=Hh (fun o=>(aa W.heap.size W).alloc (ac _) o);obtain ⟨x1,x2,x3,x4,x5⟩:=x;simp only at g1 g2 ⊢;obtain ⟨k,rfl⟩:∃ k:Nat,x2=k:=⟨x2.toNat,by omega⟩;have hk:k < 17:=by omega
 have d:=R.cell k hk;have Y:=fun h=>show qc F n (x1,(k:Int),x3,x4,x5)=true from bj h;have N:=fun h=>show qc F n (x1,(k:Int),x3,x4,x5)=false from ai h;simp only [ch] at Y N;clear R g1 g2;generalize F k=z at *
 by_cases h1:x1=1
 ·by_cases h2:z=n
  ·rw [N (fun h=>h.2 h2)]
   clear Y N
   go_enter func214,ntmps214
   go_wp2
   go_ret
   exact ⟨aC (by first | rfl | simpa using h2),HB.out _⟩
  ·rw [Y ⟨h1,h2⟩]
   clear Y N
   go_enter func214,ntmps214
   go_wp2
   go_ret
   exact ⟨aC (by first | rfl | simpa using h2),HB.out _⟩
 ·rw [N (fun h=>h1 h.1)]
  clear Y N
  go_enter func214,ntmps214
  go_wp2
  go_ret
  exact ⟨aC (by first | rfl | simpa using h2),HB.out _⟩
theorem Tn (w:World) (B:Nat) (F:Nat->Int) (L:LL) (hi:DK L) (hr:fT w B F):tO 215 #[.pointer (some ⟨B,0,none⟩)] (qg F) L w:=fun W n x hn hx hb=>by
 have R:=hr.below hb hr.lt;have hBW:=R.lt;obtain ⟨g1,g2⟩:=hi n hn x hx;clear hr hb hi hn hx
 show Calls prog 215 #[.int .i64 n,.agg #[.int .i64 x.1,.int .i64 x.2.1,.int .i64 x.2.2.1,.int .i64 x.2.2.2.1,.int .i64 x.2.2.2.2],.pointer (some ⟨B,0,none⟩)] W _
 have HB:=Hh (fun o=>(aa W.heap.size W).alloc (ac _) o);obtain ⟨x1,x2,x3,x4,x5⟩:=x;simp only at g1 g2 ⊢;obtain ⟨k,rfl⟩:∃ k:Nat,x2=k:=⟨x2.toNat,by omega⟩;have hk:k < 17:=by omega
 have d:=R.cell k hk;have Y:=fun h=>show qg F n (x1,(k:Int),x3,x4,x5)=true from bj h;have N:=fun h=>show qg F n (x1,(k:Int),x3,x4,x5)=false from ai h;simp only [ch] at Y N;clear R g1 g2;generalize F k=z at *
 by_cases h1:x1=2
 ·by_cases h2:z < 0
  ·rw [Y ⟨h1,h2⟩]
   clear Y N
   go_enter func215,ntmps215
   go_wp2
   go_ret
   exact ⟨aC (by first | rfl | simpa using h2),HB.out _⟩
  ·rw [N (fun h=>h2 h.2)]
   clear Y N
   go_enter func215,ntmps215
   go_wp2
   go_ret
   exact ⟨aC (by first | rfl | simpa using h2),HB.out _⟩
 ·rw [N (fun h=>h1 h.1)]
  clear Y N
  go_enter func215,ntmps215
  go_wp2
  go_ret
  exact ⟨aC (by first | rfl | simpa using h2),HB.out _⟩
theorem JN (w:World) (s:Int):Calls prog 219 #[.int .i64 s] w fun e w'=>e = .returned (.func (.func 230) #[] #[.pointer (some ⟨w.heap.size,0,none⟩)])/\w'=w.alloc (.cells #[.int .i64 s] 3):=by
 have hmf:=Ug
 go_enter func219,ntmps219
 go_wp2
 go_ret
 exact ⟨rfl,rfl⟩
theorem RQ (w:World) (F:Nat->Int):Calls prog 195 #[.agg (ar F)] w fun e w'=>e = .returned (.func (.func 214) #[] #[.pointer (some ⟨w.heap.size,0,none⟩)])/\w'=w.alloc (.cells (ar F) 311):=by
 have hmf:=Ug
 go_enter func195,ntmps195
 go_wp2
 go_ret
 exact ⟨rfl,rfl⟩
theorem aaA (w:World) (F:Nat->Int):Calls prog 196 #[.agg (ar F)] w fun e w'=>e = .returned (.func (.func 215) #[] #[.pointer (some ⟨w.heap.size,0,none⟩)])/\w'=w.alloc (.cells (ar F) 311):=by
 have hmf:=Ug
 go_enter func196,ntmps196
 go_wp2
 go_ret
 exact ⟨rfl,rfl⟩
end Ck
namespace Ro
open Fl (R4)
theorem QB (w:World) (s f r b:Int):Calls prog 122 #[.agg #[.int .i64 4,.int .i64 s,.int .i64 f,.int .i64 r,.int .i64 b]] w fun e w'=>e = .returned (.bool (xU (4,s,f,r,b)))/\Below w.heap.size w w':=by
 have B0:=Hh ((aa w.heap.size w).alloc (ac _) (.cells #[.int .i64 4,.int .i64 s,.int .i64 f,.int .i64 r,.int .i64 b] 170))
 have EQ:fZ (4,s,f,r,b)↔(s=0/\f=0/\r=0/\b=0):=⟨fun h=>by
  rcases h with h | h
  ·exact absurd h.2.1 (show ¬ (4:Int)<=3 by decide)
  ·exact h.2,fun h=>.inr ⟨rfl,h⟩⟩
 have EB:Hid (xU (4,s,f,r,b)=decide (s=0/\f=0/\r=0/\b=0)):=Hh (cU.2 EQ);clear EQ;rw [EB.out];clear EB
 by_cases h0:s=0
 ·by_cases h1:f=0
  ·by_cases h2:r=0
   ·have E:Hid (decide (b=0)=decide (s=0/\f=0/\r=0/\b=0)):=Hh (cU.2 ⟨fun h=>⟨h0,h1,h2,h⟩,fun h=>h.2.2.2⟩)
    go_enter func122,ntmps122
    go_wp2
    go_ret
    exact ⟨aC E,(aa w.heap.size w).alloc (ac _) _⟩
   ·have E:Hid (false=decide (s=0/\f=0/\r=0/\b=0)):=Hh (ai (fun h=>h2 h.2.2.1)).symm
    go_enter func122,ntmps122
    go_wp2
    go_ret
    exact ⟨aC E,(aa w.heap.size w).alloc (ac _) _⟩
  ·have E:Hid (false=decide (s=0/\f=0/\r=0/\b=0)):=Hh (ai (fun h=>h1 h.2.1)).symm
   go_enter func122,ntmps122
   go_wp2
   go_ret
   exact ⟨aC E,(aa w.heap.size w).alloc (ac _) _⟩
 ·have E:Hid (false=decide (s=0/\f=0/\r=0/\b=0)):=Hh (ai (fun h=>h0 h.1)).symm
  go_enter func122,ntmps122
  go_wp2
  go_ret
  exact ⟨aC E,(aa w.heap.size w).alloc (ac _) _⟩
theorem SY (w:World) (k s f r b:Int) (h:k < 1):Calls prog 122 #[.agg #[.int .i64 k,.int .i64 s,.int .i64 f,.int .i64 r,.int .i64 b]] w fun e w'=>e = .returned (.bool (xU (k,s,f,r,b)))/\Below w.heap.size w w':=by
 have B0:=Hh ((aa w.heap.size w).alloc (ac _) (.cells #[.int .i64 k,.int .i64 s,.int .i64 f,.int .i64 r,.int .i64 b] 170));have E:=Hh (ai (show ¬ fZ (k,s,f,r,b) by unfold fZ;simp only;omega)).symm;have hk1:¬ k=4:=by omega
 go_enter func122,ntmps122
 go_wp2
 go_ret
 exact ⟨aC E,(aa w.heap.size w).alloc (ac _) _⟩
theorem K9 (w:World) (k s f r b:Int) (h:3 < k) (h4:k≠4):Calls prog 122 #[.agg #[.int .i64 k,.int .i64 s,.int .i64 f,.int .i64 r,.int .i64 b]] w fun e w'=>e = .returned (.bool (xU (k,s,f,r,b)))/\Below w.heap.size w w':=by
 have B0:=Hh ((aa w.heap.size w).alloc (ac _) (.cells #[.int .i64 k,.int .i64 s,.int .i64 f,.int .i64 r,.int .i64 b] 170));have E:=Hh (ai (show ¬ fZ (k,s,f,r,b) by unfold fZ;simp only;omega)).symm;have hk1:¬ k=4:=by omega
 have hk2:¬ k < 1:=by omega
 go_enter func122,ntmps122
 go_wp2
 go_ret
 exact ⟨aC E,(aa w.heap.size w).alloc (ac _) _⟩
theorem LZ (w:World) (s f r b:Int) (h:b≠0):Calls prog 122 #[.agg #[.int .i64 3,.int .i64 s,.int .i64 f,.int .i64 r,.int .i64 b]] w fun e w'=>e = .returned (.bool (xU (3,s,f,r,b)))/\Below w.heap.size w w':=by
 have B0:=Hh ((aa w.heap.size w).alloc (ac _) (.cells #[.int .i64 3,.int .i64 s,.int .i64 f,.int .i64 r,.int .i64 b] 170));have E:=Hh (ai (show ¬ fZ (3,s,f,r,b) by unfold fZ;simp only;omega)).symm
 go_enter func122,ntmps122
 go_wp2
 go_ret
 exact ⟨aC E,(aa w.heap.size w).alloc (ac _) _⟩
theorem Cg (w:World) (k s f r b:Int) (hk:(k=3/\b=0)\/(¬ k < 1/\¬ 3 < k/\¬ k=3/\¬ k=4)):Calls prog 122 #[.agg #[.int .i64 k,.int .i64 s,.int .i64 f,.int .i64 r,.int .i64 b]] w fun e w'=>e = .returned (.bool (xU (k,s,f,r,b)))/\Below w.heap.size w w':=by
 have B0:=Hh ((aa w.heap.size w).alloc (ac _) (.cells #[.int .i64 k,.int .i64 s,.int .i64 f,.int .i64 r,.int .i64 b] 170))
 have EQ:Hid (fZ (k,s,f,r,b)↔(1<=s/\s<=16/\0<=f/\f<=63/\1<=r/\r<=255/\0<=b/\b<=3)):=Hh (by
  unfold fZ place;simp only
  omega)
 by_cases h0:1<=s
 ·by_cases h1:s<=16
  ·by_cases h2:0<=f
   ·by_cases h3:f<=63
    ·by_cases h4:1<=r
     ·by_cases h5:r<=255
      ·by_cases h6:0<=b
       ·have E:Hid (decide (b<=3)=xU (k,s,f,r,b)):=Hh (cU.2 ⟨fun h=>EQ.out.2 ⟨h0,h1,h2,h3,h4,h5,h6,h⟩,fun h=>(EQ.out.1 h).2.2.2.2.2.2.2⟩)
        clear EQ
        rcases hk with ⟨rfl,rfl⟩ | ⟨k1,k2,k3,k4⟩
        all_goals
         go_enter func122,ntmps122
         go_wp2
         go_ret
         exact ⟨aC E,(aa w.heap.size w).alloc (ac _) _⟩
       ·have E:=Hh (ai (fun h=>h6 (EQ.out.1 h).2.2.2.2.2.2.1)).symm
        clear EQ;have hk':=hk.resolve_left (fun h=>h6 (by omega));clear hk;obtain ⟨k1,k2,k3,k4⟩:=hk'
        all_goals
         go_enter func122,ntmps122
         go_wp2
         go_ret
         exact ⟨aC E,(aa w.heap.size w).alloc (ac _) _⟩
      ·have E:=Hh (ai (fun h=>h5 (EQ.out.1 h).2.2.2.2.2.1)).symm
       clear EQ
       rcases hk with ⟨rfl,rfl⟩ | ⟨k1,k2,k3,k4⟩
       all_goals
        go_enter func122,ntmps122
        go_wp2
        go_ret
        exact ⟨aC E,(aa w.heap.size w).alloc (ac _) _⟩
     ·have E:=Hh (ai (fun h=>h4 (EQ.out.1 h).2.2.2.2.1)).symm
      clear EQ
      rcases hk with ⟨rfl,rfl⟩ | ⟨k1,k2,k3,k4⟩
      all_goals
       go_enter func122,ntmps122
       go_wp2
       go_ret
       exact ⟨aC E,(aa w.heap.size w).alloc (ac _) _⟩
    ·have E:=Hh (ai (fun h=>h3 (EQ.out.1 h).2.2.2.1)).symm
     clear EQ
     rcases hk with ⟨rfl,rfl⟩ | ⟨k1,k2,k3,k4⟩
     all_goals
      go_enter func122,ntmps122
      go_wp2
      go_ret
      exact ⟨aC E,(aa w.heap.size w).alloc (ac _) _⟩
   ·have E:=Hh (ai (fun h=>h2 (EQ.out.1 h).2.2.1)).symm
    clear EQ
    rcases hk with ⟨rfl,rfl⟩ | ⟨k1,k2,k3,k4⟩
    all_goals
     go_enter func122,ntmps122
     go_wp2
     go_ret
     exact ⟨aC E,(aa w.heap.size w).alloc (ac _) _⟩
  ·have E:=Hh (ai (fun h=>h1 (EQ.out.1 h).2.1)).symm
   clear EQ
   rcases hk with ⟨rfl,rfl⟩ | ⟨k1,k2,k3,k4⟩
   all_goals
    go_enter func122,ntmps122
    go_wp2
    go_ret
    exact ⟨aC E,(aa w.heap.size w).alloc (ac _) _⟩
 ·have E:=Hh (ai (fun h=>h0 (EQ.out.1 h).1)).symm
  clear EQ
  rcases hk with ⟨rfl,rfl⟩ | ⟨k1,k2,k3,k4⟩
  all_goals
   go_enter func122,ntmps122
   go_wp2
   go_ret
   exact ⟨aC E,(aa w.heap.size w).alloc (ac _) _⟩
theorem bP (w:World) (x:E5):Calls prog 122 #[fM x] w fun e w'=>e = .returned (.bool (xU x))/\Below w.heap.size w w':=by
 obtain ⟨k,s,f,r,b⟩:=x
 show Calls prog 122 #[.agg #[.int .i64 k,.int .i64 s,.int .i64 f,.int .i64 r,.int .i64 b]] w _
 by_cases h4:k=4
 ·subst h4;exact QB w s f r b
 ·by_cases h1:k < 1
  ·exact SY w k s f r b h1
  ·by_cases h2:3 < k
   ·exact K9 w k s f r b h2 h4
   ·by_cases h3:k=3
    ·by_cases h5:b=0
     ·exact Cg w k s f r b (.inl ⟨h3,h5⟩)
     ·subst h3;exact LZ w s f r b h5
    ·exact Cg w k s f r b (.inr ⟨h1,h2,h3,h4⟩)
attribute [local irreducible] wpQuiet
theorem je (w:World) (v:Value) (l:List E5) (R:Rd K5 w v l):Calls prog 136 #[v] w fun e w'=>e = .returned (.bool (gH l))/\Below w.heap.size w w':=by
 have HNO:Hid (∀ k,k < l.length->¬ nZ l k->false=gH l):=fun k hk h=>(ai (fun g=>h (g k hk))).symm;have HYES:Hid ((∀ i,i < l.length->nZ l i)->true=gH l):=fun h=>(bj h).symm;obtain ⟨a,cap,rfl,_,hm,hA⟩:=R;have HA:=Hh hA;unfold maxLen at hm;clear hA;generalize hn:l.length=n at *;have HN:=Hh hn;clear hn
 go_enter func136,ntmps136
 go_wp2
 go_loopw [8,3] (fun i s wr=>∃ k:Nat,k<=n/\i = .int .i64 k/\s = .int .i64 (l5 l k)/\Hid (Below w.heap.size w wr)/\Hid (∀ i,i < k->nZ l i)) (fun i _ _=>n - (intOf i).toNat)
 case atStart=>exact ⟨0,cg _,rfl,rfl,aa _ _,fun i hi=>by omega⟩
 case round =>
  obtain ⟨k,hk,rfl,rfl,bw,hs⟩:=hrel
  by_cases hlt:k < n
  ·obtain ⟨b,off,rfl,A⟩:=HA (by omega)
   obtain ⟨c0,c1,c2,c3,c4⟩:=vK (A.below bw) k (by have:=HN.out;omega);have HAA:=Hh A;have GA:=Hh (fun w=>bJ w (bO l k));have hno:=HNO.out k hlt;have hok:nZ l k↔fZ (bO l k)/\l5 l k < (bO l k).2.1:=Iff.rfl;have hst:nZ l k->∀ i,i < k+1->nZ l i:=fun g i hi=>by
    by_cases e:i=k
    ·rw [e];exact g
    ·exact hs i (by omega)
   have hpn:=nN l k;rw [show l.getD k z5=bO l k from rfl] at c0 c1 c2 c3 c4;clear A;unfold fM at GA;have P1:=Hh hno;have P2:=Hh hok;have P3:=Hh hst;have P4:=Hh hpn;clear hno hok hst hpn
   by_cases h1:fZ (bO l k)
   ·rw [og h1] at GA
    have H1:=Hh h1;clear h1
    by_cases h2:(bO l k).2.1<=l5 l k
    ·have E:=Hh (P1 (fun g=>by have:=(P2.out.1 g).2;omega))
     clear P1 P2 P3 P4;generalize l5 l k=ps at *;generalize bO l k=x at *;go_wp2_with fail;refine (GA _).mono ?_;rintro e w1 ⟨rfl,b1⟩;have e1:w1.cell? ⟨wr.heap.size,1,none⟩=some (.int .i64 x.2.1):=(b1.cell (by simp)).trans (by go_simp);have B1:=Hh ((bw.alloc bw.size _).trans (b1.mono (cE bw.size (by simp))));clear b1;go_wp2
     go_ret
     exact ⟨aC E,B1⟩
    ·have ST:=Hh (P3 (P2.out.2 ⟨H1,by omega⟩))
     have PN:=Hh P4;clear P1 P2 P3 P4;generalize l5 l k=ps at *;generalize bO l k=x at *;have h3:ps < x.2.1:=by omega
     go_wp2_with fail;refine (GA _).mono ?_;rintro e w1 ⟨rfl,b1⟩;have e1:w1.cell? ⟨wr.heap.size,1,none⟩=some (.int .i64 x.2.1):=(b1.cell (by simp)).trans (by go_simp);have B1:=Hh ((bw.alloc bw.size _).trans (b1.mono (cE bw.size (by simp))));clear b1;go_wp2
     go_roundw
     case rel=>exact ⟨k+1,by omega,by go_num,by rw [PN.out],B1,ST⟩
     case measure=>simp [intOf];omega
   ·have E:=Hh (P1 (fun g=>h1 (P2.out.1 g).1))
    rw [Ht h1] at GA;clear P1 P2 P3 P4 h1;generalize l5 l k=ps at *;generalize bO l k=x at *;go_wp2_with fail;refine (GA _).mono ?_;rintro e w1 ⟨rfl,b1⟩;have B1:=Hh ((bw.alloc bw.size _).trans (b1.mono (cE bw.size (by simp))));clear b1;go_wp2
    go_ret
    exact ⟨aC E,B1⟩
  ·obtain rfl:k=n:=by omega
   have E:=Hh (HYES (fun i hi=>hs i hi));generalize l5 l k=ps at *;go_wp2
   go_ret
   exact ⟨aC E,bw⟩
theorem jq (w:World) (v:Value) (l:List E5) (R:Rd K5 w v l):Calls prog 92 #[v] w fun e w'=>e = .returned (.bool (gH l))/\Below w.heap.size w w':=by
 have HNO:Hid (∀ k,k < l.length->¬ nZ l k->false=gH l):=fun k hk h=>(ai (fun g=>h (g k hk))).symm;have HYES:Hid ((∀ i,i < l.length->nZ l i)->true=gH l):=fun h=>(bj h).symm;have HLEN:Hid ((∀ i,i < l.length->nZ l i)->l.length<=16):=fun h=>jM h;obtain ⟨a,cap,rfl,_,hm,hA⟩:=R;have HA:=Hh hA;unfold maxLen at hm;clear hA;generalize hn:l.length=n at *;have HN:=Hh hn;clear hn
 go_enter func92,ntmps92
 go_wp2
 go_loopw [3] (fun i wr=>∃ k:Nat,k<=n/\i = .int .i64 k/\Hid (Below w.heap.size w wr)/\Hid (∀ i,i < k->nZ l i)) (fun i _=>n - (intOf i).toNat)
 case atStart=>exact ⟨0,cg _,rfl,aa _ _,fun i hi=>by omega⟩
 case round =>
  obtain ⟨k,hk,rfl,bw,hs⟩:=hrel
  by_cases hlt:k < n
  ·obtain ⟨b,off,rfl,A⟩:=HA.out (by omega)
   obtain ⟨c0,c1,c2,c3,c4⟩:=vK (A.below bw.out) k (by have:=HN.out;omega);have HAA:=Hh A;have GA:=Hh (fun w=>bP w (bO l k));have hok:=Je hs.out;have P1:=Hh (HNO.out k hlt);have P2:=Hh hok;have P3:Hid (nZ l k->∀ i,i < k+1->nZ l i):=fun g i hi=>by
    by_cases e:i=k
    ·rw [e];exact g
    ·exact hs.out i (by omega)
   rw [show l.getD k z5=bO l k from rfl] at c0 c1 c2 c3 c4
   replace c0:=Qb.aL c0
   replace c1:=Qb.aL c1
   replace c2:=Qb.aL c2
   replace c3:=Qb.aL c3
   replace c4:=Qb.aL c4
   clear A hok HNO HYES HLEN;unfold fM at GA
   by_cases h1:fZ (bO l k)
   ·rw [og h1] at GA
    have H1:=Hh h1;clear h1
    by_cases h2:(bO l k).1=4
    ·have E:=Hh (P1.out (fun g=>(P2.out.1 g).2.1 h2))
     clear P1 P2 P3 H1;generalize bO l k=x at *;obtain ⟨x1,x2,x3,x4,x5⟩:=x;simp only at *;subst h2;go_wp2;refine Qb.fG (by kernel_rfl) (by kernel_rfl) ?_
     repeat (first | (refine Qk.skip (by rfl) (by rfl) ?_) | (quiet_step ((go_at_call 122;with_reducible exact Qb.of_below (GA.out _)))))
     refine bk ?_
     intro _ hw'
     obtain ⟨pp,rfl⟩:=hw';go_wp2
     go_ret
     exact ⟨aC E.out,bw.out.trans (pp.below.mono bw.out.size)⟩
    ·by_cases hk0:k=0
     ·have ST:=Hh (P3.out (P2.out.2 ⟨H1.out,h2,fun g=>by omega⟩))
      clear P1 P2 P3 H1;generalize bO l k=x at *;have h2':decide (x.1=4)=false:=ai h2;have k0:decide (0 < k)=false:=ai (by omega);clear hk0;go_wp2;refine Qb.fG (by kernel_rfl) (by kernel_rfl) ?_
      repeat (first | (refine Qk.skip (by rfl) (by rfl) ?_) | (quiet_step ((go_at_call 122;with_reducible exact Qb.of_below (GA.out _)))))
      refine bk ?_
      intro _ hw'
      obtain ⟨pp,rfl⟩:=hw';have B1:=Hh (bw.out.trans (pp.below.mono bw.out.size));go_wp2
      go_roundw
      case rel=>exact ⟨k+1,by omega,by go_num,B1,ST⟩
      case measure=>simp [intOf];omega
     ·obtain ⟨j,hj⟩:∃ j,k=j+1:=⟨k - 1,by omega⟩
      have hjn:j < n:=by omega
      obtain ⟨_,d1,_,_,_⟩:=vK (HAA.out.below bw.out) j (by have:=HN.out;omega);rw [show l.getD j z5=bO l j from rfl] at d1
      replace d1:=Qb.aL d1
      have k0:decide (0 < k)=true:=bj (by omega);have W0:IntKind.i64.wrap ((k:Int) - 1)=(j:Int):=by rw [cG _ (by omega)];omega
      have h2':decide ((bO l k).1=4)=false:=ai h2;have HJ:=Hh hj;rw [show l5 l k=(bO l j).2.1 by rw [hj,nN]] at P2;clear hj hk0
      by_cases h3:(bO l k).2.1<=(bO l j).2.1
      ·have E:=Hh (P1.out (fun g=>(P2.out.1 g).2.2 ⟨by have:=HJ.out;omega,h3⟩))
       have h3':decide ((bO l k).2.1<=(bO l j).2.1)=true:=bj h3;clear P1 P2 P3 H1;generalize bO l k=x at *;generalize bO l j=y at *;go_wp2;refine Qb.fG (by kernel_rfl) (by kernel_rfl) ?_
       repeat (first | (refine Qk.skip (by rfl) (by rfl) ?_) | (quiet_step ((go_at_call 122;with_reducible exact Qb.of_below (GA.out _)))))
       refine bk ?_
       intro _ hw'
       obtain ⟨pp,rfl⟩:=hw';go_wp2
       go_ret
       exact ⟨aC E.out,bw.out.trans (pp.below.mono bw.out.size)⟩
      ·have ST:=Hh (P3.out (P2.out.2 ⟨H1.out,h2,fun g=>h3 g.2⟩))
       have h3':decide ((bO l k).2.1<=(bO l j).2.1)=false:=ai h3;clear P1 P2 P3 H1;generalize bO l k=x at *;generalize bO l j=y at *;go_wp2;refine Qb.fG (by kernel_rfl) (by kernel_rfl) ?_
       repeat (first | (refine Qk.skip (by rfl) (by rfl) ?_) | (quiet_step ((go_at_call 122;with_reducible exact Qb.of_below (GA.out _)))))
       refine bk ?_
       intro _ hw'
       obtain ⟨pp,rfl⟩:=hw';have B1:=Hh (bw.out.trans (pp.below.mono bw.out.size));go_wp2
       go_roundw
       case rel=>exact ⟨k+1,by omega,by go_num,B1,ST⟩
       case measure=>simp [intOf];omega
   ·have E:=Hh (P1.out (fun g=>h1 (P2.out.1 g).1))
    rw [Ht h1] at GA;clear P1 P2 P3 h1;generalize bO l k=x at *;go_wp2;refine Qb.fG (by kernel_rfl) (by kernel_rfl) ?_
    repeat (first | (refine Qk.skip (by rfl) (by rfl) ?_) | (quiet_step ((go_at_call 122;with_reducible exact Qb.of_below (GA.out _)))))
    refine bk ?_
    intro _ hw'
    obtain ⟨pp,rfl⟩:=hw';go_wp2
    go_ret
    exact ⟨aC E.out,bw.out.trans (pp.below.mono bw.out.size)⟩
  ·obtain rfl:k=n:=by omega
   have E:=Hh (HYES.out (fun i hi=>hs.out i hi));have h64:(k:Int)<=64:=by have:=HLEN.out (fun i hi=>hs.out i hi);omega
   have h64':decide ((k:Int)<=64)=true:=bj h64;go_wp2
   go_ret
   exact ⟨aC (by rw [← E.out]),bw.out⟩
end Ro
namespace Ro
open Fl (R4)
theorem tZ (w:World) (x:E5):Calls prog 218 #[fM x] w fun e w'=>e = .returned (.tuple #[aH (Bv x),.int .i64 (VR x)])/\Below w.heap.size w w':=by
 obtain ⟨k,s,f,r,b⟩:=x;have B0:=Hh (((aa w.heap.size w).alloc (ac _) (.cells #[.int .i64 k,.int .i64 s,.int .i64 f,.int .i64 r,.int .i64 b] 170)).alloc (by simp) (.cells #[.int .u8 0,.int .u8 0,.int .u8 0,.int .u8 0] 42));have GA:=Hh (bJ ((w.alloc (.cells #[.int .i64 k,.int .i64 s,.int .i64 f,.int .i64 r,.int .i64 b] 170)).alloc (.cells #[.int .u8 0,.int .u8 0,.int .u8 0,.int .u8 0] 42)) (k,s,f,r,b));unfold fM at GA
 by_cases hg:fZ (k,s,f,r,b)
 ·rw [og hg] at GA
  have EP:Hid (Bv (k,s,f,r,b)=(64 * b+k,s,f,r)):=Hh (aw hg);have EN:Hid (VR (k,s,f,r,b)=0):=Hh (aw hg);obtain ⟨⟨g1,g2⟩,⟨g3,g4⟩,⟨g5,g6⟩,⟨g7,g8⟩,g9,g10⟩:=bS hg;clear hg;simp only at g1 g2 g3 g4 g5 g6 g7 g8 g9 g10 GA;unfold fM
  go_enter func218,ntmps218
  go_wp2_with fail;refine GA.mono ?_;rintro e w1 ⟨rfl,b1⟩;have B1:=aW B0 b1;have c0:w1.cell? ⟨w.heap.size,0,none⟩=some (.int .i64 k):=(b1.cell (by simp;omega)).trans (by go_simp);have c1:w1.cell? ⟨w.heap.size,1,none⟩=some (.int .i64 s):=(b1.cell (by simp;omega)).trans (by go_simp);have c2:w1.cell? ⟨w.heap.size,2,none⟩=some (.int .i64 f):=(b1.cell (by simp;omega)).trans (by go_simp);have c3:w1.cell? ⟨w.heap.size,3,none⟩=some (.int .i64 r):=(b1.cell (by simp;omega)).trans (by go_simp);have c4:w1.cell? ⟨w.heap.size,4,none⟩=some (.int .i64 b):=(b1.cell (by simp;omega)).trans (by go_simp);have k0:w1.cell? ⟨w.heap.size+1,0,none⟩=some (.int .u8 0):=(b1.cell (by simp)).trans (by go_simp);have k1:w1.cell? ⟨w.heap.size+1,1,none⟩=some (.int .u8 0):=(b1.cell (by simp)).trans (by go_simp);have k2:w1.cell? ⟨w.heap.size+1,2,none⟩=some (.int .u8 0):=(b1.cell (by simp)).trans (by go_simp);have k3:w1.cell? ⟨w.heap.size+1,3,none⟩=some (.int .u8 0):=(b1.cell (by simp)).trans (by go_simp);have m0:w1.frozen? ⟨w.heap.size+1,0,none⟩=false:=(b1.frozen (by simp)).trans (by go_simp);have m1:w1.frozen? ⟨w.heap.size+1,1,none⟩=false:=(b1.frozen (by simp)).trans (by go_simp);have m2:w1.frozen? ⟨w.heap.size+1,2,none⟩=false:=(b1.frozen (by simp)).trans (by go_simp);have m3:w1.frozen? ⟨w.heap.size+1,3,none⟩=false:=(b1.frozen (by simp)).trans (by go_simp);have hz:w.heap.size+2<=w1.heap.size:=by have:=b1.size;simp at this;omega
  clear b1 GA B0;go_wp2
  (try simp only [Exit.inBlock,Exit.then])
  refine bp (v:=.tuple #[aH (64 * b+k,s,f,r),.int .i64 0]) ?_ rfl ⟨by rw [EP.out,EN.out],?_⟩
  ·rw [results_cell_tmp rfl];go_simp;rfl
  ·exact (((B1.setCell (by simp) _).setCell (by simp) _).setCell (by simp) _).setCell (by simp) _
 ·rw [Ht hg] at GA
  have EP:Hid (Bv (k,s,f,r,b)=z4):=Hh (am hg);have EN:Hid (VR (k,s,f,r,b)=1):=Hh (am hg);clear hg;simp only at GA;unfold fM
  go_enter func218,ntmps218
  go_wp2_with fail;refine GA.mono ?_;rintro e w1 ⟨rfl,b1⟩;have B1:=aW B0 b1;have k0:w1.cell? ⟨w.heap.size+1,0,none⟩=some (.int .u8 0):=(b1.cell (by simp)).trans (by go_simp);have k1:w1.cell? ⟨w.heap.size+1,1,none⟩=some (.int .u8 0):=(b1.cell (by simp)).trans (by go_simp);have k2:w1.cell? ⟨w.heap.size+1,2,none⟩=some (.int .u8 0):=(b1.cell (by simp)).trans (by go_simp);have k3:w1.cell? ⟨w.heap.size+1,3,none⟩=some (.int .u8 0):=(b1.cell (by simp)).trans (by go_simp);have m0:w1.frozen? ⟨w.heap.size+1,0,none⟩=false:=(b1.frozen (by simp)).trans (by go_simp);have m1:w1.frozen? ⟨w.heap.size+1,1,none⟩=false:=(b1.frozen (by simp)).trans (by go_simp);have m2:w1.frozen? ⟨w.heap.size+1,2,none⟩=false:=(b1.frozen (by simp)).trans (by go_simp);have m3:w1.frozen? ⟨w.heap.size+1,3,none⟩=false:=(b1.frozen (by simp)).trans (by go_simp);have hz:w.heap.size+2<=w1.heap.size:=by have:=b1.size;simp at this;omega
  clear b1 GA B0;go_wp2
  (try simp only [Exit.inBlock,Exit.then])
  refine bp (v:=.tuple #[aH z4,.int .i64 1]) ?_ rfl ⟨by rw [EP.out,EN.out],?_⟩
  ·rw [results_cell_tmp rfl];go_simp;rfl
  ·exact (((B1.setCell (by simp) _).setCell (by simp) _).setCell (by simp) _).setCell (by simp) _
theorem kZ (w:World) (v:R4) (hv:bQ v):Calls prog 135 #[aH v] w fun e w'=>e = .returned (.tuple #[fM (qM v),.int .i64 (qK v)])/\Below w.heap.size w w':=by
 obtain ⟨a,s,f,r⟩:=v;obtain ⟨⟨a0,a1⟩,⟨s0,s1⟩,⟨f0,f1⟩,r0,r1⟩:=hv;simp only at a0 a1 s0 s1 f0 f1 r0 r1;have q1:a.tdiv 64=a / 64:=df a0;have q2:a.tmod 64=a % 64:=dk a0;have B0:=Hh ((((aa w.heap.size w).alloc (ac _) (.cells #[.int .u8 a,.int .u8 s,.int .u8 f,.int .u8 r] 42)).alloc (by simp) (.cells #[.int .i64 0,.int .i64 0,.int .i64 0,.int .i64 0,.int .i64 0] 170)).alloc (by simp;omega) (.cells #[.int .i64 (a % 64),.int .i64 s,.int .i64 f,.int .i64 r,.int .i64 (a / 64)] 170));have GA:=Hh (bJ (((w.alloc (.cells #[.int .u8 a,.int .u8 s,.int .u8 f,.int .u8 r] 42)).alloc (.cells #[.int .i64 0,.int .i64 0,.int .i64 0,.int .i64 0,.int .i64 0] 170)).alloc (.cells #[.int .i64 (a % 64),.int .i64 s,.int .i64 f,.int .i64 r,.int .i64 (a / 64)] 170)) (eF (a,s,f,r)));have g0:0<=a / 64:=by omega
 have g1:a / 64<=3:=by omega
 have g2:0<=a % 64:=by omega
 have g3:a % 64<=63:=by omega
 unfold fM at GA
 by_cases hg:fZ (eF (a,s,f,r))
 ·rw [og hg] at GA
  have EP:Hid (qM (a,s,f,r)=(a % 64,s,f,r,a / 64)):=Hh (aw hg);have EN:Hid (qK (a,s,f,r)=0):=Hh (aw hg);clear hg;simp only [eF] at GA;generalize a / 64=y1 at *;generalize a % 64=y2 at *;unfold aH
  go_enter func135,ntmps135
  go_wp2_with fail;refine GA.mono ?_;rintro e w1 ⟨rfl,b1⟩;have B1:=aW B0 b1;have c0:w1.cell? ⟨w.heap.size+2,0,none⟩=some (.int .i64 y2):=(b1.cell (by simp)).trans (by go_simp);have c1:w1.cell? ⟨w.heap.size+2,1,none⟩=some (.int .i64 s):=(b1.cell (by simp)).trans (by go_simp);have c2:w1.cell? ⟨w.heap.size+2,2,none⟩=some (.int .i64 f):=(b1.cell (by simp)).trans (by go_simp);have c3:w1.cell? ⟨w.heap.size+2,3,none⟩=some (.int .i64 r):=(b1.cell (by simp)).trans (by go_simp);have c4:w1.cell? ⟨w.heap.size+2,4,none⟩=some (.int .i64 y1):=(b1.cell (by simp)).trans (by go_simp);have k0:w1.cell? ⟨w.heap.size+1,0,none⟩=some (.int .i64 0):=(b1.cell (by simp)).trans (by go_simp);have k1:w1.cell? ⟨w.heap.size+1,1,none⟩=some (.int .i64 0):=(b1.cell (by simp)).trans (by go_simp);have k2:w1.cell? ⟨w.heap.size+1,2,none⟩=some (.int .i64 0):=(b1.cell (by simp)).trans (by go_simp);have k3:w1.cell? ⟨w.heap.size+1,3,none⟩=some (.int .i64 0):=(b1.cell (by simp)).trans (by go_simp);have k4:w1.cell? ⟨w.heap.size+1,4,none⟩=some (.int .i64 0):=(b1.cell (by simp)).trans (by go_simp);have m0:w1.frozen? ⟨w.heap.size+1,0,none⟩=false:=(b1.frozen (by simp)).trans (by go_simp);have m1:w1.frozen? ⟨w.heap.size+1,1,none⟩=false:=(b1.frozen (by simp)).trans (by go_simp);have m2:w1.frozen? ⟨w.heap.size+1,2,none⟩=false:=(b1.frozen (by simp)).trans (by go_simp);have m3:w1.frozen? ⟨w.heap.size+1,3,none⟩=false:=(b1.frozen (by simp)).trans (by go_simp);have m4:w1.frozen? ⟨w.heap.size+1,4,none⟩=false:=(b1.frozen (by simp)).trans (by go_simp);clear b1 GA B0;go_wp2
  (try simp only [Exit.inBlock,Exit.then])
  refine bp (v:=.tuple #[.agg #[.int .i64 y2,.int .i64 s,.int .i64 f,.int .i64 r,.int .i64 y1],.int .i64 0]) ?_ rfl ⟨by rw [EP.out,EN.out];rfl,?_⟩
  ·rw [results_cell_tmp rfl];go_simp;try rfl
  ·exact ((((B1.setCell (by simp) _).setCell (by simp) _).setCell (by simp) _).setCell (by simp) _).setCell (by simp) _
 ·rw [Ht hg] at GA
  have EP:Hid (qM (a,s,f,r)=z5):=Hh (am hg);have EN:Hid (qK (a,s,f,r)=2):=Hh (am hg);clear hg;simp only [eF] at GA;generalize a / 64=y1 at *;generalize a % 64=y2 at *;unfold aH
  go_enter func135,ntmps135
  go_wp2_with fail;refine GA.mono ?_;rintro e w1 ⟨rfl,b1⟩;have B1:=aW B0 b1;have k0:w1.cell? ⟨w.heap.size+1,0,none⟩=some (.int .i64 0):=(b1.cell (by simp)).trans (by go_simp);have k1:w1.cell? ⟨w.heap.size+1,1,none⟩=some (.int .i64 0):=(b1.cell (by simp)).trans (by go_simp);have k2:w1.cell? ⟨w.heap.size+1,2,none⟩=some (.int .i64 0):=(b1.cell (by simp)).trans (by go_simp);have k3:w1.cell? ⟨w.heap.size+1,3,none⟩=some (.int .i64 0):=(b1.cell (by simp)).trans (by go_simp);have k4:w1.cell? ⟨w.heap.size+1,4,none⟩=some (.int .i64 0):=(b1.cell (by simp)).trans (by go_simp);have m0:w1.frozen? ⟨w.heap.size+1,0,none⟩=false:=(b1.frozen (by simp)).trans (by go_simp);have m1:w1.frozen? ⟨w.heap.size+1,1,none⟩=false:=(b1.frozen (by simp)).trans (by go_simp);have m2:w1.frozen? ⟨w.heap.size+1,2,none⟩=false:=(b1.frozen (by simp)).trans (by go_simp);have m3:w1.frozen? ⟨w.heap.size+1,3,none⟩=false:=(b1.frozen (by simp)).trans (by go_simp);have m4:w1.frozen? ⟨w.heap.size+1,4,none⟩=false:=(b1.frozen (by simp)).trans (by go_simp);clear b1 GA B0;go_wp2
  (try simp only [Exit.inBlock,Exit.then])
  refine bp (v:=.tuple #[.agg #[.int .i64 0,.int .i64 0,.int .i64 0,.int .i64 0,.int .i64 0],.int .i64 2]) ?_ rfl ⟨by rw [EP.out,EN.out];rfl,?_⟩
  ·rw [results_cell_tmp rfl];go_simp;try rfl
  ·exact ((((B1.setCell (by simp) _).setCell (by simp) _).setCell (by simp) _).setCell (by simp) _).setCell (by simp) _
open Fl (wM newP newL vX xY gJ fF bg aQ dX eG)
attribute [local irreducible] Sd.bA wpQuiet
def gW (w:World) (l:List E5) (e:Ending) (w':World):Prop:=∃ u,e = .returned (.tuple #[file (fP l) u,.int .i64 (fN l)])/\Rd K4 w' u (fL l)/\Below w.heap.size w w'
variable {w:World} {l:List E5}
theorem yK (h:¬ iY l) (w':World) (hb:Below w.heap.size w w'):gW w l (.returned (.tuple #[file 0 (.slice none 0 0),.int .i64 1])) w' :=
 ⟨_,by unfold fP fN;rw [am h,am h],by unfold fL;rw [am h];exact Rw.Rd.nil _,hb⟩
theorem tQ (h:iY l) (u:Value) (w':World) (hr:Rd K4 w' u (bM l)) (hb:Below w.heap.size w w'):gW w l (.returned (.tuple #[file 3 u,.int .i64 0])) w' :=
 ⟨u,by unfold fP fN;rw [aw h,aw h],by unfold fL;rw [aw h];exact hr,hb⟩
structure Ag (w:World) (h:R4) (l:List E5) (g gF N cap k:Nat) (wr:World):Prop where
 row:wr.heap[gF]? = some (.cells #[.int .i64 3,.slice (some ⟨g,0,none⟩) N cap] 79 (0,0))
 res:wr.heap[w.heap.size]? = some (.cells #[.int .i64 0,.slice none 0 0] 79 (0,0))
 own:Ow K4 wr (w.heap.size+1) 42 (.slice (some ⟨g,0,none⟩) N cap) (part h l k)
 aI:Below w.heap.size w wr
def FC (g gF N cap gX:Nat) (x:E5) (W:World):Prop:=W.heap[gF]? = some (.cells #[.int .i64 3,.slice (some ⟨g,0,none⟩) N cap] 79 (0,0))/\W.heap[gX]? = some (.cells (iN x) 170 (0,0))
theorem A8 (w:World) (v:Value) (l:List E5) (R:Rd K5 w v l):Calls prog 212 #[v] w (gW w l):=by
 have B0:=Hh ((aa w.heap.size w).alloc (ac _) (.cells #[.int .i64 0,.slice none 0 0] 79));have R0:=Hh (R.below B0)
 by_cases hm:iY l
 ·have GA:=Hh (aM (show gH l=true from bj hm) (je _ v l R0))
  have HE:=Hh (fun u w'=>tQ (w:=w) hm u w');have hl:=jM hm;clear hm R0;obtain ⟨a,cap0,rfl,_,hm,hA⟩:=R;have HA:=Hh hA;unfold maxLen at hm;clear hA;have HF:Hid (bM l=kL 3 ((l.length:Int)+1) :: (l.map Bv ++ [vY])):=rfl;have PS:=Hh (fun h k=>zG (k:=k) h (l:=l));have PE:=Hh (fun h=>Aq h l);have PL:=Hh (fun h k=>Ar h l k);have NL:Hid (newL 3 ((l.length:Int)+1)=part (kL 3 ((l.length:Int)+1)) l 0):=Hh (by rw [rG];rfl);have NO:=Hh (fun w=>xY w 3 ((l.length:Int)+1) ⟨by omega,by omega,by omega,by omega⟩);unfold vX at NO;rw [NL.out] at NO;clear NL;generalize kL 3 ((l.length:Int)+1)=h at *;generalize hn:l.length=n at *;have HN:=Hh hn;clear hn;have W0:IntKind.i64.wrap ((n:Int)+1)=(n:Int)+1:=cG _ (by omega);unfold file at NO
  go_enter func212,ntmps212
  go_wp2_with fail;refine GA.mono ?_;rintro e w1 ⟨rfl,b1⟩;have z1:w.heap.size+1<=w1.heap.size:=by have:=b1.size;simp at this;omega
  have B1:=aW B0 b1;have r1:=(b1.block _ (by simp)).trans (bc w _);have S1:=Hh r1;clear b1 GA B0 r1;go_wp2_with fail;refine (NO _).mono ?_;rintro e w2 ⟨u,rfl,o2,b2⟩;obtain ⟨g,cap,rfl,hg1,hg2,hcc,hcm,_,_⟩:=o2.form (by rw [PL.out _ _ (cg _)];omega);rw [PL.out _ _ (cg _)] at o2 hcc ⊢;have hz:∀ o,(w2.alloc o).heap.size=w2.heap.size+1:=fun o=>by simp
  have F0:Hid (Ag w h l g w2.heap.size (n+2) cap 0 (w2.alloc (.cells #[.int .i64 3,.slice (some ⟨g,0,none⟩) (n+2) cap] 79))):=Hh
   ⟨bc w2 _,(cA _ _ _ (by have:=b2.size;omega)).trans ((b2.block _ (by omega)).trans S1.out),(o2.alloc _).low (by omega),(B1.out.trans (b2.mono (by omega))).alloc (by have:=b2.size;omega) _⟩
  have hgF:w.heap.size < w2.heap.size:=by have:=b2.size;omega
  have hg0:w.heap.size < g:=by omega
  clear b2 o2 S1 B1 NO hz;go_wp2;generalize w2.alloc (.cells #[.int .i64 3,.slice (some ⟨g,0,none⟩) (n+2) cap] 79)=W at *;generalize w2.heap.size=gF at *;generalize hN2:n+2=N at *;have HN2:=Hh hN2;clear hN2
  go_loopw [21] (fun i wr=>∃ k:Nat,k<=n/\i = .int .i64 k/\Hid (Ag w h l g gF N cap k wr)) (fun i _=>n - (intOf i).toNat)
  case atStart=>exact ⟨0,cg _,rfl,F0⟩
  case round =>
   obtain ⟨k,hk,rfl,RR⟩:=hrel
   by_cases hlt:k < n
   ·obtain ⟨b,off,rfl,A⟩:=HA (by omega)
    obtain ⟨c0,c1,c2,c3,c4⟩:=vK (A.below RR.aI) k (by rw [HN.out];exact hlt);rw [show l.getD k z5=bO l k from rfl] at c0 c1 c2 c3 c4;have PT:=Hh (fun w=>tZ w (bO l k));have PK:=Hh (PS h k hlt);have PLK:=Hh (PL h k hk);have AA:=Hh A;clear A;unfold fM aH at PT;generalize Bv (bO l k)=q at *;generalize VR (bO l k)=qn at *;generalize bO l k=x at *;obtain ⟨K1,hK1⟩:∃ K1,K1=k+1:=⟨_,rfl⟩;have W1:IntKind.i64.wrap (1+(k:Int))=(K1:Int):=by rw [cG _ (by omega)];omega
    have hkN:K1 < N:=by have:=HN2.out;omega
    have HK:=Hh hK1;clear hK1;go_upto_region 7 with fail;have gx:=bm RR.row;have zx:(wr.alloc (.cells (iN x) 170)).heap.size=wr.heap.size+1:=by simp
    have BX:=Hh ((aa wr.heap.size wr).alloc (ac _) (.cells (iN x) 170));have rowV:=(BX.block _ gx).trans RR.row;have resV:=Hh ((BX.block _ (by omega)).trans RR.out.res);have rowX:=bc wr (.cells (iN x) 170);have ownV:=Hh (RR.own.alloc (.cells (iN x) 170));have belV:=Hh (RR.aI.trans (BX.mono RR.aI.size));clear BX RR c0 c1 c2 c3 c4;unfold iN at zx rowV resV rowX ownV belV;generalize wr.alloc (.cells #[.int .i64 x.1,.int .i64 x.2.1,.int .i64 x.2.2.1,.int .i64 x.2.2.2.1,.int .i64 x.2.2.2.2] 170)=V at *;have C0:FC g gF N cap wr.heap.size x V.drew:=⟨rowV,rowX⟩;have ne:Nonempty (Sc.In (FC g gF N cap wr.heap.size x)):=⟨⟨_,C0⟩⟩;have k1:=Sc.aA (C:=FC g gF N cap wr.heap.size x) (a:=⟨gF,1,none⟩) (v:=.slice (some ⟨g,0,none⟩) N cap) (fun W' h=>ah h.1 1);have x0:=Sc.aA (C:=FC g gF N cap wr.heap.size x) (a:=⟨wr.heap.size,0,none⟩) (v:=.int .i64 x.1) (fun W' h=>ah h.2 0);have x1:=Sc.aA (C:=FC g gF N cap wr.heap.size x) (a:=⟨wr.heap.size,1,none⟩) (v:=.int .i64 x.2.1) (fun W' h=>ah h.2 1);have x2:=Sc.aA (C:=FC g gF N cap wr.heap.size x) (a:=⟨wr.heap.size,2,none⟩) (v:=.int .i64 x.2.2.1) (fun W' h=>ah h.2 2);have x3:=Sc.aA (C:=FC g gF N cap wr.heap.size x) (a:=⟨wr.heap.size,3,none⟩) (v:=.int .i64 x.2.2.2.1) (fun W' h=>ah h.2 3);have x4:=Sc.aA (C:=FC g gF N cap wr.heap.size x) (a:=⟨wr.heap.size,4,none⟩) (v:=.int .i64 x.2.2.2.2) (fun W' h=>ah h.2 4);refine Sc.start (FC g gF N cap wr.heap.size x) [(false,0),(false,1),(false,2),(false,3),(false,4),(true,5),(false,6),(false,7),(false,8),(false,9),(true,10)] (by kernel_rfl) (by kernel_rfl) (by kernel_rfl) C0 ?_;dsimp only [Sd.aP,List.getElem?_cons_succ,List.getElem?_cons_zero]
    iterate 5 (refine Sd.lit ?_;quiet_step (fail);refine bk ?_)
    refine Sd.call (by rfl) (fun K hK=>?_);go_simp;refine (PT _).mono ?_;rintro e w4 ⟨rfl,b4⟩;have b4':=eW ((aa V.heap.size V).drew) b4;have B4:=aW belV b4';have row4:=(b4'.block _ (by omega)).trans rowV;have rowX4:=(b4'.block _ (by omega)).trans rowX;have r4:=(b4'.block _ (by omega)).trans resV.out;have O4:=Hh (ownV.keep b4');refine hK _ _ (Sc.Cl.of ⟨row4,rowX4⟩) ?_;clear hK K b4 b4' belV ownV resV rowV rowX PT
    iterate 4 (refine Sd.lit ?_;quiet_step (fail);refine bk ?_)
    refine Sd.call (by rfl) (fun K hK=>?_);obtain ⟨g',cap',eg,_,_,_,_,hfr,hat⟩:=O4.form (by rw [PLK.out];omega);have eg':g'=g:=by
     injection eg with e1;injection e1 with e1;injection e1 with e1 _ _;exact e1.symm
    subst eg';have hKL:K1 < (part h l k).length:=by rw [PLK.out];have:=HN2.out;omega
    have eK:K1=1+k:=by rw [HK.out];omega
    have O5:=Hh (gJ (i:=K1) O4 (by rw [PLK.out]) hKL q);rw [show (part h l k).set K1 q=part h l (k+1) by rw [eK];exact PK.out] at O5;clear eK;obtain ⟨d0,d1,d2,d3⟩:=wM hat K1 hKL;rw [cQ] at d0 d1 d2 d3;have f0:=hfr (K1 * 4);have f1:=hfr (K1 * 4+1);have f2:=hfr (K1 * 4+2);have f3:=hfr (K1 * 4+3);have iN:=aK (g:=g') (o:=K1 * 4) (r:=q) row4 (by omega);have rowX5:=aK (g:=g') (o:=K1 * 4) (r:=q) rowX4 (by omega);have r5:=aK (g:=g') (o:=K1 * 4) (r:=q) r4 (by omega);have B5:=Hh (aJ (o:=K1 * 4) (r:=q) B4 (show w.heap.size<=g' by omega));have N5:Hid (Ag w h l g' gF N cap (k+1) (bC w4 g' (K1 * 4) q)):=Hh ⟨iN,r5,O5,B5⟩;clear hfr hat O4 B4 eg O5 B5;go_simp;refine hK _ _ (Sc.Cl.of ⟨iN,rowX5⟩) ?_;clear hK K d0 d1 d2 d3 f0 f1 f2 f3 row4 r4 rowX4 k1 ne C0 x0 x1 x2 x3 x4;refine Sd.done ?_
    show Exit.inBlock _ _ _ _ (bC w4 g' (K1 * 4) q)
    generalize bC w4 g' (K1 * 4) q=wS at *;go_wp2
    go_roundw
    case rel=>exact ⟨k+1,by omega,by go_num,N5⟩
    case measure=>simp [intOf];omega
   ·obtain rfl:k=n:=by omega
    have PK:=Hh (PE h);have PLK:=Hh (PL h k (ac _));have e1:Bv DU=vY:=by decide
    have e2:VR DU=0:=by decide
    have PT:=Hh (fun w=>tZ w DU);have EE:=Hh (fun w=>Nq w);rw [e1,e2] at PT;clear e1 e2;unfold fM at PT EE;unfold aH at PT;simp only [DU,vY] at PT EE;obtain ⟨K1,hK1⟩:∃ K1,K1=k+1:=⟨_,rfl⟩;have W1:IntKind.i64.wrap (1+(k:Int))=(K1:Int):=by rw [cG _ (by omega)];omega
    have hkN:K1 < N:=by have:=HN2.out;omega
    have HK:=Hh hK1;clear hK1 PS PE PL;go_upto_region 9 with fail;have gx:=bm RR.row;have rowV:=RR.row;have resV:=Hh RR.res;have ownV:=Hh RR.own;have belV:=Hh RR.aI;clear RR;have C0:=rowV;have ne:Nonempty (Sc.In (fun W':World=>W'.heap[gF]? = some (.cells #[.int .i64 3,.slice (some ⟨g,0,none⟩) N cap] 79 (0,0)))):=⟨⟨_,C0⟩⟩;have k1:=Sc.aA (C:=fun W':World=>W'.heap[gF]? = some (.cells #[.int .i64 3,.slice (some ⟨g,0,none⟩) N cap] 79 (0,0))) (a:=⟨gF,1,none⟩) (v:=.slice (some ⟨g,0,none⟩) N cap) (fun W' h=>ah h 1);refine Sc.start (fun W':World=>W'.heap[gF]? = some (.cells #[.int .i64 3,.slice (some ⟨g,0,none⟩) N cap] 79 (0,0))) [(false,0),(false,1),(false,2),(false,3),(false,4),(true,5),(true,6),(false,7),(false,8),(false,9),(false,10),(true,11)] (by kernel_rfl) (by kernel_rfl) (by kernel_rfl) C0 ?_;dsimp only [Sd.aP,List.getElem?_cons_succ,List.getElem?_cons_zero]
    iterate 5 (refine Sd.lit ?_;quiet_step (fail);refine bk ?_)
    refine Sd.call (by rfl) (fun K hK=>?_);go_simp;refine (EE _).mono ?_;rintro e w3 ⟨rfl,b3⟩;have b3':=eW ((aa wr.heap.size wr).drew) b3;have row3:=(b3'.block _ (by omega)).trans rowV;refine hK _ _ (Sc.Cl.of row3) ?_;clear hK K b3;refine Sd.call (by rfl) (fun K hK=>?_);go_simp;refine (PT _).mono ?_;rintro e w4 ⟨rfl,b4⟩;have b4':=b3'.trans (b4.mono b3'.size);have B4:=aW belV b4';have row4:=(b4'.block _ (by omega)).trans rowV;have r4:=(b4'.block _ (by omega)).trans resV.out;have O4:=Hh (ownV.keep b4');refine hK _ _ (Sc.Cl.of row4) ?_;clear hK K b4 b3' b4' belV ownV resV rowV row3 PT EE
    iterate 4 (refine Sd.lit ?_;quiet_step (fail);refine bk ?_)
    refine Sd.call (by rfl) (fun K hK=>?_);obtain ⟨g',cap',eg,_,_,_,_,hfr,hat⟩:=O4.form (by rw [PLK.out];omega);have eg':g'=g:=by
     injection eg with e1;injection e1 with e1;injection e1 with e1 _ _;exact e1.symm
    subst eg';have hKL:K1 < (part h l k).length:=by rw [PLK.out];have:=HN2.out;omega
    have eK:K1=1+k:=by rw [HK.out];omega
    have O5:=Hh (gJ (i:=K1) O4 (by rw [PLK.out]) hKL vY);rw [show (part h l k).set K1 vY=bM l by rw [eK,HF.out];exact PK.out] at O5;clear eK;obtain ⟨d0,d1,d2,d3⟩:=wM hat K1 hKL;rw [cQ] at d0 d1 d2 d3;have f0:=hfr (K1 * 4);have f1:=hfr (K1 * 4+1);have f2:=hfr (K1 * 4+2);have f3:=hfr (K1 * 4+3);have iN:=aK (g:=g') (o:=K1 * 4) (r:=vY) row4 (by omega);have r5:=aK (g:=g') (o:=K1 * 4) (r:=vY) r4 (by omega);have B5:=Hh (aJ (o:=K1 * 4) (r:=vY) B4 (show w.heap.size<=g' by omega));clear hfr hat O4 B4 eg;go_simp;refine hK _ _ (Sc.Cl.of iN) ?_;clear hK K d0 d1 d2 d3 f0 f1 f2 f3 row4 r4 k1 ne C0;refine Sd.done ?_;obtain ⟨d0,d1⟩:=pI iN;obtain ⟨e0,e1,f0,f1⟩:=yH r5;have hne:(Value.slice (some ⟨g',0,none⟩) N cap).ownBlock≠some w.heap.size:=O5.range (.inl (by omega));have RR:=Hh (bg r5 3 (.slice (some ⟨g',0,none⟩) N cap));have O6:=Hh (dX (u:=.slice (some ⟨g',0,none⟩) N cap) O5 hne 3);have B6:=Hh (aQ (p:=3) (v:=.slice (some ⟨g',0,none⟩) N cap) B5 (ac _));clear iN r5 O5 B5 hne
    show Exit.then _ _ _ _ (bC w4 g' (K1 * 4) vY)
    generalize bC w4 g' (K1 * 4) vY=wS at *;go_wp2
    (try simp only [Exit.inBlock,Exit.then])
    exact bp (v:=.tuple #[file 3 _,.int .i64 0]) (eG (p:=2) (r:=3) rfl _ _ w.heap.size 3 _ 0 rfl rfl RR) rfl (HE _ _ O6.rd B6)
 ·have GA:=Hh (aM (show gH l=false from ai hm) (je _ v l R0))
  have E:=Hh (yK (w:=w) hm);clear hm;obtain ⟨a,cap,rfl,_,hm,_⟩:=R;clear R0;generalize l.length=n at *
  go_enter func212,ntmps212
  go_wp2_with fail;refine GA.mono ?_;rintro e w1 ⟨rfl,b1⟩;have z1:w.heap.size < w1.heap.size:=by have:=b1.size;simp at this;omega
  have B1:=aW B0 b1;have r0:=(b1.block _ (by simp)).trans (bc w _);obtain ⟨c0,c1,f0,f1⟩:=yH r0;have RR:=Hh (bg r0 0 (.slice none 0 0));clear b1 B0 r0 GA;go_wp2
  (try simp only [Exit.inBlock,Exit.then])
  exact bp (v:=.tuple #[file 0 (.slice none 0 0),.int .i64 1]) (eG (p:=2) (r:=3) rfl _ _ w.heap.size 0 _ 1 rfl rfl RR) rfl (E _ (aQ B1 (ac _)))
end Ro
namespace Ck
attribute [local irreducible] Sd.bA wpQuiet
theorem qR (w:World) (v:Value) (L:LL) (s:Int) (R:kF w v L):Calls prog 213 #[v,.int .i64 s] w (eZ w (sN s L) (sE s L)):=by
 have eg:=enters_of func230 (by kernel_rfl) rfl;have R0:iV (w.alloc (.cells #[.int .i64 0,.int .i64 0,.int .i64 0,.int .i64 0,.int .i64 0] 170)) w.heap.size z5:=bc w _;have b0:=(aa w.heap.size w).alloc (ac _) (.cells #[.int .i64 0,.int .i64 0,.int .i64 0,.int .i64 0,.int .i64 0] 170);have RV:=R.below b0;obtain ⟨a,cap,rfl,_⟩:=R.slice;clear R;have FA:=Hh (fun (W:World) (B:Nat) (hr:kF W (.slice a L.length cap) L) (hc:W.cell? ⟨B,0,none⟩=some (.int .i64 s))=>Az W _ L 230 #[.pointer (some ⟨B,0,none⟩)] (snd s) eg hr (Rb W B s L hc));clear eg;have RR:=Hh R0;have BB:=Hh b0;have RL:=Hh RV;clear R0 b0 RV;have E:Hid (∀ w',Below w.heap.size w w'->eZ w (sN s L) (sE s L) (.returned (.tuple #[.int .i64 (sN s L),fM (sE s L)])) w'):=fun w' b=>⟨rfl,b⟩;rw [show j6 (snd s) L=sN s L from rfl,show p9 (snd s) L=sE s L from rfl] at FA;generalize sN s L=rn at *;generalize sE s L=re at *;generalize L.length=n at *
 go_enter func213,ntmps213
 go_upto_region 1 with fail;generalize w.alloc (.cells #[.int .i64 0,.int .i64 0,.int .i64 0,.int .i64 0,.int .i64 0] 170)=w0 at *;go_wp2_with fail;refine (JN w0 s).mono ?_;rintro e w1 ⟨rfl,rfl⟩;have b1:=(aa w0.heap.size w0).alloc (ac _) (.cells #[.int .i64 s] 3);have F:=FA.out (w0.alloc (.cells #[.int .i64 s] 3)) w0.heap.size (RL.below b1) (by go_simp);have FB:=Hh F;have R1:=Hh (RR.below b1 RR.lt);have B1:=aW BB b1;clear FA RL RR BB b1 F;generalize w0.heap.size=g0 at *;generalize w0.alloc (.cells #[.int .i64 s] 3)=V at *;go_wp2_with fail;refine FB.mono ?_;rintro e w2 ⟨rfl,b2⟩;have R2:=Hh (R1.below b2 R1.lt);have B2:=aW B1 b2;clear FB R1 B1 b2;have d0:=Fl.rc R2 0;have d1:=Fl.rc R2 1;have d2:=Fl.rc R2 2;have d3:=Fl.rc R2 3;have d4:=Fl.rc R2 4;have f0:=aj R2 0;have f1:=aj R2 1;have f2:=aj R2 2;have f3:=aj R2 3;have f4:=aj R2 4;have R3:=Hh (ny (y:=z5) R2 re);have B3:=Hh (iZ (g:=w.heap.size) (x:=re) B2 (ac _));unfold fM;go_wp2
 (try simp only [Exit.inBlock,Exit.then])
 exact bp (v:=.tuple #[.int .i64 rn,fM re]) (jP (p:=5) (r:=4) rfl _ _ w.heap.size rn re rfl rfl R3) rfl (E _ B3)
def no (_:Nat):Int:=0
def upto (L:LL) (k:Nat) (i:Nat):Int:=if i < k then sF L i else 0
theorem upto_zero (L:LL) (i:Nat):no i=upto L 0 i:=by unfold upto;rw [am (fj _)];rfl
theorem upto_step (L:LL) (k i:Nat):upI (upto L k) k (sN k L) i=upto L (k+1) i:=by
 unfold upI upto
 by_cases e:i=k
 ·subst e;rw [aw rfl,aw (by omega)];rfl
 ·rw [am e]
  by_cases c:i < k
  ·rw [aw c,aw (by omega)]
  ·rw [am c,am (by omega)]
structure Am (w wr:World) (F:Nat->Int):Prop where
 res:fT wr w.heap.size no
 tC:fT wr (w.heap.size+1) F
 aI:Below w.heap.size w wr
theorem WA (w:World) (F:Nat->Int) (h:∀ i,i < 17->no i=F i):Am w ((w.alloc (.cells (ar no) 311)).alloc (.cells (ar no) 311)) F:=by
 have e:(w.alloc (.cells (ar no) 311)).heap.size=w.heap.size+1:=by simp
 have n2:=fT.new (w.alloc (.cells (ar no) 311)) no;rw [e] at n2;exact ⟨(cA _ _ _ (by simp)).trans (fT.new w no),n2.to h,((aa _ _).alloc (ac _) _).alloc (by simp) _⟩
theorem Am.jA {w wr:World} {F:Nat->Int} (h:Am w wr F) (k:Nat) (hk:k < 17) (x:Int):Am w (wr.setCell ⟨w.heap.size+1,k,none⟩ (.int .i64 x)) (upI F k x) :=
 ⟨h.1.far (by simp) _,h.2.jA k hk x,h.3.setCell (by simp) _⟩
theorem Am.below {w wr w1:World} {F:Nat->Int} (h:Am w wr F) (hb:Below wr.heap.size wr w1):Am w w1 F :=
 ⟨h.1.below hb h.1.lt,h.2.below hb h.2.lt,h.3.trans (hb.mono h.3.size)⟩
theorem Am.to {w wr:World} {F G:Nat->Int} (h:Am w wr F) (e:∀ i,i < 17->F i=G i):Am w wr G:=⟨h.1,h.2.to e,h.3⟩
theorem aX {B:Nat} {a w:World} (h:Below B a w) (g:Nat) (cs:Array Value) (hg:B<=g):Below B a (w.setRow g cs) :=
 ⟨h.os,h.tape,h.output,by rw [size_setRow];exact h.size,fun k hk=>(setRow_other w g k cs (by omega)).trans (h.block k hk)⟩
theorem IV (w:World) (v:Value) (L:LL) (R:kF w v L):Calls prog 193 #[v] w fun e w'=>e = .returned (.agg (ar (sF L)))/\Below w.heap.size w w':=by
 have T0:=Hh (WA w (upto L 0) (fun i _=>upto_zero L i));have SA:=Hh (fun (W:World) (s:Int) (hb:Below w.heap.size w W)=>qR W v L s (R.below hb));have E:Hid (ar (upto L 17)=ar (sF L)):=Hh (Hw fun i hi=>aw hi);have ST:=Hh (upto_step L);obtain ⟨a,cap,rfl,_⟩:=R.slice;clear R;generalize L.length=n at *
 go_enter func193,ntmps193
 go_wp2
 go_loopw [5] (fun i wr=>∃ k:Nat,k<=17/\i = .int .i64 k/\Hid (Am w wr (upto L k))) (fun i _=>17 - (intOf i).toNat)
 case atStart=>exact ⟨0,cg _,rfl,T0⟩
 case round =>
  obtain ⟨k,hk,rfl,T⟩:=hrel
  by_cases hlt:k < 17
  ·have C:=Hh (SA wr k T.aI)
   have UP:=Hh (ST k);generalize sN (k:Int) L=sn at *;generalize sE (k:Int) L=se at *;unfold eZ fM at C;go_wp2_with fail;refine C.mono ?_;rintro e w1 ⟨rfl,b1⟩;have T1:=Hh (T.below b1);have c:=T1.tC.cell k hlt;have f:=T1.tC.frozen k;have T2:=Hh ((T1.jA k hlt sn).to (fun i _=>UP i));clear b1 T1 C;go_wp2
   go_roundw
   case rel=>exact ⟨k+1,by omega,by go_num,T2⟩
   case measure=>simp [intOf];omega
  ·obtain rfl:k=17:=by omega
   go_wp2_with (first
    | (refine wpList_load_row rfl 311 _ rfl _ rfl _ _ _ _ T.tC underlying311 rfl (xM _) ?_)
    | (refine wpList_store_row rfl 311 _ _ rfl _ _ rfl rfl _ _ T.res (xM _) rfl (U1 _) ?_))
   refine bp (Mv rfl _ _ _ _ rfl (T.res.row _)) rfl ⟨by rw [E.out],?_⟩;exact aX T.aI _ _ (ac _)
theorem Yo (w:World) (v:Value) (l:List E5) (R:Rd K5 w v l):Calls prog 192 #[v] w fun e w'=>e = .returned (.bool (bad l))/\Below w.heap.size w w':=by
 have FA:=Hh (Ro.A8 w v l R);have hb:bad l = !gH l:=rfl;obtain ⟨a,cap,rfl,_⟩:=R;unfold Ro.gW file at FA
 by_cases h:iY l
 ·have e1:Ro.fN l=0:=aw h
  have e2:bad l=false:=by rw [hb,show gH l=true from bj h];rfl
  rw [e1] at FA;rw [e2];generalize Ro.fP l=p at *;generalize Ro.fL l=fl at *;clear e1 e2 hb h;generalize l.length=n at *
  go_enter func192,ntmps192
  go_wp2_with fail;refine FA.mono ?_;rintro e w1 ⟨u,rfl,r1,b1⟩;obtain ⟨a1,c1,rfl,_⟩:=r1;have HB:=Hh (fun o=>b1.alloc b1.size o);clear b1;go_wp2
  go_ret
  exact ⟨rfl,HB _⟩
 ·have e1:Ro.fN l=1:=am h
  have e2:bad l=true:=by rw [hb,show gH l=false from ai h];rfl
  rw [e1] at FA;rw [e2];generalize Ro.fP l=p at *;generalize Ro.fL l=fl at *;clear e1 e2 hb h;generalize l.length=n at *
  go_enter func192,ntmps192
  go_wp2_with fail;refine FA.mono ?_;rintro e w1 ⟨u,rfl,r1,b1⟩;obtain ⟨a1,c1,rfl,_⟩:=r1;have HB:=Hh (fun o=>b1.alloc b1.size o);clear b1;go_wp2
  go_ret
  exact ⟨rfl,HB _⟩
theorem kH (w:World) (v:Value) (L:LL) (g:Nat) (q:List E5->Bool) (eg:∀ args w,(callFunc g args).run prog w = .ok (.enter g args) w) (R:kF w v L)
 (hp:∀ (W:World) (u:Value) (l:List E5),Rd K5 W u l->Calls prog g #[u] W fun e w'=>e = .returned (.bool (q l))/\Below W.heap.size W w') :
 Calls prog 191 #[v,.func (.func g) #[] #[]] w fun e w'=>e = .returned (.int .i64 (idx q 0 L))/\Below w.heap.size w w':=by
 obtain ⟨a,cap,rfl,_,hm,hA⟩:=R;have HA:=Hh hA;have HP:=Hh hp;have HH:Hid (∀ k,iJ q L k->k < L.length->q (bZ L k)=true->idx q 0 L=k):=fun k=>zZ;have HE:Hid (iJ q L L.length->idx q 0 L = -1):=Ak;have HX:Hid (∀ k,iJ q L k->k < L.length->q (bZ L k)=false->iJ q L (k+1)):=fun k=>xJ;clear hA hp;generalize hr:idx q 0 L=r at *;clear hr;unfold maxLen at hm;generalize hn:L.length=n at *;have HN:=Hh hn;clear hn
 go_enter func191,ntmps191
 go_wp2
 go_loopw [8] (fun i wr=>∃ k:Nat,k<=n/\i = .int .i64 k/\Hid (iJ q L k)/\Hid (Below w.heap.size w wr)) (fun i _=>n - (intOf i).toNat)
 case atStart=>exact ⟨0,cg _,rfl,xC,aa _ _⟩
 case round =>
  obtain ⟨k,hk,rfl,hs,bw⟩:=hrel
  by_cases hlt:k < n
  ·obtain ⟨b,off,rfl,A⟩:=HA (by omega)
   obtain ⟨u,c,ru⟩:=A k hlt;have ru':=ru.below bw;have c':=iI bw c;have AA:=Hh A;clear A;have hc:=HP.out wr u (bZ L k) (ru.below bw);obtain ⟨a',cap',rfl,_⟩:=ru;have C:=Hh hc;have YES:=fun h=>HH k hs hlt h;have NO:=fun h=>HX k hs hlt h;clear hc ru' c;generalize q (bZ L k)=qq at *;generalize (bZ L k).length=m at *
   cases qq with
   | true =>
     have Y:=Hh (YES rfl);clear YES NO;go_wp2_with fail;refine C.mono ?_;rintro e w1 ⟨rfl,b1⟩;have B1:=aW bw b1;clear b1;go_wp2
     go_ret
     exact ⟨Ua.dh Y.symm,B1⟩
   | false =>
     have N:=Hh (NO rfl);clear YES NO;go_wp2_with fail;refine C.mono ?_;rintro e w1 ⟨rfl,b1⟩;have B1:=aW bw b1;clear b1;go_wp2
     go_roundw
     case rel=>exact ⟨k+1,by omega,by go_num,N,B1⟩
     case measure=>simp [intOf];omega
  ·obtain rfl:k=n:=by omega
   have E:=Hh (HE hs);go_wp2
   go_ret
   exact ⟨Ua.dh E.symm,bw⟩
end Ck
namespace Pa
open Go.Maps
open Fs (Wf gB gV dw Fy eB)
open Ck (qR eZ)
open Fl (R4 aY aR dz)
attribute [local irreducible] Sd.bA wpQuiet Sg.dG
variable {T:LL} {s f r n:Int}
theorem iD (ok:tE T=0) (h:0<=sN s T):∃ n:Nat,sN s T=n/\n < T.length/\sE s T∈bZ T n/\fZ (sE s T)/\(sE s T).1=1/\(sE s T).2.1=s:=by
 rcases kK (snd s) T with ⟨n,x,hn,hx,hp,_,e1,e2⟩ | ⟨_,e1,_⟩
 ·have e1':=e1
  have e2':sE s T=x:=e2;obtain ⟨k1,k2⟩:=WQ hp;exact ⟨n,e1',hn,by rw [e2'];exact hx,by rw [e2'];exact (nM ok hn x hx).1,by rw [e2'];exact k1,by rw [e2'];exact k2⟩
 ·have e1':sN s T = -1:=e1
  omega
variable {A:aU}
theorem abj (hA:eB A) (f r:Int):bQ (gV A f r):=by
 unfold gV
 split
 ·exact Fl.jZ
 ·rename_i e he
  split
  ·exact Fl.iH (hA.find he).2.2.1 _
  ·exact Fl.jZ
theorem ae1 (h:gB A f r=false):gV A f r=z4:=by
 unfold gB at h;unfold gV
 split
 ·rfl
 ·rename_i e he
  rw [he] at h;simp only [decide_eq_false_iff_not] at h;rw [am h]
variable {w w':World}
theorem ZA {s:Nat} {x:aU×Int} (H:Has w s x) (hn:Wf n) (r:Int):Calls prog 175 #[.pointer (some ⟨s,0,none⟩),.int .i64 n,.int .i64 r] w (dw w (gV x.1 n r) (gB x.1 n r)):=by
 obtain ⟨F,S⟩:=H;exact Fy S hn r
theorem OV (v:R4) {j:Nat} (hj:j < 4):(aY v)[j]? = some (.int .u8 (rb v j)):=by
 obtain rfl | rfl | rfl | rfl:j=0\/j=1\/j=2\/j=3:=by omega
 all_goals rfl
def vH (w:World) (n x:Int) (b:Bool) (e:Ending) (w':World):Prop:=e = .returned (.tuple #[.int .i64 n,.int .u8 x,.bool b])/\Below w.heap.size w w'
variable {S:bX} {V:List Bool}
theorem aaj (h:jF S T V s=false) (b:Below w.heap.size w w'):vH w (qw S T V s) (Rn S T V s) (jF S T V s) (.returned (.tuple #[.int .i64 (-1),.int .u8 0,.bool false])) w':=by
 refine ⟨?_,b⟩;unfold qw Rn;rw [h]
 rfl
theorem Vo (h:jF S T V s=true) (b:Below w.heap.size w w'):vH w (qw S T V s) (Rn S T V s) (jF S T V s) (.returned (.tuple #[.int .i64 (sN s T),.int .u8 (Qf S T s),.bool true])) w':=by
 refine ⟨?_,b⟩;unfold qw Rn;rw [h]
 rfl
theorem Xo {vs vt vl:Value} (H:Ns w vs vt vl S T V) (s:Int):Calls prog 197 #[vs,vt,vl,.int .i64 s] w (vH w (qw S T V s) (Rn S T V s) (jF S T V s)):=by
 have SA:=Hh (qR w vt T s H.tb);unfold eZ at SA;have NO:=Hh (fun h w' b=>aaj (S:=S) (T:=T) (V:=V) (s:=s) (w:=w) (w':=w') h b);have YES:=Hh (fun h w' b=>Vo (S:=S) (T:=T) (V:=V) (s:=s) (w:=w) (w':=w') h b);have HH:=Hh H;obtain ⟨sa,cs,rfl,_⟩:=H.st.slice;obtain ⟨al,cl,el,_⟩:=H.lv.slice;rw [H.ll] at el;subst el
 by_cases h0:0<=sN s T
 ·obtain ⟨n,hn,hlt,hmem,oke,hk1,hk2⟩:=iD H.ok h0
  have GA:=Hh (fun w=>bJ w (sE s T));rw [og oke] at GA;obtain ⟨f0,r0,y0⟩:=(bS oke).2.2;have hnS:n < S.length:=by rw [← H.lt];exact hlt
  have hnV:n < V.length:=by rw [H.ll];exact hnS
  obtain ⟨b,off,cap,sp,e1,cS,hS⟩:=H.st.one hnS;injection e1 with e1 _ e2;subst e1 e2;obtain ⟨bl,ol,el2,AL⟩:∃ bl ol,al=some ⟨bl,ol,none⟩/\At KB w bl ol V:=by
   obtain ⟨a',c',e',_,_,h3⟩:=H.lv;injection e' with q1 _ q2;subst q1;exact h3 (by omega)
  subst el2;have cV:=Ka AL hnV
  have SB:Hid (jF S T V s=(bU V n && gB (aN S n).1 (sE s T).2.2.1 (sE s T).2.2.2.1)):=Hh (by
   unfold jF
   rw [hn,bj (Int.natCast_nonneg n),Bool.true_and])
  have SX:Hid (Qf S T s=rb (gV (aN S n).1 (sE s T).2.2.1 (sE s T).2.2.2.1) (sE s T).2.2.2.2):=Hh (by
   unfold Qf
   rw [hn])
  have ev:V.getD n false=bU V n:=rfl;rw [ev] at cV;rw [hn] at YES SA;have WF:=Hh (rZ (n:=(sE s T).2.2.1) (by omega));have SG:Hid (∀ W,Below w.heap.size w W->Calls prog 175 #[.pointer (some ⟨sp,0,none⟩),.int .i64 (sE s T).2.2.1,.int .i64 (sE s T).2.2.2.1] W (dw W (gV (aN S n).1 (sE s T).2.2.1 (sE s T).2.2.2.1) (gB (aN S n).1 (sE s T).2.2.1 (sE s T).2.2.2.1))):=Hh (fun W b=>ZA (hS.below b) WF _);have GN:Hid (gB (aN S n).1 (sE s T).2.2.1 (sE s T).2.2.2.1=false->gV (aN S n).1 (sE s T).2.2.1 (sE s T).2.2.2.1=z4):=Hh ae1;clear hmem hS HH H h0 hk1 hk2 hlt oke hn;unfold dw at SG;generalize gV (aN S n).1 (sE s T).2.2.1 (sE s T).2.2.2.1=gv at *;generalize gB (aN S n).1 (sE s T).2.2.1 (sE s T).2.2.2.1=gb at *;unfold fM at SA GA;generalize Qf S T s=X at *;generalize sE s T=x at *;obtain ⟨q,s',f,r,y⟩:=x;simp only at y0 SX SA GA SG WF GN;obtain ⟨j,rfl⟩:∃ j:Nat,y=j:=⟨y.toNat,by omega⟩;have hj:j < 4:=by omega
  clear f0 r0 y0;generalize jF S T V s=a3 at *;generalize qw S T V s=a1 at *;generalize Rn S T V s=a2 at *;generalize S.length=N at *;have lS:=bo _ _ cS;have lV:bl < w.heap.size:=bo _ _ cV;have CS:=Hh cS;have CV:=Hh cV;clear cS AL hnV
  go_enter func197,ntmps197
  go_wp2_with fail;refine SA.mono ?_;rintro e w1 ⟨rfl,b1⟩;have X1:Hid ((w1.alloc (.cells #[.int .i64 q,.int .i64 s',.int .i64 f,.int .i64 r,.int .i64 (j:Int)] 170)).heap[w1.heap.size]? = some (.cells #[.int .i64 q,.int .i64 s',.int .i64 f,.int .i64 r,.int .i64 (j:Int)] 170 (0,0))):=Hh (bc w1 _);have B1:=Hh (b1.alloc b1.size (.cells #[.int .i64 q,.int .i64 s',.int .i64 f,.int .i64 r,.int .i64 (j:Int)] 170));have G1:=b1.size;go_upto_region 2 with fail;generalize (w1.alloc (.cells #[.int .i64 q,.int .i64 s',.int .i64 f,.int .i64 r,.int .i64 (j:Int)] 170))=W at *;clear b1 SA;generalize w1.heap.size=g at *;have cV:=(B1.cell lV).trans CV;have x0:=Fl.rc X1 0;have x1:=Fl.rc X1 1;have x2:=Fl.rc X1 2;have x3:=Fl.rc X1 3;have x4:=Fl.rc X1 4
  cases hv:bU V n with
  | false =>
    rw [hv] at cV;have N2:=Hh (NO (by rw [SB.out,hv];rfl) W B1.out);clear NO YES SB SX;go_wp2
    go_ret3
    exact N2
  | true =>
    rw [hv] at cV;go_wp2_with fail;refine (GA _).mono ?_;rintro e w2 ⟨rfl,b2⟩;have X2:=Hh (jf b2 X1);have B2:=aW B1 b2;clear b2 GA X1 B1 cV x0 x1 x2 x3 x4;go_upto_region 4 with fail;have cS:=Sd.aL ((B2.cell lS).trans CS);have x2:=Sd.aL (Fl.rc X2 2);have x3:=Sd.aL (Fl.rc X2 3);refine Sg.mJ [(0,0),(0,1),(0,2),(0,3),(0,4),(0,5),(0,6),(0,7),(1,8),(0,9),(0,10),(0,11),(2,12),(1,13),(0,14)] [⟨12,12,#[.int .u8 0,.int .u8 0,.int .u8 0,.int .u8 0],42,none,none⟩] (by kernel_rfl) (by kernel_rfl) (by kernel_rfl) (by decide) (by decide) ?_ ?_ ?_
    ·simp
    ·intro f hf
     simp only [cj,cY,fS] at hf;subst hf;exact Sg.Vz rfl rfl rfl fun ρ w=>by go_simp
    dsimp only [Sg.aP,List.getElem?_cons_succ,List.getElem?_cons_zero];have BW:=Hh ((aa w2.heap.size w2).drew);unfold ptr at cS
    repeat (refine Sg.lit (fun xs=>?_);simp only [Sg.fill,cm,br];quiet_step (fail);refine bk ?_)
    refine Sg.jw (fun xs w3 hb hc=>⟨by rfl,fun K hK=>?_⟩);have B3:=aW BW hb;clear hb hc BW;simp only [Sg.fill,cm,br];go_simp;refine (SG w3 (aW B2 B3)).mono ?_;rintro e4 w4 ⟨rfl,b4⟩;have B4:=aW B3 b4;refine hK _ _ (Sd.Cl.of B4) b4.size (fun _=>b4) ?_;clear hK K b4 B3 SG;unfold aH
    repeat (refine Sg.lit (fun xs=>?_);simp only [Sg.fill,cm,br];quiet_step (fail);refine bk ?_)
    refine Sg.pz (fun g7 w7 hb hc row n7 hH hL=>?_);have B7:=aW B4 hb;have R7:Hid (w7.heap[g7]? = some (.cells (aY z4) 42 (0,0))):=Hh row;clear hb hc row hH hL B4
    repeat (refine Sg.lit (fun xs=>?_);simp only [Sg.fill,br];quiet_step (fail);refine bk ?_)
    refine Sg.jw (fun xs w9 hb hc=>⟨by rfl,fun K hK=>?_⟩);have B9:=aW B7 hb;have R9:=jf hb R7;obtain ⟨d0,d1,d2,d3⟩:=AB R9;have f0:w9.frozen? ⟨g7,0,none⟩=false:=aj R9 0;have f1:w9.frozen? ⟨g7,1,none⟩=false:=aj R9 1;have f2:w9.frozen? ⟨g7,2,none⟩=false:=aj R9 2;have f3:w9.frozen? ⟨g7,3,none⟩=false:=aj R9 3;have RA:=aR R9 gv;have BA:=aJ (o:=0) (r:=gv) B9 n7;have hsz:=dz w9 g7 0 gv;clear hb hc B7 R7 R9;simp only [Sg.fill,br];go_simp;refine hK _ _ (Sd.Cl.of BA) (by rw [← hsz];exact ac _) (fun h=>absurd rfl h) ?_;clear hK K d0 d1 d2 d3 f0 f1 f2 f3 hsz
    show Sg.dG _ _ _ _ _ _ _ _ _ _ _ (bC w9 g7 0 gv)
    have B10:=aW B2 BA;have X10:=Hh (jf BA X2);have R10:=Hh RA;clear BA RA cS x2 x3 B9 B2 X2 CS CV n7;generalize bC w9 g7 0 gv=wA at *
    repeat (refine Sg.lit (fun xs=>?_);simp only [Sg.fill,br];quiet_step (fail);refine bk ?_)
    refine Sg.done (fun wB hb hc=>?_);have BB:=aW B10 hb;have XB:=Hh (jf hb X10);have RB:=Hh (jf hb R10);clear hb hc B10 X10 R10
    cases hb:gb with
    | false =>
      have N2:=Hh (NO (by rw [SB.out,hv,hb];rfl) wB BB.out);clear NO YES SB SX;go_wp2
      go_ret3
      exact N2
    | true =>
      have N2:=Hh (YES (by rw [SB.out,hv,hb];rfl) wB.drew (BB.out.trans ((aa _ _).drew)));rw [SX.out] at N2;clear NO YES SB SX GN;go_upto_region 7 with fail;have x4:=Sd.aL (Fl.rc XB 4);have rj:=Sd.aL ((ah RB j).trans (OV gv hj));obtain rfl | rfl | rfl | rfl:j=0\/j=1\/j=2\/j=3:=by omega
      all_goals
       refine Sd.start [(false,0),(false,1),(false,2),(false,3),(false,4),(false,5),(false,6),(false,7)] (by kernel_rfl) (by kernel_rfl) (by kernel_rfl) ?_;dsimp only [Sd.aP,List.getElem?_cons_succ,List.getElem?_cons_zero]
       repeat (refine Sd.lit ?_;quiet_step (fail);refine bk ?_)
       refine Sd.done ?_;clear x4 rj;go_wp2
       go_ret3
       exact N2
 ·have SBF:jF S T V s=false:=by unfold jF;rw [ai h0];rfl
  have N2:=Hh (NO SBF);clear NO YES SBF HH H;generalize qw S T V s=a1 at *;generalize Rn S T V s=a2 at *;generalize jF S T V s=a3 at *;have d0:decide (sN s T < 0)=true:=bj (by omega);generalize sN s T=m at *;generalize sE s T=x at *;unfold fM at SA
  go_enter func197,ntmps197
  go_wp2_with fail;refine SA.mono ?_;rintro e w1 ⟨rfl,b1⟩;have B1:=Hh (b1.alloc b1.size (.cells #[.int .i64 x.1,.int .i64 x.2.1,.int .i64 x.2.2.1,.int .i64 x.2.2.2.1,.int .i64 x.2.2.2.2] 170));have hm0:m < 0:=by omega
  clear b1 SA;go_wp2
  go_ret3
  exact N2 _ B1
end Pa
namespace Ua
theorem qo (w:World) (k:Nat) (h:k < 8):Calls prog 200 #[.int .i64 (k+1:Nat)] w fun e w'=>e = .returned (.int .u8 (2 ^ k))/\w=w':=by
 rcases (by omega:k=0\/k=1\/k=2\/k=3\/k=4\/k=5\/k=6\/k=7) with rfl | rfl | rfl | rfl | rfl | rfl | rfl | rfl
 all_goals
  go_enter func200,ntmps200
  go_wp2
  go_ret
  exact ⟨dh (by decide),rfl⟩
theorem Cf (w:World) (F:Nat->Bool):Calls prog 201 #[.agg (dJ F)] w fun e w'=>e = .returned (.bool (par F 9))/\Below w.heap.size w w':=by
 have R0:=Hh (Row.new w F);have B0:=Hh ((aa w.heap.size w).alloc (ac _) (.cells (dJ F) 222))
 go_enter func201,ntmps201
 go_wp2
 go_loop [3,8] (fun o i=>∃ k:Nat,k<=9/\i = .int .i64 k/\o = .bool (par F k)) (fun _ i=>9 - (intOf i).toNat)
 case atStart=>exact ⟨0,by omega,rfl,rfl⟩
 case round =>
  obtain ⟨k,hk,rfl,rfl⟩:=hrel
  by_cases hlt:k < 9
  ·have c:=R0.cell (1+k) (by omega)
   have e:par F (k+1)=(par F k != F (1+k)):=by rw [par,Nat.add_comm 1 k]
   have E:=Hh e;clear e;go_wp2
   go_round
   case rel=>exact ⟨k+1,by omega,by go_num,by rw [E.out];cases par F k <;> cases F (1+k) <;> rfl⟩
   case measure=>simp [intOf];omega
  ·obtain rfl:k=9:=by omega
   go_wp2
   go_ret
   exact ⟨rfl,B0⟩
theorem abz (b:Int) (i:Nat):put b 1 i=false:=by unfold put;rw [am (by omega)]
theorem Gc (b:Int) (k:Nat) (h:1<=k) (i:Nat):upd (put b k) k (bit b (k - 1)) i=put b (k+1) i:=by
 unfold upd put
 by_cases e:i=k
 ·subst e;rw [aw rfl,aw (by omega)]
 ·rw [am e]
  by_cases c:1<=i/\i < k
  ·rw [aw c,aw (by omega)]
  ·rw [am c,am (by omega)]
def no (_:Nat):Bool:=false
def FP (w wr:World) (F:Nat->Bool):Prop:=Row wr w.heap.size no/\Row wr (w.heap.size+1) F/\Below w.heap.size w wr
variable {w wr:World} {F:Nat->Bool}
theorem FP.frame (h:FP w wr F):Row wr (w.heap.size+1) F:=h.2.1
theorem FP.res (h:FP w wr F):Row wr w.heap.size no:=h.1
theorem x9 (w:World) (F:Nat->Bool) (h:∀ i,i < 11->false=F i):FP w ((w.alloc (.cells (dJ no) 222)).alloc (.cells (dJ no) 222)) F:=by
 refine ⟨(Row.new w no).alloc _,?_,((aa _ _).alloc (ac _) _).alloc (by simp) _⟩;have:=Row.new (w.alloc (.cells (dJ no) 222)) no;have e:(w.alloc (.cells (dJ no) 222)).heap.size=w.heap.size+1:=by simp
 rw [e] at this;exact this.to h
theorem FP.jA {w wr:World} {F:Nat->Bool} (h:FP w wr F) (k:Nat) (hk:k < 11) (x:Bool):FP w (wr.setCell ⟨w.heap.size+1,k,none⟩ (.bool x)) (upd F k x) :=
 ⟨h.1.far (by simp) _,h.2.1.jA k hk x,h.2.2.setCell (by simp) _⟩
theorem FP.below {w wr w1:World} {F:Nat->Bool} (h:FP w wr F) (hb:Below wr.heap.size wr w1):FP w w1 F :=
 ⟨h.1.below hb h.1.lt,h.2.1.below hb h.2.1.lt,h.2.2.trans (hb.mono h.2.2.size)⟩
theorem FP.to {w wr:World} {F G:Nat->Bool} (h:FP w wr F) (e:∀ i,i < 11->F i=G i):FP w wr G:=⟨h.1,h.2.1.to e,h.2.2⟩
theorem tZ (w:World) (b:Int) (odd:Bool) (h0:0<=b) (h1:b<=255):Calls prog 198 #[.int .u8 b,.bool odd] w fun e w'=>e = .returned (.agg (dJ (pP b odd)))/\Below w.heap.size w w':=by
 have T0:=Hh (x9 w (put b 1) (fun i _=>(abz b i).symm))
 go_enter func198,ntmps198
 go_wp2
 go_loopw [6] (fun i wr=>∃ k:Nat,1<=k/\k<=9/\i = .int .i64 k/\Hid (FP w wr (put b k))) (fun i _=>9 - (intOf i).toNat)
 case atStart=>exact ⟨1,by omega,by omega,rfl,T0⟩
 case round =>
  obtain ⟨k,k1,k9,rfl,T⟩:=hrel
  by_cases hlt:k < 9
  ·obtain ⟨j,rfl⟩:∃ j,k=j+1:=⟨k - 1,by omega⟩
   have c:=T.out.2.1.cell (j+1) (by omega);have f:=T.out.2.1.frozen (j+1);go_wp2_with fail;refine (qo _ j (by omega)).mono ?_;rintro e w' ⟨rfl,rfl⟩;go_wp2
   go_roundw
   case rel=>exact ⟨j+1+1,by omega,by omega,by go_num,by rw [aaz b j h0 h1 (by omega)];exact (T.out.jA (j+1) (by omega) _).to (fun i _=>Gc b (j+1) (by omega) i)⟩
   case measure=>simp [intOf];omega
  ·obtain rfl:k=9:=by omega
   go_wp2_with (refine wpList_load_row rfl 222 _ rfl _ rfl _ _ _ _ T.out.2.1 underlying222 rfl (cB _) ?_)
   refine (Cf _ _).mono ?_;rintro e w1 ⟨rfl,b1⟩;have T1:=Hh (T.below b1);have c9:=T1.out.2.1.cell 9 (by omega);have c10:=T1.out.2.1.cell 10 (by omega);have f9:=T1.out.2.1.frozen 9;have f10:=T1.out.2.1.frozen 10;clear b1;have T2:=Hh ((T1.jA 9 (by omega) (par (put b 9) 9 != odd)).jA 10 (by omega) true)
   go_wp2_with (first
    | (refine wpList_load_row rfl 222 _ rfl _ rfl _ _ _ _ T2.out.2.1 underlying222 rfl (cB _) ?_)
    | (refine wpList_store_row rfl 222 _ _ rfl _ _ rfl rfl _ _ T2.out.1 (cB _) rfl (iF _) ?_))
   refine bp (results_cell_row rfl _ _ _ _ _ _ _ rfl (T2.out.1.row _) underlying222 rfl (cB _)) rfl ⟨rfl,?_⟩;exact aX T2.out.2.2 _ _ (ac _)
variable {a b c d m:Int}
theorem jg {p q:Bool} {k:IntKind} (h1:a=b) (h2:p=q) (h3:c=d):Ending.returned (.tuple #[.int k a,.bool p,.int .i64 c]) = .returned (.tuple #[.int k b,.bool q,.int .i64 d]):=by rw [h1,h2,h3]
theorem UJ (h:bad F=true):0=tb F/\false=tp F/\2=te F:=by unfold tb tp te;rw [h];exact ⟨rfl,rfl,rfl⟩
theorem MO (h:bad F=false):(val F 8:Int)=tb F/\par F 9=tp F/\0=te F:=by unfold tb tp te;rw [h];exact ⟨rfl,rfl,rfl⟩
theorem Vq (w:World) (F:Nat->Bool) (hb:bad F=true):Calls prog 170 #[.agg (dJ F)] w fun e w'=>e = .returned (.tuple #[.int .u8 (tb F),.bool (tp F),.int .i64 (te F)])/\Below w.heap.size w w':=by
 have R0:=Hh (Row.new w F);have B0:=Hh ((aa w.heap.size w).alloc (ac _) (.cells (dJ F) 222));have c0:=R0.cell 0 (by omega);have c10:=R0.cell 10 (by omega);have OB:=Hh (UJ hb);unfold bad at hb
 cases h0:F 0 with
 | true =>
   rw [h0] at c0;clear hb
   go_enter func170,ntmps170
   go_wp2
   go_ret3
   exact ⟨jg OB.out.1 OB.out.2.1 OB.out.2.2,B0⟩
 | false =>
   have h10:F 10=false:=by rw [h0] at hb;simpa using hb
   rw [h0] at c0;rw [h10] at c10;clear hb
   go_enter func170,ntmps170
   go_wp2
   go_ret3
   exact ⟨jg OB.out.1 OB.out.2.1 OB.out.2.2,B0⟩
theorem SF (w:World) (F:Nat->Bool) (hb:bad F=false):Calls prog 170 #[.agg (dJ F)] w fun e w'=>e = .returned (.tuple #[.int .u8 (tb F),.bool (tp F),.int .i64 (te F)])/\Below w.heap.size w w':=by
 have R0:=Hh (Row.new w F);have B0:=Hh ((aa w.heap.size w).alloc (ac _) (.cells (dJ F) 222));have c0:=R0.cell 0 (by omega);have c10:=R0.cell 10 (by omega);have OB:=Hh (MO hb);unfold bad at hb
 simp at hb
 obtain ⟨h0,h10⟩:=hb;rw [h0] at c0;rw [h10] at c10;clear h0 h10
 go_enter func170,ntmps170
 go_wp2
 go_loop [2,5] (fun x i=>∃ k:Nat,k<=8/\i = .int .i64 (k+1:Nat)/\x = .int .u8 (val F k:Nat)) (fun _ i=>9 - (intOf i).toNat)
 case atStart=>exact ⟨0,by omega,rfl,rfl⟩
 case round =>
  obtain ⟨k,hk,rfl,rfl⟩:=hrel
  by_cases hlt:k < 8
  ·have c:=R0.cell (k+1) (by omega)
   have hv:=Em F k
   cases hF:F (k+1) with
   | true =>
     rw [hF] at c;have E:=Hh (or_bit (val F k) k hlt hv);have V:Hid (val F (k+1)=val F k+2 ^ k):=by show val F (k+1)=_;rw [val,hF];rfl
     clear hF hv;go_wp2_with fail;refine (qo _ k hlt).mono ?_;rintro e w' ⟨rfl,rfl⟩;go_wp2
     go_round
     case rel=>exact ⟨k+1,by omega,by go_num,by rw [V.out,E.out]⟩
     case measure=>simp [intOf];omega
   | false =>
     rw [hF] at c;have V:Hid (val F (k+1)=val F k):=by show val F (k+1)=_;rw [val,hF];rfl
     clear hF hv;go_wp2
     go_round
     case rel=>exact ⟨k+1,by omega,by go_num,by rw [V.out]⟩
     case measure=>simp [intOf];omega
  ·obtain rfl:k=8:=by omega
   go_wp2_with (refine wpList_load_row rfl 222 _ rfl _ rfl _ _ _ _ R0 underlying222 rfl (cB _) ?_)
   refine (Cf _ _).mono ?_;rintro e w1 ⟨rfl,b1⟩;have B1:=aW B0 b1;clear b1;go_wp2
   go_ret3
   exact ⟨jg OB.out.1 OB.out.2.1 OB.out.2.2,B1⟩
theorem kZ (w:World) (F:Nat->Bool):Calls prog 170 #[.agg (dJ F)] w fun e w'=>e = .returned (.tuple #[.int .u8 (tb F),.bool (tp F),.int .i64 (te F)])/\Below w.heap.size w w':=by
 cases h:bad F with
 | true=>exact Vq w F h
 | false=>exact SF w F h
theorem adi (F:Nat->Bool) (m:Int) (i:Nat):turn F m 0 i=F i:=by unfold turn;rw [am (by omega)]
variable {k:Nat}
theorem Yd (h:bit m k=true) (i:Nat):upd (turn F m k) k (!turn F m k k) i=turn F m (k+1) i:=by
 unfold upd turn
 by_cases e:i=k
 ·subst e;rw [aw rfl,am (by omega),aw (by omega),h];simp
 ·rw [am e]
  by_cases c:i < k
  ·rw [aw c,aw (by omega)]
  ·rw [am c,am (by omega)]
theorem Z8 (h:bit m k=false) (i:Nat):turn F m k i=turn F m (k+1) i:=by
 unfold turn
 by_cases e:i=k
 ·subst e;rw [am (by omega),aw (by omega),h];simp
 ·by_cases c:i < k
  ·rw [aw c,aw (by omega)]
  ·rw [am c,am (by omega)]
def Own2 (w wr:World) (F:Nat->Bool):Prop:=Row wr w.heap.size F/\Row wr (w.heap.size+1) no/\Below w.heap.size w wr
theorem Js (w:World) (F:Nat->Bool):Own2 w ((w.alloc (.cells (dJ F) 222)).alloc (.cells (dJ no) 222)) F:=by
 refine ⟨(Row.new w F).alloc _,?_,((aa _ _).alloc (ac _) _).alloc (by simp) _⟩;have:=Row.new (w.alloc (.cells (dJ F) 222)) no;have e:(w.alloc (.cells (dJ F) 222)).heap.size=w.heap.size+1:=by simp
 rw [e] at this;exact this
theorem Own2.jA {w wr:World} {F:Nat->Bool} (h:Own2 w wr F) (k:Nat) (hk:k < 11) (x:Bool):Own2 w (wr.setCell ⟨w.heap.size,k,none⟩ (.bool x)) (upd F k x) :=
 ⟨h.1.jA k hk x,h.2.1.far (by simp) _,h.2.2.setCell (by simp) _⟩
theorem Own2.to {w wr:World} {F G:Nat->Bool} (h:Own2 w wr F) (e:∀ i,i < 11->F i=G i):Own2 w wr G:=⟨h.1.to e,h.2.1,h.2.2⟩
theorem JW (w:World) (F:Nat->Bool) (m:Int):Calls prog 199 #[.agg (dJ F),.int .i64 m] w fun e w'=>e = .returned (.agg (dJ (turn F m 11)))/\Below w.heap.size w w':=by
 have T0:=Hh ((Js w F).to (fun i _=>(adi F m i).symm))
 go_enter func199,ntmps199
 go_wp2
 go_loopw [6] (fun i wr=>∃ k:Nat,k<=11/\i = .int .i64 k/\Hid (Own2 w wr (turn F m k))) (fun i _=>11 - (intOf i).toNat)
 case atStart=>exact ⟨0,by omega,rfl,T0⟩
 case round =>
  obtain ⟨k,hk,rfl,T⟩:=hrel
  by_cases hlt:k < 11
  ·have c:=T.out.1.cell k hlt
   have f:=T.out.1.frozen k
   cases hb:bit m k with
   | true =>
     have TY:=Hh (Yd (F:=F) hb);have tt:=(Gx m k).trans hb;clear hb;go_wp2
     go_roundw
     case rel=>exact ⟨k+1,by omega,by go_num,(T.out.jA k hlt _).to (fun i _=>TY.out i)⟩
     case measure=>simp [intOf];omega
   | false =>
     have TN:=Hh (Z8 (F:=F) hb);have tt:=(Gx m k).trans hb;clear hb;go_wp2
     go_roundw
     case rel=>exact ⟨k+1,by omega,by go_num,T.out.to (fun i _=>TN.out i)⟩
     case measure=>simp [intOf];omega
  ·obtain rfl:k=11:=by omega
   go_wp2_with (first
    | (refine wpList_load_row rfl 222 _ rfl _ rfl _ _ _ _ T.out.1 underlying222 rfl (cB _) ?_)
    | (refine wpList_store_row rfl 222 _ _ rfl _ _ rfl rfl _ _ T.out.2.1 (cB _) rfl (iF _) ?_))
   refine bp (results_cell_row rfl _ _ _ _ _ _ _ rfl (T.out.2.1.row _) underlying222 rfl (cB _)) rfl ⟨rfl,?_⟩;exact aX T.out.2.2 _ _ (by omega)
end Ua
namespace Pa
open Go.Maps
open Ua (te tZ kZ JW aX)
attribute [local irreducible] Sd.bA wpQuiet Sg.dG
def jd (w:World) (n:Int) (F:Nat->Bool) (b:Bool) (e:Ending) (w':World):Prop:=e = .returned (.tuple #[.int .i64 n,.agg (dJ F),.bool b])/\Below w.heap.size w w'
theorem jH {fn:Func} {a p c:Tmp} (h:fn.results=#[.tmp a,.cell p 222,.tmp c]) (tmps:Array Value) (w:World) (g:Nat) (n:Value) (F:Nat->Bool) (b:Value)
 (ha:tmps.getD a undef=n) (hp:tmps.getD p undef = .pointer (some ⟨g,0,none⟩)) (hc:tmps.getD c undef=b) (h1:Row w g F) :
 (results fn tmps).run prog w = .ok (.tuple #[n,.agg (dJ F),b]) w:=by
 have e1:=h1.load;have hp':tmps[p]?.getD undef = .pointer (some ⟨g,0,none⟩):=by simpa using hp
 have ha':tmps[a]?.getD undef=n:=by simpa using ha
 have hc':tmps[c]?.getD undef=b:=by simpa using hc
 simp only [results,h]
 simp [Result.andThen,hp',ha',hc',asAddr,e1]
structure wh (w wr:World) (F:Nat->Bool):Prop where
 row:Row wr w.heap.size F
 aI:Below w.heap.size w wr
theorem wh.below {w wr wr':World} {F:Nat->Bool} (h:wh w wr F) (b:Below wr.heap.size wr wr'):wh w wr' F:=⟨h.row.below b h.row.lt,h.aI.trans (b.mono h.aI.size)⟩
variable {w wr w':World}
theorem wh.set {F:Nat->Bool} (h:wh w wr F) (G:Nat->Bool):wh w (wr.setRow w.heap.size (dJ G)) G:=⟨h.row.row G,aX h.aI _ _ (ac _)⟩
theorem wh.to {w wr:World} {F G:Nat->Bool} (h:wh w wr F) (e:∀ i,i < 11->F i=G i):wh w wr G:=⟨h.row.to e,h.aI⟩
theorem adn (w:World):wh w (w.alloc (.cells (dJ dM) 222)) dM:=⟨Row.new w dM,(aa w.heap.size w).alloc (ac _) _⟩
variable {vs vt vl vp:Value} {S:bX} {T:LL} {V:List Bool}
theorem YW (H:Ns w vs vt vl S T V) (s:Int):mD (Rn S T V s):=by
 unfold Rn
 split
 ·rename_i h
  have h0:0<=sN s T:=by
   unfold jF at h;simp only [ce,cL] at h;exact h.1.1
  obtain ⟨n,hn,hlt,_⟩:=iD H.ok h0;obtain ⟨_,_,_,_,_,_,hS⟩:=H.st.one (k:=n) (by rw [← H.lt];exact hlt);unfold Qf;rw [hn];exact abP (abj hS.okA _ _) _
 ·unfold mD;omega
variable {P:List S2}
theorem wR (H:Ns w vs vt vl S T V) (RP:Rd K2 w vp P) (s:Int):Calls prog 169 #[vs,vt,vl,vp,.int .i64 s] w (jd w (qw S T V s) (ni S T V P s) (jF S T V s)):=by
 have SA:=Hh (fun W b=>Xo (H.below (w':=W) b) s);unfold vH at SA;have F0:=Hh (adn w);have RR:=Hh RP;obtain ⟨ap,cp,rfl,_,hm,hA⟩:=RP;have HA:=Hh hA;unfold maxLen at hm
 have XB:Hid (jF S T V s=true->mD (Rn S T V s)/\ni S T V P s=sq P s (pP (Rn S T V s) false) P.length):=Hh (fun h=>⟨YW H s,by
  unfold ni Rn
  rw [aw h,aw h]⟩)
 have LO:Hid (jF S T V s=false->ni S T V P s=dM/\qw S T V s = -1):=Hh (fun h=>by unfold ni qw;rw [h];exact ⟨rfl,rfl⟩);clear hA H;generalize hn:P.length=n at *;have HN:=Hh hn;clear hn;generalize ni S T V P s=FF at *;generalize qw S T V s=m at *;generalize Rn S T V s=x at *;generalize jF S T V s=bb at *
 go_enter func169,ntmps169
 go_wp2_with fail;have F1:Hid (wh w (w.alloc (.cells #[.bool false,.bool false,.bool false,.bool false,.bool false,.bool false,.bool false,.bool false,.bool false,.bool false,.bool false] 222)) dM):=F0;clear F0;generalize (w.alloc (.cells #[.bool false,.bool false,.bool false,.bool false,.bool false,.bool false,.bool false,.bool false,.bool false,.bool false,.bool false] 222))=W at *;refine (SA.out W F1.out.aI).mono ?_;rintro e w1 ⟨rfl,b1⟩;have F2:=Hh (F1.out.below b1);clear b1 F1 SA
 cases hb:bb with
 | false =>
   have EF:=Hh (LO.out hb);clear LO XB;have F3:=Hh (F2.out.set dM)
   go_wp2_with ((with_reducible refine dB (o:=⟨none,_,_,_,_,_⟩) rfl _ _ rfl w.heap.size dM dM ?_ ?_ F2.out.row ?_);(exact rfl);(exact rfl))
   (try simp only [Exit.inBlock,Exit.then])
   refine bp (jH rfl _ _ _ _ dM _ rfl rfl rfl F3.out.row) rfl ?_;exact ⟨by rw [EF.out.1,EF.out.2,hb];exact rfl,F3.out.aI⟩
 | true =>
   have EF:=Hh (XB hb);clear LO XB;obtain ⟨x0,x1⟩:=EF.out.1;go_wp2_with fail;refine (tZ w1 x false x0 x1).mono ?_;rintro e w2 ⟨rfl,b2⟩;have F3:=Hh ((F2.below b2).set (pP x false));have F4:=Hh (F2.below b2);clear b2 F2 x0 x1
   go_wp2_with (refine wpList_store_row rfl 222 _ _ rfl _ _ rfl rfl _ _ F4.row (cB (pP x false)) rfl (iF _) ?_)
   clear F4;generalize w2.setRow w.heap.size (dJ (pP x false))=W2 at *
   go_loopw [32] (fun i wr=>∃ k:Nat,k<=n/\i = .int .i64 k/\Hid (wh w wr (sq P s (pP x false) k))) (fun i _=>n - (intOf i).toNat)
   case atStart=>exact ⟨0,cg _,rfl,F3⟩
   case round =>
    obtain ⟨k,hk,rfl,I⟩:=hrel;clear F3
    by_cases hlt:k < n
    ·obtain ⟨b,off,rfl,A1⟩:=HA (by omega)
     obtain ⟨c0,c1⟩:=at2 (A1.below I.aI) (i:=k) (by have:=HN.out;omega);have Y:=Hh (Fg P s (pP x false) (j:=k) (by have:=HN.out;omega));have N:=Hh (Gn P s (pP x false) (j:=k) (by have:=HN.out;omega));generalize pat P k=z at *;obtain ⟨z1,z2⟩:=z;simp only at c0 c1 Y N;generalize hG:sq P s (pP x false) (k+1)=G' at *;have EG:=Hh hG;clear hG;generalize sq P s (pP x false) k=G at *;have I1:=Hh (I.out.below ((aa wr.heap.size wr).alloc (ac _) (.cells #[.int .i64 z1,.int .i64 z2] 95)));clear A1 I
     by_cases h1:z1=s
     ·subst h1
      have YY:=Y.out rfl;have TA:=Hh (JW (wr.alloc (.cells #[.int .i64 z1,.int .i64 z2] 95)) G (bits BinOp.and .i64 z2 2046));have TE:Hid (∀ i,i < 11->Ua.turn G (bits BinOp.and .i64 z2 2046) 11 i=G' i):=Hh (fun i hi=>by rw [YY];exact ZD G z2 i hi);clear Y N YY;have SP:Hid ((wr.alloc (.cells #[.int .i64 z1,.int .i64 z2] 95)).heap[wr.heap.size]? = some (.cells #[.int .i64 z1,.int .i64 z2] 95 (0,0))):=Hh (bc wr _);go_upto_region 9 with fail;generalize (wr.alloc (.cells #[.int .i64 z1,.int .i64 z2] 95))=W4 at *;have s1:W4.cell? ⟨wr.heap.size,1,none⟩=some (.int .i64 z2):=ah SP.out 1
      go_wp2_with (with_reducible refine dO (o:=⟨some 40,_,_,_,_,_⟩) rfl _ rfl w.heap.size G ?_ I1.out.row ?_);(exact rfl)
      refine TA.out.mono ?_;rintro e w5 ⟨rfl,b5⟩;have I5:=Hh (I1.out.below b5);have I6:=Hh ((I5.out.set (Ua.turn G (bits BinOp.and .i64 z2 2046) 11)).to TE.out);clear b5 I1 TA TE SP s1
      go_wp2_with ((with_reducible refine dB (o:=⟨none,_,_,_,_,_⟩) rfl _ _ rfl w.heap.size (Ua.turn G (bits BinOp.and .i64 z2 2046) 11) G ?_ ?_ I5.out.row ?_);(exact rfl);(exact rfl))
      go_roundw
      case rel=>exact ⟨k+1,by omega,by go_num,by rw [EG.out];exact I6⟩
      case measure=>simp [intOf];omega
     ·have I2:Hid (wh w (wr.alloc (.cells #[.int .i64 z1,.int .i64 z2] 95)) (sq P s (pP x false) (k+1))):=by rw [EG.out,N.out h1];exact I1
      have d1:(z1 == s)=false:=by simpa using h1
      clear Y N I1;go_wp2
      go_roundw
      case rel=>exact ⟨k+1,by omega,by go_num,I2⟩
      case measure=>simp [intOf];omega
    ·obtain rfl:k=n:=by omega
     have EE:=Hh EF.out.2;have FE:Hid (dJ FF=dJ (sq P s (pP x false) k)):=Hh (by rw [EE.out]);go_upto_region 11 with fail;clear EF EE;generalize sq P s (pP x false) k=G at *;have C0:wh w wr.drew G:=⟨I.row,I.aI.trans ((aa wr.heap.size wr).drew.mono I.aI.size)⟩;have k0:=Sc.aA (C:=fun W=>wh w W G) (a:=⟨w.heap.size,0,none⟩) (fun W' h=>h.row.cell 0 (by omega));have k1:=Sc.aA (C:=fun W=>wh w W G) (a:=⟨w.heap.size,1,none⟩) (fun W' h=>h.row.cell 1 (by omega));have k2:=Sc.aA (C:=fun W=>wh w W G) (a:=⟨w.heap.size,2,none⟩) (fun W' h=>h.row.cell 2 (by omega));have k3:=Sc.aA (C:=fun W=>wh w W G) (a:=⟨w.heap.size,3,none⟩) (fun W' h=>h.row.cell 3 (by omega));have k4:=Sc.aA (C:=fun W=>wh w W G) (a:=⟨w.heap.size,4,none⟩) (fun W' h=>h.row.cell 4 (by omega));have k5:=Sc.aA (C:=fun W=>wh w W G) (a:=⟨w.heap.size,5,none⟩) (fun W' h=>h.row.cell 5 (by omega));have k6:=Sc.aA (C:=fun W=>wh w W G) (a:=⟨w.heap.size,6,none⟩) (fun W' h=>h.row.cell 6 (by omega));have k7:=Sc.aA (C:=fun W=>wh w W G) (a:=⟨w.heap.size,7,none⟩) (fun W' h=>h.row.cell 7 (by omega));have k8:=Sc.aA (C:=fun W=>wh w W G) (a:=⟨w.heap.size,8,none⟩) (fun W' h=>h.row.cell 8 (by omega));have k9:=Sc.aA (C:=fun W=>wh w W G) (a:=⟨w.heap.size,9,none⟩) (fun W' h=>h.row.cell 9 (by omega));have k10:=Sc.aA (C:=fun W=>wh w W G) (a:=⟨w.heap.size,10,none⟩) (fun W' h=>h.row.cell 10 (by omega));have ne:Nonempty (Sc.In (fun W=>wh w W G)):=⟨⟨_,C0⟩⟩;refine Sc.start (fun W=>wh w W G) [(false,0),(false,1),(false,2),(true,3),(false,4)] (by kernel_rfl) (by kernel_rfl) (by kernel_rfl) C0 ?_;dsimp only [Sd.aP,List.getElem?_cons_succ,List.getElem?_cons_zero]
     repeat (refine Sd.lit ?_;quiet_step (fail);refine bk ?_)
     refine Sd.call (by rfl) (fun K hK=>?_);refine wp_store_row 222 _ _ rfl w.heap.size (dJ G) rfl rfl 222 _ C0.row (cB G) rfl (iF G) ?_;have C1:=C0.set G;refine hK _ _ (Sc.Cl.of C1) ?_;clear hK K k0 k1 k2 k3 k4 k5 k6 k7 k8 k9 k10 C0 I;generalize wr.drew.setRow w.heap.size (dJ G)=W9 at *;refine Sd.lit ?_
     quiet_step (fail)
     refine bk ?_;refine Sd.done ?_;have C2:=Hh C1;clear C1;go_wp2
     (try simp only [Exit.inBlock,Exit.then])
     refine bp (jH rfl _ _ _ _ G _ rfl rfl rfl C2.row) rfl ?_;exact ⟨by rw [FE.out,hb];exact rfl,C2.out.aI⟩
def sM (w:World) (x:Int) (b:Bool) (e:Ending) (w':World):Prop:=e = .returned (.tuple #[.int .u8 x,.bool b])/\Below w.heap.size w w'
variable {s:Int}
theorem acM (h:xG S T V P s=false) (b:Below w.heap.size w w'):sM w (FU S T V P s) (xG S T V P s) (.returned (.tuple #[.int .u8 0,.bool false])) w':=by
 refine ⟨?_,b⟩;unfold FU;rw [h]
 rfl
theorem ZG (h:xG S T V P s=true) (b:Below w.heap.size w w'):sM w (FU S T V P s) (xG S T V P s) (.returned (.tuple #[.int .u8 (tb (ni S T V P s)),.bool true])) w':=by
 refine ⟨?_,b⟩;unfold FU;rw [h]
 rfl
theorem nD (H:Ns w vs vt vl S T V) (RP:Rd K2 w vp P) (s:Int):Calls prog 138 #[vs,vt,vl,vp,.int .i64 s] w (sM w (FU S T V P s) (xG S T V P s)):=by
 have FA:=Hh (wR H RP s);unfold jd at FA;have NO:=Hh (fun h w' b=>acM (S:=S) (T:=T) (V:=V) (P:=P) (s:=s) (w:=w) (w':=w') h b);have YES:=Hh (fun h w' b=>ZG (S:=S) (T:=T) (V:=V) (P:=P) (s:=s) (w:=w) (w':=w') h b);have HB:Hid (xG S T V P s=(jF S T V s && decide (te (ni S T V P s)=0) && !tp (ni S T V P s))):=Hh rfl;clear H RP;generalize FU S T V P s=x at *;generalize xG S T V P s=hb at *;generalize ni S T V P s=F at *;generalize qw S T V s=m at *;generalize jF S T V s=bb at *
 go_enter func138,ntmps138
 go_wp2_with fail;refine FA.out.mono ?_;rintro e w1 ⟨rfl,b1⟩;have B1:=Hh (b1.alloc b1.size (.cells (dJ F) 222));have R1:=Hh (Row.new w1 F);clear b1 FA;have TA:=Hh (kZ (w1.alloc (.cells (dJ F) 222)) F)
 cases bb with
 | false =>
   have N2:=Hh (NO.out (by rw [HB.out];rfl) _ B1.out);clear NO YES HB TA
   go_wp2_with ((with_reducible refine dU (o:=⟨none,_,_,_,_,_⟩) rfl _ _ rfl F ?_ ?_ ?_);(exact rfl);(exact rfl))
   go_ret2
   exact N2.out
 | true =>
   go_wp2_with (first
    | ((with_reducible refine dU (o:=⟨none,_,_,_,_,_⟩) rfl _ _ rfl F ?_ ?_ ?_);(exact rfl);(exact rfl))
    | ((with_reducible refine dO (o:=⟨some 31,_,_,_,_,_⟩) rfl _ rfl w1.heap.size F ?_ R1.out ?_);(exact rfl)))
   refine TA.out.mono ?_;rintro e w2 ⟨rfl,b2⟩;have B2:=aW B1 b2;clear b2 TA B1 R1;generalize tp F=p at *
   by_cases he:te F=0
   ·cases p with
    | true =>
      have N2:=Hh (NO (by rw [HB.out];simp) _ B2.out);clear NO YES HB;generalize tb F=y at *;generalize te F=z at *;go_wp2
      go_ret2
      exact N2
    | false =>
      have N2:=Hh (YES (by rw [HB.out,bj he];rfl) _ B2.out);clear NO YES HB;generalize tb F=y at *;generalize te F=z at *;subst he;go_wp2
      go_ret2
      exact N2
   ·have N2:=Hh (NO (by rw [HB.out,ai he];rfl) _ B2.out)
    clear NO YES HB;generalize tb F=y at *;generalize te F=z at *;have d0:(z != 0)=true:=by simpa using he
    go_wp2
    go_ret2
    exact N2
end Pa
namespace Ck
attribute [local irreducible] Sd.bA wpQuiet
def gD (w:World) (L:LL) (e:Ending) (w':World):Prop:=e = .returned (.tuple #[.int .i64 (tN L),.int .i64 (tE L)])/\Below w.heap.size w w'
theorem zK (w:World) (v:Value) (L:LL) (R:kF w v L):Calls prog 168 #[v] w (gD w L):=by
 have en:=enters_of func192 (by kernel_rfl) rfl;have IA:=Hh (kH w v L 192 bad en R (fun W u l r=>Yo W u l r));rw [show idx bad 0 L=bI L from rfl] at IA;have SA:=Hh (fun (W:World) (hb:Below w.heap.size w W)=>IV W v L (R.below hb));have TF:=Hh (fun h=>Kt (L:=L) h);have TC:=Hh (fun h h2=>NZ (L:=L) h h2);have TG:=Hh (fun h h2 h3=>Vj (L:=L) h h2 h3);have TO:=Hh (fun h h2 h3=>aeN (L:=L) h h2 h3);have IS:Hid (¬ 0<=bI L->DK L):=fun h k hk x hx=>yT (jm h k hk) hx;have CS:=Hh (fun h=>Md (L:=L) h);have GS:=Hh (fun h=>Wm (L:=L) h);have RL:=Hh R;obtain ⟨a,cap,rfl,_⟩:=R.slice;clear R en;unfold gD
 by_cases h1:0<=bI L
 ·obtain ⟨e1,e2⟩:=TF h1
  rw [e1,e2];clear TF TC TG TO IS CS GS e1 e2;generalize bI L=r at *;generalize L.length=n at *
  go_enter func168,ntmps168
  go_wp2_with fail;refine IA.mono ?_;rintro e w1 ⟨rfl,b1⟩;go_wp2
  go_ret2
  exact ⟨rfl,b1⟩
 ·have is_:=IS.out h1
  have cs:=CS.out h1;have gs:=GS.out h1;have ec:=enters_of func214 (by kernel_rfl) rfl;have eg:=enters_of func215 (by kernel_rfl) rfl;have FC:Hid (∀ W B,Below w.heap.size w W->fT W B (sF L)->∃ x,Calls prog 194 #[.slice a L.length cap,.func (.func 214) #[] #[.pointer (some ⟨B,0,none⟩)]] W (eZ W (FT L) x)):=fun W B hb hr=>by
   have:=Az W _ L 214 #[.pointer (some ⟨B,0,none⟩)] (qc (sF L)) ec (RL.below hb) (PG W B (sF L) L is_ hr);rw [cs] at this;exact ⟨_,this⟩
  have FG:Hid (∀ W B,Below w.heap.size w W->fT W B (sF L)->∃ x,Calls prog 194 #[.slice a L.length cap,.func (.func 215) #[] #[.pointer (some ⟨B,0,none⟩)]] W (eZ W (JY L) x)):=fun W B hb hr=>by
   have:=Az W _ L 215 #[.pointer (some ⟨B,0,none⟩)] (qg (sF L)) eg (RL.below hb) (Tn W B (sF L) L is_ hr);rw [gs] at this;exact ⟨_,this⟩
  have TC':=Hh (TC h1);have TG':=Hh (TG h1);have TO':=Hh (TO h1);clear is_ cs gs ec eg TF IS CS GS TC TG TO RL;generalize sF L=F at *;generalize bI L=r at *;generalize FT L=rc at *;generalize JY L=rg at *;generalize tN L=rn at *;generalize tE L=re at *;generalize L.length=n at *
  go_enter func168,ntmps168
  go_wp2_with fail;refine IA.mono ?_;rintro e w1 ⟨rfl,b1⟩;have SB:=Hh (SA w1 b1);have B1:=Hh b1;clear b1 SA IA;go_wp2_with fail;refine SB.mono ?_;rintro e w2 ⟨rfl,b2⟩;have B2:=aW B1 b2;clear b2 B1 SB
  go_upto_region 5 with (with_reducible refine Dt rfl (.tmp 4) (.tmp 11) rfl F rfl rfl ?_)
  have R3:=Hh (fT.new w2 F);have B3:=Hh (B2.out.alloc B2.out.size (.cells (ar F) 311));generalize w2.alloc (.cells (ar F) 311)=V at *;generalize w2.heap.size=g at *;clear B2
  go_wp2_with (with_reducible refine Pw rfl (.tmp 4) rfl g F rfl R3.out ?_)
  refine (RQ V F).mono ?_;rintro e w4 ⟨rfl,rfl⟩;have b4:=(aa V.heap.size V).alloc (ac _) (.cells (ar F) 311);have R4:=Hh (R3.below b4 R3.lt);have B4:=aW B3 b4;obtain ⟨xc,fc⟩:=FC (V.alloc (.cells (ar F) 311)) V.heap.size B4 (fT.new V F);have CC:=Hh fc;clear b4 R3 B3 fc FC;generalize V.heap.size=gv at *;generalize V.alloc (.cells (ar F) 311)=V4 at *;unfold eZ fM at CC;go_wp2_with fail;refine CC.mono ?_;rintro e w5 ⟨rfl,b5⟩;have R5:=Hh (R4.below b5 R4.lt);have B5:=Hh (B4.out.trans (b5.mono B4.out.size));clear b5 R4 B4 CC
  by_cases h2:0<=rc
  ·obtain ⟨rfl,rfl⟩:=TC'.out h2
   clear TC' TG' TO';go_wp2
   go_ret2
   exact ⟨rfl,B5.out⟩
  ·have TG2:=Hh (TG'.out (by omega))
   have TO2:=Hh (TO'.out (by omega));clear TC' TG' TO';go_upto_region 8 with fail
   go_wp2_with (with_reducible refine Pw rfl (.tmp 4) rfl g F rfl R5.out ?_)
   refine (aaA w5 F).mono ?_;rintro e w6 ⟨rfl,rfl⟩;have b6:=(aa w5.heap.size w5).alloc (ac _) (.cells (ar F) 311);have B6:=aW B5 b6;obtain ⟨xg,fg⟩:=FG (w5.alloc (.cells (ar F) 311)) w5.heap.size B6 (fT.new w5 F);have CC:=Hh fg;clear b6 R5 B5 fg FG;generalize w5.heap.size=g5 at *;generalize w5.alloc (.cells (ar F) 311)=V6 at *;unfold eZ fM at CC;go_wp2_with fail;refine CC.mono ?_;rintro e w7 ⟨rfl,b7⟩;have B7:=aW B6 b7;clear b7 B6 CC
   by_cases h3:0<=rg
   ·obtain ⟨rfl,rfl⟩:=TG2 h3
    clear TG2 TO2;go_wp2
    go_ret2
    exact ⟨rfl,B7⟩
   ·obtain ⟨rfl,rfl⟩:=TO2 (by omega)
    clear TG2 TO2;go_wp2
    go_ret2
    exact ⟨rfl,B7⟩
end Ck
namespace Pa
open Go.Maps
open Ck (zK gD)
def nI (ps:List (Option Nat)):Int:=match ps.findIdx? Option.isNone with | some k=>k | none=>-1
def nB (ps:List (Option Nat)):Bool:=ps.any Option.isNone
variable {ps:List (Option Nat)}
theorem adA {k:Nat} (hk:k < ps.length) (h:∀ j,j < k->(ps.getD j none).isSome=true) (hn:ps.getD k none=none):nI ps=k:=by
 have e:ps.findIdx? Option.isNone=some k:=by
  rw [List.findIdx?_eq_some_iff_getElem];refine ⟨hk,?_,fun j hj=>?_⟩
  ·rw [af,aq hk] at hn
   have:ps[k]=none:=hn;rw [this];rfl
  ·have:=h j hj
   rw [af,aq (by omega)] at this;have h2:=this
   cases e2:ps[j]'(by omega) with
   | none=>rw [e2] at h2;cases h2
   | some q=>simp
 unfold nI;rw [e]
theorem YP (h:∀ j,j < ps.length->(ps.getD j none).isSome=true):nI ps = -1:=by
 have e:ps.findIdx? Option.isNone=none:=by
  rw [List.findIdx?_eq_none_iff]
  intro x hx
  obtain ⟨j,hj,e⟩:=dy hx;have:=h j hj;rw [af,aq hj] at this;have h2:=this;rw [e] at h2
  cases x with
  | none=>cases h2
  | some q=>rfl
 unfold nI;rw [e]
theorem adX (ps:List (Option Nat)):decide (0<=nI ps)=nB ps:=by
 unfold nI nB
 rcases e:ps.findIdx? Option.isNone with _ | k
 ·have:=List.findIdx?_eq_none_iff.1 e
  rw [show ps.any Option.isNone=false from List.any_eq_false.2 fun x hx=>by have h:=this x hx;cases x <;> simp_all]
  rfl
 ·obtain ⟨hk,h,_⟩:=List.findIdx?_eq_some_iff_getElem.1 e
  rw [show ps.any Option.isNone=true from dT.2 ⟨_,dg hk,h⟩];exact bj (Int.natCast_nonneg k)
theorem aay (l:List Nat):nB (l.map some)=false:=by
 unfold nB;rw [List.any_eq_false]
 intro x hx
 obtain ⟨y,_,rfl⟩:=dp.1 hx
 simp
variable {P:Program}
theorem Uw (W:World) (d:Nat) (t te:TypeId) (a:Addr) (h:P.underlying t=some (.pointer te)):(Op.equalIn (d+1) t (.pointer none) (.pointer (some a))).run P W = .ok false W:=by
 simp [Op.equalIn,run_underlying h]
theorem eq_nil (W:World) (t te:TypeId) (a:Addr) (h:P.underlying t=some (.pointer te)):(Op.equal t (.pointer none) (.pointer (some a))).run P W = .ok false W:=Uw W 9999 t te a h
theorem aak (W:World) (t te:TypeId) (a:Addr) (h:P.underlying t=some (.pointer te)):(binOp .eql t (.pointer none) (.pointer (some a))).run P W = .ok (.bool false) W:=by
 simp only [binOp]
 simp [eq_nil W t te a h]
theorem acF (q:Nat) (W:World):(binOp .eql 72 (.pointer none) (.pointer (some ⟨q,0,none⟩))).run prog W = .ok (.bool false) W:=aak W _ _ _ underlying72
theorem kH (w:World) (v:Value) (ps:List (Option Nat)) (R:Rd KP w v ps):Calls prog 190 #[v,.pointer none] w fun e w'=>e = .returned (.int .i64 (nI ps))/\Below w.heap.size w w':=by
 have HIT:Hid (∀ k,k < ps.length->(∀ j,j < k->(ps.getD j none).isSome=true)->ps.getD k none=none->nI ps=k):=Hh (fun k hk h hn=>adA hk h hn);have MISS:Hid ((∀ j,j < ps.length->(ps.getD j none).isSome=true)->nI ps = -1):=Hh YP;obtain ⟨a,cap,rfl,_,hm,hA⟩:=R;have HA:=Hh hA;unfold maxLen at hm;clear hA;generalize hn:ps.length=n at *;have HN:=Hh hn;clear hn;generalize nI ps=r at *
 go_enter func190,ntmps190
 go_wp2
 go_loopw [8] (fun i wr=>∃ k:Nat,k<=n/\i = .int .i64 k/\Hid (Below w.heap.size w wr)/\Hid (∀ j,j < k->(ps.getD j none).isSome=true)) (fun i _=>n - (intOf i).toNat)
 case atStart=>exact ⟨0,cg _,rfl,aa _ _,fun j hj=>by omega⟩
 case round =>
  obtain ⟨k,hk,rfl,bw,hs⟩:=hrel
  by_cases hlt:k < n
  ·obtain ⟨b,off,rfl,A1⟩:=HA (by omega)
   have c:=atP (A1.below bw) (i:=k) (by have:=HN.out;omega);have HT:=Hh (HIT k hlt hs)
   have NX:Hid ((ps.getD k none).isSome=true->∀ j,j < k+1->(ps.getD j none).isSome=true):=Hh (fun g j hj=>by
    by_cases e:j=k
    ·rw [e];exact g
    ·exact hs j (by omega))
   clear A1
   cases hp:ps.getD k none with
   | none =>
     rw [hp] at c;have E:=Hh (HT hp);unfold pv at c;simp only [Option.map_none] at c;clear HT NX HIT MISS;go_wp2
     go_ret
     exact ⟨by rw [E.out];rfl,bw.out⟩
   | some q =>
     rw [hp] at c;have S1:=Hh (NX (by rw [hp];rfl));unfold pv at c;simp only [fd] at c;have hN:=acF q;clear HT NX;go_wp2
     go_roundw
     case rel=>exact ⟨k+1,by omega,by go_num,bw,S1⟩
     case measure=>simp [intOf];omega
  ·obtain rfl:k=n:=by omega
   have E:=Hh (MISS hs);go_wp2
   go_ret
   exact ⟨by rw [E.out];rfl,bw.out⟩
theorem oP (w:World) (v:Value) (ps:List (Option Nat)) (R:Rd KP w v ps):Calls prog 167 #[v,.pointer none] w fun e w'=>e = .returned (.bool (nB ps))/\Below w.heap.size w w':=by
 have C:=Hh (kH w v ps R);have E:=Hh (adX ps);clear R;generalize nI ps=r at *;generalize nB ps=q at *
 go_enter func167,ntmps167
 go_wp2_with fail;refine C.mono ?_;rintro e w1 ⟨rfl,b1⟩;go_wp2
 go_ret
 exact ⟨by rw [← E.out];rfl,b1⟩
def fE (ps:List (Option Nat)) (T:LL) (V:List Bool):Int:=if 1<=ps.length/\ps.length<=32/\nB ps=false/\T.length=ps.length/\V.length=ps.length then tE T else 1
theorem Qi (w:World) (vs vt vl:Value) (ps:List (Option Nat)) (T:LL) (V:List Bool) (RS:Rd KP w vs ps) (RT:kF w vt T) (RV:Rd KB w vl V):Calls prog 137 #[vs,vt,vl] w fun e w'=>e = .returned (.int .i64 (fE ps T V))/\Below w.heap.size w w':=by
 have CA:=Hh (oP w vs ps RS);have TA:=Hh (fun W b=>zK W vt T (RT.below b));unfold gD at TA;have NO:Hid (¬ (1<=ps.length/\ps.length<=32/\nB ps=false/\T.length=ps.length/\V.length=ps.length)->fE ps T V=1):=Hh (fun h=>am h);have YES:Hid ((1<=ps.length/\ps.length<=32/\nB ps=false/\T.length=ps.length/\V.length=ps.length)->fE ps T V=tE T):=Hh (fun h=>aw h);obtain ⟨a1,c1,rfl,m1⟩:=RS.slice;obtain ⟨a2,c2,rfl,m2⟩:=RT.slice;obtain ⟨a3,c3,rfl,m3⟩:=RV.slice;unfold maxLen at m1 m2 m3;clear RS RT RV;generalize ps.length=n at *;generalize T.length=nt at *;generalize V.length=nv at *;generalize fE ps T V=r at *;generalize nB ps=q at *;generalize tE T=te at *;generalize tN T=tn at *
 by_cases h1:n < 1
 ·have E:=Hh (NO (by omega))
  clear NO YES
  go_enter func137,ntmps137
  go_wp2
  go_ret
  exact ⟨by rw [E.out];rfl,aa _ _⟩
 ·by_cases h2:32 < n
  ·have E:=Hh (NO (by omega))
   clear NO YES
   go_enter func137,ntmps137
   go_wp2
   go_ret
   exact ⟨by rw [E.out];rfl,aa _ _⟩
  ·cases q with
   | true =>
     have E:=Hh (NO (by rintro ⟨_,_,h,_⟩;cases h));clear NO YES
     go_enter func137,ntmps137
     go_wp2_with fail;refine CA.mono ?_;rintro e w1 ⟨rfl,b1⟩;go_wp2
     go_ret
     exact ⟨by rw [E.out];rfl,b1⟩
   | false =>
     by_cases h3:nt=n
     ·by_cases h4:nv=n
      ·have E:=Hh (YES ⟨by omega,by omega,rfl,h3,h4⟩)
       clear NO YES;subst h3;subst h4
       go_enter func137,ntmps137
       go_wp2_with fail;refine CA.mono ?_;rintro e w1 ⟨rfl,b1⟩;go_wp2_with fail;refine (TA w1 b1).mono ?_;rintro e w2 ⟨rfl,b2⟩;go_wp2
       go_ret
       exact ⟨by rw [E.out];rfl,b1.trans (b2.mono b1.size)⟩
      ·have E:=Hh (NO (by rintro ⟨_,_,_,_,h⟩;exact h4 h))
       clear NO YES;subst h3;have h5:((nv:Int) != (nt:Int))=true:=by simp;omega
       go_enter func137,ntmps137
       go_wp2_with fail;refine CA.mono ?_;rintro e w1 ⟨rfl,b1⟩;go_wp2
       go_ret
       exact ⟨by rw [E.out];rfl,b1⟩
     ·have E:=Hh (NO (by rintro ⟨_,_,_,h,_⟩;exact h3 h))
      clear NO YES;have h5:((nt:Int) != (n:Int))=true:=by simp;omega
      go_enter func137,ntmps137
      go_wp2_with fail;refine CA.mono ?_;rintro e w1 ⟨rfl,b1⟩;go_wp2
      go_ret
      exact ⟨by rw [E.out];rfl,b1⟩
open Fs (Rs rH Kc)
open Rw (Kind)
variable {α:Type} {E T:TypeId} {o:Oper} {a:Act} {w w':World} {Q:Exit->Act->World->Prop} {z:Value} {bytes r s:Nat}
theorem dx {K:Kind α} {ops:Array Oper} {rest:List Oper} (ht:P.underlying T=some (.slice E))
 (hi:(P.info? E).map (fun i=>(i.zero,i.size,i.bytes))=some (some z,K.n,bytes)) (hz:z.cells.size=K.n) (hby:bytes<=64) (hgd:o.guard=none) (s x:Operand)
 (ho:o.op = .call { callee:=.builtin .append,args:=#[s,x],argTypes:=#[T,T] }) (B:Nat) (v:Value) (l:List α) (hs:a.eval s=v) (hown:Ow K w B E v l)
 (ad:Addr) (c:α) (hx:a.eval x = .slice (some ad) 1 1) (hc:∀ j u,(K.enc c)[j]? = some u->w.cell? (ad.add j)=some u) (hlen:l.length < 2199023255552) (hB:B<=w.heap.size)
 (h:∀ v' w',Ow K w' B E v' (l ++ [c])->w.grownBy w' v.ownBlock->(v'.ownBlock=v.ownBlock\/∃ g,v'.ownBlock=some g/\w.heap.size<=g)->wpList P ops Q rest (a.put o.dst v') w'):wpList P ops Q (o :: rest) a w:=by
 obtain ⟨i0,hi0,hz0,hz1,hz2⟩:=ew hi;have hb:(l.length+1) * bytes<=140737488355328:=cE (gg (show l.length+1<=2199023255552 by omega) hby) (by omega);refine wpList_append_own_at _ hgd s x T ho B E i0 z K.n bytes ht hi0 hz0 hz1 hz2 hz K.pos v l.length (K.flat l) hs hown ad 1 1 (K.enc c) hx (by rw [K.len,Nat.one_mul]) hc (K.one c) (by unfold maxLen;omega) hb hB ?_
 intro v' w' h2 h3 _ h5
 exact h v' w' (Rw.Ow.push h2) h3 (h5.imp id fun e=>⟨_,e,ac _⟩)
theorem cK {K:Kind α} {KK:Act->World->Prop} (ht:P.underlying T=some (.slice E))
 (hi:(P.info? E).map (fun i=>(i.zero,i.size,i.bytes))=some (some z,K.n,bytes)) (hz:z.cells.size=K.n) (hby:bytes<=64) (s x:Operand)
 (ho:o.op = .call { callee:=.builtin .append,args:=#[s,x],argTypes:=#[T,T] }) (B:Nat) (v:Value) (l:List α) (hs:a.eval s=v) (hown:Ow K w B E v l)
 (ad:Addr) (c:α) (hx:a.eval x = .slice (some ad) 1 1) (hc:∀ j u,(K.enc c)[j]? = some u->w.cell? (ad.add j)=some u) (hlen:l.length < 2199023255552) (hB:B<=w.heap.size)
 (h:∀ v' w',Ow K w' B E v' (l ++ [c])->w.grownBy w' v.ownBlock->(v'.ownBlock=v.ownBlock\/∃ g,v'.ownBlock=some g/\w.heap.size<=g)->KK (a.put o.dst v') w'):o.wp P a w KK Q:=by
 obtain ⟨i0,hi0,hz0,hz1,hz2⟩:=ew hi;have hb:(l.length+1) * bytes<=140737488355328:=cE (gg (show l.length+1<=2199023255552 by omega) hby) (by omega);obtain ⟨v',w',hr,h2,h3,_,h5⟩:=run_append_own_at (P:=P) w B T o.type E i0 z K.n bytes ht hi0 hz0 hz1 hz2 hz K.pos v l.length (K.flat l) hown ad 1 1 (K.enc c) (by rw [K.len,Nat.one_mul]) hc (K.one c) (by unfold maxLen;omega) hb hB;unfold Oper.wp execOp;simp only [ho,resolve,invoke,builtin,Sem.run_bind,Sem.run_pure,Result.andThen_ok,List.map_toArray,ik,List.map_nil,hs,hx,hr];exact h v' w' (Rw.Ow.push h2) h3 (h5.imp id fun e=>⟨_,e,ac _⟩)
def SAp (w:World) (s:Nat) (x:aU×Int) (q:Option Nat):Prop:=∃ F,St w s F x.1 x.2/\∀ k,F k->q≠some k
def RAp (w:World) (r:Nat) (x:aU×Int) (q:Option Nat):Prop:=Rs w r (fun k=>q=some k) x.1 x.2
structure Good (Ap:World->Nat->aU×Int->Option Nat->Prop):Prop where
 below:∀ {w w' s x q},Ap w s x q->Below w.heap.size w w'->Ap w' s x q
 grow:∀ {w w' s x q q'},Ap w s x q->w.grownBy w' q->(q'=q\/∃ g,q'=some g/\w.heap.size<=g)->(∀ g,q'=some g->g < w'.heap.size)->Ap w' s x q'
variable {q:Option Nat}
theorem aV (h:w.grownBy w' q):ay (fun k=>q=some k) w w':=⟨h.os,h.tape,h.output,h.size,fun k hk hn=>h.block k hk fun e=>hn e.symm⟩
theorem nK:Good SAp where
 below:=fun ⟨F,h,d⟩ b=>⟨F,h.below b,d⟩
 grow:=fun ⟨F,h,d⟩ g hq _=>⟨F,h.only (G:=fun k=>_=some k) (fun k hk e=>d k hk e) (aV g),fun k hk e=>by
  rcases hq with rfl | ⟨j,rfl,hj⟩
  ·exact d k hk e
  ·injection e with e
   have:=h.low k hk
   omega⟩
variable {F G:Nat->Prop}
theorem dY {A:aU} {d:Int} (h:Rs w r F A d) (hg:∀ k,k < w.heap.size->G k->F k):Rs w r G A d:=by
 obtain ⟨v,L,h,e⟩:=h;refine ⟨v,L,⟨h.row,fun g=>h.off (hg r (bm h.row) g),h.list.mono fun k hk g=>?_,h.ok⟩,e⟩
 rcases g with g | g
 ·exact .inl (hg k hk g)
 ·exact .inr g
variable {x:aU×Int}
theorem SAp.has (h:SAp w s x q):Has w s x:=by obtain ⟨F,h,_⟩:=h;exact ⟨F,h⟩
theorem RAp.hrf (h:RAp w s x q):Vg w s x:=dY h nofun
theorem MR (h:St w' s F x.1 x.2) (lo:∀ k,F k->w.heap.size<=k) (hq:∀ k,q=some k->k < w.heap.size):SAp w' s x q :=
 ⟨F,h,fun k hk e=>by have:=lo k hk;have:=hq k e;omega⟩
section
variable {Ap:World->Nat->aU×Int->Option Nat->Prop} {E:TypeId} {w wr w1 w2:World} {S:bX} {k:Nat} {o o':Value} {ps:List Nat} {g:Nat}
structure PI (Ap:World->Nat->aU×Int->Option Nat->Prop) (E:TypeId) (w:World) (S:bX) (k:Nat) (o:Value) (ps:List Nat) (wr:World):Prop where
 own:Ow KN wr w.heap.size E o ps
 len:ps.length=k
 each:∀ i,i < k->Ap wr (ps.getD i 0) (aN S i) o.ownBlock
 aI:Below w.heap.size w wr
theorem PI.start (w:World) (hb:Below w.heap.size w wr):PI Ap E w S 0 (.slice none 0 0) [] wr:=⟨Rw.Ow.nil _ _ _,rfl,fun i hi=>by omega,hb⟩
theorem PI.made (hb:Below w.heap.size w wr):PI Ap E w S 0 (.slice (some ⟨wr.heap.size,0,none⟩) 0 0) [] (wr.alloc (.cells #[] E)):=⟨Rw.Ow.made _ _ _ hb.size,rfl,fun i hi=>by omega,hb.alloc hb.size _⟩
theorem PI.below (G:Good Ap) (h:PI Ap E w S k o ps wr) (b:Below wr.heap.size wr w1):PI Ap E w S k o ps w1:=⟨h.own.keep b,h.len,fun i hi=>G.below (h.each i hi) b,h.aI.trans (b.mono h.aI.size)⟩
theorem PI.lt (h:PI Ap E w S k o ps wr):∀ k,o.ownBlock=some k->k < wr.heap.size:=fun k e=>(ci h.own k e).2
theorem PI.push (G:Good Ap) (h:PI Ap E w S k o ps wr) (own:Ow KN w1 w.heap.size E o' (ps ++ [g])) (gr:wr.grownBy w1 o.ownBlock) (hq:o'.ownBlock=o.ownBlock\/∃ g,o'.ownBlock=some g/\wr.heap.size<=g) (hg:Ap wr g (aN S k) o.ownBlock):PI Ap E w S (k+1) o' (ps ++ [g]) w1:=by
 have hl:∀ j,o'.ownBlock=some j->j < w1.heap.size:=fun j e=>(ci own j e).2;refine ⟨own,by rw [cI,h.len];rfl,fun i hi=>?_,h.aI.grown gr h.aI.size fun j e=>(ci h.own j e).1⟩
 by_cases e:i=k
 ·subst e
  have:(ps ++ [g]).getD i 0=g:=by rw [af,fh (by rw [h.len];exact ac _),h.len];simp
  rw [this];exact G.grow hg gr hq hl
 ·have:(ps ++ [g]).getD i 0=ps.getD i 0:=by rw [af,fk (by rw [h.len];omega),af]
  rw [this];exact G.grow (h.each i (by omega)) gr hq hl
theorem PI.congr {S':bX} (h:PI Ap E w S k o ps wr) (e:∀ i,i < k->aN S i=aN S' i):PI Ap E w S' k o ps wr:=⟨h.own,h.len,fun i hi=>by rw [← e i hi];exact h.each i hi,h.aI⟩
end
variable {wr:World} {S:bX} {o:Value} {ps:List Nat}
theorem PI.stl (h:PI SAp E w S S.length o ps wr):Cj wr o S:=⟨ps,h.own.rd,h.len,fun i hi=>(h.each i hi).has⟩
theorem PI.aeX (h:PI RAp E w S S.length o ps wr):Rfl wr o S:=⟨ps,h.own.rd,h.len,fun i hi=>(h.each i hi).hrf⟩
theorem Ao:(prog.info? 72).map (fun i=>(i.zero,i.size,i.bytes))=some (some (.pointer none),1,8):=by kernel_rfl
theorem XM:(prog.info? 51).map (fun i=>(i.zero,i.size,i.bytes))=some (some (.pointer none),1,8):=by kernel_rfl
end Pa
