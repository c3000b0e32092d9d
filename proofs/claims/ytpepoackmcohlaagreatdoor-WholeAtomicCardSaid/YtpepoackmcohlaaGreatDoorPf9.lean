import Derived.Test.YtpepoackmcohlaaGreatDoorPf8
import Derived.Shelf.SlicesE.Kit
set_option maxRecDepth 100000
set_option maxHeartbeats 4000000
namespace Go.Proofs.YtpepoackmcohlaaGreatDoor
open Go.Proofs.Tryz
open Ck (Hd KS LL bQ jK sE sl vI zh)
open Fs (Fx Only St aC aP dX)
open Pa (Bg Hr K2 KB KN aQ aZ bO bU gL je l5 pq ptr sat)
open Ro (E5 K5)
open Rw (Kind Ow Rd)
namespace Cu
open Go.RowKit Go.Extern.Stop Go.Stop Go.Extern
open Fl (ah aj)
open Fs (Glob qK aaL aaN aa3 VV VF abd aby VA UD TV abM abL aa2 abS aaA JF YM Ug Rx WI XZ OG WA pY)
def IG (n e:Int):Value:=.agg #[.int .i64 n,.iface 25 (.int .i64 e)]
def j4 (n e:Int):Value:=.iface 151 (IG n e)
theorem Qn (v:Value) (w:World):(Extern.ReflectliteType.typeOf #[.iface 151 v]).run prog w = .ok (.iface 234 (.agg #[.pointer (some ⟨1,151,none⟩)])) w:=by kernel_rfl
theorem JG (v:Value) (xT:TypeId) (w:World):(Instr.typeAssert (.iface 151 v) xT 239 true).run prog w = .ok (.tuple #[.iface 151 v,.bool true]) w:=run_typeAssert_hasB underlying239 (by kernel_rfl) v xT w
theorem zU (v : Value) (w : World) : (Go.method 472 151 v "Unwrap").run Tryz.prog w = .ok (255, v) w := by kernel_rfl
theorem FP (w:World) (n:Int) (x:Value):Calls prog 255 #[.agg #[.int .i64 n,x]] w fun e w'=>e = .returned x/\Below w.heap.size w w':=by
 go_enter func255,ntmps255
 go_wp2
 go_ret
 exact ⟨rfl,(aa w.heap.size w).alloc (ac _) _⟩
theorem adX (w:World):(OG #[.agg #[.pointer (some ⟨1,151,none⟩)],.iface 234 (.agg #[.pointer (some ⟨1,25,none⟩)])]).run prog w = .ok (.bool false) w:=by kernel_rfl
theorem acN (v:Value) (xT:TypeId) (w:World):(Instr.typeAssert (.iface 151 v) xT 247 true).run prog w = .ok (.tuple #[.nilIface,.bool false]) w:=run_typeAssert_lacksB underlying247 (by kernel_rfl) (by kernel_rfl) v xT w
theorem Rv (n e:Int) (tb b:Nat) (w:World) (hb:w.cell? ⟨b,0,none⟩=some (.pointer (some ⟨tb,0,none⟩))) (ht:w.heap[tb]? = some (.cells #[.int .i64 0] 25 (0,0))) :
 Calls prog 113 #[j4 n e,.iface 157 (.pointer (some ⟨tb,0,none⟩)),.agg #[.pointer (some ⟨1,157,none⟩),.pointer (some ⟨b,0,none⟩),.int .u64 150],.iface 234 (.agg #[.pointer (some ⟨1,25,none⟩)])] w (pY w tb e):=by
 have h42:=@run_callFunc_extern prog 103 _ Extern.ReflectliteType.typeOf func103 (by kernel_rfl) (by kernel_rfl) (by kernel_rfl) (by kernel_rfl);have h102:=@run_callFunc_extern prog 264 _ OG func264 (by kernel_rfl) (by kernel_rfl) (by kernel_rfl) (by kernel_rfl);have h60:=@run_callFunc_extern prog 133 _ WA func133 (by kernel_rfl) (by kernel_rfl) (by kernel_rfl) (by kernel_rfl);have h50:=@run_callFunc_extern prog 110 _ JF func110 (by kernel_rfl) (by kernel_rfl) (by kernel_rfl) (by kernel_rfl);have h61:=@run_callFunc_extern prog 134 _ ReflectliteValue.set func134 (by kernel_rfl) (by kernel_rfl) (by kernel_rfl) (by kernel_rfl);have tF:=Qn;have tE:=qK;have mA:=aby;have aF:=adX;have aE:=abL;have nA:=acN;have uF:=JG;have mU:=zU;have vE:=aaN;have HB:=Hh hb;have HT:=Hh ht;have B0:=Hh ((aa w.heap.size w).alloc (ac _) (.cells #[.pointer (some ⟨1,157,none⟩),.pointer (some ⟨b,0,none⟩),.int .u64 150] 202));clear hb ht;unfold j4 IG
 go_enter func113,ntmps113
 go_wp2;refine wp_loop_rounds 2 ?_;rw [rounds_succ]
 go_wp2_with (go_at_call 255;refine (FP _ _ _).mono ?_;rintro ev w1 ⟨rfl,b1⟩)
 have B1:=aR B0 b1;have G0:=(b1.block _ (by simp)).trans (bh w _);obtain ⟨e0,e1,e2⟩:=DK G0;have hbl:=bj _ _ HB;have el:=aa2 ⟨b,0,none⟩ ⟨tb,0,none⟩ w1 ((B1.cell hbl).trans HB);have htl:=bm HT;have T1:=(B1.block tb htl).trans HT;have T2:=(cx w1 (.cells #[.int .i64 e] 25) tb (by have:=B1.out.size;omega)).trans T1;have st:=aaA ⟨tb,0,none⟩ ⟨w1.heap.size,0,none⟩ e (.int .i64 0) (w1.alloc (.cells #[.int .i64 e] 25)) (by simp) (ah T2 0) (aj T2 0);have RES:Hid (pY w tb e (.returned (.bool true)) ((w1.alloc (.cells #[.int .i64 e] 25)).setCell ⟨tb,0,none⟩ (.int .i64 e))):=by
  refine ⟨rfl,?_,?_⟩
  ·have:=Rw.heap_setCell_same (j:=0) T2 (.int .i64 e)
   rw [this]
   simp
  ·exact (Only.of_below (B1.alloc B1.size _)).trans (Only.set (fun k=>k=tb) _ (a:=⟨tb,0,none⟩) rfl _) fun _ _ g=>g
 clear b1 G0 T1 T2 HB HT B0 B1 hbl htl;rw [rounds_succ];go_wp2
 go_ret
 exact RES
theorem YX (n e:Int) (tb:Nat) (w:World) (hg:Glob w) (ht:w.heap[tb]? = some (.cells #[.int .i64 0] 25 (0,0))) :
 Calls prog 85 #[j4 n e,.iface 157 (.pointer (some ⟨tb,0,none⟩))] w (pY w tb e):=by
 have h50:=@run_callFunc_extern prog 110 _ JF func110 (by kernel_rfl) (by kernel_rfl) (by kernel_rfl) (by kernel_rfl);have h51:=@run_callFunc_extern prog 111 _ YM func111 (by kernel_rfl) (by kernel_rfl) (by kernel_rfl) (by kernel_rfl);have h52:=@run_callFunc_extern prog 112 _ Ug func112 (by kernel_rfl) (by kernel_rfl) (by kernel_rfl) (by kernel_rfl);have h95:=@run_callFunc_extern prog 249 _ Rx func249 (by kernel_rfl) (by kernel_rfl) (by kernel_rfl) (by kernel_rfl);have h104:=@run_callFunc_extern prog 266 _ WI func266 (by kernel_rfl) (by kernel_rfl) (by kernel_rfl) (by kernel_rfl);have h105:=@run_callFunc_extern prog 267 _ XZ func267 (by kernel_rfl) (by kernel_rfl) (by kernel_rfl) (by kernel_rfl);have f6:=aaL;have f7:=aa3;have mK:=VV;have mE:=VF;have mI:=abd;have kP:=VA;have kE:=UD;have eP:=TV;have iE:=abM;have hlt:=Nat.lt_of_le_of_lt (bt _) (bj _ _ hg);have htl:=bm ht;have B2:Below w.heap.size w ((w.alloc (.cells #[.pointer (some ⟨tb,0,none⟩)] 157)).alloc (.cells #[.pointer (some ⟨1,157,none⟩),.pointer (some ⟨w.heap.size,0,none⟩),.int .u64 150] 202)):=((aa w.heap.size w).alloc (ac _) _).alloc (by simp) _;have n8:=abS ⟨w.heap.size,0,none⟩ ⟨tb,0,none⟩ ((w.alloc (.cells #[.pointer (some ⟨tb,0,none⟩)] 157)).alloc (.cells #[.pointer (some ⟨1,157,none⟩),.pointer (some ⟨w.heap.size,0,none⟩),.int .u64 150] 202)) (by simp);have hg2:((w.alloc (.cells #[.pointer (some ⟨tb,0,none⟩)] 157)).alloc (.cells #[.pointer (some ⟨1,157,none⟩),.pointer (some ⟨w.heap.size,0,none⟩),.int .u64 150] 202)).cell? ⟨0,0,none⟩=some (.iface 234 (.agg #[.pointer (some ⟨1,111,none⟩)])):=hg.below B2;have AL:=Hh (Rv n e tb w.heap.size ((w.alloc (.cells #[.pointer (some ⟨tb,0,none⟩)] 157)).alloc (.cells #[.pointer (some ⟨1,157,none⟩),.pointer (some ⟨w.heap.size,0,none⟩),.int .u64 150] 202)) (by simp) ((B2.block tb htl).trans ht));have BB:=Hh B2;have HTL:=Hh htl;clear hg ht B2 htl;unfold j4 IG at *
 go_enter func85,ntmps85
 go_wp2_with (go_at_call 113;refine AL.mono ?_;rintro ev w1 ⟨rfl,r1,o1⟩)
 go_ret
 exact ⟨rfl,r1,(Only.of_below BB).trans o1 fun _ _ g=>g⟩
theorem FD (n e:Int) (w:World) (hg:Glob w):Calls prog 58 #[j4 n e] w fun ev w'=>ev = .returned (.int .i64 e)/\Below w.heap.size w w':=by
 have B0:=Hh ((aa w.heap.size w).alloc (ac _) (.cells #[.int .i64 0] 25));have AS:=Hh (YX n e w.heap.size (w.alloc (.cells #[.int .i64 0] 25)) (hg.below B0) (bh w _));clear hg;unfold j4 IG at *
 go_enter func58,ntmps58
 go_wp2_with fail;refine AS.mono ?_;rintro ev w1 ⟨rfl,r1,o1⟩;have c1:=Fl.rc r1 0;have BB:=Hh (B0.trans (o1.below (by simp) fun k hk=>by rw [hk];exact ac _));clear r1 o1 B0 AS;go_wp2
 go_ret
 exact ⟨rfl,BB⟩
open Go.Maps
open Rw (At)
open Fl (R4 K4 cZ bN file)
open Pa (S2)
open Re (KI kQ rG sN sL zV gq gH lJ yO I8 nR nT nE)
attribute [local irreducible] Sd.aW wpQuiet
def SqC (w:World) (A:aP) (nn:Int) (e:Ending) (w':World):Prop:=Below w.heap.size w w'/\((pM A=true/\∃ u,e = .returned (.tuple #[u,.nilIface])/\Rd KI w' u (jA A))\/(pM A=false/\e = .returned (.tuple #[.slice none 0 0,j4 nn 2])))
theorem YQ (A:aP) (h:sN (fP A 40) (fR A 40)=0):pM A=true:=by
 unfold pM;rw [h,ce];refine ⟨?_,rfl⟩
 cases hb:fB A 40 with
 | true=>rfl
 | false =>
   exfalso
   have e:Fs.look Fs.key 40 A=none:=by
    unfold fB at hb
    cases hl:Fs.look Fs.key 40 A with
    | none=>rfl
    | some x=>rw [hl] at hb;cases hb
   have p0:fP A 40=0:=by unfold fP;rw [e]
   unfold sN at h
   split at h
   ·rename_i g
    have:=g.2.2.1
    omega
   ·omega
theorem aaE (A:aP) (h:¬ sN (fP A 40) (fR A 40)=0):pM A=false/\sN (fP A 40) (fR A 40)=2:=by
 refine ⟨?_,?_⟩
 ·unfold pM
  rw [ai h,Bool.and_false]
 ·unfold sN at h ⊢
  split
  ·rename_i g;rw [aw g] at h;exact absurd rfl h
  ·rfl
section
variable {s t p:Nat} {F G:Nat->Prop} {c:Cs} {vn vq:Value} {L:List Nd} {Fs:Nat->Nat->Prop} {w w':World}
theorem lq (h:Cl w s F c t vn L p vq Fs) {nn:Nat} (hn:nn < c.S.length):Calls prog 50 #[ptr s,.int .i64 nn] w (SqC w (sat c.S nn).1 nn):=by
 have C1:=Hh (AZ h hn 40);have OK:=Hh (F8 (h.sto hn).Zf 40);unfold Ud at C1;clear h hn;generalize (sat c.S nn).1=A at *;have Z:=Hh (YQ A);have T:=Hh (aaE A);have HL:Hid (sL (fP A 40) (fR A 40)=jA A):=Hh rfl;unfold ptr at *
 go_enter func50,ntmps50
 go_wp2_with fail;refine C1.mono ?_;rintro e w1 ⟨v,rfl,rv,b1⟩;have C2:=Hh (rG w1 (fP A 40) v (fR A 40) rv OK);have B1:=Hh b1;obtain ⟨a,cap,rfl,_⟩:=rv.slice;unfold kQ at C2;rw [HL.out] at C2;clear C1 rv b1 OK HL;generalize sN (fP A 40) (fR A 40)=z at *;generalize fP A 40=fp at *;generalize (fR A 40).length=n at *;unfold file at *;go_wp2_with fail;refine C2.mono ?_;rintro e w2 ⟨u,rfl,ru,b2⟩;have B2:=aR B1 b2;have RU:=Hh ru;obtain ⟨ua,uc,rfl,_⟩:=RU.slice;clear ru b2 C2 B1;generalize (jA A).length=ln at RU ⊢
 by_cases hz:z=0
 ·have E:Hid (SqC w A nn (.returned (.tuple #[.slice ua ln uc,.nilIface])) w2):=Hh ⟨B2,.inl ⟨Z hz,_,rfl,RU⟩⟩
  subst hz;clear Z T RU B2;go_wp2
  go_ret2
  exact E
 ·obtain ⟨t1,t2⟩:=T hz
  subst t2;have E:Hid (SqC w A nn (.returned (.tuple #[.slice none 0 0,.iface 151 (.agg #[.int .i64 nn,.iface 25 (.int .i64 2)])])) w2):=Hh ⟨B2,.inr ⟨t1,rfl⟩⟩;clear Z T RU B2 hz t1;go_wp2
  go_ret2
  exact E
variable {l:List Int}
theorem acP (hs:gH l) (h:c.pl < l.length):nE l c.pl=0/\nR l c.pl=gq l (kD c l)/\nT l c.pl=(pE c l:Int):=by
 have hx:I8 l c.pl:=⟨hs,by omega,by omega⟩;unfold nE nR nT pE kD;rw [aw hx,aw hx,aw hx,aq (by omega),cg];refine ⟨rfl,rfl,?_⟩
 by_cases e:c.pl+1=l.length
 ·rw [aw (by omega),aw e];rfl
 ·rw [aq (by omega),aq e];omega
theorem ab8 (hs:gH l) (h:¬ c.pl < l.length):nE l c.pl=1/\nR l 0=gq l (kD c l)/\nT l 0=(pE c l:Int):=by
 have hx:¬ I8 l c.pl:=fun g=>by have:=g.2.2;omega
 have hy:I8 l 0:=⟨hs,by omega,by have:=hs.1;omega⟩;unfold nE nR nT pE kD;rw [aq hx,aw hy,aw hy,aw (by omega)];refine ⟨rfl,rfl,?_⟩
 by_cases e:0+1=l.length
 ·rw [aw (by omega),aw e];rfl
 ·rw [aq (by omega),aq e];rfl
def NxC (w:World) (s:Nat) (x:Int) (n:Nat) (e:Ending) (w':World):Prop:=e = .returned (.int .i64 x)/\∃ w1,Below w.heap.size w w1/\w'=w1.setCell ⟨s,2,none⟩ (.int .i64 n)
theorem PM (h:Cl w s F c t vn L p vq Fs) {v:Value} (R:Rd KI w v l) (hs:gH l):Calls prog 60 #[ptr s,v] w (NxC w s (gq l (kD c l)) (pE c l)):=by
 have C1:=Hh (yO w v l c.pl R);have C2:=Hh (fun w1 b=>yO w1 v l 0 (R.below (w':=w1) b));have H:=Hh h;have d2:=h.cells.2.2.1;have IN:=Hh (acP (c:=c) hs);have OUT:=Hh (ab8 (c:=c) hs);obtain ⟨a,cap,rfl,_⟩:=R.slice;clear h hs R;unfold lJ at C1 C2;generalize gq l (kD c l)=x at *;generalize pE c l=y at *
 by_cases hp:c.pl < l.length
 ·obtain ⟨e1,e2,e3⟩:=IN hp
  rw [e1,e2,e3] at C1;have HH:=Hh (fun w1 b=>(H.below (w':=w1) b).cells.2.2.1);have HF:=Hh (fun w1 b=>(H.below (w':=w1) b).Va 2);clear e1 e2 e3 IN OUT C2 hp H;generalize c.pl=pl at *;generalize l.length=n at *;unfold ptr at *
  go_enter func60,ntmps60
  go_wp2_with fail;refine C1.mono ?_;rintro e w1 ⟨rfl,b1⟩;have k2:=HH.out w1 b1;have f2:=HF.out w1 b1;have E:Hid (NxC w s x y (.returned (.int .i64 x)) (w1.setCell ⟨s,2,none⟩ (.int .i64 y))):=Hh ⟨rfl,w1,b1,rfl⟩;clear C1 HH HF b1 d2;go_wp2
  go_ret
  exact E
 ·obtain ⟨e1,e2,e3⟩:=OUT hp
  rw [e1] at C1;rw [e2,e3] at C2;have HH:=Hh (fun w1 b=>(H.below (w':=w1) b).cells.2.2.1);have HF:=Hh (fun w1 b=>(H.below (w':=w1) b).Va 2);clear e1 e2 e3 IN OUT hp H;generalize nR l c.pl=x0 at *;generalize nT l c.pl=y0 at *;generalize nE l 0=z0 at *;generalize c.pl=pl at *;generalize l.length=n at *;unfold ptr at *
  go_enter func60,ntmps60
  go_wp2_with fail;refine C1.mono ?_;rintro e w1 ⟨rfl,b1⟩;have D2:=Hh (C2 w1 b1);have B1:=Hh b1;clear C1 C2 b1 d2;go_wp2_with fail;refine D2.mono ?_;rintro e w2 ⟨rfl,b2⟩;have B2:=aR B1 b2;have k2:=HH.out w2 B2;have f2:=HF.out w2 B2;have E:Hid (NxC w s x y (.returned (.int .i64 x)) (w2.setCell ⟨s,2,none⟩ (.int .i64 y))):=Hh ⟨rfl,w2,B2,rfl⟩;clear D2 HH HF B1 B2 b2;go_wp2
  go_ret
  exact E
end
open Pa (bX)
open Re (pE pJ sZ)
def er (a:Option (Int×Int)):Value:=match a with | none=>.nilIface | some x=>j4 x.1 x.2
def KE:Rw.Kind (Option (Int×Int)):=⟨fun a=>[er a],1,by decide,fun _=>rfl,fun a u h=>by simp at h;subst h;cases a <;> rfl,none⟩
theorem p8:(prog.info? 111).map (fun i=>(i.zero,i.size,i.bytes))=some (some .nilIface,1,16):=by kernel_rfl
theorem join_none (w:World) (b:Nat) (h0:w.cell? ⟨b,0,none⟩=some .nilIface) (h1:w.cell? ⟨b,1,none⟩=some .nilIface):Calls prog 51 #[.slice (some ⟨b,0,none⟩) 2 2] w fun e w'=>e = .returned .nilIface/\Below w.heap.size w w':=by
 go_enter func51,ntmps51
 go_wp2;refine wp_loop_rounds 3 ?_;rw [rounds_succ];go_wp2;rw [rounds_succ];go_wp2;rw [rounds_succ];go_wp2
 go_ret
 exact ⟨rfl,aa _ _⟩
structure JI (w:World) (g6:Nat) (v:Value) (l:List (Option (Int×Int))) (wr:World):Prop where
 row:wr.heap[g6]? = some (.cells #[v] 155 (0,0))
 own:Ow KE wr w.heap.size 111 v l
 aG:Below w.heap.size w wr
 lo:w.heap.size<=g6
variable {w w1 w2:World} {g6:Nat} {v v':Value} {l l':List (Option (Int×Int))}
theorem JI.push (h:JI w g6 v l w1) (own:Ow KE w2 w.heap.size 111 v' l') (gr:w1.grownBy w2 v.ownBlock):w2.heap[g6]? = some (.cells #[v] 155 (0,0))/\JI w g6 v' l' (w2.setCell ⟨g6,0,none⟩ v'):=by
 have r2:=(gr.block g6 (bm h.row) (fun e=>h.own.apart h.row (by decide) e.symm)).trans h.row;have b2:=h.aG.grown gr h.aG.size fun j e=>(ci h.own j e).1;exact ⟨r2,Rw.heap_setCell_same (j:=0) r2 v',own.far (p:=⟨g6,0,none⟩) r2 (by decide) _,b2.setCell h.lo _,h.lo⟩
theorem JI.below (h:JI w g6 v l w1) (b:Below w1.heap.size w1 w2):JI w g6 v l w2:=⟨(b.block g6 (bm h.row)).trans h.row,h.own.keep b,h.aG.trans (b.mono h.aG.size),h.lo⟩
theorem aa0 (w:World) (b:Nat) (n0 z0:Int) (h0:w.cell? ⟨b,0,none⟩=some (j4 n0 z0)) (h1:w.cell? ⟨b,1,none⟩=some .nilIface):Calls prog 51 #[.slice (some ⟨b,0,none⟩) 2 2] w fun e w'=>(∃ p,e = .returned (.iface 153 (.pointer (some p))))/\Below w.heap.size w w':=by
 have H0:=Hh h0;have H1:=Hh h1;obtain ⟨i0,hi0,hz0,hz1,hz2⟩:=eE p8;unfold j4 IG at *
 go_enter func51,ntmps51
 go_wp2;refine wp_loop_rounds 3 ?_;rw [rounds_succ];go_wp2;rw [rounds_succ];go_wp2;rw [rounds_succ]
 go_wp2_with (at_make;refine wpList_make_own _ rfl _ _ _ rfl w.heap.size 111 i0 .nilIface 1 underlying152 hi0 hz0 hz1 .i64 .i64 1 1 rfl rfl rfl (by rw [hz2];decide) (by unfold maxLen;decide) (ac _) ?_)
 intro w2 ow2 gr2
 have B2:=Below.grown (aa w.heap.size w) gr2 (ac _) (fun j e=>by cases e);have J0:Hid (JI w w2.heap.size (.slice (some ⟨w.heap.size,0,none⟩) 0 1) [] (w2.alloc (.cells #[.slice (some ⟨w.heap.size,0,none⟩) 0 1] 155))):=Hh ⟨bh w2 _,gg ow2 _,B2.alloc B2.size _,B2.size⟩;clear ow2 gr2 B2 h0 h1 hi0 hz0 hz1 hz2;go_upto_region 11 with fail;generalize (w2.alloc (.cells #[.slice (some ⟨w.heap.size,0,none⟩) 0 1] 155))=wa at *;generalize w2.heap.size=g6 at *;have k0:=gP J0.aG H0;go_wp2;refine wp_loop_rounds 3 ?_;rw [rounds_succ];have c6:=ah J0.row 0;have J0a:=Hh (J0.below ((aa wa.heap.size wa).alloc (ac _) (.cells #[.iface 151 (.agg #[.int .i64 n0,.iface 25 (.int .i64 z0)])] 111)))
 go_wp2_with (at_builtin;refine bX (K:=KE) underlying152 p8 rfl (by omega) rfl _ _ rfl w.heap.size _ _ rfl J0a.out.own _ (some (n0,z0)) rfl ?d1 ?d2 ?d3 ?_)
 case d1 =>
  intro j u hu
  match j,hu with
  | 0,hu=>simp [KE,er,j4,IG] at hu;subst hu;go_simp
  | j+1,hu=>simp [KE] at hu
 case d2=>simp
 case d3=>exact J0a.aG.size
 intro v0 wb0 o0 gr0 _
 obtain ⟨r0,j0⟩:=J0a.push o0 (by simpa using gr0);have J0b:=Hh j0;have c6':=ah r0 0;have f6':=aj r0 0;obtain ⟨av0,cv0,ev0,_⟩:=o0.slice;clear o0 gr0 j0 J0 J0a c6 k0;generalize List.length _=lv0 at ev0;subst ev0;have k0:=gP J0b.aG H1;go_upto_region 12 with fail;clear c6' f6' r0;generalize (wb0.setCell ⟨g6,0,none⟩ (.slice av0 lv0 cv0))=wc0 at *;rw [rounds_succ];have E:=Hh J0b.aG;go_wp2;rw [rounds_succ];go_wp2
 go_ret
 exact ⟨⟨_,rfl⟩,E⟩
theorem aav (w:World) (b:Nat) (n1 z1:Int) (h0:w.cell? ⟨b,0,none⟩=some .nilIface) (h1:w.cell? ⟨b,1,none⟩=some (j4 n1 z1)):Calls prog 51 #[.slice (some ⟨b,0,none⟩) 2 2] w fun e w'=>(∃ p,e = .returned (.iface 153 (.pointer (some p))))/\Below w.heap.size w w':=by
 have H0:=Hh h0;have H1:=Hh h1;obtain ⟨i0,hi0,hz0,hz1,hz2⟩:=eE p8;unfold j4 IG at *
 go_enter func51,ntmps51
 go_wp2;refine wp_loop_rounds 3 ?_;rw [rounds_succ];go_wp2;rw [rounds_succ];go_wp2;rw [rounds_succ]
 go_wp2_with (at_make;refine wpList_make_own _ rfl _ _ _ rfl w.heap.size 111 i0 .nilIface 1 underlying152 hi0 hz0 hz1 .i64 .i64 1 1 rfl rfl rfl (by rw [hz2];decide) (by unfold maxLen;decide) (ac _) ?_)
 intro w2 ow2 gr2
 have B2:=Below.grown (aa w.heap.size w) gr2 (ac _) (fun j e=>by cases e);have J0:Hid (JI w w2.heap.size (.slice (some ⟨w.heap.size,0,none⟩) 0 1) [] (w2.alloc (.cells #[.slice (some ⟨w.heap.size,0,none⟩) 0 1] 155))):=Hh ⟨bh w2 _,gg ow2 _,B2.alloc B2.size _,B2.size⟩;clear ow2 gr2 B2 h0 h1 hi0 hz0 hz1 hz2;go_upto_region 11 with fail;generalize (w2.alloc (.cells #[.slice (some ⟨w.heap.size,0,none⟩) 0 1] 155))=wa at *;generalize w2.heap.size=g6 at *;have k0:=gP J0.aG H0;go_wp2;refine wp_loop_rounds 3 ?_;rw [rounds_succ];go_wp2;clear k0;have k0:=gP J0.aG H1;rw [rounds_succ];have c6:=ah J0.row 0;have J1a:=Hh (J0.below ((aa wa.heap.size wa).alloc (ac _) (.cells #[.iface 151 (.agg #[.int .i64 n1,.iface 25 (.int .i64 z1)])] 111)))
 go_wp2_with (at_builtin;refine bX (K:=KE) underlying152 p8 rfl (by omega) rfl _ _ rfl w.heap.size _ _ rfl J1a.out.own _ (some (n1,z1)) rfl ?d1 ?d2 ?d3 ?_)
 case d1 =>
  intro j u hu
  match j,hu with
  | 0,hu=>simp [KE,er,j4,IG] at hu;subst hu;go_simp
  | j+1,hu=>simp [KE] at hu
 case d2=>simp
 case d3=>exact J1a.aG.size
 intro v1 wb1 o1 gr1 _
 obtain ⟨r1,j1⟩:=J1a.push o1 (by simpa using gr1);have J1b:=Hh j1;have c6':=ah r1 0;have f6':=aj r1 0;obtain ⟨av1,cv1,ev1,_⟩:=o1.slice;clear o1 gr1 j1 J0 J1a c6 k0;generalize List.length _=lv1 at ev1;subst ev1;have E:=Hh J1b.aG;clear r1 J1b;go_wp2;rw [rounds_succ];go_wp2
 go_ret
 exact ⟨⟨_,rfl⟩,E⟩
theorem abY (w:World) (b:Nat) (n0 z0:Int) (n1 z1:Int) (h0:w.cell? ⟨b,0,none⟩=some (j4 n0 z0)) (h1:w.cell? ⟨b,1,none⟩=some (j4 n1 z1)):Calls prog 51 #[.slice (some ⟨b,0,none⟩) 2 2] w fun e w'=>(∃ p,e = .returned (.iface 153 (.pointer (some p))))/\Below w.heap.size w w':=by
 have H0:=Hh h0;have H1:=Hh h1;obtain ⟨i0,hi0,hz0,hz1,hz2⟩:=eE p8;unfold j4 IG at *
 go_enter func51,ntmps51
 go_wp2;refine wp_loop_rounds 3 ?_;rw [rounds_succ];go_wp2;rw [rounds_succ];go_wp2;rw [rounds_succ]
 go_wp2_with (at_make;refine wpList_make_own _ rfl _ _ _ rfl w.heap.size 111 i0 .nilIface 1 underlying152 hi0 hz0 hz1 .i64 .i64 2 2 rfl rfl rfl (by rw [hz2];decide) (by unfold maxLen;decide) (ac _) ?_)
 intro w2 ow2 gr2
 have B2:=Below.grown (aa w.heap.size w) gr2 (ac _) (fun j e=>by cases e);have J0:Hid (JI w w2.heap.size (.slice (some ⟨w.heap.size,0,none⟩) 0 2) [] (w2.alloc (.cells #[.slice (some ⟨w.heap.size,0,none⟩) 0 2] 155))):=Hh ⟨bh w2 _,gg ow2 _,B2.alloc B2.size _,B2.size⟩;clear ow2 gr2 B2 h0 h1 hi0 hz0 hz1 hz2;go_upto_region 11 with fail;generalize (w2.alloc (.cells #[.slice (some ⟨w.heap.size,0,none⟩) 0 2] 155))=wa at *;generalize w2.heap.size=g6 at *;have k0:=gP J0.aG H0;go_wp2;refine wp_loop_rounds 3 ?_;rw [rounds_succ];have c6:=ah J0.row 0;have J0a:=Hh (J0.below ((aa wa.heap.size wa).alloc (ac _) (.cells #[.iface 151 (.agg #[.int .i64 n0,.iface 25 (.int .i64 z0)])] 111)))
 go_wp2_with (at_builtin;refine bX (K:=KE) underlying152 p8 rfl (by omega) rfl _ _ rfl w.heap.size _ _ rfl J0a.out.own _ (some (n0,z0)) rfl ?d1 ?d2 ?d3 ?_)
 case d1 =>
  intro j u hu
  match j,hu with
  | 0,hu=>simp [KE,er,j4,IG] at hu;subst hu;go_simp
  | j+1,hu=>simp [KE] at hu
 case d2=>simp
 case d3=>exact J0a.aG.size
 intro v0 wb0 o0 gr0 _
 obtain ⟨r0,j0⟩:=J0a.push o0 (by simpa using gr0);have J0b:=Hh j0;have c6':=ah r0 0;have f6':=aj r0 0;obtain ⟨av0,cv0,ev0,_⟩:=o0.slice;clear o0 gr0 j0 J0 J0a c6 k0;generalize List.length _=lv0 at ev0;subst ev0;have k0:=gP J0b.aG H1;go_upto_region 12 with fail;clear c6' f6' r0;generalize (wb0.setCell ⟨g6,0,none⟩ (.slice av0 lv0 cv0))=wc0 at *;rw [rounds_succ];have c6:=ah J0b.row 0;have J1a:=Hh (J0b.below ((aa wc0.heap.size wc0).alloc (ac _) (.cells #[.iface 151 (.agg #[.int .i64 n1,.iface 25 (.int .i64 z1)])] 111)))
 go_wp2_with (at_builtin;refine bX (K:=KE) underlying152 p8 rfl (by omega) rfl _ _ rfl w.heap.size _ _ rfl J1a.out.own _ (some (n1,z1)) rfl ?d1 ?d2 ?d3 ?_)
 case d1 =>
  intro j u hu
  match j,hu with
  | 0,hu=>simp [KE,er,j4,IG] at hu;subst hu;go_simp
  | j+1,hu=>simp [KE] at hu
 case d2=>simp
 case d3=>exact J1a.aG.size
 intro v1 wb1 o1 gr1 _
 obtain ⟨r1,j1⟩:=J1a.push o1 (by simpa using gr1);have J1b:=Hh j1;have c6':=ah r1 0;have f6':=aj r1 0;obtain ⟨av1,cv1,ev1,_⟩:=o1.slice;clear o1 gr1 j1 J0b J1a c6 k0;generalize List.length _=lv1 at ev1;subst ev1;have E:=Hh J1b.aG;clear r1 J1b;go_wp2;rw [rounds_succ];go_wp2
 go_ret
 exact ⟨⟨_,rfl⟩,E⟩
open Fl (aA)
open Re (eX bJ)
theorem Iw (w:World) (v v':Value) (l l':List Int) (R:Rd KI w v l) (R':Rd KI w v' l'):Calls prog 52 #[v,v'] w fun e w'=>e = .returned (.bool (decide (l=l')))/\Below w.heap.size w w':=by
 have HNO:Hid (¬ l=l'->false=decide (l=l')):=Hh (fun h=>(ai h).symm);have HYES:Hid (l=l'->true=decide (l=l')):=Hh (fun b=>(bi b).symm);have HL:Hid (l.length=l'.length->(∀ i,i < l.length->gq l i=gq l' i)->l=l'):=Hh (fun a b=>sZ a b);obtain ⟨a,cap,rfl,_,hm,hA⟩:=R;obtain ⟨a',cap',rfl,_,hm',hA'⟩:=R';have HA:=Hh hA;have HA':=Hh hA';unfold maxLen at hm hm';clear hA hA';have HNE:Hid (l.length≠l'.length->¬ (l=l')):=Hh (fun h2 h=>h2 (by rw [h]));generalize hq:decide (l=l')=q at *;clear hq;generalize hn:l.length=n at *;generalize hn':l'.length=n' at *;have HN:=Hh hn;have HN':=Hh hn';clear hn hn'
 by_cases h2:n=n'
 ·subst h2
  go_enter func52,ntmps52
  go_wp2
  go_loopw [13] (fun i wr=>∃ k:Nat,k<=n/\i = .int .i64 k/\Hid (Below w.heap.size w wr)/\Hid (∀ i,i < k->gq l i=gq l' i)) (fun i _=>n - (intOf i).toNat)
  case atStart=>exact ⟨0,bt _,rfl,Hh (aa _ _),Hh (fun i hi=>by omega)⟩
  case round =>
   obtain ⟨j,hj,rfl,bw,hs⟩:=hrel
   by_cases hlt:j < n
   ·obtain ⟨b,off,rfl,A⟩:=HA (by omega)
    obtain ⟨b',off',rfl,A'⟩:=HA' (by omega);have c0:=Re.pE (A.below bw) j (by have:=HN.out;omega);have d0:=Re.pE (A'.below bw) j (by have:=HN'.out;omega);have HAA:=Hh A;have HAA':=Hh A';clear A A'
    by_cases he:gq l j=gq l' j
    ·have ST:Hid (∀ i,i < j+1->gq l i=gq l' i):=Hh (fun i hi=>by
      by_cases e:i=j
      ·rw [e];exact he
      ·exact hs i (by omega))
     have es:(gq l j != gq l' j)=false:=by simp [he]
     clear he;generalize gq l j=r at *;generalize gq l' j=r' at *;go_wp2
     go_quiet (fail)
     go_wp2
     go_roundw
     case rel=>exact ⟨j+1,by omega,by go_num,Hh (db bw.out _),ST⟩
     case measure=>simp [intOf];omega
    ·have E:=Hh (HNO (fun h=>he (by rw [h])))
     have es:(gq l j != gq l' j)=true:=by simp [he]
     clear he;generalize gq l j=r at *;generalize gq l' j=r' at *;go_wp2
     go_quiet (fail)
     go_wp2
     go_ret
     exact ⟨aA E,db bw _⟩
   ·have E:=Hh (HYES (HL (by trivial) (fun i hi=>hs.out i (by have:=HN.out;omega))))
    go_wp2
    go_ret
    exact ⟨aA E,bw⟩
 ·have E:=Hh (HNO (HNE h2))
  have q1:((n:Int) != (n':Int))=true:=by simp;omega
  clear HNO HYES HL HNE HA HA'
  go_enter func52,ntmps52
  go_wp2
  go_ret
  exact ⟨aA E,aa _ _⟩
def agB (A B:aP):Bool:=pM A && pM B && decide (jA A=jA B)
section
variable {s t p:Nat} {F G:Nat->Prop} {c:Cs} {vn vq:Value} {L:List Nd} {Fs:Nat->Nat->Prop} {w w':World}
theorem G6 (h:Cl w s F c t vn L p vq Fs) (hn:2<=c.S.length):Calls prog 24 #[ptr s] w fun e w'=>e = .returned (.bool (agB (sat c.S 0).1 (sat c.S 1).1))/\Below w.heap.size w w':=by
 have C1:=Hh (lq h (nn:=0) (by omega));have C2:=Hh (fun w1 b=>lq (h.below (w':=w1) b) (nn:=1) (by omega));have AG:Hid (agB (sat c.S 0).1 (sat c.S 1).1=(pM (sat c.S (0:Nat)).1 && pM (sat c.S (1:Nat)).1 && decide (jA (sat c.S (0:Nat)).1=jA (sat c.S (1:Nat)).1))):=Hh rfl;clear h;generalize agB (sat c.S 0).1 (sat c.S 1).1=ag at *;generalize (sat c.S (0:Nat)).1=A at *;generalize (sat c.S (1:Nat)).1=B at *;unfold SqC ptr at *
 go_enter func24,ntmps24
 go_wp2_with fail;refine C1.mono ?_;rintro e w1 ⟨b1,hc1⟩;have D2:=Hh (C2 w1 b1);have B1:=Hh b1;clear C1 C2 b1
 rcases hc1 with ⟨hs1,u1,rfl,r1⟩ | ⟨hs1,rfl⟩
 ·have R1:=Hh r1
  obtain ⟨a1,c1,rfl,_⟩:=r1.slice;clear r1;generalize hl1:(jA A).length=n1 at *;clear hl1;go_wp2_with fail;refine D2.mono ?_;rintro e w2 ⟨b2,hc2⟩;have B2:=aR B1 b2;have R1':=Hh (R1.below b2);clear D2 B1 R1 b2
  rcases hc2 with ⟨hs2,u2,rfl,r2⟩ | ⟨hs2,rfl⟩
  ·have R2:=Hh r2
   obtain ⟨a2,c2,rfl,_⟩:=r2.slice;clear r2;generalize hl2:(jA B).length=n2 at *;clear hl2;rw [hs1,hs2] at AG;have BA:=Hh ((aa w2.heap.size w2).alloc (ac _) (.cells #[.nilIface,.nilIface] 111));have X0:=Hh (bh w2 (.cells #[.nilIface,.nilIface] 111));have J:=Hh (join_none (w2.alloc (.cells #[.nilIface,.nilIface] 111)) w2.heap.size (ah X0 0) (ah X0 1));have B3:=aR B2 BA;have R1a:=Hh (R1'.below BA);have R2a:=Hh (R2.below BA);clear hs1 hs2 R1' R2 B2 X0;go_wp2_with fail;refine J.mono ?_;rintro e w3 ⟨rfl,b3⟩;have EQ:=Hh (Iw w3 _ _ _ _ (R1a.below b3) (R2a.below b3));have B4:=aR B3 b3;clear J b3 R1a R2a B3 BA;go_wp2_with fail;refine EQ.mono ?_;rintro e w4 ⟨rfl,b4⟩;have E:Hid (decide (jA A=jA B)=ag/\Below w.heap.size w w4):=Hh ⟨by rw [AG.out];rfl,aR B4 b4⟩;clear EQ b4 B4 AG;generalize decide (jA A=jA B)=dd at *;go_wp2
   go_ret
   exact ⟨aA E.out.1,E.out.2⟩
  ·rw [hs1,hs2] at AG
   unfold j4 IG at *;have BA:=Hh ((aa w2.heap.size w2).alloc (ac _) (.cells #[.nilIface,.iface 151 (.agg #[.int .i64 1,.iface 25 (.int .i64 2)])] 111));have X0:=Hh (bh w2 (.cells #[.nilIface,.iface 151 (.agg #[.int .i64 1,.iface 25 (.int .i64 2)])] 111));have J:=Hh (aav (w2.alloc (.cells #[.nilIface,.iface 151 (.agg #[.int .i64 1,.iface 25 (.int .i64 2)])] 111)) w2.heap.size 1 2 (ah X0 0) (ah X0 1));have B3:=aR B2 BA;have E:=Hh (show ag=false by rw [AG.out];rfl);clear hs1 hs2 R1' B2 X0 AG;go_wp2_with fail;refine J.mono ?_;rintro e w3 ⟨⟨pp,rfl⟩,b3⟩;have B4:=aR B3 b3;clear J b3 B3 BA;go_wp2
   go_ret
   exact ⟨aA E.symm,B4⟩
 ·go_wp2_with fail
  refine D2.mono ?_;rintro e w2 ⟨b2,hc2⟩;have B2:=aR B1 b2;clear D2 B1 b2
  rcases hc2 with ⟨hs2,u2,rfl,r2⟩ | ⟨hs2,rfl⟩
  ·obtain ⟨a2,c2,rfl,_⟩:=r2.slice
   clear r2;generalize hl2:(jA B).length=n2 at *;clear hl2;rw [hs1,hs2] at AG;unfold j4 IG at *;have BA:=Hh ((aa w2.heap.size w2).alloc (ac _) (.cells #[.iface 151 (.agg #[.int .i64 0,.iface 25 (.int .i64 2)]),.nilIface] 111));have X0:=Hh (bh w2 (.cells #[.iface 151 (.agg #[.int .i64 0,.iface 25 (.int .i64 2)]),.nilIface] 111));have J:=Hh (aa0 (w2.alloc (.cells #[.iface 151 (.agg #[.int .i64 0,.iface 25 (.int .i64 2)]),.nilIface] 111)) w2.heap.size 0 2 (ah X0 0) (ah X0 1));have B3:=aR B2 BA;have E:=Hh (show ag=false by rw [AG.out];rfl);clear hs1 hs2 B2 X0 AG;go_wp2_with fail;refine J.mono ?_;rintro e w3 ⟨⟨pp,rfl⟩,b3⟩;have B4:=aR B3 b3;clear J b3 B3 BA;go_wp2
   go_ret
   exact ⟨aA E.symm,B4⟩
  ·rw [hs1,hs2] at AG
   unfold j4 IG at *;have BA:=Hh ((aa w2.heap.size w2).alloc (ac _) (.cells #[.iface 151 (.agg #[.int .i64 0,.iface 25 (.int .i64 2)]),.iface 151 (.agg #[.int .i64 1,.iface 25 (.int .i64 2)])] 111));have X0:=Hh (bh w2 (.cells #[.iface 151 (.agg #[.int .i64 0,.iface 25 (.int .i64 2)]),.iface 151 (.agg #[.int .i64 1,.iface 25 (.int .i64 2)])] 111));have J:=Hh (abY (w2.alloc (.cells #[.iface 151 (.agg #[.int .i64 0,.iface 25 (.int .i64 2)]),.iface 151 (.agg #[.int .i64 1,.iface 25 (.int .i64 2)])] 111)) w2.heap.size 0 2 1 2 (ah X0 0) (ah X0 1));have B3:=aR B2 BA;have E:=Hh (show ag=false by rw [AG.out];rfl);clear hs1 hs2 B2 X0 AG;go_wp2_with fail;refine J.mono ?_;rintro e w3 ⟨⟨pp,rfl⟩,b3⟩;have B4:=aR B3 b3;clear J b3 B3 BA;go_wp2
   go_ret
   exact ⟨aA E.symm,B4⟩
end
theorem Tn (L:List Pl) (h:2<=L.length):agB (sat (newC L).S 0).1 (sat (newC L).S 1).1=true↔agree L:=by
 have s0:(sat (newC L).S 0).1=(dJ L 0).1:=by rw [show sat (newC L).S 0=_ from qF (L:=L) (i:=0) (by omega)]
 have s1:(sat (newC L).S 1).1=(dJ L 1).1:=by rw [show sat (newC L).S 1=_ from qF (L:=L) (i:=1) (by omega)]
 rw [s0,s1];unfold agB agree;generalize (dJ L 0).1=A;generalize (dJ L 1).1=B;have F:∀ A:aP,pM A=true->zV (fP A 40) (fR A 40)/\jA A=eX (fR A 40)/\fB A 40=true:=fun A h=>by
  unfold pM at h;rw [ce,cM] at h;obtain ⟨h1,h2⟩:=h;have i:zV (fP A 40) (fR A 40):=by
   unfold sN at h2
   split at h2
   ·assumption
   ·omega
  exact ⟨i,(Re.AJ i).1,h1⟩
 rw [ce,ce,cM]
 constructor
 ·rintro ⟨⟨hA,hB⟩,he⟩
  obtain ⟨iA,tA,_⟩:=F A hA;obtain ⟨iB,tB,bB⟩:=F B hB;refine ⟨hA,bB,by rw [iA.2.2.1,iB.2.2.1],?_⟩;rw [iA.2.2.2,iB.2.2.2,← tA,← tB,he]
 ·rintro ⟨hA,hB,hp,hr⟩
  obtain ⟨iA,tA,_⟩:=F A hA;have hB':pM B=true:=by
   unfold pM;rw [hB,← hp,← hr,(Re.AJ iA).2]
   rfl
  refine ⟨⟨hA,hB'⟩,?_⟩;obtain ⟨_,tB,_⟩:=F B hB';rw [tA,tB,hr]
end Cu
namespace Tk
def fr (A:Nat->Int):Nat->Int
 | 0=>0
 | k+1=>A k
def rt (R:Nat->Int):Nat->Int
 | 0=>0
 | k+1=>R k
def sm (A R:Nat->Int):Nat->Int
 | 0=>0
 | k+1=>sm A R k+(A k - fr A k) * (1000000+rt R k)
def fQ (A:Nat->Int) (n:Nat) (t:Int) (k:Nat):Prop:=k<=n/\(∀ i,i < k->A i < t)/\(k < n->t<=A k)
variable {A R:Nat->Int} {n k j:Nat} {t:Int}
theorem fQ.uniq (h:fQ A n t k) (g:fQ A n t j):k=j:=by
 obtain ⟨h1,h2,h3⟩:=h;obtain ⟨g1,g2,g3⟩:=g
 rcases Nat.lt_trichotomy k j with c | c | c
 ·have a:=h3 (by omega);have b:=g2 k c;omega
 ·exact c
 ·have a:=g3 (by omega);have b:=h2 j c;omega
theorem fQ.ex (A:Nat->Int) (n:Nat) (t:Int):∃ k,fQ A n t k:=by
 induction n with
 | zero=>exact ⟨0,ac _,fun i h=>by omega,fun h=>by omega⟩
 | succ n ih =>
   obtain ⟨k,h1,h2,h3⟩:=ih
   by_cases hk:k < n
   ·exact ⟨k,by omega,h2,fun _=>h3 hk⟩
   ·obtain rfl:k=n:=by omega
    by_cases ha:A k < t
    ·refine ⟨k+1,by omega,fun i hi=>?_,fun h=>by omega⟩
     by_cases e:i=k
     ·subst e;exact ha
     ·exact h2 i (by omega)
    ·exact ⟨k,by omega,h2,fun _=>by omega⟩
noncomputable def stop (A:Nat->Int) (n:Nat) (t:Int):Nat:=(fQ.ex A n t).choose
theorem xE (A:Nat->Int) (n:Nat) (t:Int):fQ A n t (stop A n t):=(fQ.ex A n t).choose_spec
theorem Xm (h:fQ A n t k):stop A n t=k:=(xE A n t).uniq h
def pp (A R:Nat->Int) (k:Nat) (t:Int):Int:=sm A R k+(t - fr A k) * (1000000+rt R k)
noncomputable def PP (A R:Nat->Int) (n:Nat) (t:Int):Int:=pp A R (stop A n t) t
theorem qX (h:fQ A n t k):PP A R n t=pp A R k t:=by rw [PP,Xm h]
def jX (t:Int):Int:=if t < 0 then 0 else if 4294967296 < t then 4294967296 else t
theorem SE (t:Int):0<=jX t:=by unfold jX;split <;> (try split) <;> omega
theorem Ub (t:Int):jX t<=4294967296:=by unfold jX;split <;> (try split) <;> omega
theorem gz (h:0<=t) (h':t<=4294967296):jX t=t:=by unfold jX;split <;> (try split) <;> omega
noncomputable def Loc (A R:Nat->Int) (n:Nat) (t:Int):Int:=PP A R n (jX t) / 1000000
structure bG (n:Nat) (A R:Nat->Int):Prop where
 len:n<=64
 at_:∀ i,i < n->0<=A i/\A i<=4294967296
 rate:∀ i,i < n->-20000<=R i/\R i<=20000
 up:∀ i,i+1 < n->A i < A (i+1)
noncomputable def dQ (n:Nat) (A R:Nat->Int):Bool:=@decide (bG n A R) (Classical.propDecidable _)
theorem j5 : dQ n A R=true↔bG n A R:=by unfold dQ;exact @decide_eq_true_iff _ (Classical.propDecidable _)
theorem vK (h:bG n A R):dQ n A R=true:=j5.2 h
theorem yU (h:¬ bG n A R):dQ n A R=false:=by
 cases e:dQ n A R with
 | false=>rfl
 | true=>exact absurd (j5.1 e) h
section
variable {n:Nat} {A R:Nat->Int}
theorem Gi (g:bG n A R) (k:Nat) (h:k<=n) : -20000<=rt R k/\rt R k<=20000:=by
 cases k with
 | zero=>exact ⟨by simp [rt],by simp [rt]⟩
 | succ k=>exact g.rate k (by omega)
theorem ZY (g:bG n A R) (k:Nat) (h:k<=n):0<=fr A k/\fr A k<=4294967296:=by
 cases k with
 | zero=>exact ⟨by simp [fr],by simp [fr]⟩
 | succ k=>exact g.at_ k (by omega)
theorem ZO (g:bG n A R) (k:Nat) (h:k < n):fr A k<=A k:=by
 cases k with
 | zero=>exact (g.at_ 0 h).1
 | succ k=>exact Int.le_of_lt (g.up k h)
variable {d c u:Int}
theorem JN (h:0<=d) (h1:980000<=c) (h2:c<=1020000):d * 980000<=d * c/\d * c<=d * 1020000 :=
 ⟨Int.mul_le_mul_of_nonneg_left h1 h,Int.mul_le_mul_of_nonneg_left h2 h⟩
theorem aak (g:bG n A R) (k:Nat) (h:k<=n):fr A k * 980000<=sm A R k/\sm A R k<=fr A k * 1020000:=by
 induction k with
 | zero=>simp [fr,sm]
 | succ k ih =>
   have i:=ih (by omega);have b:=Gi g k (by omega);have f:=ZO g k (by omega);have m:=JN (d:=A k - fr A k) (c:=1000000+rt R k) (by omega) (by omega) (by omega)
   show A k * 980000<=sm A R k+(A k - fr A k) * (1000000+rt R k)/\sm A R k+(A k - fr A k) * (1000000+rt R k)<=A k * 1020000
   generalize (A k - fr A k) * (1000000+rt R k)=z at m ⊢
   omega
theorem adj (g:bG n A R) (k:Nat) (h:k<=n) (t:Int) (ht:fr A k<=t):t * 980000<=pp A R k t/\pp A R k t<=t * 1020000:=by
 have i:=aak g k h;have b:=Gi g k h;have m:=JN (d:=t - fr A k) (c:=1000000+rt R k) (by omega) (by omega) (by omega);unfold pp;generalize (t - fr A k) * (1000000+rt R k)=z at m ⊢
 omega
theorem Dz (h0:0<=t) (h:fQ A n t k):fr A k<=t:=by
 cases k with
 | zero=>exact h0
 | succ k=>exact Int.le_of_lt (h.2.1 k (by omega))
theorem Ah (g:bG n A R) (t:Int) (h0:0<=t):t * 980000<=PP A R n t/\PP A R n t<=t * 1020000:=by
 have s:=xE A n t;exact adj g _ s.1 t (Dz h0 s)
theorem MV (g:bG n A R) (t:Int):∃ c,980000<=c/\c<=1020000/\PP A R n (t+1)=PP A R n t+c:=by
 have s:=xE A n t;generalize hk:stop A n t=k at s;obtain ⟨s1,s2,s3⟩:=s;rw [qX ⟨s1,s2,s3⟩]
 by_cases hn:k < n/\A k < t+1
 ·obtain ⟨hn,ha⟩:=hn
  have e:A k=t:=by have:=s3 hn;omega
  have st:fQ A n (t+1) (k+1):=by
   refine ⟨hn,fun i hi=>?_,fun h=>?_⟩
   ·by_cases c:i=k
    ·subst c;exact ha
    ·have:=s2 i (by omega);omega
   ·have:=g.up k h;omega
  rw [qX st];have b:=g.rate k hn;refine ⟨1000000+R k,by omega,by omega,?_⟩
  show sm A R k+(A k - fr A k) * (1000000+rt R k)+(t+1 - A k) * (1000000+R k)=sm A R k+(t - fr A k) * (1000000+rt R k)+(1000000+R k)
  rw [e,show t+1 - t=1 by omega,Int.one_mul]
 ·have st:fQ A n (t+1) k:=by
   refine ⟨s1,fun i hi=>?_,fun h=>?_⟩
   ·have:=s2 i hi;omega
   ·have:=s3 h;omega
  rw [qX st];have b:=Gi g k s1;refine ⟨1000000+rt R k,by omega,by omega,?_⟩;unfold pp;rw [show t+1 - fr A k=(t - fr A k)+1 by omega,Int.add_mul,Int.one_mul]
  omega
theorem oU (g:bG n A R):PP A R n 0=0:=by have:=Ah g 0 (by decide);omega
theorem abn (g:bG n A R) (t:Int) (d:Nat):PP A R n t+980000 * d<=PP A R n (t+d)/\PP A R n (t+d)<=PP A R n t+1020000 * d:=by
 induction d with
 | zero=>simp
 | succ d ih =>
   obtain ⟨c,c1,c2,e⟩:=MV g (t+d);rw [show t+((d+1:Nat):Int)=t+d+1 by omega,e]
   omega
theorem BU (g:bG n A R) (h:t<=u):PP A R n t<=PP A R n u:=by
 have:=(abn g t (u - t).toNat).1;rw [show t+((u - t).toNat:Int)=u by omega] at this
 omega
theorem J8 (h:t<=u):jX t<=jX u:=by unfold jX;repeat' split <;> omega
theorem TS (g:bG n A R) (h:t<=u):Loc A R n t<=Loc A R n u:=by
 unfold Loc;have:=BU g (J8 h)
 omega
theorem TW (g:bG n A R) (t:Int) (h0:0<=t) (h1:t<=4294967296):Loc A R n t<=t+t / 50/\t - t / 50 - 1<=Loc A R n t:=by
 unfold Loc;rw [gz h0 h1];have:=Ah g t h0
 omega
end
structure JD (A R:Nat->Int) (n:Nat) (m g:Int):Prop where
 lo:0<=g
 hi:g<=4294967296
 before:∀ t,0<=t->t < g->Loc A R n t < m
 there:g < 4294967296->m<=Loc A R n g
variable {m k:Int}
theorem JD.uniq {g:Int} (h:JD A R n m g) (i:JD A R n m k):g=k:=by
 have a:=h.lo;have b:=h.hi;have c:=i.lo;have d:=i.hi
 rcases Int.lt_trichotomy g k with e | e | e
 ·have x:=h.there (by omega);have y:=i.before g a e;omega
 ·exact e
 ·have x:=i.there (by omega);have y:=h.before k c e;omega
theorem Wh (f:Int->Int) (m:Int) (N:Nat):(∃ g:Int,0<=g/\g < N/\(∀ t,0<=t->t < g->f t < m)/\m<=f g)\/(∀ t:Int,0<=t->t < N->f t < m):=by
 induction N with
 | zero=>exact .inr fun t h h'=>by omega
 | succ N ih =>
   rcases ih with ⟨g,g0,g1,g2,g3⟩ | h
   ·exact .inl ⟨g,g0,by omega,g2,g3⟩
   ·by_cases c:f N < m
    ·refine .inr fun t t0 t1=>?_
     by_cases e:t=N
     ·subst e;exact c
     ·exact h t t0 (by omega)
    ·exact .inl ⟨N,by omega,by omega,h,by omega⟩
theorem JD.ex (A R:Nat->Int) (n:Nat) (m:Int):∃ g,JD A R n m g:=by
 generalize hN:(4294967296:Int).toNat=N;have e:(N:Int)=4294967296:=by omega
 rcases Wh (Loc A R n) m N with ⟨g,g0,g1,g2,g3⟩ | h
 ·exact ⟨g,g0,by omega,g2,fun _=>g3⟩
 ·exact ⟨4294967296,by omega,by omega,fun t t0 t1=>h t t0 (by omega),fun h=>by omega⟩
noncomputable def dx (A R:Nat->Int) (n:Nat) (m:Int):Int:=(JD.ex A R n m).choose
theorem gG (A R:Nat->Int) (n:Nat) (m:Int):JD A R n m (dx A R n m):=(JD.ex A R n m).choose_spec
theorem Dc {g:Int} (h:JD A R n m g):dx A R n m=g:=(gG A R n m).uniq h
theorem JD.YV {g:Int} (h0:0<=g) (h1:g<=4294967296) (hl:∀ t,0<=t->t < g->Loc A R n t < m) (hh:g < 4294967296->m<=Loc A R n g):JD A R n m g:=⟨h0,h1,hl,hh⟩
end Tk
namespace Sp
open Go.RowKit
abbrev S2:=Int×Int
def fr (l:List S2) (i:Nat):Int:=(l.getD i (0,0)).1
def tp (l:List S2) (i:Nat):Int:=(l.getD i (0,0)).2
def flat:List S2->List Value
 | []=>[]
 | s :: r=>.int .i64 s.1 :: .int .i64 s.2 :: flat r
theorem dK:∀ l:List S2,(flat l).length=l.length * 2
 | []=>rfl
 | s :: r=>by simp [flat,dK r];omega
theorem iO:∀ a b:List S2,flat (a ++ b)=flat a ++ flat b
 | [],_=>rfl
 | s :: r,b=>by simp [flat,iO r b]
theorem flat_get:∀ (l:List S2) (i:Nat),i < l.length->(flat l)[i * 2]? = some (.int .i64 (fr l i))/\(flat l)[i * 2+1]? = some (.int .i64 (tp l i))
 | s :: r,0,_=>⟨rfl,rfl⟩
 | s :: r,i+1,h=>by
   have ih:=flat_get r i (by simpa using h);have e:(i+1) * 2=i * 2+1+1:=by omega
   rw [e];exact ih
def At (w:World) (b off:Nat) (l:List S2):Prop:=∀ i,i < l.length->w.cell? ⟨b,off+i * 2,none⟩=some (.int .i64 (fr l i))/\w.cell? ⟨b,off+i * 2+1,none⟩=some (.int .i64 (tp l i))
def Sp (w:World) (v:Value) (l:List S2):Prop:=∃ a cap,v = .slice a l.length cap/\l.length<=cap/\cap<=maxLen/\(0 < l.length->∃ b off,a=some ⟨b,off,none⟩/\At w b off l)
def Own (w:World) (B E:Nat) (v:Value) (l:List S2):Prop:=w.ownsRow B E 2 v l.length (flat l)
variable {w w':World} {b off B E j:Nat} {l:List S2}
theorem At.below (h:At w b off l) (hb:Below w.heap.size w w'):At w' b off l:=fun i hi=>by
 obtain ⟨c1,c2⟩:=h i hi;exact ⟨gP hb c1,gP hb c2⟩
theorem Sp.below {w w':World} {v:Value} {l:List S2} (h:Sp w v l) (hb:Below w.heap.size w w'):Sp w' v l:=by
 obtain ⟨a,cap,e,h1,h2,h3⟩:=h;exact ⟨a,cap,e,h1,h2,fun hp=>by obtain ⟨b,off,ea,hA⟩:=h3 hp;exact ⟨b,off,ea,hA.below hb⟩⟩
theorem Sp.slice {w:World} {v:Value} {l:List S2} (h:Sp w v l):∃ a cap,v = .slice a l.length cap/\cap<=maxLen:=by
 obtain ⟨a,cap,e,_,h2,_⟩:=h;exact ⟨a,cap,e,h2⟩
theorem Own.nil (w:World) (B E:Nat):Own w B E (.slice none 0 0) []:=World.ownsRow_nil _ _ _ _
theorem Own.made (w:World) (B E:Nat) (hB:B<=w.heap.size):Own (w.alloc (.cells #[] E)) B E (.slice (some ⟨w.heap.size,0,none⟩) 0 0) [] :=
 World.ownsRow_made w #[] 0 hB (by unfold maxLen;omega) (by simp)
variable {v v':Value}
theorem Own.sp (h:Own w B E v l):Sp w v l:=by
 have hc:=fun g hg j u=>World.ownsRow.cells h (g:=g) hg j u;obtain ⟨_,h⟩:=h
 rcases h with ⟨rfl,h0⟩ | ⟨g,cap,cur,rfl,_,_,h1,h2,_⟩
 ·exact ⟨none,0,by rw [h0],by omega,by unfold maxLen;omega,fun h=>by omega⟩
 ·refine ⟨_,cap,rfl,h1,h2,fun _=>⟨g,0,rfl,fun i hi=>?_⟩⟩
  obtain ⟨g1,g2⟩:=flat_get l i hi;have c1:=hc g rfl _ _ g1;have c2:=hc g rfl _ _ g2;simp only [Addr.add_lit] at c1 c2;exact ⟨c1,by rw [← Nat.add_assoc] at c2;exact c2⟩
theorem Own.form (h:Own w B E v l) (hl:0 < l.length):∃ g cap,v = .slice (some ⟨g,0,none⟩) l.length cap/\B<=g/\g < w.heap.size/\l.length<=cap/\cap<=maxLen/\w.frozen? ⟨g,0,none⟩=false /\
 (∀ i,i < l.length->w.cell? ⟨g,i * 2,none⟩=some (.int .i64 (fr l i))/\w.cell? ⟨g,i * 2+1,none⟩=some (.int .i64 (tp l i))/\w.frozen? ⟨g,i * 2,none⟩=false/\w.frozen? ⟨g,i * 2+1,none⟩=false):=by
 have hc:=fun g hg j u=>World.ownsRow.cells h (g:=g) hg j u;obtain ⟨_,h⟩:=h
 rcases h with ⟨_,h0⟩ | ⟨g,cap,cur,rfl,hB,hh,h1,h2,_⟩
 ·omega
 ·refine ⟨g,cap,rfl,hB,bm hh,h1,h2,by simp [World.frozen?,hh],fun i hi=>?_⟩
  obtain ⟨g1,g2⟩:=flat_get l i hi;have c1:=hc g rfl _ _ g1;have c2:=hc g rfl _ _ g2;simp only [Addr.add_lit,cX] at c1 c2;exact ⟨c1,c2,by simp [World.frozen?,hh],by simp [World.frozen?,hh]⟩
theorem Own.slice {w:World} {B E:Nat} {v:Value} {l:List S2} (h:Own w B E v l):∃ a cap,v = .slice a l.length cap/\l.length<=cap/\cap<=maxLen:=by
 obtain ⟨_,h⟩:=h
 rcases h with ⟨rfl,h0⟩ | ⟨g,cap,cur,rfl,_,_,h1,h2,_⟩
 ·exact ⟨none,0,by rw [h0],by omega,by unfold maxLen;omega⟩
 ·exact ⟨_,_,rfl,h1,h2⟩
theorem Own.alloc {w:World} {B E:Nat} {v:Value} {l:List S2} (h:Own w B E v l) (o:Obj):Own (w.alloc o) B E v l:=gg h o
theorem Own.draw (h:Own w B E v l) (n:Nat):Own (w.drewN n) B E v l:=h
theorem Own.keep (h:Own w B E v l) (hb:Below w.heap.size w w'):Own w' B E v l:=by
 obtain ⟨h1,h2⟩:=h;refine ⟨h1,?_⟩
 rcases h2 with h2 | ⟨g,cap,cur,e,hB,hh,r⟩
 ·exact .inl h2
 ·exact .inr ⟨g,cap,cur,e,hB,(hb.block g (bm hh)).trans hh,r⟩
theorem heap_setCell_same {g:Nat} {cur:Array Value} {E:TypeId} (hh:w.heap[g]? = some (.cells cur E (0,0))) (u:Value):(w.setCell ⟨g,j,none⟩ u).heap[g]? = some (.cells (cur.setIfInBounds j u) E (0,0)):=by
 have hlt:=bm hh;have h':w.heap[g] = .cells cur E (0,0):=by simpa [Array.getElem?_eq_getElem hlt] using hh
 show (w.heap.modify g _)[g]? = _
 rw [gO (by simpa using hlt),Array.getElem_modify_self,h']
 rfl
theorem nV:∀ (l:List S2) (i:Nat) (x:Int),i < l.length->(flat l).set (i * 2+1) (.int .i64 x)=flat (l.set i (fr l i,x))
 | s :: r,0,x,_=>rfl
 | s :: r,i+1,x,h=>by
   have ih:=nV r i x (by simpa using h);have e:(i+1) * 2+1=(i * 2+1)+1+1:=by omega
   rw [e]
   show Value.int .i64 s.1 :: Value.int .i64 s.2 :: (flat r).set (i * 2+1) (.int .i64 x)=_
   rw [ih]
   rfl
theorem Own.set {w:World} {B E g cap:Nat} {l:List S2} (h:Own w B E (.slice (some ⟨g,0,none⟩) l.length cap) l) (i:Nat) (hi:i < l.length) (x:Int) :
 Own (w.setCell ⟨g,i * 2+1,none⟩ (.int .i64 x)) B E (.slice (some ⟨g,0,none⟩) l.length cap) (l.set i (fr l i,x)):=by
 obtain ⟨h1,h2⟩:=h;refine ⟨by rw [dK],?_⟩
 rcases h2 with ⟨e,_⟩ | ⟨g',cap',cur,e,hB,hh,k1,k2,k3,k4⟩
 ·simp at e
 ·injection e with e1 e2 e3
  injection e1 with e1;injection e1 with e1;subst e1 e3;refine .inr ⟨_,_,_,by rw [cA],hB,heap_setCell_same hh _,by rw [cA];exact k1,k2,by simp [k3],?_⟩;rw [← nV l i x hi,← k4,cA]
  simp [List.take_set]
theorem Own.push {s:S2} (h:w'.ownsRow B E 2 v' (l.length+1) (flat l ++ [.int .i64 s.1,.int .i64 s.2])):Own w' B E v' (l ++ [s]):=by
 show w'.ownsRow B E 2 v' (l ++ [s]).length (flat (l ++ [s]))
 rw [iO,cI];exact h
end Sp
namespace Wi
open Sp
theorem zm (a b:Int):a < b\/b<=a:=by omega
def Low (l:List S2) (t:Int):Prop:=∃ s∈l,s.1<=t/\t < s.2
def KG (t:Int) (s:S2):Bool:=decide (s.1<=t) && decide (t < s.2)
def gD (l:List S2) (t:Int):Bool:=l.any (KG t)
variable {l a b r S p:List S2} {t:Int}
theorem yL : gD l t=true↔Low l t:=by
 simp [gD,Low,KG,List.any_eq_true]
theorem yj : gD l t=false↔¬ Low l t:=by
 rw [← yL];simp
def Plain (l:List S2):Prop:=(∀ s∈l,s.1 < s.2)/\l.Pairwise (fun a b=>a.2 < b.1)
variable {i k:Nat}
theorem tY (h:i < l.length):(fr l i,tp l i)∈l:=by
 have e:l.getD i (0,0)=l[i]:=by simp [h]
 show ((l.getD i (0,0)).1,(l.getD i (0,0)).2)∈l
 rw [e];exact dk h
variable {s q:S2}
theorem mem_iff : s∈l↔∃ i,i < l.length/\fr l i=s.1/\tp l i=s.2:=by
 constructor
 ·intro h
  obtain ⟨i,hi,e⟩:=ed h;exact ⟨i,hi,by simp [fr,hi,e],by simp [tp,hi,e]⟩
 ·rintro ⟨i,hi,e1,e2⟩
  have:=tY hi;rw [e1,e2] at this;exact this
theorem KM : Low l t↔∃ i,i < l.length/\fr l i<=t/\t < tp l i:=by
 constructor
 ·rintro ⟨s,hs,h⟩
  obtain ⟨i,hi,e1,e2⟩:=mem_iff.1 hs;exact ⟨i,hi,by omega,by omega⟩
 ·rintro ⟨i,hi,h⟩
  exact ⟨_,tY hi,h⟩
theorem fG : Low (a ++ b) t↔Low a t\/Low b t:=by
 constructor
 ·rintro ⟨s,hs,h⟩
  rcases eV.1 hs with h' | h'
  ·exact .inl ⟨s,h',h⟩
  ·exact .inr ⟨s,h',h⟩
 ·rintro (⟨s,hs,h⟩ | ⟨s,hs,h⟩)
  ·exact ⟨s,List.mem_append_left _ hs,h⟩
  ·exact ⟨s,List.mem_append_right _ hs,h⟩
theorem jI : ¬ Low [] t:=by rintro ⟨s,hs,_⟩;simp at hs
theorem eY : Low (s :: r) t↔(s.1<=t/\t < s.2)\/Low r t:=by
 constructor
 ·rintro ⟨x,hx,h⟩
  rcases cj.1 hx with rfl | h'
  ·exact .inl h
  ·exact .inr ⟨x,h',h⟩
 ·rintro (h | ⟨x,hx,h⟩)
  ·exact ⟨s,cD,h⟩
  ·exact ⟨x,cC _ hx,h⟩
theorem oP : Low [s] t↔s.1<=t/\t < s.2:=by
 rw [eY];exact ⟨fun h=>h.resolve_right jI,.inl⟩
theorem Om:Plain []:=⟨fun s h=>by simp at h,gS⟩
theorem qm : Plain (l ++ [s])↔Plain l/\s.1 < s.2/\∀ x∈l,x.2 < s.1:=by
 unfold Plain;rw [List.pairwise_append]
 constructor
 ·rintro ⟨h1,h2,_,h3⟩
  exact ⟨⟨fun x hx=>h1 x (List.mem_append_left _ hx),h2⟩,h1 s (by simp),fun x hx=>h3 x hx s (by simp)⟩
 ·rintro ⟨⟨h1,h2⟩,h3,h4⟩
  refine ⟨fun x hx=>?_,h2,List.pairwise_singleton _ _,fun x hx y hy=>?_⟩
  ·rcases eV.1 hx with h | h
   ·exact h1 x h
   ·simp at h;subst h;exact h3
  ·simp at hy;subst hy;exact h4 x hx
theorem iF : Plain (s :: l)↔Plain l/\s.1 < s.2/\∀ x∈l,s.2 < x.1:=by
 unfold Plain;rw [de]
 constructor
 ·rintro ⟨h1,h2,h3⟩
  exact ⟨⟨fun x hx=>h1 x (cC _ hx),h3⟩,h1 s cD,h2⟩
 ·rintro ⟨⟨h1,h2⟩,h3,h4⟩
  refine ⟨fun x hx=>?_,h4,h2⟩
  rcases cj.1 hx with rfl | h
  ·exact h3
  ·exact h1 x h
theorem qN (h:Plain l):∀ s∈l,¬ Low l s.2:=by
 induction l with
 | nil=>intro s hs;simp at hs
 | cons a r ih =>
   obtain ⟨hp,ha,hr⟩:=iF.1 h
   intro s hs hl
   rw [eY] at hl
   rcases cj.1 hs with rfl | hs
   ·rcases hl with hl | ⟨x,hx,h1,h2⟩
    ·omega
    ·have:=hr x hx;omega
   ·rcases hl with hl | hl
    ·have:=hr s hs;have:=hp.1 s hs;omega
    ·exact ih hp s hs hl
theorem tC:∀ {a b:List S2},Plain a->Plain b->(∀ t,Low a t↔Low b t)->a=b
 | [],[],_,_,_=>rfl
 | [],s :: r,_,hb,h=>by
   obtain ⟨_,h1,_⟩:=iF.1 hb;exact absurd ((h s.1).2 (eY.2 (.inl ⟨by omega,h1⟩))) jI
 | s :: r,[],ha,_,h=>by
   obtain ⟨_,h1,_⟩:=iF.1 ha;exact absurd ((h s.1).1 (eY.2 (.inl ⟨by omega,h1⟩))) jI
 | s :: r,s' :: r',ha,hb,h=>by
   obtain ⟨hr,h1,h2⟩:=iF.1 ha;obtain ⟨hr',h1',h2'⟩:=iF.1 hb;have lo:s'.1<=s.1:=by
    obtain ⟨x,hx,hx1,_⟩:=(h s.1).1 (eY.2 (.inl ⟨by omega,h1⟩))
    rcases cj.1 hx with rfl | hx
    ·exact hx1
    ·have:=h2' x hx;omega
   have lo':s.1<=s'.1:=by
    obtain ⟨x,hx,hx1,_⟩:=(h s'.1).2 (eY.2 (.inl ⟨by omega,h1'⟩))
    rcases cj.1 hx with rfl | hx
    ·exact hx1
    ·have:=h2 x hx;omega
   have hi:s'.2<=s.2:=by
    rcases zm s.2 s'.2 with c | c
    ·exact absurd ((h s.2).2 (eY.2 (.inl ⟨by omega,c⟩))) (qN ha s cD)
    ·exact c
   have hi':s.2<=s'.2:=by
    rcases zm s'.2 s.2 with c | c
    ·exact absurd ((h s'.2).1 (eY.2 (.inl ⟨by omega,c⟩))) (qN hb s' cD)
    ·exact c
   have e:s=s':=Prod.ext (by omega) (by omega);subst e;have er:r=r':=tC hr hr' fun t=>by
    constructor
    ·intro ht
     obtain ⟨x,hx,hx1,_⟩:=ht;have:=h2 x hx
     rcases eY.1 ((h t).1 (eY.2 (.inr ⟨x,hx,hx1,by assumption⟩))) with c | c
     ·omega
     ·exact c
    ·intro ht
     obtain ⟨x,hx,hx1,_⟩:=ht;have:=h2' x hx
     rcases eY.1 ((h t).2 (eY.2 (.inr ⟨x,hx,hx1,by assumption⟩))) with c | c
     ·omega
     ·exact c
   rw [er]
structure ig (S:List S2) (k:Nat) (l:List S2):Prop where
 plain:Plain l
 low:∀ t,Low l t↔Low (S.take k) t
 ahead:∀ x∈l,∀ i,k<=i->i < S.length->x.1<=fr S i
structure qz (S:List S2):Prop where
 ticks:∀ i,i < S.length->fr S i < tp S i
 up:∀ i j,i<=j->j < S.length->fr S i<=fr S j
theorem lQ (h:k < S.length):S.take (k+1)=S.take k ++ [(fr S k,tp S k)]:=by
 rw [List.take_succ_eq_append_getElem h];have e:(fr S k,tp S k)=S[k]:=by simp [fr,tp,h]
 rw [e]
theorem ig.zero (S:List S2):ig S 0 []:=⟨Om,fun t=>by simp,fun x hx=>by simp at hx⟩
theorem ig.push (hS:qz S) (h:ig S k l) (hk:k < S.length) (hl:∀ x∈l,x.2 < fr S k):ig S (k+1) (l ++ [(fr S k,tp S k)]):=by
 refine ⟨qm.2 ⟨h.plain,hS.ticks k hk,hl⟩,fun t=>?_,fun x hx i h1 h2=>?_⟩
 ·rw [lQ hk,fG,fG,h.low]
 ·rcases eV.1 hx with c | c
  ·exact h.ahead x c i (by omega) h2
  ·simp at c;subst c;exact hS.up k i (by omega) h2
theorem ig.grow (h:ig S k (p ++ [q])) (hk:k < S.length) (hl:fr S k<=q.2) (m:Int) (hm:(q.2<=m/\tp S k<=m)/\(m=q.2\/m=tp S k)):ig S (k+1) (p ++ [(q.1,m)]):=by
 obtain ⟨hp,hq,hx⟩:=qm.1 h.plain;have ha:=h.ahead q (by simp) k (by omega) hk;refine ⟨qm.2 ⟨hp,by show q.1 < m;omega,hx⟩,fun t=>?_,fun x hx i h1 h2=>?_⟩
 ·have:=h.low t
  rw [fG,oP] at this;rw [lQ hk,fG,fG,oP,oP,← this]
  constructor
  ·rintro (c | c)
   ·exact .inl (.inl c)
   ·by_cases d:t < q.2
    ·exact .inl (.inr ⟨c.1,d⟩)
    ·exact .inr ⟨by show fr S k<=t;omega,by show t < tp S k;have:=c.2;simp at this;omega⟩
  ·rintro ((c | c) | c)
   ·exact .inl c
   ·exact .inr ⟨c.1,by show t < m;omega⟩
   ·exact .inr ⟨by show q.1<=t;have:=c.1;simp at this;omega,by show t < m;have:=c.2;simp at this;omega⟩
 ·rcases eV.1 hx with c | c
  ·exact h.ahead x (List.mem_append_left _ c) i (by omega) h2
  ·simp at c;subst c;exact h.ahead q (by simp) i (by omega) h2
theorem ig.all (h:ig S S.length l):Plain l/\∀ t,Low l t↔Low S t:=⟨h.plain,fun t=>by rw [h.low,cU]⟩
def yh:List S2->Int
 | []=>-1099511627777
 | [s]=>s.2
 | _ :: s :: r=>yh (s :: r)
theorem Gw:∀ (l:List S2),0 < l.length->yh l=tp l (l.length - 1)
 | [_],_=>rfl
 | a :: b :: r,_=>by
   have:=Gw (b :: r) (by simp)
   show yh (b :: r)=_
   rw [this]
   simp [tp]
theorem yM:∀ {l:List S2},Plain l->∀ x∈l,x.2<=yh l
 | [s],_,x,hx=>by simp at hx;subst hx;exact gk _
 | a :: b :: r,h,x,hx=>by
   obtain ⟨h1,h2,h3⟩:=iF.1 h
   show x.2<=yh (b :: r)
   rcases cj.1 hx with rfl | hx
   ·have a1:=h3 b (by simp)
    have a2:=h1.1 b (by simp);have a3:=yM h1 b (by simp)
    omega
   ·exact yM h1 x hx
open Go.RowKit Go.Proofs.YtpepoackmcohlaaGreatDoor.Sp
theorem bY {a b:Int} (h:a=b):Ending.returned (.int .i64 a) = .returned (.int .i64 b):=by rw [h]
theorem xO:(prog.info? 297).map (fun i=>(i.zero,i.size,i.bytes))=some (some (.agg #[.int .i64 0,.int .i64 0]),2,16):=by kernel_rfl
theorem iK (a:Addr):a.add 0=a:=by cases a;simp [Addr.add]
variable {w:World}
theorem dU {ops:Array Oper} {rest:List Oper} {o:Oper} {a:Act} {Q:Exit->Act->World->Prop} (hgd:o.guard=none) (s x:Operand)
 (ho:o.op = .call { callee:=.builtin .append,args:=#[s,x],argTypes:=#[213,213] }) (B:Nat) (v:Value) (l:List S2) (hs:a.eval s=v) (hown:Sp.Own w B 297 v l)
 (ad:Addr) (p q:Int) (hx:a.eval x = .slice (some ad) 1 1) (h0:w.cell? ad=some (.int .i64 p)) (h1:w.cell? (ad.add 1)=some (.int .i64 q)) (hlen:l.length < 4398046511104) (hB:B<=w.heap.size)
 (h:∀ v' w',Sp.Own w' B 297 v' (l ++ [(p,q)])->Below B w w'->wpList prog ops Q rest (a.put o.dst v') w'):wpList prog ops Q (o :: rest) a w:=by
 obtain ⟨i0,hi,hz0,hz1,hz2⟩:=eE xO;refine wpList_append_own _ hgd s x 213 ho B 297 i0 (.agg #[.int .i64 0,.int .i64 0]) 2 16 underlying213 hi hz0 hz1 hz2 rfl (by decide) v l.length (flat l) hs hown ad 1 1 [.int .i64 p,.int .i64 q] hx rfl ?_ ?_ ?_ ?_ hB ?_
 ·intro j u hj
  match j,hj with
  | 0,hj=>simp at hj;subst hj;rw [iK];exact h0
  | 1,hj=>simp at hj;subst hj;exact h1
  | j+2,hj=>simp at hj
 ·intro u hu
  simp at hu
  rcases hu with rfl | rfl <;> rfl
 ·unfold maxLen;omega
 ·omega
 ·intro v' w' h2 h3 _
  exact h v' w' (Sp.Own.push (s:=(p,q)) h2) ((aa B w).grown h3 hB fun k hk=>(ci hown k hk).1)
theorem Bi (w:World) (a b:Int):Calls prog 203 #[.agg #[.int .i64 a,.int .i64 b]] w fun e w'=>e = .returned (.bool (decide (a < b)))/\Below w.heap.size w w':=by
 go_enter func203,ntmps203
 go_wp2
 go_ret
 exact ⟨rfl,(aa _ _).alloc (ac _) _⟩
theorem BG (w:World) (a:Int):Calls prog 186 #[.int .i64 a] w fun e w'=>e = .returned (.bool false)/\w=w':=by
 go_enter func186,ntmps186
 go_wp2
 go_ret
 exact ⟨by simp,rfl⟩
def Jd (a b:Int):Int:=if a < b then -1 else if b < a then 1 else 0
theorem Ga (w:World) (a b:Int):Calls prog 206 #[.int .i64 a,.int .i64 b] w fun e w'=>e = .returned (.int .i64 (Jd a b))/\w=w':=by
 by_cases h:a < b
 ·go_enter func206,ntmps206
  go_wp2_with (go_at_call 186;refine (BG _ _).mono ?_;rintro e w' ⟨rfl,rfl⟩)
  go_ret
  exact ⟨bY (by simp [Jd,h]),rfl⟩
 ·by_cases h2:b < a
  ·go_enter func206,ntmps206
   go_wp2_with (go_at_call 186;refine (BG _ _).mono ?_;rintro e w' ⟨rfl,rfl⟩)
   go_ret
   exact ⟨bY (by simp [Jd,h,h2]),rfl⟩
  ·go_enter func206,ntmps206
   go_wp2_with (go_at_call 186;refine (BG _ _).mono ?_;rintro e w' ⟨rfl,rfl⟩)
   go_ret
   exact ⟨bY (by rw [Jd,aq (by omega),aq (by omega)]),rfl⟩
def Made (w:World) (P:List S2->Prop) (e:Ending) (w':World):Prop:=∃ v x,e = .returned v/\Sp.Own w' w.heap.size 297 v x/\P x/\Below w.heap.size w w'
theorem aK {P:Program} {f:Nat} {args:Array Value} {B:Nat} {a b:Bool} (e:a=b) (c:Calls P f args w fun e w'=>e = .returned (.bool a)/\Below B w w'):Calls P f args w fun e w'=>e = .returned (.bool b)/\Below B w w':=by rw [← e];exact c
def dM (X l:List S2):Prop:=Plain l/\∀ t,Low l t↔Low X t
theorem dM.one {x:List S2} (ha:dM x a) (hb:dM x b):a=b:=tC ha.1 hb.1 fun t=>(ha.2 t).trans (hb.2 t).symm
end Wi
namespace Se
open Sp Go.Proofs.YtpepoackmcohlaaGreatDoor.Wi
open Tk (bG dx JD gG Dc)
section
variable {n:Nat} {A R:Nat->Int}
theorem Jc (A R:Nat->Int) (n:Nat) (m:Int):0<=dx A R n m/\dx A R n m<=4294967296:=⟨(gG A R n m).lo,(gG A R n m).hi⟩
variable {a b:Int}
theorem F7 (h:a<=b):dx A R n a<=dx A R n b:=by
 have x:=gG A R n a;have y:=gG A R n b;have y0:=y.lo;have x1:=x.hi
 rcases Wi.zm (dx A R n b) (dx A R n a) with c | c
 ·have p:=y.there (by omega)
  have q:=x.before _ y.lo c
  omega
 ·exact c
theorem Ux (g:bG n A R) (t:Int) (h0:0<=t) (h1:t < 4294967296):Tk.Loc A R n (t+1)<=Tk.Loc A R n t+2:=by
 obtain ⟨c,_,c1,e⟩:=Tk.MV g t;unfold Tk.Loc;rw [Tk.gz (by omega) (by omega),Tk.gz (by omega) (by omega),e]
 omega
theorem oQ (g:bG n A R) (h1:a<=4000000000):dx A R n a < 4294967296:=by
 have x:=gG A R n a;have b:=(Tk.TW g 4294967295 (by omega) (by omega)).2;have x1:=x.hi
 rcases Wi.zm (dx A R n a) 4294967296 with c | c
 ·exact c
 ·have:=x.before 4294967295 (by omega) (by omega)
  omega
theorem Iz (g:bG n A R) (h1:a<=4000000000):a<=Tk.Loc A R n (dx A R n a):=(gG A R n a).there (oQ g h1)
theorem UA (g:bG n A R):Tk.Loc A R n 0=0:=by
 rw [Tk.Loc,Tk.gz (by omega) (by omega),Tk.oU g]
 rfl
theorem abc (g:bG n A R) (h0:0<=a):Tk.Loc A R n (dx A R n a)<=a+1:=by
 have x:=gG A R n a;have x0:=x.lo;have x1:=x.hi
 rcases Wi.zm 0 (dx A R n a) with c | c
 ·have p:=x.before (dx A R n a - 1) (by omega) (by omega)
  have s:=Ux g (dx A R n a - 1) (by omega) (by omega);rw [show dx A R n a - 1+1=dx A R n a by omega] at s
  omega
 ·have e:dx A R n a=0:=by omega
  rw [e,UA g]
  omega
theorem abU (g:bG n A R) (h0:0<=a) (h:a+2<=b) (h1:b<=4000000000):dx A R n a < dx A R n b:=by
 have p:=abc g h0;have q:=Iz g h1;have m:=F7 (A:=A) (R:=R) (n:=n) (show a<=b by omega)
 rcases Wi.zm (dx A R n a) (dx A R n b) with c | c
 ·exact c
 ·have e:dx A R n a=dx A R n b:=by omega
  rw [e] at p
  omega
end
def mW (g:Int->Int) (F:Nat->Bool) (m:Int):Nat->List S2
 | 0=>[]
 | k+1=>if F k then mW g F m k else mW g F m k ++ [(g (m+16 * k),g (m+16 * k+16))]
section
variable {g:Int->Int} {F:Nat->Bool} {m:Int}
variable {k:Nat}
theorem Li (h:F k=true):mW g F m (k+1)=mW g F m k:=by rw [mW,aw h]
theorem La (h:F k=false):mW g F m (k+1)=mW g F m k ++ [(g (m+16 * k),g (m+16 * k+16))]:=by rw [mW,aq (by simp [h])]
theorem xP:∀ k,(mW g F m k).length<=k
 | 0=>ac _
 | k+1=>by
   have:=xP k;rw [mW]
   split
   ·omega
   ·simp;omega
theorem oI {s:S2} : ∀ {k},s∈mW g F m k↔∃ i:Nat,i < k/\F i=false/\s=(g (m+16 * i),g (m+16 * i+16))
 | 0=>by simp [mW]
 | k+1=>by
   cases h:F k with
   | true =>
     rw [Li h,oI]
     constructor
     ·rintro ⟨i,a,b⟩
      exact ⟨i,by omega,b⟩
     ·rintro ⟨i,a,b,c⟩
      by_cases e:i=k
      ·subst e;rw [h] at b;cases b
      ·exact ⟨i,by omega,b,c⟩
   | false =>
     rw [La h,eV,oI]
     constructor
     ·rintro (⟨i,a,b⟩ | c)
      ·exact ⟨i,by omega,b⟩
      ·exact ⟨k,by omega,h,by simpa using c⟩
     ·rintro ⟨i,a,b,c⟩
      by_cases e:i=k
      ·subst e;exact .inr (by simpa using c)
      ·exact .inl ⟨i,by omega,b,c⟩
end
end Se
namespace Sa
open Sp Go.Proofs.YtpepoackmcohlaaGreatDoor.Wi Go.Proofs.YtpepoackmcohlaaGreatDoor.Se
open Tk (bG dx JD gG Dc PP)
structure Calm (n:Nat) (A R:Nat->Int) (B:Int):Prop where
 good:bG n A R
 lo:0<=B
 bd:∀ i,i < n->-B<=R i/\R i<=B
section
variable {n:Nat} {A R:Nat->Int} {B:Int}
theorem Calm.rt (g:Calm n A R B) (k:Nat) (h:k<=n) : -B<=Tk.rt R k/\Tk.rt R k<=B:=by
 have:=g.lo
 cases k with
 | zero=>exact ⟨by simp [Tk.rt];omega,by simp [Tk.rt];omega⟩
 | succ k=>exact g.bd k (by omega)
theorem Sb (g:Calm n A R B) (t:Int):∃ c,1000000 - B<=c/\c<=1000000+B/\PP A R n (t+1)=PP A R n t+c:=by
 have s:=Tk.xE A n t;generalize hk:Tk.stop A n t=k at s;obtain ⟨s1,s2,s3⟩:=s;rw [Tk.qX ⟨s1,s2,s3⟩]
 by_cases hn:k < n/\A k < t+1
 ·obtain ⟨hn,ha⟩:=hn
  have e:A k=t:=by have:=s3 hn;omega
  have st:Tk.fQ A n (t+1) (k+1):=by
   refine ⟨hn,fun i hi=>?_,fun h=>?_⟩
   ·by_cases c:i=k
    ·subst c;exact ha
    ·have:=s2 i (by omega);omega
   ·have:=g.good.up k h;omega
  rw [Tk.qX st];have b:=g.bd k hn;refine ⟨1000000+R k,by omega,by omega,?_⟩
  show Tk.sm A R k+(A k - Tk.fr A k) * (1000000+Tk.rt R k)+(t+1 - A k) * (1000000+R k)=Tk.sm A R k+(t - Tk.fr A k) * (1000000+Tk.rt R k)+(1000000+R k)
  rw [e,show t+1 - t=1 by omega,Int.one_mul]
 ·have st:Tk.fQ A n (t+1) k:=by
   refine ⟨s1,fun i hi=>?_,fun h=>?_⟩
   ·have:=s2 i hi;omega
   ·have:=s3 h;omega
  rw [Tk.qX st];have b:=g.rt k s1;refine ⟨1000000+Tk.rt R k,by omega,by omega,?_⟩;unfold Tk.pp;rw [show t+1 - Tk.fr A k=(t - Tk.fr A k)+1 by omega,Int.add_mul,Int.one_mul]
  omega
theorem Xg (g:Calm n A R B) (t:Int) (d:Nat):PP A R n t+(1000000 - B) * d<=PP A R n (t+d)/\PP A R n (t+d)<=PP A R n t+(1000000+B) * d:=by
 induction d with
 | zero=>simp
 | succ d ih =>
   obtain ⟨c,c1,c2,e⟩:=Sb g (t+d);rw [show t+((d+1:Nat):Int)=t+d+1 by omega,e];have e1:(1000000 - B) * ((d+1:Nat):Int)=(1000000 - B) * d+(1000000 - B):=by rw [show ((d+1:Nat):Int)=d+1 by omega,Int.mul_add,Int.mul_one]
   have e2:(1000000+B) * ((d+1:Nat):Int)=(1000000+B) * d+(1000000+B):=by rw [show ((d+1:Nat):Int)=d+1 by omega,Int.mul_add,Int.mul_one]
   rw [e1,e2];generalize (1000000 - B) * (d:Int)=x at *;generalize (1000000+B) * (d:Int)=y at *
   omega
variable {t u B' a:Int}
theorem rH (g:Calm n A R B) (h:t<=u):PP A R n t+(1000000 - B) * (u - t)<=PP A R n u/\PP A R n u<=PP A R n t+(1000000+B) * (u - t):=by
 have:=Xg g t (u - t).toNat;rw [show t+((u - t).toNat:Int)=u by omega,show ((u - t).toNat:Int)=u - t by omega] at this;exact this
theorem Calm.up (g:Calm n A R B) (h:B<=B'):Calm n A R B':=⟨g.good,by have:=g.lo;omega,fun i hi=>by have:=g.bd i hi;omega⟩
theorem sH (g:Calm n A R B) (h0:0<=a) (h1:a<=4000000000):1000000 * a<=PP A R n (dx A R n a)/\PP A R n (dx A R n a)<=1000000 * a+999999+B:=by
 have x:=gG A R n a;have x0:=x.lo;have x1:=oQ g.good h1;have q:=Iz g.good h1;have b0:=g.lo;unfold Tk.Loc at q;rw [Tk.gz (by omega) (by omega)] at q;refine ⟨by omega,?_⟩
 rcases Wi.zm 0 (dx A R n a) with c | c
 ·have p:=x.before (dx A R n a - 1) (by omega) (by omega)
  unfold Tk.Loc at p;rw [Tk.gz (by omega) (by omega)] at p;obtain ⟨d,_,d1,e⟩:=Sb g (dx A R n a - 1);rw [show dx A R n a - 1+1=dx A R n a by omega] at e
  omega
 ·have e:dx A R n a=0:=by omega
  rw [e,Tk.oU g.good]
  omega
theorem abo (h0:0<=u) (h:1000000 * a<=PP A R n u):dx A R n a<=u:=by
 have x:=gG A R n a
 rcases Wi.zm u (dx A R n a) with c | c
 ·have p:=x.before u h0 c
  have:=x.hi;unfold Tk.Loc at p;rw [Tk.gz (by omega) (by omega)] at p
  omega
 ·exact c
theorem Vg (g:Calm n A R B) (h1:a<=4000000000) (h:PP A R n u < 1000000 * a):u < dx A R n a:=by
 have q:=Iz g.good h1;have x0:=(gG A R n a).lo;have x1:=oQ g.good h1;unfold Tk.Loc at q;rw [Tk.gz (by omega) (by omega)] at q
 rcases Wi.zm u (dx A R n a) with c | c
 ·exact c
 ·have:=Tk.BU g.good c
  omega
end
def maj (a b c:Bool):Bool:=a && b || a && c || b && c
def heard (low:Int->Bool) (g:Int->Int) (N:Int) (i:Nat):Bool:=maj (!low (g (N+16 * i+7))) (!low (g (N+16 * i+8))) (!low (g (N+16 * i+9)))
theorem UG (a:Bool):maj a a a=a:=by cases a <;> rfl
theorem Ya {n n':Nat} {A R A' R':Nat->Int} (g:Calm n A R 10000) (g':Calm n' A' R' 10000) {m:Int} (m0:0<=m) (m1:m<=1073741824) (i:Nat) (hi:i < 11) (j:Int) (j0:7<=j) (j1:j<=9) :
 dx A R n (m+16 * i)<=dx A' R' n' (Tk.Loc A' R' n' (dx A R n m)+16 * i+j)/\dx A' R' n' (Tk.Loc A' R' n' (dx A R n m)+16 * i+j) < dx A R n (m+16 * i+16):=by
 have t:=sH g m0 (by omega);have t0:=(gG A R n m).lo;have t1:=oQ g.good (show m<=4000000000 by omega);have t2:dx A R n m<=1100000000:=by
  have b:=rH g (show 0<=dx A R n m from t0);rw [Tk.oU g.good] at b
  omega
 have l:=Tk.TW g'.good (dx A R n m) t0 (by omega);have lp:1000000 * Tk.Loc A' R' n' (dx A R n m)<=PP A' R' n' (dx A R n m)/\PP A' R' n' (dx A R n m)<=1000000 * Tk.Loc A' R' n' (dx A R n m)+999999:=by
  unfold Tk.Loc;rw [Tk.gz (by omega) (by omega)]
  omega
 have l0:0<=Tk.Loc A' R' n' (dx A R n m):=by
  unfold Tk.Loc;rw [Tk.gz (by omega) (by omega)];have:=(Tk.Ah g'.good (dx A R n m) t0).1
  omega
 generalize Tk.Loc A' R' n' (dx A R n m)=N at *;have u:=sH g' (a:=N+16 * i+j) (by omega) (by omega);have u0:=(gG A' R' n' (N+16 * i+j)).lo;generalize dx A' R' n' (N+16 * i+j)=U at *;have tu:dx A R n m<=U:=by
  rcases Wi.zm U (dx A R n m) with c | c
  ·have:=Tk.BU g'.good (show U<=dx A R n m by omega)
   omega
  ·exact c
 have b:=rH g tu;have b':=rH g' tu;generalize dx A R n m=T at *;have lo:1000000 * (m+16 * (i:Int))<=PP A R n U:=by omega
 have hi':PP A R n U < 1000000 * (m+16 * (i:Int)+16):=by omega
 exact ⟨abo u0 lo,Vg g (by omega) hi'⟩
theorem WY (A R:Nat->Int) (n:Nat) (g:bG n A R) (t:Int):0<=Tk.Loc A R n t/\Tk.Loc A R n t<=4400000000:=by
 have h0:=Tk.SE t;have h1:=Tk.Ub t;have:=Tk.Ah g (Tk.jX t) h0;unfold Tk.Loc
 omega
end Sa
namespace Wi
open Sp
def idx (p:S2->Bool) (l:List S2):Int:=match (List.range l.length).find? (fun i=>p (fr l i,tp l i)) with
 | some i=>i
 | none=>-1
variable {p:S2->Bool} {l x:List S2} {i:Nat}
theorem CG (hi:i < l.length) (hp:p (fr l i,tp l i)=true) (hn:∀ j,j < i->p (fr l j,tp l j)=false):idx p l=i:=by
 have e:(List.range l.length).find? (fun i=>p (fr l i,tp l i))=some i:=by
  rw [List.find?_range_eq_some];exact ⟨hp,by simpa using hi,fun j hj=>by simp [hn j hj]⟩
 simp [idx,e]
theorem yF (hn:∀ j,j < l.length->p (fr l j,tp l j)=false):idx p l = -1:=by
 have e:(List.range l.length).find? (fun i=>p (fr l i,tp l i))=none:=by
  rw [im]
  intro i hi
  simp [hn i (by simpa using hi)]
 simp [idx,e]
theorem Az (p:S2->Bool) (l:List S2):(∃ i:Nat,i < l.length/\p (fr l i,tp l i)=true/\(∀ j,j < i->p (fr l j,tp l j)=false)/\idx p l=i)\/((∀ j,j < l.length->p (fr l j,tp l j)=false)/\idx p l = -1):=by
 rcases h:(List.range l.length).find? (fun i=>p (fr l i,tp l i)) with _ | i
 ·right
  rw [im] at h;have hn:∀ j,j < l.length->p (fr l j,tp l j)=false:=fun j hj=>by simpa using h j (by simpa using hj)
  exact ⟨hn,yF hn⟩
 ·left
  rw [List.find?_range_eq_some] at h;have hi:i < l.length:=by simpa using h.2.1
  have hn:∀ j,j < i->p (fr l j,tp l j)=false:=fun j hj=>by simpa using h.2.2 j hj
  exact ⟨i,hi,h.1,hn,CG hi h.1 hn⟩
def iW (f t:Int) (s:S2):Bool:=decide (f<=s.1) && decide (s.1 < t)
def gW (x:List S2) (f t:Int):Int×Bool:=if 0<=idx (iW f t) x then (fr x (idx (iW f t) x).toNat,true) else (0,false)
variable {f t:Int}
theorem G8 (e:idx (iW f t) x=i):gW x f t=(fr x i,true):=by
 unfold gW;rw [e,aw (by omega)]
 simp
theorem Af (e:idx (iW f t) x = -1):gW x f t=(0,false):=by
 unfold gW;rw [e,aq (by omega)]
end Wi
namespace Bu
open Sp Go.Proofs.YtpepoackmcohlaaGreatDoor.Wi Go.Proofs.YtpepoackmcohlaaGreatDoor.Se Go.Proofs.YtpepoackmcohlaaGreatDoor.Sa
open Tk (bG dx JD gG Dc PP)
structure fC where
 n:Nat
 A:Nat->Int
 R:Nat->Int
noncomputable def fC.g (o:fC) (m:Int):Int:=dx o.A o.R o.n m
def fC.calm (o:fC):Prop:=Sa.Calm o.n o.A o.R 2000
variable {a b:Int}
theorem ahead {o p:fC} (ho:o.calm) (hp:p.calm) (a0:0<=a) (a1:a<=4000) (hab:a+18<=b) (b1:b<=5000):o.g a < p.g b:=by
 unfold fC.calm at ho hp;unfold fC.g;have t:=(sH ho a0 (by omega)).2;have t0:=(gG o.A o.R o.n a).lo;generalize dx o.A o.R o.n a=T at *;have s:=(rH ho t0).1;have s':=(rH hp t0).2;rw [Tk.oU ho.good] at s;rw [Tk.oU hp.good] at s';exact Vg hp (by omega) (by omega)
theorem fC.mono (o:fC) (h:a<=b):o.g a<=o.g b:=F7 h
abbrev XH:=Nat->Option (fC×(Nat->Bool))
structure Fit (f:XH):Prop where
 calm:∀ k o F,f k=some (o,F)->o.calm
 low:∀ k o F,f k=some (o,F)->F 0=false
def xV (f:XH) (k:Nat) (u:Int):Prop:=∃ o F,f k=some (o,F)/\∃ i:Nat,i < 11/\F i=false/\o.g (224 * k+16 * i)<=u/\u < o.g (224 * k+16 * i+16)
def tV (f:XH) (u:Int):Prop:=∃ k:Nat,1<=k/\k<=16/\xV f k u
section
variable {f:XH}
variable {k k' i:Nat} {u:Int} {o r:fC} {F:Nat->Bool}
theorem wR (e:f k=some (o,F)) (h:xV f k u):o.g (224 * k)<=u/\u < o.g (224 * k+176):=by
 obtain ⟨o',F',e',i,hi,_,h1,h2⟩:=h;rw [e] at e';injection e' with e';injection e' with e1 _;subst e1;have:=o.mono (show 224 * (k:Int)<=224 * k+16 * i by omega);have:=o.mono (show 224 * (k:Int)+16 * i+16<=224 * k+176 by omega)
 omega
theorem rQ (h:xV f k u):∃ o F,f k=some (o,F):=by
 obtain ⟨o,F,e,_⟩:=h;exact ⟨o,F,e⟩
theorem other (hf:Fit f) (hr:r.calm) (h1:1<=k) (h2:k<=16) (h3:1<=k') (h4:k'<=16) (hne:k'≠k) (u0:r.g (224 * k - 20)<=u+1) (u1:u < r.g (224 * k+20)):¬ xV f k' u:=fun h=>by
 obtain ⟨o,F,e⟩:=rQ h;have a:=wR e h;have c:=hf.calm k' o F e
 rcases Nat.lt_or_gt_of_ne hne with q | q
 ·have:=ahead c hr (a:=224 * k'+176) (b:=224 * k - 20) (by omega) (by omega) (by omega) (by omega)
  omega
 ·have:=ahead hr c (a:=224 * k+20) (b:=224 * k') (by omega) (by omega) (by omega) (by omega)
  omega
theorem abt (hf:Fit f) (h2:k<=16) (h4:k'<=16) (hne:k'≠k) (e:f k=some (o,F)) (u0:o.g (224 * k)<=u) (u1:u < o.g (224 * k+176)):¬ xV f k' u:=fun h=>by
 obtain ⟨o',F',e'⟩:=rQ h;have b:=wR e' h;have c:=hf.calm k o F e;have d:=hf.calm k' o' F' e'
 rcases Nat.lt_or_gt_of_ne hne with q | q
 ·have:=ahead d c (a:=224 * k'+176) (b:=224 * k) (by omega) (by omega) (by omega) (by omega)
  omega
 ·have:=ahead c d (a:=224 * k+176) (b:=224 * k') (by omega) (by omega) (by omega) (by omega)
  omega
theorem LZ (hf:Fit f) (h1:1<=k) (h2:k<=16) (e:f k=some (o,F)) (hi:i < 11) (u0:o.g (224 * k+16 * i)<=u) (u1:u < o.g (224 * k+16 * i+16)):tV f u↔F i=false:=by
 constructor
 ·rintro ⟨k',h3,h4,h⟩
  have m0:=o.mono (show 224 * (k:Int)<=224 * k+16 * i by omega);have m1:=o.mono (show 224 * (k:Int)+16 * i+16<=224 * k+176 by omega)
  by_cases q:k'=k
  ·subst q
   obtain ⟨o',F',e',i',hi',hF,a,b⟩:=h;rw [e] at e';injection e' with e';injection e' with e1 e2;subst e1 e2
   rcases Nat.lt_trichotomy i' i with c | c | c
   ·have:=o.mono (show 224 * (k':Int)+16 * i'+16<=224 * k'+16 * i by omega)
    omega
   ·subst c;exact hF
   ·have:=o.mono (show 224 * (k':Int)+16 * i+16<=224 * k'+16 * i' by omega)
    omega
  ·exact absurd h (abt hf h2 h4 q e (by omega) (by omega))
 ·exact fun hF=>⟨k,h1,h2,o,F,e,i,hi,hF,u0,u1⟩
theorem Nc (hf:Fit f) (h1:1<=k) (h2:k<=16) (e:f k=some (o,F)):tV f (o.g (224 * k)):=by
 have c:=hf.calm k o F e;have q:=abU c.good (a:=224 * (k:Int)) (b:=224 * k+16) (by omega) (by omega) (by omega);refine (LZ hf h1 h2 e (i:=0) (by omega) (u:=o.g (224 * k)) ?_ ?_).2 (hf.low k o F e)
 ·simp
 ·show o.g (224 * (k:Int)) < o.g (224 * (k:Int)+16 * ((0:Nat):Int)+16)
  rw [show 224 * (k:Int)+16 * ((0:Nat):Int)+16=224 * k+16 by omega];exact q
end
section
variable {f:XH} {x l:List S2}
theorem og (hx:Plain x) {s:S2} (hs:s∈x):Low x s.1/\¬ Low x (s.1 - 1):=by
 refine ⟨⟨s,hs,gk _,hx.1 s hs⟩,?_⟩;rintro ⟨q,hq,a,b⟩;obtain ⟨i,hi,e1⟩:=ed hs;obtain ⟨j,hj,e2⟩:=ed hq;have pw:=fe.1 hx.2
 rcases Nat.lt_trichotomy i j with c | c | c
 ·have:=pw i j hi hj c
  rw [e1,e2] at this;have:=hx.1 s hs
  omega
 ·subst c
  rw [e1] at e2;subst e2
  omega
 ·have:=pw j i hj hi c
  rw [e1,e2] at this
  omega
theorem F9 {t:Int} (h:Low x t) (h':¬ Low x (t - 1)):∃ s∈x,s.1=t:=by
 obtain ⟨s,hs,a,b⟩:=h;refine ⟨s,hs,?_⟩
 rcases Wi.zm s.1 t with c | c
 ·exact absurd ⟨s,hs,by omega,by omega⟩ h'
 ·omega
variable {r o:fC} {k i:Nat} {F:Nat->Bool}
theorem yI (hf:Fit f) (hr:r.calm) (h1:1<=k) (h2:k<=16) (e:f k=some (o,F)) {u:Int} (u0:r.g (224 * k - 20)<=u+1) (u1:u < o.g (224 * k)):¬ tV f u:=by
 rintro ⟨k',h3,h4,h⟩;have c:=hf.calm k o F e
 by_cases q:k'=k
 ·subst q
  have:=(wR e h).1
  omega
 ·have:=ahead c hr (a:=224 * k) (b:=224 * k+20) (by omega) (by omega) (by omega) (by omega)
  exact other hf hr h1 h2 h3 h4 q u0 (by omega) h
theorem PZ (hf:Fit f) (hx:Plain x) (hl:∀ u,Low x u↔tV f u) (hr:r.calm) (h1:1<=k) (h2:k<=16) (e:f k=some (o,F)):gW x (r.g (224 * k - 20)) (r.g (224 * k+20))=(o.g (224 * k),true):=by
 have c:=hf.calm k o F e;have a0:=ahead hr c (a:=224 * k - 20) (b:=224 * k) (by omega) (by omega) (by omega) (by omega);have a1:=ahead c hr (a:=224 * k) (b:=224 * k+20) (by omega) (by omega) (by omega) (by omega);have b0:=(hl _).2 (Nc hf h1 h2 e);have b1:¬ Low x (o.g (224 * k) - 1):=fun h=>yI hf hr h1 h2 e (by omega) (by omega) ((hl _).1 h);obtain ⟨s,hs,es⟩:=F9 b0 b1;obtain ⟨i,hi,e1,e2⟩:=mem_iff.1 hs;have hp:iW (r.g (224 * k - 20)) (r.g (224 * k+20)) (fr x i,tp x i)=true:=by
  unfold iW;rw [e1,es];simp only [ce,cM]
  omega
 have hn:∀ j,j < i->iW (r.g (224 * k - 20)) (r.g (224 * k+20)) (fr x j,tp x j)=false:=fun j hj=>by
  rcases hq:iW (r.g (224 * k - 20)) (r.g (224 * k+20)) (fr x j,tp x j) with _ | _
  ·rfl
  ·exfalso
   unfold iW at hq;simp only [ce,cM] at hq;have hm:=tY (l:=x) (i:=j) (by omega);have g:=(og hx hm).1;have lt:fr x j < o.g (224 * k):=by
    have pw:=fe.1 hx.2;have hmi:=tY hi;have q1:=hx.1 _ hm;have:=hx.1 _ hmi;have gj:x[j]? = some (fr x j,tp x j):=by
     have:=am (show j < x.length by omega);rw [this]
     simp [fr,tp,List.getD_eq_getElem?_getD,List.getElem?_eq_getElem (show j < x.length by omega)]
    have gi:x[i]? = some (fr x i,tp x i):=by
     rw [am hi]
     simp [fr,tp,List.getD_eq_getElem?_getD,List.getElem?_eq_getElem hi]
    have q:=pw j i (by omega) hi hj;rw [am (by omega)] at gj;rw [am hi] at gi;injection gj with gj;injection gi with gi;rw [gj,gi] at q;simp only at q q1
    omega
   exact yI hf hr h1 h2 e (by omega) lt ((hl _).1 g)
 rw [G8 (CG hi hp hn),e1,es]
theorem PV (hf:Fit f) (hx:Plain x) (hl:∀ u,Low x u↔tV f u) (hr:r.calm) (h1:1<=k) (h2:k<=16) (e:f k=none):gW x (r.g (224 * k - 20)) (r.g (224 * k+20))=(0,false):=by
 refine Af (yF fun j hj=>?_)
 rcases hq:iW (r.g (224 * k - 20)) (r.g (224 * k+20)) (fr x j,tp x j) with _ | _
 ·rfl
 ·exfalso
  unfold iW at hq;simp only [ce,cM] at hq;obtain ⟨k',h3,h4,h⟩:=(hl _).1 (og hx (tY hj)).1
  by_cases q:k'=k
  ·subst q
   obtain ⟨o,F,e',_⟩:=h;rw [e] at e'
   cases e'
  ·exact other hf hr h1 h2 h3 h4 q (by simp only;omega) (by simp only;omega) h
theorem OI (hf:Fit f) (hl:∀ u,Low l u↔tV f u) (hr:r.calm) (h1:1<=k) (h2:k<=16) (e:f k=some (o,F)) (hi:i < 11) :
 heard (gD l) (dx r.A r.R r.n) (Tk.Loc r.A r.R r.n (o.g (224 * k))) i=F i:=by
 have c:Sa.Calm o.n o.A o.R 10000:=Sa.Calm.up (hf.calm k o F e) (by omega);have d:Sa.Calm r.n r.A r.R 10000:=Sa.Calm.up hr (by omega);have look:∀ j:Int,7<=j->j<=9->gD l (dx r.A r.R r.n (Tk.Loc r.A r.R r.n (o.g (224 * k))+16 * i+j)) = !F i:=fun j j0 j1=>by
  obtain ⟨q0,q1⟩:=Ya c d (m:=224 * (k:Int)) (by omega) (by omega) i hi j j0 j1;have b:=LZ hf h1 h2 e hi (u:=dx r.A r.R r.n (Tk.Loc r.A r.R r.n (o.g (224 * k))+16 * i+j)) q0 q1
  rcases hF:F i with _ | _
  ·exact yL.2 ((hl _).2 (b.2 hF))
  ·refine yj.2 fun h=>?_
   have:=b.1 ((hl _).1 h);rw [hF] at this
   cases this
 unfold heard;rw [look 7 (by omega) (by omega),look 8 (by omega) (by omega),look 9 (by omega) (by omega),UG]
 simp
end
open Go.RowKit
open Sp (S2 fr tp)
open Wi (Plain dM Low gD gW)
open Sa (heard)
open Ck (sN tE)
open Pa (Qf vX DX hr sq sq1 tn dz)
open Ua (nS tb te)
instance:Inhabited fC:=⟨⟨0,fun _=>0,fun _=>0⟩⟩
def kF (O:List fC) (i:Int):fC:=O.getD i.toNat default
def JK (S:bO) (T:LL) (V:List Bool) (P:List (Int×Int)) (O:List fC):XH:=fun k=>if je S T V k=true then some (kF O (sN k T),l5 S T V P k) else none
theorem H7 (P:List (Int×Int)) (s:Int) (F:Nat->Bool):sq P s F P.length 0=F 0:=by
 unfold sq;rw [cU]
 induction P generalizing F with
 | nil=>rfl
 | cons x r ih =>
   rw [cy,ih];unfold sq1
   split
   ·rfl
   ·rfl
theorem VO (S:bO) (T:LL) (V:List Bool) (P:List (Int×Int)) (s:Int):l5 S T V P s 0=false:=by
 unfold l5
 split
 ·rw [H7];rfl
 ·rfl
section
variable {S:bO} {T:LL} {V:List Bool} {P:List (Int×Int)} {O:List fC}
variable {k i:Nat}
theorem Cv (h:je S T V k=true):JK S T V P O k=some (kF O (sN k T),l5 S T V P k):=aw h
theorem Ch (h:je S T V k=false):JK S T V P O k=none:=aq (by rw [h];exact eA)
theorem Jv (h:je S T V k=true):0<=sN k T:=by
 unfold je at h;simp only [ce,cM] at h;exact h.1.1
theorem nU (hO:∀ o∈O,o.calm) (hi:i < O.length):(kF O i).calm:=by
 unfold kF;rw [cg,af,am hi];exact hO _ (dk hi)
theorem WX (ok:tE T=0) (hl:O.length=T.length) (hO:∀ o∈O,o.calm):Fit (JK S T V P O):=by
 refine ⟨fun k o F e=>?_,fun k o F e=>?_⟩
 all_goals
  cases hs:je S T V k with
  | false=>rw [Ch hs] at e;cases e
  | true =>
    rw [Cv hs] at e;injection e with e;injection e with e1 e2;subst e1 e2
    first
     | exact VO S T V P k
     | (obtain ⟨n,en,hn,_⟩:=gL ok (Jv hs)
        rw [en]
        exact nU hO (by omega))
end
variable {F G:Nat->Bool}
theorem vJ (h:∀ i,i < 11->F i=G i):Ua.bad F=Ua.bad G:=by unfold Ua.bad;rw [h 0 (by omega),h 10 (by omega)]
theorem Uj (h:∀ i,i < 11->F i=G i):tb F=tb G:=by unfold tb;rw [vJ h,Ua.val_congr 8 fun i _ hi=>h i (by omega)]
theorem UN (h:∀ i,i < 11->F i=G i):Ua.tp F=Ua.tp G:=by unfold Ua.tp;rw [vJ h,Ua.Bj 9 fun i _ hi=>h i (by omega)]
theorem Rp (h:∀ i,i < 11->F i=G i):te F=te G:=by unfold te;rw [vJ h]
noncomputable def aaU (x l:List S2) (r:fC) (f t:Int):Int×Bool×Int :=
 if (gW x f t).2 then (tb (heard (gD l) (Tk.dx r.A r.R r.n) (Tk.Loc r.A r.R r.n (gW x f t).1)),Ua.tp (heard (gD l) (Tk.dx r.A r.R r.n) (Tk.Loc r.A r.R r.n (gW x f t).1)),te (heard (gD l) (Tk.dx r.A r.R r.n) (Tk.Loc r.A r.R r.n (gW x f t).1))) else (0,false,3)
noncomputable def lM (x l:List S2) (r:fC) (s:Int):Int×Bool×Int:=aaU x l r (r.g (224 * s - 20)) (r.g (224 * s+20))
noncomputable def Io (x l:List S2) (r:fC):Hr:=fun s=>if 1<=s/\s<=16/\(lM x l r s).2.2=0/\(lM x l r s).2.1=false then some (lM x l r s).1 else none
section
variable {S:bO} {T:LL} {V:List Bool} {P:List (Int×Int)} {O:List fC} {x l:List S2} {r:fC}
theorem U4 (ok:tE T=0) (hl:O.length=T.length) (hO:∀ o∈O,o.calm) (hx:dM l x) (hL:∀ u,Low l u↔tV (JK S T V P O) u) (hr':r.calm) {k:Nat} (h1:1<=k) (h2:k<=16) :
 lM x l r k=if je S T V k=true then (tb (l5 S T V P k),Ua.tp (l5 S T V P k),te (l5 S T V P k)) else (0,false,3):=by
 have F:=WX (S:=S) (V:=V) (P:=P) ok hl hO;have hX:∀ u,Low x u↔tV (JK S T V P O) u:=fun u=>(hx.2 u).trans (hL u)
 cases hs:je S T V k with
 | true =>
   have e:=Cv (P:=P) (O:=O) hs;have q:=PZ F hx.1 hX hr' h1 h2 e;have g:=fun i hi=>OI F hL hr' h1 h2 e (i:=i) hi;unfold lM aaU;rw [q];simp only [if_true];rw [Uj g,UN g,Rp g]
 | false =>
   have q:=PV F hx.1 hX hr' h1 h2 (Ch (P:=P) (O:=O) hs);unfold lM aaU;rw [q]
   rfl
theorem TI (ok:tE T=0) (hl:O.length=T.length) (hO:∀ o∈O,o.calm) (hx:dM l x) (hL:∀ u,Low l u↔tV (JK S T V P O) u) (hr':r.calm):Io x l r=hr S T V P:=funext fun s=>by
 unfold Io hr
 by_cases hb:1<=s/\s<=16
 ·obtain ⟨k,rfl⟩:∃ k:Nat,s=k:=⟨s.toNat,by omega⟩
  rw [U4 ok hl hO hx hL hr' (k:=k) (by omega) (by omega)]
  cases hs:je S T V k with
  | false =>
    have hB:vX S T V P k=false:=by unfold vX;rw [hs];rfl
    rw [hB]
    simp
  | true =>
    simp only [if_true];have hB:vX S T V P k=(decide (te (l5 S T V P k)=0) && !Ua.tp (l5 S T V P k)):=by unfold vX;rw [hs];rfl
    by_cases q:te (l5 S T V P k)=0/\Ua.tp (l5 S T V P k)=false
    ·have hT:vX S T V P k=true:=by rw [hB,bi q.1,q.2];rfl
     rw [aw ⟨hb.1,hb.2,q.1,q.2⟩,aw ⟨hb.1,hb.2,hT⟩];unfold DX;rw [aw hT]
    ·rw [aq fun h=>q ⟨h.2.2.1,h.2.2.2⟩,aq fun h=>by
      have:=h.2.2;rw [hB] at this;simp only [ce,cM,Bool.not_eq_true'] at this
      exact q this]
 ·rw [aq fun h=>hb ⟨h.1,h.2.1⟩,aq fun h=>hb ⟨h.1,h.2.1⟩]
end
def Gl (S:bO) (T:LL) (V:List Bool) (P:List (Int×Int)) (O:List fC) (j:Int) (u:Int):Prop:=∃ k:Nat,1<=k/\k<=16/\pq S T V k=j/\xV (JK S T V P O) k u
section
variable {S:bO} {T:LL} {V:List Bool} {P:List (Int×Int)} {O:List fC}
theorem Sf (ok:tE T=0) {u:Int} : tV (JK S T V P O) u↔∃ j:Nat,j < T.length/\Gl S T V P O j u:=by
 constructor
 ·rintro ⟨k,h1,h2,h⟩
  obtain ⟨o,F,e⟩:=rQ h;have hs:je S T V k=true:=by
   rcases q:je S T V k with _ | _
   ·rw [Ch q] at e;cases e
   ·rfl
  obtain ⟨n,en,hn,_⟩:=gL ok (Jv hs);exact ⟨n,hn,k,h1,h2,by unfold pq;rw [aw hs,en],h⟩
 ·rintro ⟨j,_,k,h1,h2,_,h⟩
  exact ⟨k,h1,h2,h⟩
end
end Bu
namespace Tk
open Go.RowKit
def Steps (w:World) (v:Value) (n:Nat) (A R:Nat->Int):Prop :=
 (∃ (a:Option Addr) (cap:Nat),v = .slice a 0 cap/\cap<=maxLen/\n=0) \/
 ∃ (b off cap:Nat),v = .slice (some ⟨b,off,none⟩) n cap/\n<=cap/\cap<=maxLen /\
  ∀ i,i < n->w.cell? ⟨b,off+i * 2,none⟩=some (.int .i64 (A i))/\w.cell? ⟨b,off+i * 2+1,none⟩=some (.int .i64 (R i))
theorem Steps.below {w w':World} {v:Value} {n:Nat} {A R:Nat->Int} (h:Steps w v n A R) (b:Below w.heap.size w w'):Steps w' v n A R:=by
 rcases h with h | ⟨b0,off,cap,e,h1,h2,hc⟩
 ·exact .inl h
 ·refine .inr ⟨b0,off,cap,e,h1,h2,fun i hi=>?_⟩
  obtain ⟨c1,c2⟩:=hc i hi;exact ⟨gP b c1,gP b c2⟩
end Tk
namespace Bu
open Go.RowKit
open Sp (S2 fr tp Sp)
open Wi (Plain dM Low jI)
open Ck (sN tE)
open Pa (hput hr gM wh mF)
open Se (mW oI Jc)
def Gx (w:World) (v:Value) (O:List fC):Prop:=∃ a cap,v = .slice a O.length cap/\O.length<=cap/\cap<=maxLen /\
 (0 < O.length->∃ b off,a=some ⟨b,off,none⟩/\∀ i:Nat,i < O.length->∃ u,w.cell? ⟨b,off+i,none⟩=some u/\Tk.Steps w u (kF O i).n (kF O i).A (kF O i).R)
theorem Gx.below {w w':World} {v:Value} {O:List fC} (h:Gx w v O) (hb:Below w.heap.size w w'):Gx w' v O:=by
 obtain ⟨a,cap,e,h1,h2,h3⟩:=h;refine ⟨a,cap,e,h1,h2,fun hp=>?_⟩;obtain ⟨b,off,ea,hA⟩:=h3 hp;refine ⟨b,off,ea,fun i hi=>?_⟩;obtain ⟨u,c,r⟩:=hA i hi;exact ⟨u,gP hb c,r.below hb⟩
theorem Gx.slice {w:World} {v:Value} {O:List fC} (h:Gx w v O):∃ a cap,v = .slice a O.length cap/\O.length<=cap/\cap<=maxLen:=by
 obtain ⟨a,cap,e,h1,h2,_⟩:=h;exact ⟨a,cap,e,h1,h2⟩
variable {w:World} {v:Value} {n m cap k:Nat} {A R:Nat->Int}
theorem qj (h:Tk.Steps w v n A R):∃ a cap,v = .slice a n cap/\n<=cap/\cap<=maxLen:=by
 rcases h with ⟨a,cap,rfl,h,rfl⟩ | ⟨b,off,cap,rfl,h0,h,_⟩
 ·exact ⟨a,cap,rfl,bt _,h⟩
 ·exact ⟨_,cap,rfl,h0,h⟩
theorem Uy {a:Option Addr} (h:Tk.Steps w (.slice a n cap) m A R) (hp:0 < n):m=n/\∃ b off,a=some ⟨b,off,none⟩/\∀ i,i < n->w.cell? ⟨b,off+i * 2,none⟩=some (.int .i64 (A i))/\w.cell? ⟨b,off+i * 2+1,none⟩=some (.int .i64 (R i)):=by
 rcases h with ⟨a',cap',e,h,rfl⟩ | ⟨b,off,cap',e,_,h,hc⟩
 ·injection e with _ e _;omega
 ·injection e with e1 e2 _
  subst e1 e2;exact ⟨rfl,b,off,rfl,hc⟩
variable {O:List fC}
theorem Gx.one (h:Gx w v O) (hk:k < O.length):∃ b off cap a' cap',v = .slice (some ⟨b,off,none⟩) O.length cap/\w.cell? ⟨b,off+k,none⟩=some (.slice a' (kF O k).n cap')/\((kF O k).n<=cap'/\cap'<=maxLen)/\Tk.Steps w (.slice a' (kF O k).n cap') (kF O k).n (kF O k).A (kF O k).R:=by
 obtain ⟨a,cap,e,h1,h2,h3⟩:=h;obtain ⟨b,off,rfl,hA⟩:=h3 (by omega);obtain ⟨u,c,s⟩:=hA k hk;obtain ⟨a',cap',rfl,h4⟩:=qj s;exact ⟨b,off,cap,a',cap',e,c,h4,s⟩
theorem Xy (hk:k < O.length):kF O k∈O:=by
 unfold kF;rw [cg,af,am hk];exact dk hk
noncomputable def jC (o:fC):Bool:=@decide o.calm (Classical.propDecidable _)
variable {o:fC}
theorem pI (h:o.calm):jC o=true:=by unfold jC;exact @decide_eq_true _ (Classical.propDecidable _) h
theorem Uz (h:¬ o.calm):jC o=false:=by unfold jC;exact @decide_eq_false _ (Classical.propDecidable _) h
theorem Ee (h:jC o=true):o.calm:=by unfold jC at h;exact @of_decide_eq_true _ (Classical.propDecidable _) h
def Ur (O:List fC):Prop:=∀ o∈O,o.calm
noncomputable def iR (O:List fC):Bool:=O.all jC
theorem sD (h:iR O=true):Ur O:=fun o ho=>Ee (eC.1 h o ho)
theorem Ik {S:bO} {T:LL} {V:List Bool} (hE:gM S T V=0):1<=S.length/\S.length<=32/\T.length=S.length/\V.length=S.length/\tE T=0:=by
 unfold gM at hE
 split at hE
 ·rename_i h
  exact ⟨h.1,h.2.1,h.2.2.1,h.2.2.2,hE⟩
 ·omega
noncomputable def Ip (S:bO) (T:LL) (V:List Bool) (O:List fC):Int:=if gM S T V=0 then (if O.length=S.length/\iR O=true then 0 else 1) else gM S T V
noncomputable def WC (S:bO) (T:LL) (V:List Bool) (P:List S2) (O:List fC):bO:=if Ip S T V O=0 then wh S T V (hr S T V P) else []
section
variable {S:bO} {T:LL} {V:List Bool} {P:List S2} {O:List fC}
theorem oZ (h:gM S T V≠0):Ip S T V O=gM S T V/\WC S T V P O = []:=by
 have e:Ip S T V O=gM S T V:=aq h;exact ⟨e,aq (by rw [e];exact h)⟩
theorem Gg (h:gM S T V=0) (h':¬ (O.length=S.length/\iR O=true)):Ip S T V O=1/\WC S T V P O = []:=by
 have e:Ip S T V O=1:=by unfold Ip;rw [aw h,aq h']
 exact ⟨e,aq (by rw [e];decide)⟩
theorem Cw (h:gM S T V=0) (h1:O.length=S.length) (h2:iR O=true):Ip S T V O=0/\WC S T V P O=wh S T V (hr S T V P):=by
 have e:Ip S T V O=0:=by unfold Ip;rw [aw h,aw ⟨h1,h2⟩]
 exact ⟨e,aw e⟩
end
theorem vW:∀ (l:List S2) (a b:Int),a<=b->Plain l->(∀ s∈l,a<=s.1/\s.1 < b)->(l.length:Int)<=b - a
 | [],a,b,h,_,_=>by simp;omega
 | s :: r,a,b,h,hp,hs=>by
   have p:=Wi.iF.1 hp;have q:=hs s cD;have ih:=vW r (s.1+1) b (by omega) p.1 fun x hx=>by
    have:=p.2.2 x hx;have:=hs x (cC _ hx)
    omega
   simp only [dv]
   omega
variable {l:List S2}
theorem sU (h:Plain l) (hl:∀ u,Low l u->0<=u/\u<=4294967296):l.length<=4294967297:=by
 have:=vW l 0 4294967297 (by omega) h fun s hs=>by
  have:=hl s.1 (og h hs).1
  omega
 omega
variable {f:XH}
theorem Ph {F:Nat->Bool} (e:f k=some (o,F)) (h:dM (mW (Tk.dx o.A o.R o.n) F (224 * (k:Int)) 11) l) (u:Int):Low l u↔xV f k u:=by
 rw [h.2 u]
 constructor
 ·rintro ⟨s,hs,a,b⟩
  obtain ⟨i,hi,hF,rfl⟩:=oI.1 hs;exact ⟨o,F,e,i,hi,hF,a,b⟩
 ·rintro ⟨o',F',e',i,hi,hF,a,b⟩
  rw [e] at e';injection e' with e';injection e' with e1 e2;subst e1 e2;exact ⟨_,oI.2 ⟨i,hi,hF,rfl⟩,a,b⟩
theorem Dx {u:Int} (h:xV f k u):0<=u/\u<=4294967296:=by
 obtain ⟨o,F,e⟩:=rQ h;have a:=wR e h;have b:=Jc o.A o.R o.n (224 * (k:Int));have c:=Jc o.A o.R o.n (224 * (k:Int)+176);unfold fC.g at a
 omega
def kR (S:bO) (T:LL) (V:List Bool) (P:List S2) (O:List fC) (j:Int) (k:Nat) (u:Int):Prop:=∃ i:Nat,1<=i/\i < k/\pq S T V i=j/\xV (JK S T V P O) i u
section
variable {S:bO} {T:LL} {V:List Bool} {P:List S2} {O:List fC} {j:Int} {k:Nat} {u:Int}
theorem Nk:¬ kR S T V P O j 1 u:=fun ⟨i,h1,h2,_⟩=>by omega
theorem Pg:kR S T V P O j 17 u↔Gl S T V P O j u:=⟨fun ⟨i,h1,h2,h⟩=>⟨i,h1,by omega,h⟩,fun ⟨i,h1,h2,h⟩=>⟨i,h1,by omega,h⟩⟩
theorem OY (h1:1<=k) (e:pq S T V k=j):kR S T V P O j (k+1) u↔kR S T V P O j k u\/xV (JK S T V P O) k u:=by
 constructor
 ·rintro ⟨i,a,b,c,d⟩
  by_cases q:i=k
  ·subst q;exact .inr d
  ·exact .inl ⟨i,a,by omega,c,d⟩
 ·rintro (⟨i,a,b,c,d⟩ | d)
  ·exact ⟨i,a,by omega,c,d⟩
  ·exact ⟨k,h1,by omega,e,d⟩
theorem VB (h:¬ (je S T V k=true/\pq S T V k=j)):kR S T V P O j (k+1) u↔kR S T V P O j k u:=by
 constructor
 ·rintro ⟨i,a,b,c,d⟩
  by_cases q:i=k
  ·subst q
   obtain ⟨o,F,e⟩:=rQ d
   rcases hs:je S T V i with _ | _
   ·rw [Ch hs] at e;cases e
   ·exact absurd ⟨hs,c⟩ h
  ·exact ⟨i,a,by omega,c,d⟩
 ·rintro ⟨i,a,b,c,d⟩
  exact ⟨i,a,by omega,c,d⟩
theorem XV (h:Gl S T V P O j u):0<=u/\u<=4294967296:=by obtain ⟨_,_,_,_,h⟩:=h;exact Dx h
theorem MC (h:tV f u):0<=u/\u<=4294967296:=by obtain ⟨_,_,_,h⟩:=h;exact Dx h
end
def ZR (S:bO) (T:LL) (V:List Bool) (P:List S2) (O:List fC) (j:Int) (l:List S2):Prop:=Plain l/\∀ u,Low l u↔Gl S T V P O j u
def vQ (S:bO) (T:LL) (V:List Bool) (P:List S2) (O:List fC) (l:List S2):Prop:=Plain l/\∀ u,Low l u↔tV (JK S T V P O) u
variable {S:bO} {T:LL} {V:List Bool} {P a b:List S2}
theorem vQ.one (ha:vQ S T V P O a) (hb:vQ S T V P O b):a=b:=Wi.tC ha.1 hb.1 fun t=>(ha.2 t).trans (hb.2 t).symm
theorem P7 (ok:tE T=0) (hl:O.length=T.length) (hO:Ur O) (h:je S T V k=true) :
 ∃ n:Nat,pq S T V k=n/\n < O.length/\JK S T V P O k=some (kF O n,l5 S T V P k)/\(kF O n).calm:=by
 obtain ⟨n,en,hn,_⟩:=gL ok (Jv h);refine ⟨n,by unfold pq;rw [aw h,en],by omega,by rw [Cv h,en],nU hO (by omega)⟩
theorem Fe {Q:Int->Prop} (hp:Plain l) (hl:∀ u,Low l u->Q u) (hq:∀ u,Q u->0<=u/\u<=4294967296):l.length<=4294967297:=sU hp fun u h=>hq u (hl u h)
def vM (S:bO) (T:LL) (V:List Bool) (P:List S2) (O:List fC) (k:Nat) (u:Int):Prop:=∃ j:Nat,j < k/\Gl S T V P O j u
theorem IK (k:Nat) (u:Int):vM S T V P O (k+1) u↔vM S T V P O k u\/Gl S T V P O k u:=by
 constructor
 ·rintro ⟨j,hj,h⟩
  by_cases e:j=k
  ·subst e;exact .inr h
  ·exact .inl ⟨j,by omega,h⟩
 ·rintro (⟨j,hj,h⟩ | h)
  ·exact ⟨j,by omega,h⟩
  ·exact ⟨k,by omega,h⟩
def l8 (h:Hr) (k:Nat):Hr:=fun n=>if 1<=n/\n < (k:Int) then h n else none
theorem oP (h:Hr):l8 h 1=fun _=>none:=funext fun n=>by unfold l8;rw [aq (by omega)]
variable {h:Hr}
theorem Xx (h1:1<=k) {y:Int} (e:h k=some y):hput (l8 h k) k y=l8 h (k+1):=funext fun n=>by
 unfold hput l8
 by_cases g:n=k
 ·subst g;rw [aw rfl,aw (by omega),e]
 ·rw [aq g]
  by_cases q:1<=n/\n < (k:Int)
  ·rw [aw q,aw (by omega)]
  ·rw [aq q,aq (by omega)]
theorem aaH (e:h k=none):l8 h k=l8 h (k+1):=funext fun n=>by
 unfold l8
 by_cases g:n=k
 ·subst g;rw [aq (by omega),e,ite_self]
 ·by_cases q:1<=n/\n < (k:Int)
  ·rw [aw q,aw (by omega)]
  ·rw [aq q,aq (by omega)]
theorem XG (o:∀ n:Int,(n < 1\/16 < n)->h n=none):l8 h 17=h:=funext fun n=>by
 unfold l8
 split
 ·rfl
 ·exact (o n (by omega)).symm
section
variable {x l:List S2} {r:fC}
variable {s:Int}
theorem YG (h:s < 1\/16 < s):Io x l r s=none:=aq fun g=>by omega
theorem Xb (h1:1<=s) (h2:s<=16) (e:(lM x l r s).2.2=0) (o:(lM x l r s).2.1=false):Io x l r s=some (lM x l r s).1:=aw ⟨h1,h2,e,o⟩
theorem abH (e:¬ ((lM x l r s).2.2=0/\(lM x l r s).2.1=false)):Io x l r s=none:=aq fun g=>e ⟨g.2.2.1,g.2.2.2⟩
end
open Go.Maps
open Fs (Rs)
open Rw (At)
open Pa (Rfl US eD Cel AB pat)
section
end
def WH (s:List S2):fC:=⟨s.length,fr s,tp s⟩
theorem GU {s:List S2} (h:Rd K2 w v s):Tk.Steps w v (WH s).n (WH s).A (WH s).R:=by
 obtain ⟨a,cap,rfl,h1,h2,h3⟩:=h
 by_cases h0:0 < s.length
 ·obtain ⟨b,off,rfl,hA⟩:=h3 h0
  exact .inr ⟨b,off,cap,rfl,h1.1,h2,fun i hi=>⟨hA i hi 0 _ rfl,hA i hi 1 _ rfl⟩⟩
 ·have e:s.length=0:=by omega
  exact .inl ⟨a,cap,by rw [e],h2,e⟩
theorem SY {hs:List Hd} (h:Rd KS w v hs) (hl:hs.length=O.length) (each:∀ i:Nat,i < O.length->Tk.Steps w (sl (hs.getD i zh)) (kF O i).n (kF O i).A (kF O i).R):Gx w v O:=by
 obtain ⟨a,cap,e,h1,h2,h3⟩:=h;rw [hl] at e h1 h3;refine ⟨a,cap,e,h1.1,h2,fun hp=>?_⟩;obtain ⟨b,off,ea,hA⟩:=h3 hp;refine ⟨b,off,ea,fun i hi=>⟨_,?_,each i hi⟩⟩;have c:=hA i (by rw [hl];exact hi) 0 _ rfl;simp only [KS,Nat.mul_one,Nat.add_zero] at c;exact c
end Bu
namespace Cu
open Go.RowKit Go.Maps
open Rw (At)
open Pa (S2)
open Bu (fC kF Gx WH GU SY iR pI)
structure CI (w:World) (T:LL) (L:List Nd) (k1 k2 k3 k4:Nat) (o1:Value) (l1:List Nat) (o2:Value) (l2:List Hd) (o3:Value) (l3:List Bool) (o4:Value) (l4:List Hd) (wr:World):Prop where
 w1:Ow KN wr w.heap.size 72 o1 l1
 w2:Ow KS wr w.heap.size 126 o2 l2
 w3:Ow KB wr w.heap.size 4 o3 l3
 w4:Ow KS wr w.heap.size 163 o4 l4
 n1:l1.length=k1
 n2:l2.length=k2
 n3:l3.length=k3
 n4:l4.length=k4
 e1:∀ i,i < k1->l1.getD i 0=(iI L i).s
 e2:∀ i,i < k2->Ow K5 wr w.heap.size 170 (sl (l2.getD i zh)) (bQ T i)
 e3:∀ i,i < k3->l3.getD i false=(iI L i).live
 e4:∀ i,i < k4->Ow K2 wr w.heap.size 162 (sl (l4.getD i zh)) [(0,(iI L i).rate)]
 aG:Below w.heap.size w wr
section
variable {w wr w':World} {T:LL} {L:List Nd} {k1 k2 k3 k4:Nat} {o1 o2 o3 o4 o':Value} {l1:List Nat} {l2 l4:List Hd} {l3:List Bool}
theorem CI.start (w:World) (T:LL) (L:List Nd):CI w T L 0 0 0 0 (.slice none 0 0) [] (.slice none 0 0) [] (.slice none 0 0) [] (.slice none 0 0) [] w :=
 ⟨Rw.Ow.nil _ _ _,Rw.Ow.nil _ _ _,Rw.Ow.nil _ _ _,Rw.Ow.nil _ _ _,rfl,rfl,rfl,rfl,fun i hi=>by omega,fun i hi=>by omega,fun i hi=>by omega,fun i hi=>by omega,aa _ _⟩
theorem CI.below (h:CI w T L k1 k2 k3 k4 o1 l1 o2 l2 o3 l3 o4 l4 wr) (b:Below wr.heap.size wr w'):CI w T L k1 k2 k3 k4 o1 l1 o2 l2 o3 l3 o4 l4 w' :=
 ⟨h.w1.keep b,h.w2.keep b,h.w3.keep b,h.w4.keep b,h.n1,h.n2,h.n3,h.n4,h.e1,fun i hi=>(h.e2 i hi).keep b,h.e3,fun i hi=>(h.e4 i hi).keep b,h.aG.trans (b.mono h.aG.size)⟩
theorem mZ {α:Type} {l:List α} {k i:Nat} (x d:α) (hl:l.length=k) (hi:i < k+1):(l ++ [x]).getD i d=if i < k then l.getD i d else x:=by
 rw [af,List.getElem?_append,hl]
 split
 ·rw [af]
 ·obtain rfl:i=k:=by omega
  simp
theorem CI.acU (h:CI w T L k1 k2 k3 k4 o1 l1 o2 l2 o3 l3 o4 l4 wr) {x:Nat} (own:Ow KN w' w.heap.size 72 o' (l1 ++ [x])) (gr:wr.grownBy w' o1.ownBlock) (hx:x=(iI L k1).s):CI w T L (k1+1) k2 k3 k4 o' (l1 ++ [x]) o2 l2 o3 l3 o4 l4 w':=by
 have o:=aQ gr;refine ⟨own,aC h.w2 (fun k e=>aZ h.w2 h.w1 (by decide) k e) o,aC h.w3 (fun k e=>aZ h.w3 h.w1 (by decide) k e) o,aC h.w4 (fun k e=>aZ h.w4 h.w1 (by decide) k e) o,by rw [cI,h.n1];rfl,h.n2,h.n3,h.n4,fun i hi=>?_,fun i hi=>aC (h.e2 i hi) (fun k e=>aZ (h.e2 i hi) h.w1 (by decide) k e) o,h.e3,fun i hi=>aC (h.e4 i hi) (fun k e=>aZ (h.e4 i hi) h.w1 (by decide) k e) o,h.aG.grown gr h.aG.size fun j e=>(ci h.w1 j e).1⟩;rw [mZ x 0 h.n1 hi]
 split
 ·rename_i g;exact h.e1 i g
 ·obtain rfl:i=k1:=by omega
  exact hx
variable {x:Hd}
theorem CI.adx (h:CI w T L k1 k2 k3 k4 o1 l1 o2 l2 o3 l3 o4 l4 wr) (own:Ow KS w' w.heap.size 126 o' (l2 ++ [x])) (gr:wr.grownBy w' o2.ownBlock) (hx:Ow K5 wr w.heap.size 170 (sl x) (bQ T k2)):CI w T L k1 (k2+1) k3 k4 o1 l1 o' (l2 ++ [x]) o3 l3 o4 l4 w':=by
 have o:=aQ gr;refine ⟨aC h.w1 (fun k e=>aZ h.w1 h.w2 (by decide) k e) o,own,aC h.w3 (fun k e=>aZ h.w3 h.w2 (by decide) k e) o,aC h.w4 (fun k e=>aZ h.w4 h.w2 (by decide) k e) o,h.n1,by rw [cI,h.n2];rfl,h.n3,h.n4,h.e1,fun i hi=>?_,h.e3,fun i hi=>aC (h.e4 i hi) (fun k e=>aZ (h.e4 i hi) h.w2 (by decide) k e) o,h.aG.grown gr h.aG.size fun j e=>(ci h.w2 j e).1⟩;rw [mZ x zh h.n2 hi]
 split
 ·rename_i g;exact aC (h.e2 i g) (fun k e=>aZ (h.e2 i g) h.w2 (by decide) k e) o
 ·obtain rfl:i=k2:=by omega
  exact aC hx (fun k e=>aZ hx h.w2 (by decide) k e) o
theorem CI.ac0 (h:CI w T L k1 k2 k3 k4 o1 l1 o2 l2 o3 l3 o4 l4 wr) {x:Bool} (own:Ow KB w' w.heap.size 4 o' (l3 ++ [x])) (gr:wr.grownBy w' o3.ownBlock) (hx:x=(iI L k3).live):CI w T L k1 k2 (k3+1) k4 o1 l1 o2 l2 o' (l3 ++ [x]) o4 l4 w':=by
 have o:=aQ gr;refine ⟨aC h.w1 (fun k e=>aZ h.w1 h.w3 (by decide) k e) o,aC h.w2 (fun k e=>aZ h.w2 h.w3 (by decide) k e) o,own,aC h.w4 (fun k e=>aZ h.w4 h.w3 (by decide) k e) o,h.n1,h.n2,by rw [cI,h.n3];rfl,h.n4,h.e1,fun i hi=>aC (h.e2 i hi) (fun k e=>aZ (h.e2 i hi) h.w3 (by decide) k e) o,fun i hi=>?_,fun i hi=>aC (h.e4 i hi) (fun k e=>aZ (h.e4 i hi) h.w3 (by decide) k e) o,h.aG.grown gr h.aG.size fun j e=>(ci h.w3 j e).1⟩;rw [mZ x false h.n3 hi]
 split
 ·rename_i g;exact h.e3 i g
 ·obtain rfl:i=k3:=by omega
  exact hx
theorem CI.acz (h:CI w T L k1 k2 k3 k4 o1 l1 o2 l2 o3 l3 o4 l4 wr) (own:Ow KS w' w.heap.size 163 o' (l4 ++ [x])) (gr:wr.grownBy w' o4.ownBlock) (hx:Ow K2 wr w.heap.size 162 (sl x) [(0,(iI L k4).rate)]):CI w T L k1 k2 k3 (k4+1) o1 l1 o2 l2 o3 l3 o' (l4 ++ [x]) w':=by
 have o:=aQ gr;refine ⟨aC h.w1 (fun k e=>aZ h.w1 h.w4 (by decide) k e) o,aC h.w2 (fun k e=>aZ h.w2 h.w4 (by decide) k e) o,aC h.w3 (fun k e=>aZ h.w3 h.w4 (by decide) k e) o,own,h.n1,h.n2,h.n3,by rw [cI,h.n4];rfl,h.e1,fun i hi=>aC (h.e2 i hi) (fun k e=>aZ (h.e2 i hi) h.w4 (by decide) k e) o,h.e3,fun i hi=>?_,h.aG.grown gr h.aG.size fun j e=>(ci h.w4 j e).1⟩;rw [mZ x zh h.n4 hi]
 split
 ·rename_i g;exact aC (h.e4 i g) (fun k e=>aZ (h.e4 i g) h.w4 (by decide) k e) o
 ·obtain rfl:i=k4:=by omega
  exact aC hx (fun k e=>aZ hx h.w4 (by decide) k e) o
end
def Jt (L:List Nd):List fC:=L.map fun x=>WH [(0,x.rate)]
variable {L:List Nd}
theorem Yr {i:Nat} (hi:i < L.length):kF (Jt L) i=WH [(0,(iI L i).rate)]:=by
 unfold kF Jt iI;rw [cg,af,cN,am hi,af,am hi]
 rfl
theorem yH (L:List Nd):(Jt L).length=L.length:=cm _
theorem Tp {x:Int} (h : -2000<=x/\x<=2000):(WH [(0,x)]).calm:=by
 have e0:∀ i,i < 1->(WH [(0,x)]).A i=0:=fun i hi=>by
  obtain rfl:i=0:=by omega
  rfl
 have e1:∀ i,i < 1->(WH [(0,x)]).R i=x:=fun i hi=>by
  obtain rfl:i=0:=by omega
  rfl
 refine ⟨⟨(by show 1<=64;decide),fun i hi=>?_,fun i hi=>?_,fun i hi=>?_⟩,by decide,fun i hi=>?_⟩
 ·rw [e0 i hi];decide
 ·rw [e1 i hi];omega
 ·have:i+1 < 1:=hi
  omega
 ·rw [e1 i hi];exact h
theorem Qx (h:∀ i,i < L.length->-2000<=(iI L i).rate/\(iI L i).rate<=2000):iR (Jt L)=true:=by
 refine eC.2 fun o ho=>pI ?_;obtain ⟨x,hx,rfl⟩:=dC.1 ho;obtain ⟨i,hi,e⟩:=ed hx;have g:=h i hi;have e':iI L i=x:=by
  unfold iI;rw [af,am hi];exact e
 rw [e'] at g;exact Tp g
section
variable {s t p:Nat} {F G:Nat->Prop} {c:Cs} {vn vq:Value} {L:List Nd} {Fs:Nat->Nat->Prop} {w wr w1 w2 w':World} {T:LL} {o1 o2 o3 o4:Value} {l1:List Nat} {l2 l4:List Hd} {l3:List Bool}
theorem CI.stl (h:CI w T L c.S.length c.S.length c.S.length c.S.length o1 l1 o2 l2 o3 l3 o4 l4 wr) (H:Cl w s F c t vn L p vq Fs):Bg wr o1 c.S :=
 ⟨l1,h.w1.rd,h.n1,fun i hi=>⟨Fs i,by rw [h.e1 i hi];exact (H.st i (by rw [H.len];exact hi)).below h.aG⟩⟩
variable {n k i cap:Nat}
theorem CI.tab (h:CI w T L n n n n o1 l1 o2 l2 o3 l3 o4 l4 wr) (hT:T.length=n):jK wr o2 T:=vI h.w2.rd (h.n2.trans hT.symm) fun i hi=>(h.e2 i (by rw [← hT];exact hi)).rd
theorem CI.liv (h:CI w T L c.S.length c.S.length c.S.length c.S.length o1 l1 o2 l2 o3 l3 o4 l4 wr) (H:Cl w s F c t vn L p vq Fs) (hv:c.V.length=c.S.length):Rd KB wr o3 c.V:=by
 have e:l3=c.V:=by
  refine List.ext_getElem (h.n3.trans hv.symm) fun i h1 h2=>?_;have a:=h.e3 i (by rw [← h.n3];exact h1);rw [H.lv i (by rw [H.len,← hv];exact h2)] at a;unfold bU at a;rw [cg,af,am h1,af,am h2] at a;exact a
 rw [← e];exact h.w3.rd
theorem CI.osl (h:CI w T L L.length L.length L.length L.length o1 l1 o2 l2 o3 l3 o4 l4 wr):Gx wr o4 (Jt L) :=
 SY h.w4.rd (h.n4.trans (yH L).symm) fun i hi=>by
  rw [yH] at hi;rw [Yr hi];exact GU (h.e4 i hi).rd
def rW (L:List Nd) (ps:List Nat) (k:Nat):List Nd:=(List.range L.length).map fun i=>if i < k then { iI L i with s:=ps.getD i 0 } else iI L i
theorem eB (L:List Nd) (ps:List Nat) (k:Nat):(rW L ps k).length=L.length:=by unfold rW;rw [cm,List.length_range]
variable {ps:List Nat}
theorem mJ (hi:i < L.length):iI (rW L ps k) i=if i < k then { iI L i with s:=ps.getD i 0 } else iI L i:=by
 unfold rW
 conv=>lhs;unfold iI
 rw [af,cN,List.getElem?_range hi]
 rfl
theorem KJ {L':List Nd} (hl:L.length=L'.length) (h:∀ i,i < L.length->iI L i=iI L' i):L=L':=by
 refine List.ext_getElem hl fun i h1 h2=>?_;have:=h i h1
 simpa [iI,List.getD,List.getElem?_eq_getElem h1,List.getElem?_eq_getElem h2] using this
theorem NM (L:List Nd) (ps:List Nat):rW L ps 0=L:=KJ (eB L ps 0) fun i hi=>by
 rw [eB] at hi;rw [mJ hi,aq (by omega)]
theorem Oi (hk:k < L.length):(rW L ps k).set k { iI L k with s:=ps.getD k 0 } = rW L ps (k+1):=by
 refine KJ (by rw [cA,eB,eB]) fun i hi=>?_;rw [cA,eB] at hi;rw [ni (by rw [eB];exact hk),mJ hi,mJ hi]
 by_cases e:i=k
 ·subst e
  rw [aw rfl,aw (by omega)]
 ·rw [aq e]
  by_cases g:i < k
  ·rw [aw g,aw (by omega)]
  ·rw [aq g,aq (by omega)]
structure PL (w2:World) (g cap:Nat) (n:Nat) (L:List Nd) (ps:List Nat) (k:Nat) (wr:World):Prop where
 own:Ow KD wr 0 74 (.slice (some ⟨g,0,none⟩) n cap) (rW L ps k)
 only:Only (fun j=>j=g) w2 wr
theorem PL.step {g:Nat} (h:PL w2 g cap n L ps k wr) (hn:L.length=n) (hk:k < n):PL w2 g cap n L ps (k+1) (wr.setCell ⟨g,k * 3,none⟩ (ptr (ps.getD k 0))):=by
 have hl:(rW L ps k).length=n:=by rw [eB];exact hn
 have o:=h.own;rw [← hl] at o
 have e:=Rw.Ow.set o k 0 (by omega) (by decide) (ptr (ps.getD k 0)) { iI L k with s:=ps.getD k 0 } (by
  have q:(rW L ps k).getD k ndD=iI L k:=by
   have:=mJ (L:=L) (ps:=ps) (k:=k) (i:=k) (by omega);rw [aq (by omega)] at this;exact this
  show [ptr (ps.getD k 0),.bool (iI L k).live,.int .i64 (iI L k).rate]=(KD.enc ((rW L ps k).getD k ndD)).set 0 _
  rw [q]
  rfl)
 rw [Oi (by omega),hl] at e;exact ⟨e,h.only.trans (Only.set (fun j=>j=g) wr (a:=⟨g,k * 3,none⟩) rfl _) fun _ _ q=>q⟩
theorem Cl.carry (h:Cl w s F c t vn L p vq Fs) {g:Nat} (hg:vn = .slice (some ⟨g,0,none⟩) c.S.length cap) {S':bO} {v:Value} {Gs:Nat->Nat->Prop} (hj:PJ 72 w S' S'.length v ps Gs w2) (hS:S'.length=c.S.length) (hp:PL w2 g cap c.S.length L ps c.S.length w'):Cl w' s (Fx F w w') { c with S:=S' } t vn (rW L ps c.S.length) p vq Gs/\Only F w w':=by
 subst hg;have b:=hj.aG;have o:=hp.only;have hz:=cG b.size o.size;have gF:=h.fv g (.inl rfl);have gl:=h.low g gF;have h2:=h.below (b.mono (ac _));have hl:=h.len;have oo:Only F w w':=(Only.of_below b).trans o fun k _ e=>by rw [e];exact gF
 refine ⟨⟨(o.block s h2.slt fun e=>h2.vs.1 (by rw [e];rfl)).trans h2.row,hp.own,by rw [eB,hl,hS],fun i hi=>?_,fun i hi=>?_,fun i hi=>?_,h2.pr.only o (fun e=>h2.vp.1 (by rw [e];rfl)),aC h2.sp (fun k e q=>h2.vv g rfl (by rw [e,q])) o,.inl h.fs,.inl h.fp,fun k q=>.inl (h.fv k q),fun i hi k q=>?_,fun i j hi hj' hij k q=>?_,fun i hi k q=>?_,Fx.low h.low hz⟩,oo⟩
 ·rw [eB] at hi
  rw [mJ hi,aw (by omega)];exact (hj.each i (by omega)).only (fun k q e=>by have:=(hj.lo i (by omega) k q).1;omega) o
 ·rw [eB] at hi
  rw [mJ hi,aw (by omega)];exact h.lv i hi
 ·rw [eB] at hi
  rw [mJ hi,aw (by omega)];exact h.rt i hi
 ·rw [eB] at hi
  have a:=(hj.lo i (by omega) k q).1;have c:=(hj.each i (by omega)).low k q;have d:=o.size;exact .inr ⟨a,by omega⟩
 ·rw [eB] at hi hj'
  exact hj.DY i j (by omega) (by omega) hij k q
 ·rw [eB] at hi
  have a:=(hj.lo i (by omega) k q).1;have c1:=h.slt;have c2:=h.pr.lt;exact ⟨by omega,by omega,fun e=>by have:=h.low k (h.fv k (.inl e));omega,fun e=>by have:=h.low k (h.fv k (.inr e));omega⟩
end
end Cu
