import Derived.Test.YtdbdacceecnpmaaGreatDoorQr10
set_option maxRecDepth 100000
set_option maxHeartbeats 16000000
namespace Go.Proofs.YtdbdacceecnpmaaGreatDoor
open Go.Proofs.Tryz Go.RowKit
open Cu (ClE Cs OkC Syn rC)
open Fl (R4 okR row_cell z4)
open Fs (Fx Glob Only)
open Pa (ptr)
open Qe (At1 Cq Qs faB faS faV fst has poS puE puS)
open Rq (AnsPost KU Q TakePost Y answer_any at_bool good isQ may okV qA qV qof results_reply results_request yA yV yb zQ zY)
open Rw (At Ow Rd)
namespace Qe
attribute [local irreducible] Sd.wpSd wpQuiet
theorem infoW:(prog.info? 128).map (·.size)=some 11:=by kernel_rfl
variable {w:World} {g:Nat} {s:Qs}
theorem push_full (h:Cq w g s) (x:Q) (h8:s.L.length=8):Calls prog 100 #[.pointer (some ⟨g,0,none⟩),qV x] w fun e w'=>e = .returned (.int .i64 12)/\Below w.heap.size w w':=by
 have B0:=(aa w.heap.size w).alloc (ac _) (.cells (qA x) 53);obtain ⟨cs,a,hr,hv⟩:=h;have cn:=(bi _ g 89 cs _ (0,0) (bBl B0 hr)).trans hv.cn;have B0:=Hh B0;clear hr hv;generalize s.L.length=m at *;have hm:(m:Int)=8:=by omega
 obtain ⟨xi,xk,xn,xf,xr,⟨v0,v1,v2,v3⟩,xy⟩:=x;unfold qV qA at *;dsimp only at B0 cn ⊢
 go_enter func100,ntmps100
 go_wp2
 go_ret
 exact ⟨rfl,B0.out⟩
structure Cp (g a m b:Nat) (X:Array Value) (W:World):Prop where
 c1:W.cell? ⟨g,88,none⟩=some (.int .i64 a)
 c2:W.cell? ⟨g,89,none⟩=some (.int .i64 m)
 row:W.heap[b]? = some (.cells X 53 (0,0))
theorem only_row (cs:Array Value):Only (At1 g) w (w.setRow g cs):=⟨rfl,rfl,rfl,by simp [World.setRow],fun k _ hn=>setRow_other w g k cs (fun e=>hn e)⟩
theorem push_room (h:Cq w g s) (hk:ok s) (x:Q) (h8:s.L.length < 8):Calls prog 100 #[.pointer (some ⟨g,0,none⟩),qV x] w fun e w'=>e = .returned (.int .i64 0)/\Cq w' g ⟨s.L ++ [x],s.t⟩/\Only (At1 g) w w':=by
 obtain ⟨cs,a,hr,hv⟩:=h;have B0:=Hh ((aa w.heap.size w).alloc (ac _) (.cells (qA x) 53));have R0:=Hh (bBl B0.out hr);have X0:=Hh (am w (.cells (qA x) 53));have gl:=ay hr;have FIN:Hid (∀ w',Below w.heap.size w w'->w'.heap[g]? = some (.cells cs 131 (0,0))->Cq ((w'.setRow g (splice cs.toList ((a+s.L.length) % 8 * 11) (eA x 0).toList).toArray).setCell ⟨g,89,none⟩ (.int .i64 (s.L.length+1))) g ⟨s.L ++ [x],s.t⟩/\Only (At1 g) w ((w'.setRow g (splice cs.toList ((a+s.L.length) % 8 * 11) (eA x 0).toList).toArray).setCell ⟨g,89,none⟩ (.int .i64 (s.L.length+1)))):=Hh fun w' b hr'=>by
  have hr2:=setRow_heap w' g _ (splice cs.toList ((a+s.L.length) % 8 * 11) (eA x 0).toList).toArray _ _ hr';have hr3:=Rw.heap_setCell_same (j:=89) hr2 (.int .i64 (s.L.length+1));exact ⟨⟨_,a,hr3,hv.push hk h8 x⟩,(Only.of_below (G:=At1 g) b).trans ((only_row _).trans (Only.set (At1 g) _ (a:=⟨g,89,none⟩) rfl _) fun _ _ e=>e) fun _ _ e=>e⟩
 have ca:=(bi _ g 88 cs _ (0,0) R0.out).trans hv.ca;have cn:=(bi _ g 89 cs _ (0,0) R0.out).trans hv.cn;have lp:(a+s.L.length) % 8 < 8:=Nat.mod_lt _ (by decide);have GET:=Hh (ring_get hv.sz lp x 0);have SZ:=Hh hv.sz;have CA:=Hh hv.ca;have CN:=Hh hv.cn;have ha:=hv.lt;have e1:IntKind.i64.wrap ((a:Int)+s.L.length)=(a:Int)+s.L.length:=aR _ (by omega);have e2:Int.tmod ((a:Int)+s.L.length) 8=(((a+s.L.length) % 8:Nat):Int):=by rw [Int.tmod_eq_emod_of_nonneg (by omega)];omega
 have e3:IntKind.i64.wrap (((a+s.L.length) % 8:Nat):Int)=(((a+s.L.length) % 8:Nat):Int):=aR _ (by omega);have h9:¬ (s.L.length:Int)=8:=by omega
 have e4:IntKind.i64.wrap ((s.L.length:Int)+1)=(s.L.length:Int)+1:=aR _ (by omega);have Q1:=Hh (eA_one x 0);clear hv hr h8 hk;generalize (a+s.L.length) % 8=p at *;generalize s.L.length=m at *;obtain ⟨xi,xk,xn,xf,xr,⟨v0,v1,v2,v3⟩,xy⟩:=x;unfold qV;unfold qA eA at *;dsimp only at B0 R0 X0 FIN ca cn Q1 GET ⊢
 go_enter func100,ntmps100
 go_upto_region 5 with fail;generalize w.alloc (.cells #[.int .i64 xi,.int .i64 xk,.int .i64 xn,.int .i64 xf,.int .i64 xr,.int .u8 v0,.int .u8 v1,.int .u8 v2,.int .u8 v3,.int .i64 xy] 53)=W at *;have C0:Cp g a m w.heap.size #[.int .i64 xi,.int .i64 xk,.int .i64 xn,.int .i64 xf,.int .i64 xr,.int .u8 v0,.int .u8 v1,.int .u8 v2,.int .u8 v3,.int .i64 xy] W:=⟨ca,cn,X0.out⟩;have c0:=Sc.cell_in (C:=Cp g a m w.heap.size #[.int .i64 xi,.int .i64 xk,.int .i64 xn,.int .i64 xf,.int .i64 xr,.int .u8 v0,.int .u8 v1,.int .u8 v2,.int .u8 v3,.int .i64 xy]) (a:=⟨g,88,none⟩) (fun W' h=>h.c1);have c1:=Sc.cell_in (C:=Cp g a m w.heap.size #[.int .i64 xi,.int .i64 xk,.int .i64 xn,.int .i64 xf,.int .i64 xr,.int .u8 v0,.int .u8 v1,.int .u8 v2,.int .u8 v3,.int .i64 xy]) (a:=⟨g,89,none⟩) (fun W' h=>h.c2);have x0:=Sc.cell_in (C:=Cp g a m w.heap.size #[.int .i64 xi,.int .i64 xk,.int .i64 xn,.int .i64 xf,.int .i64 xr,.int .u8 v0,.int .u8 v1,.int .u8 v2,.int .u8 v3,.int .i64 xy]) (a:=⟨w.heap.size,0,none⟩) (fun W' h=>rc1 h.row 0);have x1:=Sc.cell_in (C:=Cp g a m w.heap.size #[.int .i64 xi,.int .i64 xk,.int .i64 xn,.int .i64 xf,.int .i64 xr,.int .u8 v0,.int .u8 v1,.int .u8 v2,.int .u8 v3,.int .i64 xy]) (a:=⟨w.heap.size,1,none⟩) (fun W' h=>rc1 h.row 1);have x2:=Sc.cell_in (C:=Cp g a m w.heap.size #[.int .i64 xi,.int .i64 xk,.int .i64 xn,.int .i64 xf,.int .i64 xr,.int .u8 v0,.int .u8 v1,.int .u8 v2,.int .u8 v3,.int .i64 xy]) (a:=⟨w.heap.size,2,none⟩) (fun W' h=>rc1 h.row 2);have x3:=Sc.cell_in (C:=Cp g a m w.heap.size #[.int .i64 xi,.int .i64 xk,.int .i64 xn,.int .i64 xf,.int .i64 xr,.int .u8 v0,.int .u8 v1,.int .u8 v2,.int .u8 v3,.int .i64 xy]) (a:=⟨w.heap.size,3,none⟩) (fun W' h=>rc1 h.row 3);have x4:=Sc.cell_in (C:=Cp g a m w.heap.size #[.int .i64 xi,.int .i64 xk,.int .i64 xn,.int .i64 xf,.int .i64 xr,.int .u8 v0,.int .u8 v1,.int .u8 v2,.int .u8 v3,.int .i64 xy]) (a:=⟨w.heap.size,4,none⟩) (fun W' h=>rc1 h.row 4);have x5:=Sc.cell_in (C:=Cp g a m w.heap.size #[.int .i64 xi,.int .i64 xk,.int .i64 xn,.int .i64 xf,.int .i64 xr,.int .u8 v0,.int .u8 v1,.int .u8 v2,.int .u8 v3,.int .i64 xy]) (a:=⟨w.heap.size,5,none⟩) (fun W' h=>rc1 h.row 5);have x6:=Sc.cell_in (C:=Cp g a m w.heap.size #[.int .i64 xi,.int .i64 xk,.int .i64 xn,.int .i64 xf,.int .i64 xr,.int .u8 v0,.int .u8 v1,.int .u8 v2,.int .u8 v3,.int .i64 xy]) (a:=⟨w.heap.size,6,none⟩) (fun W' h=>rc1 h.row 6);have x7:=Sc.cell_in (C:=Cp g a m w.heap.size #[.int .i64 xi,.int .i64 xk,.int .i64 xn,.int .i64 xf,.int .i64 xr,.int .u8 v0,.int .u8 v1,.int .u8 v2,.int .u8 v3,.int .i64 xy]) (a:=⟨w.heap.size,7,none⟩) (fun W' h=>rc1 h.row 7);have x8:=Sc.cell_in (C:=Cp g a m w.heap.size #[.int .i64 xi,.int .i64 xk,.int .i64 xn,.int .i64 xf,.int .i64 xr,.int .u8 v0,.int .u8 v1,.int .u8 v2,.int .u8 v3,.int .i64 xy]) (a:=⟨w.heap.size,8,none⟩) (fun W' h=>rc1 h.row 8);have x9:=Sc.cell_in (C:=Cp g a m w.heap.size #[.int .i64 xi,.int .i64 xk,.int .i64 xn,.int .i64 xf,.int .i64 xr,.int .u8 v0,.int .u8 v1,.int .u8 v2,.int .u8 v3,.int .i64 xy]) (a:=⟨w.heap.size,9,none⟩) (fun W' h=>rc1 h.row 9);have ne:Nonempty (Sc.In (Cp g a m w.heap.size #[.int .i64 xi,.int .i64 xk,.int .i64 xn,.int .i64 xf,.int .i64 xr,.int .u8 v0,.int .u8 v1,.int .u8 v2,.int .u8 v3,.int .i64 xy])):=⟨⟨_,C0⟩⟩;have p8:(p:Int) < 8:=by omega
 have p0:0<=(p:Int):=by omega
 refine Sc.start (Cp g a m w.heap.size #[.int .i64 xi,.int .i64 xk,.int .i64 xn,.int .i64 xf,.int .i64 xr,.int .u8 v0,.int .u8 v1,.int .u8 v2,.int .u8 v3,.int .i64 xy]) [(false,0),(false,1),(false,2),(false,3),(false,4),(false,5),(false,6),(false,7),(false,8),(false,9),(false,10),(false,11),(false,12),(false,13),(false,14),(false,15),(true,16)] (by kernel_rfl) (by kernel_rfl) (by kernel_rfl) ⟨C0.c1,C0.c2,C0.row⟩ ?_;dsimp only [Sd.picks,List.getElem?_cons_succ,List.getElem?_cons_zero]
 repeat (refine Sd.lit ?_;quiet_step (fail);refine az ?_)
 refine Sd.call (by rfl) (fun K hK=>?_);have R6:W.drew.heap[g]? = some (.cells cs 131 (0,0)):=R0.out;have F:=Hh (FIN.out W.drew B0.out.drew R6);refine Seg.wp_store _ _ _ rfl g (p * 11) #[.int .i64 xi,.int .i64 xk,.int .i64 xn,.int .i64 xf,.int .i64 xr,.int .u8 v0,.int .u8 v1,.int .u8 v2,.int .u8 v3,.int .i64 xy,.int .i64 0] rfl rfl 131 cs R6 infoW (by rw [SZ.out];show p * 11+11<=90;omega) Q1.out ?_;have D6:=setRow_heap W.drew g _ (splice cs.toList (p * 11) #[.int .i64 xi,.int .i64 xk,.int .i64 xn,.int .i64 xf,.int .i64 xr,.int .u8 v0,.int .u8 v1,.int .u8 v2,.int .u8 v3,.int .i64 xy,.int .i64 0].toList).toArray _ _ R6;have z1:=(bi _ g 89 _ _ (0,0) D6).trans ((GET.out 89).trans ((ah (by omega)).trans CN.out));have z0:=(bi _ g 88 _ _ (0,0) D6).trans ((GET.out 88).trans ((ah (by omega)).trans CA.out));have y1:=cU _ g 89 _ _ D6;have ng:w.heap.size≠g:=by omega
 have CE:Cp g a m w.heap.size #[.int .i64 xi,.int .i64 xk,.int .i64 xn,.int .i64 xf,.int .i64 xr,.int .u8 v0,.int .u8 v1,.int .u8 v2,.int .u8 v3,.int .i64 xy] (W.drew.setRow g (splice cs.toList (p * 11) #[.int .i64 xi,.int .i64 xk,.int .i64 xn,.int .i64 xf,.int .i64 xr,.int .u8 v0,.int .u8 v1,.int .u8 v2,.int .u8 v3,.int .i64 xy,.int .i64 0].toList).toArray):=⟨z0,z1,(setRow_other W.drew g w.heap.size _ ng).trans X0.out⟩;refine hK _ _ (Sc.Cl.of CE) ?_;clear hK K c0 c1 x0 x1 x2 x3 x4 x5 x6 x7 x8 x9 ne FIN R6 D6 z0 ng CE C0 GET R0 X0 B0 ca cn CA CN;generalize W.drew.setRow g (splice cs.toList (p * 11) #[.int .i64 xi,.int .i64 xk,.int .i64 xn,.int .i64 xf,.int .i64 xr,.int .u8 v0,.int .u8 v1,.int .u8 v2,.int .u8 v3,.int .i64 xy,.int .i64 0].toList).toArray=W7 at *;refine Sd.done ?_;go_wp2
 go_ret
 exact ⟨rfl,F.out⟩
theorem push_any (h:Cq w g s) (hk:ok s) (x:Q):Calls prog 100 #[.pointer (some ⟨g,0,none⟩),qV x] w fun e w'=>e = .returned (.int .i64 (puE s))/\Cq w' g (puS s x)/\Only (At1 g) w w':=by
 unfold puE puS
 by_cases h8:8<=s.L.length
 ·rw [aj h8,aj h8]
  refine (push_full h x (by have:=hk.1;omega)).mono ?_;rintro e w' ⟨rfl,b⟩;exact ⟨rfl,h.below b,Only.of_below b⟩
 ·rw [ah h8,ah h8]
  exact push_room h hk x (by omega)
theorem pop_of {p:Option Addr} (LN:∀ W,Below w.heap.size w W->Calls prog 65 #[.pointer p] W fun e w'=>e = .returned (.tuple #[qV zQ,.bool false])/\Below W.heap.size W w'):Calls prog 69 #[.pointer p] w fun e w'=>e = .returned (.tuple #[qV zQ,.bool false])/\Below w.heap.size w w':=by
 have B0:=(aa w.heap.size w).alloc (ac _) (.cells (qA zQ) 53);have R0:=Hh (am w (.cells (qA zQ) 53));have LN:=Hh (LN _ B0);have B0:=Hh B0;unfold qV qA zQ z4 at *;dsimp only at B0 R0 LN ⊢
 go_enter func69,ntmps69
 go_wp2_with fail;generalize w.alloc (.cells #[.int .i64 0,.int .i64 0,.int .i64 0,.int .i64 0,.int .i64 0,.int .u8 0,.int .u8 0,.int .u8 0,.int .u8 0,.int .i64 0] 53)=W at *;refine (LN.out).mono ?_;rintro e w1 ⟨rfl,b1⟩;have R1:=Hh ((b1.block _ (ay R0.out)).trans R0.out);have B1:=Hh (bTr B0.out b1);clear b1 LN R0 B0;go_upto_region 3 with fail;have bb:=(aa w1.heap.size w1).alloc (ac _) (.cells #[.int .i64 0,.int .i64 0,.int .i64 0,.int .i64 0,.int .i64 0,.int .u8 0,.int .u8 0,.int .u8 0,.int .u8 0,.int .i64 0] 53);have R2:=Hh (bBl bb R1.out);have B2:=Hh (bTr B1.out bb);clear bb R1 B1;generalize w1.alloc (.cells #[.int .i64 0,.int .i64 0,.int .i64 0,.int .i64 0,.int .i64 0,.int .u8 0,.int .u8 0,.int .u8 0,.int .u8 0,.int .i64 0] 53)=W2 at *
 go_wp2_with ((with_reducible refine wpList_store_row (o:=⟨none,_,_,_,_,_⟩) rfl 53 _ _ rfl w.heap.size #[.int .i64 0,.int .i64 0,.int .i64 0,.int .i64 0,.int .i64 0,.int .u8 0,.int .u8 0,.int .u8 0,.int .u8 0,.int .i64 0] rfl rfl _ _ R2.out (by kernel_rfl) rfl (by simp [Value.oneCell']) ?_))
 exact aA (results_request (p:=2) (r:=3) rfl _ _ w.heap.size _ rfl rfl (setRow_heap W2 w.heap.size _ _ _ _ R2.out) rfl) rfl ⟨rfl,below_setRow B2.out (ac _) _⟩
def C88 (g a:Nat) (W:World):Prop:=W.cell? ⟨g,88,none⟩=some (.int .i64 a)
theorem pop_some (h:Cq w g s) (h8:s.L.length<=8) (h0:0 < s.L.length):Calls prog 69 #[.pointer (some ⟨g,0,none⟩)] w fun e w'=>e = .returned (.tuple #[qV (fst s),.bool true])/\Cq w' g (poS s)/\Only (At1 g) w w':=by
 have B0:=(aa w.heap.size w).alloc (ac _) (.cells (qA zQ) 53);have R0:=Hh (am w (.cells (qA zQ) 53));have LN:=first_of (h.below B0);rw [show has s=true from an h0] at LN;have LN:=Hh LN;obtain ⟨cs,a,hr,hv⟩:=h;have D0:=Hh (bBl B0 hr);have B0:=Hh B0;have gl:=ay hr;have ha:=hv.lt;have hz:=hv.sz;have CA:=Hh hv.ca;have CN:=Hh hv.cn;have GET:=Hh (ring_get hz ha zQ 0);have Q1:=Hh (eA_one zQ 0);have FIN:Hid (∀ w' X,Below w.heap.size w w'->w'.heap[g]? = some (.cells cs 131 (0,0))->Cq ((((w'.setRow g (splice cs.toList (a * 11) (eA zQ 0).toList).toArray).setCell ⟨g,88,none⟩ (.int .i64 ((a+1) % 8:Nat))).setCell ⟨g,89,none⟩ (.int .i64 (s.L.length - 1))).setRow w.heap.size X) g (poS s)/\Only (At1 g) w ((((w'.setRow g (splice cs.toList (a * 11) (eA zQ 0).toList).toArray).setCell ⟨g,88,none⟩ (.int .i64 ((a+1) % 8:Nat))).setCell ⟨g,89,none⟩ (.int .i64 (s.L.length - 1))).setRow w.heap.size X)):=Hh fun w' X b hr'=>by
  have hr2:=setRow_heap w' g _ (splice cs.toList (a * 11) (eA zQ 0).toList).toArray _ _ hr';have hr3:=Rw.heap_setCell_same (j:=88) hr2 (.int .i64 ((a+1) % 8:Nat));have hr4:=Rw.heap_setCell_same (j:=89) hr3 (.int .i64 (s.L.length - 1));have c4:Cq _ g (poS s):=⟨_,_,hr4,hv.pop h8 h0⟩;have o4:=(Only.of_below (G:=At1 g) b).trans ((only_row (splice cs.toList (a * 11) (eA zQ 0).toList).toArray).trans ((Only.set (At1 g) _ (a:=⟨g,88,none⟩) rfl (.int .i64 ((a+1) % 8:Nat))).trans (Only.set (At1 g) _ (a:=⟨g,89,none⟩) rfl (.int .i64 (s.L.length - 1))) fun _ _ e=>e) fun _ _ e=>e) fun _ _ e=>e;have o5:=only_row (w:=(((w'.setRow g (splice cs.toList (a * 11) (eA zQ 0).toList).toArray).setCell ⟨g,88,none⟩ (.int .i64 ((a+1) % 8:Nat))).setCell ⟨g,89,none⟩ (.int .i64 (s.L.length - 1)))) (g:=w.heap.size) X;exact ⟨c4.only (show ¬ g=w.heap.size by omega) o5,o4.trans o5 fun k hk e=>absurd e (show ¬ k=w.heap.size by omega)⟩
 have e1:IntKind.i64.wrap ((a:Int)+1)=(a:Int)+1:=aR _ (by omega);have e2:Int.tmod ((a:Int)+1) 8=(((a+1) % 8:Nat):Int):=by rw [Int.tmod_eq_emod_of_nonneg (by omega)];omega
 have e3:IntKind.i64.wrap (((a+1) % 8:Nat):Int)=(((a+1) % 8:Nat):Int):=aR _ (by omega);have e4:IntKind.i64.wrap ((s.L.length:Int) - 1)=(s.L.length:Int) - 1:=aR _ (by omega);have SZ:=Hh hz;clear hv hr hz h0;generalize (a+1) % 8=p at *;generalize fst s=x at *;generalize poS s=s' at *;generalize s.L.length=m at *;obtain ⟨xi,xk,xn,xf,xr,⟨v0,v1,v2,v3⟩,xy⟩:=x;unfold qV;unfold qV at LN;unfold qA eA zQ z4 at *;dsimp only at B0 R0 LN FIN GET Q1 ⊢
 go_enter func69,ntmps69
 go_wp2_with fail;generalize w.alloc (.cells #[.int .i64 0,.int .i64 0,.int .i64 0,.int .i64 0,.int .i64 0,.int .u8 0,.int .u8 0,.int .u8 0,.int .u8 0,.int .i64 0] 53)=W at *;refine (LN.out).mono ?_;rintro e w1 ⟨rfl,b1⟩;have R1:=Hh (bBl b1 R0.out);have D1:=Hh (bBl b1 D0.out);have B1:=Hh (bTr B0.out b1);clear b1 LN R0 B0 D0;go_upto_region 4 with fail;have bb:=(aa w1.heap.size w1).alloc (ac _) (.cells #[.int .i64 xi,.int .i64 xk,.int .i64 xn,.int .i64 xf,.int .i64 xr,.int .u8 v0,.int .u8 v1,.int .u8 v2,.int .u8 v3,.int .i64 xy] 53);have X2:=Hh (am w1 (.cells #[.int .i64 xi,.int .i64 xk,.int .i64 xn,.int .i64 xf,.int .i64 xr,.int .u8 v0,.int .u8 v1,.int .u8 v2,.int .u8 v3,.int .i64 xy] 53));have R2:=Hh (bBl bb R1.out);have D2:=Hh (bBl bb D1.out);have B2:=Hh (bTr B1.out bb);have nx:w1.heap.size≠g:=by have:=ay D1.out;omega
 clear bb R1 B1 D1;generalize w1.alloc (.cells #[.int .i64 xi,.int .i64 xk,.int .i64 xn,.int .i64 xf,.int .i64 xr,.int .u8 v0,.int .u8 v1,.int .u8 v2,.int .u8 v3,.int .i64 xy] 53)=W2 at *;generalize w1.heap.size=g4 at *;have C0:C88 g a W2:=(bi _ g 88 cs _ (0,0) D2.out).trans CA.out;have c0:=Sc.cell_in (C:=C88 g a) (a:=⟨g,88,none⟩) (v:=.int .i64 a) (fun W' h=>h);have ne:Nonempty (Sc.In (C88 g a)):=⟨⟨_,C0⟩⟩;have a8:(a:Int) < 8:=by omega
 have a0:0<=(a:Int):=by omega
 refine Sc.start (C88 g a) [(false,0),(false,1),(false,2),(false,3),(false,4),(false,5),(false,6),(false,7),(false,8),(true,9)] (by kernel_rfl) (by kernel_rfl) (by kernel_rfl) C0 ?_;dsimp only [Sd.picks,List.getElem?_cons_succ,List.getElem?_cons_zero]
 repeat (refine Sd.lit ?_;quiet_step (fail);refine az ?_)
 refine Sd.call (by rfl) (fun K hK=>?_);have D6:W2.drew.heap[g]? = some (.cells cs 131 (0,0)):=D2.out;have F:=Hh (FIN.out W2.drew #[.int .i64 xi,.int .i64 xk,.int .i64 xn,.int .i64 xf,.int .i64 xr,.int .u8 v0,.int .u8 v1,.int .u8 v2,.int .u8 v3,.int .i64 xy] B2.out.drew D6);refine Seg.wp_store _ _ _ rfl g (a * 11) #[.int .i64 0,.int .i64 0,.int .i64 0,.int .i64 0,.int .i64 0,.int .u8 0,.int .u8 0,.int .u8 0,.int .u8 0,.int .i64 0,.int .i64 0] rfl rfl 131 cs D6 infoW (by rw [SZ.out];show a * 11+11<=90;omega) Q1.out ?_;have D7:=setRow_heap W2.drew g _ (splice cs.toList (a * 11) #[.int .i64 0,.int .i64 0,.int .i64 0,.int .i64 0,.int .i64 0,.int .u8 0,.int .u8 0,.int .u8 0,.int .u8 0,.int .i64 0,.int .i64 0].toList).toArray _ _ D6;have z0:=(bi _ g 88 _ _ (0,0) D7).trans ((GET.out 88).trans ((ah (by omega)).trans CA.out));have z1:=(bi _ g 89 _ _ (0,0) D7).trans ((GET.out 89).trans ((ah (by omega)).trans CN.out));have y0:=cU _ g 88 _ _ D7;have y1:=cU _ g 89 _ _ D7;have X7:(W2.drew.setRow g (splice cs.toList (a * 11) #[.int .i64 0,.int .i64 0,.int .i64 0,.int .i64 0,.int .i64 0,.int .u8 0,.int .u8 0,.int .u8 0,.int .u8 0,.int .i64 0,.int .i64 0].toList).toArray).heap[g4]? = some (.cells #[.int .i64 xi,.int .i64 xk,.int .i64 xn,.int .i64 xf,.int .i64 xr,.int .u8 v0,.int .u8 v1,.int .u8 v2,.int .u8 v3,.int .i64 xy] 53 (0,0)):=(setRow_other W2.drew g g4 _ nx).trans X2.out;have R7:(W2.drew.setRow g (splice cs.toList (a * 11) #[.int .i64 0,.int .i64 0,.int .i64 0,.int .i64 0,.int .i64 0,.int .u8 0,.int .u8 0,.int .u8 0,.int .u8 0,.int .i64 0,.int .i64 0].toList).toArray).heap[w.heap.size]? = some (.cells #[.int .i64 0,.int .i64 0,.int .i64 0,.int .i64 0,.int .i64 0,.int .u8 0,.int .u8 0,.int .u8 0,.int .u8 0,.int .i64 0] 53 (0,0)):=(setRow_other W2.drew g w.heap.size _ (by omega)).trans R2.out;have X7:=Hh X7;have R7:=Hh R7;refine hK _ _ (Sc.Cl.of (show C88 g a _ from z0)) ?_;clear hK K c0 ne FIN D6 D7 C0 GET X2 R2 D2 B2 CA CN Q1 SZ;generalize W2.drew.setRow g (splice cs.toList (a * 11) #[.int .i64 0,.int .i64 0,.int .i64 0,.int .i64 0,.int .i64 0,.int .u8 0,.int .u8 0,.int .u8 0,.int .u8 0,.int .i64 0,.int .i64 0].toList).toArray=W7 at *;refine Sd.done ?_;go_upto_region 7 with fail;have nr:w.heap.size≠g:=by omega
 have X8:=Hh ((aH (W7.setCell ⟨g,88,none⟩ (.int .i64 p)) ⟨g,89,none⟩ (.int .i64 (m - 1)) g4 nx).trans ((aH W7 ⟨g,88,none⟩ (.int .i64 p) g4 nx).trans X7.out));have R8:=Hh ((aH (W7.setCell ⟨g,88,none⟩ (.int .i64 p)) ⟨g,89,none⟩ (.int .i64 (m - 1)) w.heap.size nr).trans ((aH W7 ⟨g,88,none⟩ (.int .i64 p) w.heap.size nr).trans R7.out));clear X7 R7 z0 z1 y0 y1;generalize (W7.setCell ⟨g,88,none⟩ (.int .i64 p)).setCell ⟨g,89,none⟩ (.int .i64 (m - 1))=W8 at *;have k0:=rc1 X8.out 0;have k1:=rc1 X8.out 1;have k2:=rc1 X8.out 2;have k3:=rc1 X8.out 3;have k4:=rc1 X8.out 4;have k5:=rc1 X8.out 5;have k6:=rc1 X8.out 6;have k7:=rc1 X8.out 7;have k8:=rc1 X8.out 8;have k9:=rc1 X8.out 9
 go_wp2_with ((with_reducible refine wpList_store_row (o:=⟨none,_,_,_,_,_⟩) rfl 53 _ _ rfl w.heap.size #[.int .i64 xi,.int .i64 xk,.int .i64 xn,.int .i64 xf,.int .i64 xr,.int .u8 v0,.int .u8 v1,.int .u8 v2,.int .u8 v3,.int .i64 xy] rfl rfl _ _ R8.out (by kernel_rfl) rfl (by simp [Value.oneCell']) ?_))
 exact aA (results_request (p:=2) (r:=3) rfl _ _ w.heap.size _ rfl rfl (setRow_heap W8 w.heap.size _ _ _ _ R8.out) rfl) rfl ⟨rfl,F.out⟩
theorem fst_none (h:¬ 0 < s.L.length):fst s=zQ:=by
 unfold fst;rw [bt.1 (show s.L.length=0 by omega)]
 rfl
theorem pop_any (h:Cq w g s) (hk:ok s):Calls prog 69 #[.pointer (some ⟨g,0,none⟩)] w fun e w'=>e = .returned (.tuple #[qV (fst s),.bool (has s)])/\Cq w' g (poS s)/\Only (At1 g) w w':=by
 by_cases h0:0 < s.L.length
 ·rw [show has s=true from an h0]
  exact pop_some h hk.1 h0
 ·rw [show has s=false from ak h0,fst_none h0,pop_empty hk (bt.1 (by omega))]
  refine (pop_of (w:=w) fun W b=>?_).mono ?_
  ·have:=first_of (h.below b)
   rw [show has s=false from ak h0,fst_none h0] at this;exact this
  ·rintro e w' ⟨rfl,b⟩
   exact ⟨rfl,h.below b,Only.of_below b⟩
attribute [local irreducible] Sg.wpSg
theorem fail_of {p:Option Addr} (LN:∀ W,Below w.heap.size w W->Calls prog 46 #[.pointer p] W fun e w'=>e = .returned (.int .i64 0)/\Below W.heap.size W w'):Calls prog 68 #[.pointer p] w fun e w'=>e = .returned (.tuple #[qV zQ,.bool false])/\Below w.heap.size w w':=by
 have B0:=(aa w.heap.size w).alloc (ac _) (.cells (qA zQ) 53);have R0:=Hh (am w (.cells (qA zQ) 53));have LN:=Hh (LN _ B0);have B0:=Hh B0;unfold qV qA zQ z4 at *;dsimp only at B0 R0 LN ⊢
 go_enter func68,ntmps68
 go_wp2_with fail;generalize w.alloc (.cells #[.int .i64 0,.int .i64 0,.int .i64 0,.int .i64 0,.int .i64 0,.int .u8 0,.int .u8 0,.int .u8 0,.int .u8 0,.int .i64 0] 53)=W at *;refine (LN.out).mono ?_;rintro e w1 ⟨rfl,b1⟩;have R1:=Hh (bBl b1 R0.out);have B1:=Hh (bTr B0.out b1);clear b1 LN R0 B0
 go_wp2_with ((with_reducible refine wpList_store_row (o:=⟨none,_,_,_,_,_⟩) rfl 53 _ _ rfl w.heap.size #[.int .i64 0,.int .i64 0,.int .i64 0,.int .i64 0,.int .i64 0,.int .u8 0,.int .u8 0,.int .u8 0,.int .u8 0,.int .i64 0] rfl rfl _ _ R1.out (by kernel_rfl) rfl (by simp [Value.oneCell']) ?_))
 exact aA (results_request (p:=2) (r:=3) rfl _ _ w.heap.size _ rfl rfl (setRow_heap w1 w.heap.size _ _ _ _ R1.out) rfl) rfl ⟨rfl,below_setRow B1.out (ac _) _⟩
structure Ct (g a:Nat) (t:Int) (W:World):Prop where
 c1:W.cell? ⟨g,88,none⟩=some (.int .i64 a)
 c2:W.cell? ⟨g,a * 11+10,none⟩=some (.int .i64 t)
theorem CqV.tries {cs:Array Value} {a:Nat} (h:CqV cs s a) (h0:0 < s.L.length):cs[a * 11+10]? = some (.int .i64 s.t):=by
 have ha:=h.lt;have:=h.el 0 h0 10 (by decide);rw [show (a+0) % 8=a by omega] at this;rw [this]
 rfl
theorem fail_some (h:Cq w g s) (h8:s.L.length<=8) (h0:0 < s.L.length) (ht:0<=s.t/\s.t<=2):Calls prog 68 #[.pointer (some ⟨g,0,none⟩)] w fun e w'=>e = .returned (.tuple #[qV (if s.t=2 then fst s else zQ),.bool (decide (s.t=2))])/\Cq w' g (if s.t=2 then poS s else ⟨s.L,s.t+1⟩)/\Only (At1 g) w w':=by
 have B0:=(aa w.heap.size w).alloc (ac _) (.cells (qA zQ) 53);have R0:=Hh (am w (.cells (qA zQ) 53));have LN:=Hh (len_of (h.below B0));obtain ⟨cs,a,hr,hv⟩:=h;have gl:=ay hr;have ha:=hv.lt;have hn:¬ ((s.L.length:Nat):Int)=0:=by omega
 have D0:=Hh (bBl B0 hr);have B0:=Hh B0;have FIN:Hid (∀ w',Below w.heap.size w w'->w'.heap[g]? = some (.cells cs 131 (0,0))->Cq (w'.setCell ⟨g,a * 11+10,none⟩ (.int .i64 (s.t+1))) g ⟨s.L,s.t+1⟩/\Only (At1 g) w (w'.setCell ⟨g,a * 11+10,none⟩ (.int .i64 (s.t+1)))/\Ct g a (s.t+1) (w'.setCell ⟨g,a * 11+10,none⟩ (.int .i64 (s.t+1)))):=Hh fun w' b hr'=>by
  have hr3:=Rw.heap_setCell_same (j:=a * 11+10) hr' (.int .i64 (s.t+1));have hf:=hv.fail h8 (s.t+1);exact ⟨⟨_,a,hr3,hf⟩,(Only.of_below (G:=At1 g) b).trans (Only.set (At1 g) _ (a:=⟨g,a * 11+10,none⟩) rfl _) fun _ _ e=>e,(bi _ g 88 _ _ (0,0) hr3).trans hf.ca,(bi _ g _ _ _ (0,0) hr3).trans (hf.tries h0)⟩
 have PP:Hid (∀ W c,Cq W g ⟨s.L,c⟩->Calls prog 69 #[.pointer (some ⟨g,0,none⟩)] W fun e w'=>e = .returned (.tuple #[qV (fst s),.bool true])/\Cq w' g (poS s)/\Only (At1 g) W w'):=Hh fun W c hc=>pop_some (s:=⟨s.L,c⟩) hc h8 h0;have CA:=Hh hv.ca;have CT:=Hh (hv.tries h0);have e1:IntKind.i64.wrap (s.t+1)=s.t+1:=aR _ (by omega);clear hv hr h0 h8;generalize fst s=x at *;generalize poS s=s' at *;obtain ⟨L,t⟩:=s;dsimp only at *;generalize L.length=m at *
 obtain ⟨V,b,s2,eV,eb,es,HV⟩:∃ (V:Value) (b:Bool) (s2:Qs),qV (if t=2 then x else zQ)=V/\decide (t=2)=b/\(if t=2 then s' else ⟨L,t+1⟩)=s2/\Hid ((t=2/\V=qV x/\b=true/\s2=s')\/(t+1 < 3/\V=qV zQ/\b=false/\s2=⟨L,t+1⟩)):=⟨_,_,_,rfl,rfl,rfl,Hh (by
  by_cases h2:t=2
  ·exact .inl ⟨h2,by rw [aj h2],an h2,aj h2⟩
  ·exact .inr ⟨by omega,by rw [ah h2],ak h2,ah h2⟩)⟩
 rw [eV,eb,es];clear eV eb es ht;obtain ⟨xi,xk,xn,xf,xr,⟨v0,v1,v2,v3⟩,xy⟩:=x;unfold qV at HV PP;unfold qA zQ z4 at *;dsimp only at B0 R0 LN FIN PP HV;have a8:(a:Int) < 8:=by omega
 have a0:0<=(a:Int):=by omega
 go_enter func68,ntmps68
 go_wp2_with fail;generalize w.alloc (.cells #[.int .i64 0,.int .i64 0,.int .i64 0,.int .i64 0,.int .i64 0,.int .u8 0,.int .u8 0,.int .u8 0,.int .u8 0,.int .i64 0] 53)=W at *;refine (LN.out).mono ?_;rintro e w1 ⟨rfl,b1⟩;have R1:=Hh (bBl b1 R0.out);have D1:=Hh (bBl b1 D0.out);have B1:=Hh (bTr B0.out b1);clear b1 LN R0 B0 D0;go_upto_region 3 with fail;have LW:=ay D1.out;have d0:=(bi _ g 88 cs _ (0,0) D1.out).trans CA.out;have d1:=(bi _ g (a * 11+10) cs _ (0,0) D1.out).trans CT.out;have f1:=cU _ g (a * 11+10) _ _ D1.out;have c0:=Sc.cell_in (C:=Below w1.heap.size w1) (a:=⟨g,88,none⟩) (v:=.int .i64 a) (fun W' h=>(h.cell LW).trans d0);have c1:=Sc.cell_in (C:=Below w1.heap.size w1) (a:=⟨g,a * 11+10,none⟩) (v:=.int .i64 t) (fun W' h=>(h.cell LW).trans d1);have ne:Nonempty (Sc.In (Below w1.heap.size w1)):=⟨⟨_,aa _ _⟩⟩;have ne2:Nonempty (Sc.In (fun _:World=>True)):=⟨⟨w1,trivial⟩⟩;refine Sg.startV (Below w1.heap.size w1) [0,1,2,3,5,6,11,12] [4,7,8,9,10] [13,14] [] [15] [] (by kernel_rfl) (by kernel_rfl) (by kernel_rfl) (by kernel_rfl) (by kernel_rfl) (by kernel_rfl) (by rfl) (by decide) (fun f hf=>by cases hf) (fun f hf=>by cases hf) (fun f hf=>by cases hf) ((aa _ _).drew) (fun W' h=>h.size) (fun W' o h=>h.alloc h.size o) ?_;dsimp only [Sg.picksL,List.getElem?_cons_succ,List.getElem?_cons_zero]
 repeat (refine Pa.lit1 ?_;quiet_step (fail);refine az ?_)
 refine Pa.end1 ⟨(fun f hf=>by cases hf),?_⟩;refine Sg.doneT (fun w6 hb hc=>?_);have B6:Below w1.heap.size w1 w6:=by obtain ⟨p,rfl⟩:=hc;exact p.ok
 have F:=FIN.out w6 (bTr B1.out B6) (bBl B6 D1.out);have R6:=bBl B6 R1.out;have z1:=(B6.cell LW).trans d1;have y1:=(B6.frozen LW).trans f1;have nr:w.heap.size≠g:=by omega
 have RS:=Hh ((aH w6 ⟨g,a * 11+10,none⟩ (.int .i64 (t+1)) w.heap.size nr).trans R6);clear hb hc c0 c1 ne ne2 d0 d1 f1 B6 R6 R1 D1 B1 LW FIN CA CT;refine Sg.lastT (fun K hK=>?_);go_simp;refine hK _ _ ?_;clear hK K z1 y1;have C4:=Hh F.1;have O4:=Hh F.2.1;have d0:=F.2.2.c1;have d1:=F.2.2.c2;clear F;generalize w6.setCell ⟨g,a * 11+10,none⟩ (.int .i64 (t+1))=W4 at *;refine Sg.endT ?_;have CW:Ct g a (t+1) W4:=⟨d0,d1⟩;have c0:=Sc.cell_in (C:=Ct g a (t+1)) (a:=⟨g,88,none⟩) (v:=.int .i64 a) (fun W' h=>h.c1);have c1:=Sc.cell_in (C:=Ct g a (t+1)) (a:=⟨g,a * 11+10,none⟩) (v:=.int .i64 (t+1)) (fun W' h=>h.c2);have ne:Nonempty (Sc.In (Ct g a (t+1))):=⟨⟨_,CW⟩⟩;clear d0 d1;go_upto_region 4 with fail;refine Sc.start (Ct g a (t+1)) [(false,0),(false,1),(false,2),(false,3),(false,4),(false,5),(false,6),(false,7),(false,8),(false,9),(false,10)] (by kernel_rfl) (by kernel_rfl) (by kernel_rfl) ⟨CW.c1,CW.c2⟩ ?_;dsimp only [Sd.picks,List.getElem?_cons_succ,List.getElem?_cons_zero]
 repeat (refine Sd.lit ?_;quiet_step (fail);refine az ?_)
 refine Sd.done ?_;clear c0 c1 ne CW;have bd:Below W4.heap.size W4 W4.drew:=(aa _ _).drew;have RS:=Hh (bBl bd RS.out);have O4:=Hh (O4.out.trans (Only.of_below (G:=At1 g) bd) fun _ _ e=>e);have C4:=Hh (C4.out.below bd);clear bd;generalize W4.drew=W4 at *;have LS:=ay RS.out;have zr:∀ X,Hid (Cq (W4.setRow w.heap.size X) g ⟨L,t+1⟩/\Only (At1 g) w (W4.setRow w.heap.size X)):=fun X=>Hh
  ⟨C4.out.only (show ¬ g=w.heap.size by omega) (only_row X),O4.out.trans (only_row X) fun k hk e=>absurd e (show ¬ k=w.heap.size by omega)⟩
 have ZR:=Hh zr;clear zr;have PC:=Hh (PP.out W4 (t+1) C4.out);clear PP C4
 rcases HV.out with ⟨h2,hV,hb,hs⟩ | ⟨h3,hV,hb,hs⟩
 all_goals
  clear HV;subst hV hb hs
 ·subst h2
  clear ZR;go_wp2_with fail;refine (PC.out).mono ?_;rintro e w5 ⟨rfl,C5,o5⟩;have R5:=Hh ((o5.block w.heap.size (ay RS.out) (show ¬ w.heap.size=g from nr)).trans RS.out)
  have F:=Hh (show Cq (w5.setRow w.heap.size #[.int .i64 xi,.int .i64 xk,.int .i64 xn,.int .i64 xf,.int .i64 xr,.int .u8 v0,.int .u8 v1,.int .u8 v2,.int .u8 v3,.int .i64 xy]) g s2/\Only (At1 g) w (w5.setRow w.heap.size #[.int .i64 xi,.int .i64 xk,.int .i64 xn,.int .i64 xf,.int .i64 xr,.int .u8 v0,.int .u8 v1,.int .u8 v2,.int .u8 v3,.int .i64 xy]) from
   ⟨C5.only (show ¬ g=w.heap.size by omega) (only_row _),(O4.out.trans o5 fun _ _ e=>e).trans (only_row _) fun k hk e=>absurd e (show ¬ k=w.heap.size by omega)⟩)
  clear C5 o5 RS O4 PC
  go_wp2_with ((with_reducible refine wpList_store_row (o:=⟨none,_,_,_,_,_⟩) rfl 53 _ _ rfl w.heap.size #[.int .i64 xi,.int .i64 xk,.int .i64 xn,.int .i64 xf,.int .i64 xr,.int .u8 v0,.int .u8 v1,.int .u8 v2,.int .u8 v3,.int .i64 xy] rfl rfl _ _ R5.out (by kernel_rfl) rfl (by simp [Value.oneCell']) ?_))
  exact aA (results_request (p:=2) (r:=3) rfl _ _ w.heap.size _ rfl rfl (setRow_heap w5 w.heap.size _ _ _ _ R5.out) rfl) rfl ⟨rfl,F.out⟩
 ·clear PC
  have F:=ZR.out #[.int .i64 0,.int .i64 0,.int .i64 0,.int .i64 0,.int .i64 0,.int .u8 0,.int .u8 0,.int .u8 0,.int .u8 0,.int .i64 0];clear ZR
  go_wp2_with ((with_reducible refine wpList_store_row (o:=⟨none,_,_,_,_,_⟩) rfl 53 _ _ rfl w.heap.size #[.int .i64 0,.int .i64 0,.int .i64 0,.int .i64 0,.int .i64 0,.int .u8 0,.int .u8 0,.int .u8 0,.int .u8 0,.int .i64 0] rfl rfl _ _ RS.out (by kernel_rfl) rfl (by simp [Value.oneCell']) ?_))
  exact aA (results_request (p:=2) (r:=3) rfl _ _ w.heap.size _ rfl rfl (setRow_heap W4 w.heap.size _ _ _ _ RS.out) rfl) rfl ⟨rfl,F.out⟩
theorem fail_any (h:Cq w g s) (hk:ok s):Calls prog 68 #[.pointer (some ⟨g,0,none⟩)] w fun e w'=>e = .returned (.tuple #[qV (faV s),.bool (faB s)])/\Cq w' g (faS s)/\Only (At1 g) w w':=by
 unfold faV faB faS
 by_cases h0:0 < s.L.length
 ·have e1:(0 < s.L.length/\s.t=2)=(s.t=2):=by simp [h0]
  simp only [e1];rw [aj h0];exact fail_some h hk.1 h0 hk.2.1
 ·have e1:¬ (0 < s.L.length/\s.t=2):=fun h=>h0 h.1
  rw [ah e1,ah h0,ak e1];refine (fail_of (w:=w) fun W b=>?_).mono ?_
  ·have:=len_of (h.below b)
   rw [show s.L.length=0 by omega] at this;exact this
  ·rintro e w' ⟨rfl,b⟩
   exact ⟨rfl,h.below b,Only.of_below b⟩
end Qe
namespace Qe
theorem first_any {w:World} {g:Nat} {s:Qs} (h:Cq w g s) (_:ok s):Calls prog 65 #[.pointer (some ⟨g,0,none⟩)] w fun e w'=>e = .returned (.tuple #[qV (fst s),.bool (has s)])/\Below w.heap.size w w':=first_of h
end Qe
namespace Ga
open Qe (ok)
def Gt (W:World) (g:Nat) (B:Nat->Prop) (s:Nat) (key:Int) (q:Qs):Prop:=∃ k,W.heap[g]? = some (.cells #[ptr s,.int .i64 key,ptr k] 92 (0,0))/\Cq W k q/\B g/\B k
theorem Gt.only {W w':World} {g s:Nat} {B J:Nat->Prop} {key:Int} {q:Qs} (h:Gt W g B s key q) (hn:∀ k,B k->¬ J k) (o:Only J W w'):Gt w' g B s key q:=by
 obtain ⟨k,h1,h2,h3,h4⟩:=h;exact ⟨k,(o.block g (ay h1) (hn g h3)).trans h1,h2.only (hn k h4) o,h3,h4⟩
theorem Gt.wide {W:World} {g s:Nat} {B J:Nat->Prop} {key:Int} {q:Qs} (h:Gt W g B s key q) (hn:∀ k,B k->J k):Gt W g J s key q:=by
 obtain ⟨k,h1,h2,h3,h4⟩:=h;exact ⟨k,h1,h2,hn g h3,hn k h4⟩
section
variable {W w':World} {s t:Nat} {F J:Nat->Prop} {c:Cu.Cs}
theorem cle_only (h:ClE W s F c t) (hn:∀ k,F k->¬ J k) (o:Only J W w'):ClE w' s F c t:=by
 obtain ⟨vn,L,p,vq,Fs,h⟩:=h;exact ⟨vn,L,p,vq,Fs,h.only hn o⟩
theorem cle_below (h:ClE W s F c t) (b:Below W.heap.size W w'):ClE w' s F c t:=cle_only (J:=fun _=>False) h (fun _ _ f=>f) (Only.of_below b)
theorem cle_low (h:ClE W s F c t):∀ k,F k->k < W.heap.size:=by
 obtain ⟨vn,L,p,vq,Fs,h⟩:=h;exact h.low
theorem cle_late (h:ClE W s F c t):ClE W s F c (t+1):=by
 obtain ⟨vn,L,p,vq,Fs,h⟩:=h;exact ⟨vn,L,p,vq,Fs,h.late⟩
theorem cle_wide (h:ClE W s F c t) (hF:∀ k,F k->J k) (hl:∀ k,J k->k < W.heap.size):ClE W s J c t:=by
 obtain ⟨vn,L,p,vq,Fs,h⟩:=h;exact ⟨vn,L,p,vq,Fs,h.wide hF hl⟩
theorem cle_fx (w0:World) (h:ClE W s F c t):ClE W s (Fx F w0 W) c t:=cle_wide h (fun _ f=>.inl f) fun k f=>by
 rcases f with f | f
 ·exact cle_low h k f
 ·exact f.2
end
def GE (W:World) (g s:Nat) (H:Nat->Prop) (G:Gs) (t:Nat):Prop:=∃ F B:Nat->Prop,ClE W s F G.c t/\Gt W g B s G.key G.q/\(∀ k,F k->¬ B k)/\(∀ k,F k\/B k->H k)/\∀ k,H k->k < W.heap.size
section
variable {W w':World} {g s t:Nat} {H J:Nat->Prop} {G:Gs}
theorem GE.only (h:GE W g s H G t) (hn:∀ k,H k->¬ J k) (o:Only J W w'):GE w' g s H G t:=by
 obtain ⟨F,B,h1,h2,h3,h4,h5⟩:=h;exact ⟨F,B,cle_only h1 (fun k f=>hn k (h4 k (.inl f))) o,h2.only (fun k f=>hn k (h4 k (.inr f))) o,h3,h4,fun k f=>aV (h5 k f) o.size⟩
theorem GE.late (h:GE W g s H G t):GE W g s H G (t+1):=by
 obtain ⟨F,B,h1,h2,h3,h4,h5⟩:=h;exact ⟨F,B,cle_late h1,h2,h3,h4,h5⟩
end
theorem gnew_any (W:World) (s:Nat) (key:Int) (hk:0<=key/\key<=255):Calls prog 9 #[ptr s,.int .i64 key] W fun e w'=>∃ g,∃ B:Nat->Prop,e = .returned (.tuple #[ptr g,.int .i64 0])/\Gt w' g B s key Qe.q0/\(∀ k,B k->W.heap.size<=k/\k < w'.heap.size)/\Below W.heap.size W w':=by
 have k1:¬ key < 0:=by omega
 have k2:¬ 255 < key:=by omega
 have N0:=Hh (Qe.new_any W);clear hk;unfold ptr at *
 go_enter func9,ntmps9
 go_wp2_with fail;refine N0.out.mono ?_;rintro e w1 ⟨k,rfl,cq,hk,b⟩
 have FIN:=Hh (show ∃ B:Nat->Prop,Gt (w1.alloc (.cells #[ptr s,.int .i64 key,ptr k] 92)) w1.heap.size B s key Qe.q0/\(∀ j,B j->W.heap.size<=j/\j < (w1.alloc (.cells #[ptr s,.int .i64 key,ptr k] 92)).heap.size)/\Below W.heap.size W (w1.alloc (.cells #[ptr s,.int .i64 key,ptr k] 92)) from by
  have z:=b.size;have l:=cq.lt;refine ⟨fun j=>j=w1.heap.size\/j=k,⟨k,am w1 _,cq.below ((aa _ _).alloc (ac _) _),.inl rfl,.inr rfl⟩,fun j e=>?_,b.alloc z _⟩
  rcases e with rfl | rfl
  ·exact ⟨z,by simp⟩
  ·exact ⟨hk,by simp;omega⟩)
 clear N0 cq hk b;unfold ptr at *;go_wp2
 go_ret2
 obtain ⟨B,F⟩:=FIN.out;exact ⟨_,B,rfl,F⟩
end Ga
namespace Rq
attribute [local irreducible] Sd.wpSd wpQuiet Sg.wpSg
theorem take_short (w:World) (a:Option Addr) (cap:Nat) (l:List Int) (hl:l.length < 9):Calls prog 16 #[.slice a l.length cap] w (TakePost w l):=by
 have hY:¬ isQ l:=fun h=>by have:=h.1;omega
 have E:Hid (∀ w',Below w.heap.size w w'->TakePost w l (.returned (.tuple #[qV zQ,.int .i64 2])) w'):=fun w' b=>⟨by rw [ah hY,ah hY],b⟩;have B0:=Hh ((aa w.heap.size w).alloc (ac _) (.cells (qA zQ) 53));have R0:=Hh (am w (.cells (qA zQ) 53));clear hY;generalize l.length=n at *;have h9:(n:Int) < 9:=by omega
 unfold qV qA zQ z4 at *;dsimp only at E B0 R0
 go_enter func16,ntmps16
 go_wp2
 (try simp only [Exit.inBlock,Exit.then])
 exact aA (results_request (p:=2) (r:=3) rfl _ _ w.heap.size _ rfl rfl R0.out rfl) rfl (E.out _ B0.out)
def Sliced (cap off P:Nat):Prop:=cap=9/\off=P\/cap≠9/\off+9=P
theorem get_take {α:Type} {l:List α} {n j:Nat} {v:α} (h:(l.take n)[j]? = some v):l[j]? = some v:=by
 rw [db] at h
 split at h
 ·exact h
 ·cases h
theorem take_long (w:World) (b off cap:Nat) (l:List Int) (hl:9<=l.length) (hc:l.length<=cap) (hb:∀ x∈l,0<=x/\x < 256) (hA:At KU w b off l):Calls prog 16 #[.slice (some ⟨b,off,none⟩) l.length cap] w (TakePost w l):=by
 have E:Hid (∀ c w',decide (good (qcp l)/\qb (qcp l)=l)=c->Below w.heap.size w w'->TakePost w l (.returned (.tuple #[qV (if c then qcp l else zQ),.int .i64 (if c then 0 else 2)])) w'):=fun c w' hc b=>by
  refine ⟨?_,b⟩;rw [← hc]
  by_cases h:isQ l
  ·rw [aj h,aj h,an ((isQ_iff l).1 h),aj rfl,aj rfl,qcp_of h.1]
  ·rw [ah h,ah h,ak fun k=>h ((isQ_iff l).2 k)]
   rfl
 have ge:=getD_byte hb;have c:=cells_at hA;have B0:=Hh ((aa w.heap.size w).alloc (ac _) (.cells (qA zQ) 53));have R0:=Hh (am w (.cells (qA zQ) 53));have HA:=Hh hA;have HB:=Hh hb;have HC:=Hh hc;have c2:=bCe B0.out (c 2 (by omega));have c3:=bCe B0.out (c 3 (by omega));have d4:=Sd.cell_by (bCe B0.out (c 4 (by omega)));have d5:=Sd.cell_by (bCe B0.out (c 5 (by omega)));have d6:=Sd.cell_by (bCe B0.out (c 6 (by omega)));have d7:=Sd.cell_by (bCe B0.out (c 7 (by omega)));have d8:=Sd.cell_by (bCe B0.out (c 8 (by omega)));have g2:=ge 2;have g3:=ge 3;have e4:IntKind.i64.wrap (l.getD 4 0)=l.getD 4 0:=aR _ (by have:=ge 4;omega);have e5:IntKind.i64.wrap (l.getD 5 0)=l.getD 5 0:=aR _ (by have:=ge 5;omega);have e6:IntKind.i64.wrap (l.getD 6 0)=l.getD 6 0:=aR _ (by have:=ge 6;omega);have e7:IntKind.i64.wrap (l.getD 7 0)=l.getD 7 0:=aR _ (by have:=ge 7;omega);have e8:IntKind.i64.wrap (l.getD 8 0)=l.getD 8 0:=aR _ (by have:=ge 8;omega);have M:Hid (l.length=9+(l.drop 9).length):=Hh (by rw [cD];omega)
 have MC:Hid (∀ k v,((l.drop 9).map (Value.int .u8))[k]? = some v->w.cell? ⟨b,off+9+k,none⟩=some v):=Hh (fun k v e=>by
  rw [a9,List.getElem?_drop] at e
  rcases hx:l[9+k]? with _ | x
  ·rw [hx] at e;cases e
  ·rw [hx] at e
   have hk:=(aM.1 hx).1;have:=c (9+k) hk;rw [af,hx] at this;rw [Nat.add_assoc,this]
   exact e)
 have gd:=getD_byte (l:=l.drop 9) fun x hx=>hb x (List.mem_of_mem_drop hx);have GV:Hid (okV ((l.drop 9).getD 0 0,(l.drop 9).getD 1 0,(l.drop 9).getD 2 0,(l.drop 9).getD 3 0)):=Hh ⟨gd 0,gd 1,gd 2,gd 3⟩;have QE:Hid (qcp l=⟨l.getD 2 0 * 256+l.getD 3 0,l.getD 4 0,l.getD 5 0,l.getD 6 0,l.getD 7 0,((l.drop 9).getD 0 0,(l.drop 9).getD 1 0,(l.drop 9).getD 2 0,(l.drop 9).getD 3 0),l.getD 8 0⟩):=Hh rfl;clear c ge gd hA hb hc;generalize l.getD 2 0=b2 at *;generalize l.getD 3 0=b3 at *;generalize l.getD 4 0=b4 at *;generalize l.getD 5 0=b5 at *;generalize l.getD 6 0=b6 at *;generalize l.getD 7 0=b7 at *;generalize l.getD 8 0=b8 at *;generalize l.drop 9=m at *;generalize hn:l.length=n at *;have HN:=Hh hn;have n4:4 < n:=by omega
 have n5:5 < n:=by omega
 have n6:6 < n:=by omega
 have n7:7 < n:=by omega
 have n8:8 < n:=by omega
 have m4:(4:Int) < n:=by omega
 have m5:(5:Int) < n:=by omega
 have m6:(6:Int) < n:=by omega
 have m7:(7:Int) < n:=by omega
 have m8:(8:Int) < n:=by omega
 have h9:¬ (n:Int) < 9:=by omega
 have h9':(9:Int)<=n:=by omega
 clear hn;unfold qA zQ z4 at B0 R0 d4 d5 d6 d7 d8 c2 c3;dsimp only at B0 R0 d4 d5 d6 d7 d8 c2 c3
 go_enter func16,ntmps16
 go_wp2_with fail;generalize w.alloc (.cells #[.int .i64 0,.int .i64 0,.int .i64 0,.int .i64 0,.int .i64 0,.int .u8 0,.int .u8 0,.int .u8 0,.int .u8 0,.int .i64 0] 53)=W at *;refine Sg.startP [(0,0),(0,2),(0,3),(0,4),(0,5),(0,6),(0,7),(0,8),(0,9),(0,10),(0,11),(0,12),(0,13),(0,14),(0,15),(0,16),(0,17),(0,18),(0,19),(0,20),(0,21),(1,1),(0,22),(2,23),(1,24)] [⟨23,4,#[.int .i64 0,.int .i64 0,.int .i64 0,.int .i64 0,.int .i64 0,.int .u8 0,.int .u8 0,.int .u8 0,.int .u8 0,.int .i64 0],53,none,none⟩] (by kernel_rfl) (by kernel_rfl) (by kernel_rfl) (by decide) (by decide) ?_ ?_ ?_
 ·simp
 ·intro f hf
  simp only [aN,bp,cG] at hf;subst hf;exact Sg.okP rfl rfl rfl fun ρ w=>by go_simp
 dsimp only [Sg.picks,List.getElem?_cons_succ,List.getElem?_cons_zero];have BW:=Hh ((aa W.heap.size W).drew)
 repeat (refine Sg.lit (fun xs=>?_);simp only [Sg.fill,aK,aD];quiet_step (fail);refine az ?_)
 refine Sg.callB (fun xs w5 hb hc=>⟨by rfl,fun K hK=>?_⟩);have B5:=bTr BW hb;have ID:=Hh (id_any w5 b off n cap b2 b3 (by omega) (bCe B5.out c2) (bCe B5.out c3) g2 g3);clear hb hc BW;simp only [Sg.fill,aK,aD];go_simp;refine ID.out.mono ?_;rintro e w6 ⟨rfl,b6'⟩;have B6:=bTr B5.out b6';refine hK _ _ (Sd.Cl.of B6.out) b6'.size (fun _=>b6') ?_;clear hK K ID B5 b6' c2 c3 g2 g3 d4 d5 d6 d7 d8
 repeat (refine Sg.lit (fun xs=>?_);simp only [Sg.fill,aK,aD];quiet_step (fail);refine az ?_)
 refine Sg.meetP (fun gF w7 hb hc row n7 hH hL=>?_);have B7:=bTr B6.out hb;have R7:=Hh (row);clear hb hc row hH hL B6;refine Sg.callB (fun xs w9 hb hc=>⟨by rfl,fun K hK=>?_⟩);have B9:=bTr B7.out hb;have R9:=Hh (bBl hb R7.out);clear hb hc B7 R7;simp only [Sg.fill,aD];refine wp_store_row 53 _ _ rfl gF #[.int .i64 (b2 * 256+b3),.int .i64 b4,.int .i64 b5,.int .i64 b6,.int .i64 b7,.int .u8 0,.int .u8 0,.int .u8 0,.int .u8 0,.int .i64 b8] rfl rfl 53 _ R9.out (by kernel_rfl) rfl (by simp [Value.oneCell']) ?_;have RA:=Hh (setRow_heap w9 gF _ #[.int .i64 (b2 * 256+b3),.int .i64 b4,.int .i64 b5,.int .i64 b6,.int .i64 b7,.int .u8 0,.int .u8 0,.int .u8 0,.int .u8 0,.int .i64 b8] _ _ R9.out);have BA:=Hh (below_setRow B9.out n7 #[.int .i64 (b2 * 256+b3),.int .i64 b4,.int .i64 b5,.int .i64 b6,.int .i64 b7,.int .u8 0,.int .u8 0,.int .u8 0,.int .u8 0,.int .i64 b8]);have hsz:(w9.setRow gF #[.int .i64 (b2 * 256+b3),.int .i64 b4,.int .i64 b5,.int .i64 b6,.int .i64 b7,.int .u8 0,.int .u8 0,.int .u8 0,.int .u8 0,.int .i64 b8]).heap.size=w9.heap.size:=by simp [World.setRow]
 refine hK _ _ (Sd.Cl.of BA.out) (by rw [hsz];exact ac _) (fun h=>absurd rfl h) ?_;clear hK K hsz;generalize w9.setRow gF #[.int .i64 (b2 * 256+b3),.int .i64 b4,.int .i64 b5,.int .i64 b6,.int .i64 b7,.int .u8 0,.int .u8 0,.int .u8 0,.int .u8 0,.int .i64 b8]=wA at *;refine Sg.done (fun wB hb hc=>?_);have BB:=bTr BA.out hb;have RB:=Hh (bBl hb RA.out);clear hb hc BA RA B9 R9;have BX:=bTr B0.out BB.out;have MX:Hid (cap=9->m = []):=Hh fun h=>bt.1 (by have:=HC.out;have:=M.out;omega);have CX:∃ P,(Sliced cap off P)/\Hid (∀ k v,(m.map (Value.int .u8))[k]? = some v->w.cell? ⟨b,P+k,none⟩=some v):=by
  by_cases h:cap=9
  ·exact ⟨off,.inl ⟨h,rfl⟩,Hh (by rw [MX.out h];intro k v e;simp at e)⟩
  ·exact ⟨off+9,.inr ⟨h,rfl⟩,MC⟩
 clear MC MX;obtain ⟨P,hcap,MC⟩:=CX
 rcases hcap with ⟨hcap,rfl⟩ | ⟨hcap,rfl⟩
 all_goals
  go_wp2_with fail;have ne:Nonempty (Sc.In (fun _:World=>True)):=⟨⟨wB,trivial⟩⟩;refine Sc.start (fun _=>True) [(false,0),(false,1),(false,2),(false,3),(true,4)] (by kernel_rfl) (by kernel_rfl) (by kernel_rfl) trivial ?_;dsimp only [Sd.picks,List.getElem?_cons_succ,List.getElem?_cons_zero]
  repeat (refine Sd.lit ?_;quiet_step (fail);refine az ?_)
  refine Sd.call (by rfl) (fun K hK=>?_);refine wp_copy _ _ _ _ rfl 5 underlying34 (by kernel_rfl) _ _ _ _ _ _ rfl rfl gF 5 _ 53 RB.out ((m.take 4).map (Value.int .u8)) ?_ ?_ ?_ ?_ W.heap.size W (BB.out.trans (aa _ _).drew) n7 ?_
  ·rw [aL,aW,M.out]
   show min 4 m.length=min (9+m.length - 9) 4
   omega
  ·refine fun _=>⟨rfl,_,rfl,fun j v e=>?_⟩
   rw [show ∀ P:Nat,(⟨b,P,none⟩:Addr).add j=⟨b,P+j,none⟩ from fun P=>by simp [Addr.add]];exact bCe BX.out.drew (MC.out j v (get_take (by rw [List.map_take] at e;exact e)))
  ·rw [aL,aW]
   show 5+min 4 m.length<=10
   omega
  ·intro v hv
   obtain ⟨x,_,rfl⟩:=bE.1 hv
   rfl
  intro wD hrow bD
  rw [splice_val] at hrow;have RD:=Hh hrow;have BD:=bTr B0.out bD;have RW:=Hh (bBl bD R0.out);refine hK _ _ (Sc.Cl.of trivial) ?_;clear hK K hrow bD MC M BB RB BX ne;refine Sd.done ?_
  replace RD:Hid (wD.heap[gF]? = some (.cells #[.int .i64 (b2 * 256+b3),.int .i64 b4,.int .i64 b5,.int .i64 b6,.int .i64 b7,.int .u8 (m.getD 0 0),.int .u8 (m.getD 1 0),.int .u8 (m.getD 2 0),.int .u8 (m.getD 3 0),.int .i64 b8] 53 (0,0))):=RD
  generalize m.getD 0 0=u0 at *;generalize m.getD 1 0=u1 at *;generalize m.getD 2 0=u2 at *;generalize m.getD 3 0=u3 at *;generalize b2 * 256+b3=I at *;rw [QE.out] at E;have k0:=rc1 RD.out 0;have k1:=rc1 RD.out 1;have k2:=rc1 RD.out 2;have k3:=rc1 RD.out 3;have k4:=rc1 RD.out 4;have k5:=rc1 RD.out 5;have k6:=rc1 RD.out 6;have k7:=rc1 RD.out 7;have k8:=rc1 RD.out 8;have k9:=rc1 RD.out 9;have GR:=Hh (put_any wD ⟨I,b4,b5,b6,b7,(u0,u1,u2,u3),b8⟩);unfold qV qA at GR;dsimp only at GR;go_wp2_with fail;refine GR.out.mono ?_;rintro e w1 ⟨u,rfl,o1,b1⟩;have B1:=bTr BD.out b1;have RW1:=Hh (bBl b1 RW.out);have RD1:=Hh (bBl b1 RD.out);have A1:=Hh (HA.out.below B1.out);clear GR RW b1 RD BD B0 R0 k0 k1 k2 k3 k4 k5 k6 k7 k8 k9
  by_cases hm:good ⟨I,b4,b5,b6,b7,(u0,u1,u2,u3),b8⟩
  ·rw [aj hm] at o1
   rw [aj hm];obtain ⟨a',cap',rfl,_,_,hh⟩:=o1.rd;obtain ⟨b',off',rfl,A'⟩:=hh (by rcases qb_len ⟨I,b4,b5,b6,b7,(u0,u1,u2,u3),b8⟩ with h | h <;> omega);have hyb:=qb_byte hm GV.out
   by_cases he:qb ⟨I,b4,b5,b6,b7,(u0,u1,u2,u3),b8⟩=l
   ·have EA:=fun cap=>equal_any w1 b off n cap l b' off' _ cap' _ HN.out rfl A1.out A' HB.out hyb true (an he.symm)
    have F:Hid (TakePost w l (.returned (.tuple #[.agg #[.int .i64 I,.int .i64 b4,.int .i64 b5,.int .i64 b6,.int .i64 b7,.int .u8 u0,.int .u8 u1,.int .u8 u2,.int .u8 u3,.int .i64 b8],.int .i64 0])) (w1.setRow w.heap.size #[.int .i64 I,.int .i64 b4,.int .i64 b5,.int .i64 b6,.int .i64 b7,.int .u8 u0,.int .u8 u1,.int .u8 u2,.int .u8 u3,.int .i64 b8])):=Hh (E.out true _ (an ⟨hm,he⟩) (below_setRow B1.out (ac _) #[.int .i64 I,.int .i64 b4,.int .i64 b5,.int .i64 b6,.int .i64 b7,.int .u8 u0,.int .u8 u1,.int .u8 u2,.int .u8 u3,.int .i64 b8]));have k0:=rc1 RD1.out 0;have k1:=rc1 RD1.out 1;have k2:=rc1 RD1.out 2;have k3:=rc1 RD1.out 3;have k4:=rc1 RD1.out 4;have k5:=rc1 RD1.out 5;have k6:=rc1 RD1.out 6;have k7:=rc1 RD1.out 7;have k8:=rc1 RD1.out 8;have k9:=rc1 RD1.out 9;clear hyb o1 A' A1 HA HB hm he B1 E GV QE;generalize (qb ⟨I,b4,b5,b6,b7,(u0,u1,u2,u3),b8⟩).length=n' at *;go_wp2_with fail;refine (EA _).mono ?_;rintro e w2 ⟨rfl,rfl⟩
    go_wp2_with ((with_reducible refine wpList_store_row (o:=⟨none,_,_,_,_,_⟩) rfl 53 _ _ rfl w.heap.size #[.int .i64 I,.int .i64 b4,.int .i64 b5,.int .i64 b6,.int .i64 b7,.int .u8 u0,.int .u8 u1,.int .u8 u2,.int .u8 u3,.int .i64 b8] rfl rfl _ _ RW1.out (by kernel_rfl) rfl (by simp [Value.oneCell']) ?_))
    exact aA (results_request (p:=2) (r:=3) rfl _ _ w.heap.size _ rfl rfl (setRow_heap w1 w.heap.size _ _ _ _ RW1.out) rfl) rfl F.out
   ·have EA:=fun cap=>equal_any w1 b off n cap l b' off' _ cap' _ HN.out rfl A1.out A' HB.out hyb false (ak fun h=>he h.symm)
    have F:Hid (TakePost w l (.returned (.tuple #[.agg #[.int .i64 0,.int .i64 0,.int .i64 0,.int .i64 0,.int .i64 0,.int .u8 0,.int .u8 0,.int .u8 0,.int .u8 0,.int .i64 0],.int .i64 2])) (w1.setRow w.heap.size #[.int .i64 0,.int .i64 0,.int .i64 0,.int .i64 0,.int .i64 0,.int .u8 0,.int .u8 0,.int .u8 0,.int .u8 0,.int .i64 0])):=Hh (E.out false _ (ak fun h=>he h.2) (below_setRow B1.out (ac _) #[.int .i64 0,.int .i64 0,.int .i64 0,.int .i64 0,.int .i64 0,.int .u8 0,.int .u8 0,.int .u8 0,.int .u8 0,.int .i64 0]));clear hyb o1 A' A1 HA HB hm he B1 E GV QE;generalize (qb ⟨I,b4,b5,b6,b7,(u0,u1,u2,u3),b8⟩).length=n' at *;go_wp2_with fail;refine (EA _).mono ?_;rintro e w2 ⟨rfl,rfl⟩
    go_wp2_with ((with_reducible refine wpList_store_row (o:=⟨none,_,_,_,_,_⟩) rfl 53 _ _ rfl w.heap.size #[.int .i64 0,.int .i64 0,.int .i64 0,.int .i64 0,.int .i64 0,.int .u8 0,.int .u8 0,.int .u8 0,.int .u8 0,.int .i64 0] rfl rfl _ _ RW1.out (by kernel_rfl) rfl (by simp [Value.oneCell']) ?_))
    exact aA (results_request (p:=2) (r:=3) rfl _ _ w.heap.size _ rfl rfl (setRow_heap w1 w.heap.size _ _ _ _ RW1.out) rfl) rfl F.out
  ·rw [ah hm]
   have F:Hid (TakePost w l (.returned (.tuple #[.agg #[.int .i64 0,.int .i64 0,.int .i64 0,.int .i64 0,.int .i64 0,.int .u8 0,.int .u8 0,.int .u8 0,.int .u8 0,.int .i64 0],.int .i64 2])) (w1.setRow w.heap.size #[.int .i64 0,.int .i64 0,.int .i64 0,.int .i64 0,.int .i64 0,.int .u8 0,.int .u8 0,.int .u8 0,.int .u8 0,.int .i64 0])):=Hh (E.out false _ (ak fun h=>hm h.1) (below_setRow B1.out (ac _) #[.int .i64 0,.int .i64 0,.int .i64 0,.int .i64 0,.int .i64 0,.int .u8 0,.int .u8 0,.int .u8 0,.int .u8 0,.int .i64 0]));clear o1 A1 HA HB hm B1 E GV QE
   go_wp2_with ((with_reducible refine wpList_store_row (o:=⟨none,_,_,_,_,_⟩) rfl 53 _ _ rfl w.heap.size #[.int .i64 0,.int .i64 0,.int .i64 0,.int .i64 0,.int .i64 0,.int .u8 0,.int .u8 0,.int .u8 0,.int .u8 0,.int .i64 0] rfl rfl _ _ RW1.out (by kernel_rfl) rfl (by simp [Value.oneCell']) ?_))
   exact aA (results_request (p:=2) (r:=3) rfl _ _ w.heap.size _ rfl rfl (setRow_heap w1 w.heap.size _ _ _ _ RW1.out) rfl) rfl F.out
theorem take_any (w:World) (v:Value) (l:List Int) (hb:∀ x∈l,0<=x/\x < 256) (R:Rd KU w v l):Calls prog 16 #[v] w (TakePost w l):=by
 obtain ⟨a,cap,rfl,h1,_,h2⟩:=R
 by_cases h:l.length < 9
 ·exact take_short w a cap l h
 ·obtain ⟨b,off,rfl,hA⟩:=h2 (by omega)
  exact take_long w b off cap l (by omega) h1.1 hb hA
end Rq
namespace Ga
open Fl (row_frozen)
open Qe (ok)
open Rq (take_any)
attribute [local irreducible] Sd.wpSd wpQuiet
def zR:Array Value:=#[.int .i64 0,.int .i64 0,.int .u8 0,.int .u8 0,.int .u8 0,.int .u8 0]
structure Rf (w:World) (a b:Array Value) (W:World):Prop where
 rep:W.heap[w.heap.size]? = some (.cells zR 44 (0,0))
 why:W.heap[w.heap.size+1]? = some (.cells a 154 (0,0))
 num:W.heap[w.heap.size+2]? = some (.cells b 25 (0,0))
 bel:Below w.heap.size w W
theorem rf_of (w:World):Rf w #[.int .i64 0,.nilIface] #[.int .i64 0] (((w.alloc (.cells zR 44)).alloc (.cells #[.int .i64 0,.nilIface] 154)).alloc (.cells #[.int .i64 0] 25)):=by
 have b1:Below w.heap.size w (w.alloc (.cells zR 44)):=(aa _ _).alloc (ac _) _;have r1:=am w (.cells zR 44);have z1:(w.alloc (.cells zR 44)).heap.size=w.heap.size+1:=by simp
 generalize w.alloc (.cells zR 44)=w1 at *;have b2:Below w1.heap.size w1 (w1.alloc (.cells #[.int .i64 0,.nilIface] 154)):=(aa _ _).alloc (ac _) _;have r2:=am w1 (.cells #[.int .i64 0,.nilIface] 154);have z2:(w1.alloc (.cells #[.int .i64 0,.nilIface] 154)).heap.size=w1.heap.size+1:=by simp
 generalize w1.alloc (.cells #[.int .i64 0,.nilIface] 154)=w2 at *;have b3:Below w2.heap.size w2 (w2.alloc (.cells #[.int .i64 0] 25)):=(aa _ _).alloc (ac _) _;have r3:=am w2 (.cells #[.int .i64 0] 25);have s1:=(b2.block _ (ay r1)).trans r1;rw [z1] at r2;rw [z2,z1] at r3;exact ⟨(b3.block _ (ay s1)).trans s1,(b3.block _ (ay r2)).trans r2,r3,(b1.trans (b2.mono (by omega))).trans (b3.mono (by omega))⟩
theorem results_rep {fn:Func} {p:Tmp} {cs:Array Value} (h:fn.results=#[.cell p 44]) (tmps:Array Value) (w:World) (g:Nat) (hp:tmps.getD p undef = .pointer (some ⟨g,0,none⟩)) (hrow:w.heap[g]? = some (.cells cs 44 (0,0))) (hs:cs.size=6):(results fn tmps).run prog w = .ok (.agg cs) w :=
 results_cell_row h tmps w g _ cs _ _ hp hrow underlying44 rfl (by rw [hs];show _=some 6;kernel_rfl)
variable {w W w':World}
theorem refused_any (hg:Glob w) (n e:Int):Calls prog 44 #[.iface 154 (rfu n e)] w fun ev w'=>ev = .returned (yV ⟨n,e,z4⟩)/\Below w.heap.size w w':=by
 have S0:=Hh (rf_of w);have G0:=Hh (hg.below S0.out.bel);have gl:=aC _ _ hg;have GL:Hid (0 < w.heap.size):=Hh gl;clear hg gl;unfold zR at *
 go_enter func44,ntmps44
 go_upto_region 3 with fail;generalize ((w.alloc (.cells #[.int .i64 0,.int .i64 0,.int .u8 0,.int .u8 0,.int .u8 0,.int .u8 0] 44)).alloc (.cells #[.int .i64 0,.nilIface] 154)).alloc (.cells #[.int .i64 0] 25)=w1 at *;generalize hz:w.heap.size=z at *;have HZ:=Hh hz;clear hz;have A1:=Hh (as_rfu n e (z+1) w1 G0.out (by have:=S0.out.why;rwa [HZ.out] at this));go_wp2_with fail;refine A1.out.mono ?_;rintro ev w2 ⟨rfl,r2,o2⟩;have N2:=Hh ((o2.block _ (ay S0.out.num) (by rw [HZ.out];omega)).trans S0.out.num);have P2:=Hh ((o2.block _ (ay S0.out.rep) (by rw [HZ.out];omega)).trans S0.out.rep);have R2:=Hh r2;have B2:=Hh (S0.out.bel.trans (o2.below (B:=w.heap.size) S0.out.bel.size (fun k e=>by rw [HZ.out];omega)));have G2:=Hh (G0.out.only (G:=fun k=>k=z+1) (by have:=GL.out;omega) o2);clear r2 o2 A1 S0 G0;have A2:=Hh (was_any n e (z+2) w2 G2.out (by have:=N2.out;rwa [HZ.out] at this));go_upto_region 4 with fail;go_wp2_with fail;refine A2.out.mono ?_;rintro ev w3 ⟨rfl,r3,o3⟩;have P3:=Hh ((o3.block _ (ay P2.out) (by rw [HZ.out];omega)).trans P2.out);have R3:=Hh ((o3.block _ (ay R2.out) (by omega)).trans R2.out);have B3:=Hh (B2.out.trans (o3.below (B:=w.heap.size) B2.out.size (fun k e=>by rw [HZ.out];omega)));have c0:w3.cell? ⟨z+1,0,none⟩=some (.int .i64 n):=row_cell R3.out 0;have c1:w3.cell? ⟨z+2,0,none⟩=some (.int .i64 e):=row_cell r3 0;rw [HZ.out] at P3;clear r3 o3 A2 P2 R2 B2 G2 N2 R3;unfold zR at P3
 go_wp2_with ((with_reducible refine wpList_store_row (o:=⟨none,_,_,_,_,_⟩) rfl 44 _ _ rfl z #[.int .i64 n,.int .i64 e,.int .u8 0,.int .u8 0,.int .u8 0,.int .u8 0] rfl rfl _ _ P3.out (by kernel_rfl) rfl (by simp [Value.oneCell']) ?_))
 exact aA (results_rep (p:=2) rfl _ _ z rfl (setRow_heap w3 z _ _ _ _ P3.out) rfl) rfl ⟨rfl,below_setRow B3.out (by rw [HZ.out];exact ac _) _⟩
theorem ganswer_any (w:World) (y:Y) (hy:may y):Calls prog 38 #[yV y] w fun e w'=>∃ u,e = .returned u/\Rd KU w' u (yb y)/\Below w.heap.size w w':=by
 have B0:=Hh ((aa w.heap.size w).alloc (ac _) (.cells (yA y) 44));have R0:=Hh (am w (.cells (yA y) 44));have A:=Hh (answer_any (w.alloc (.cells (yA y) 44)) y);obtain ⟨yi,ye,⟨v0,v1,v2,v3⟩⟩:=y;have HY:=Hh hy;clear hy;unfold yV yA at *;dsimp only at B0 R0 A ⊢
 go_enter func38,ntmps38
 go_upto_region 1 with fail;generalize w.alloc (.cells #[.int .i64 yi,.int .i64 ye,.int .u8 v0,.int .u8 v1,.int .u8 v2,.int .u8 v3] 44)=w1 at *;have q0:=Fl.rc R0.out 0;have q1:=Fl.rc R0.out 1;have q2:=Fl.rc R0.out 2;have q3:=Fl.rc R0.out 3;have q4:=Fl.rc R0.out 4;have q5:=Fl.rc R0.out 5;go_wp2_with fail;refine A.out.mono ?_;rintro e w2 ⟨v,rfl,o2,b2⟩;have FIN:=Hh (⟨v,rfl,by have:=o2.rd;rwa [aj HY.out] at this,bTr B0 b2⟩:∃ u,Ending.returned v = .returned u/\Rd KU w2 u (yb ⟨yi,ye,v0,v1,v2,v3⟩)/\Below w.heap.size w w2);have e0:(if may ⟨yi,ye,v0,v1,v2,v3⟩ then (0:Int) else 1)=0:=aj HY.out;rw [e0];clear o2 b2 q0 q1 q2 q3 q4 q5 A B0 R0 HY e0;go_wp2
 go_ret
 exact FIN.out
def adE (n:Int) (key:Int) (q:Qs) (x:Q):Int:=if n<=x.n then 1 else if (x.k=2\/x.k=3)/\x.key≠key then 15 else puE q
def adQ (n:Int) (key:Int) (q:Qs) (x:Q):Qs:=if adE n key q x=0 then ⟨q.L ++ [x],q.t⟩ else q
def AdC (W:World) (g s:Nat) (B:Nat->Prop) (key:Int) (q:Qs) (v:Value) (e:Ending) (w':World):Prop:=e = .returned v/\Gt w' g B s key q/\Only B W w'
variable {g s t:Nat} {B F:Nat->Prop} {key:Int} {q:Qs}
theorem ad_below (h:Gt W g B s key q) (b:Below W.heap.size W w') (v:Value):AdC W g s B key q v (.returned v) w':=⟨rfl,h.only (J:=fun _=>False) (fun _ _ f=>f) (Only.of_below b),Only.of_below b⟩
structure Ad0 (W:World) (g s k:Nat) (key:Int) (q:Qs) (cs:Array Value) (B:Nat->Prop) (w:World):Prop where
 box:w.heap[W.heap.size]? = some (.cells cs 53 (0,0))
 row:w.heap[g]? = some (.cells #[ptr s,.int .i64 key,ptr k] 92 (0,0))
 que:Cq w k q
 bel:Below W.heap.size W w
theorem Ad0.mono {W w w':World} {g s k:Nat} {key:Int} {q:Qs} {cs:Array Value} {B:Nat->Prop} (h:Ad0 W g s k key q cs B w) (b:Below w.heap.size w w'):Ad0 W g s k key q cs B w':=⟨bBl b h.box,bBl b h.row,h.que.below b,h.bel.trans (b.mono h.bel.size)⟩
variable {c:Cu.Cs}
theorem admit_any (hc:ClE W s F c t) (h:Gt W g B s key q) (hk:ok q) (x:Q) (hx:good x):Calls prog 74 #[ptr g,qV x] W (AdC W g s B key (adQ c.S.length key q x) (.int .i64 (adE c.S.length key q x))):=by
 have hk4:x.k=1\/x.k=2\/x.k=3\/x.k=4:=by have:=hx.2.1;omega
 obtain ⟨vn,L,p,vq,Fs,C⟩:=hc;have B0:=Hh ((aa W.heap.size W).alloc (ac _) (.cells (qA x) 53));have X0:=am W (.cells (qA x) 53);have ND:=Hh (fun W' (b:Below (W.alloc (.cells (qA x) 53)).heap.size (W.alloc (.cells (qA x) 53)) W')=>Cu.cnodes_any ((C.below B0.out).below b));generalize c.S.length=ln at *;have F1:Hid ((ln:Int)<=x.n->∀ w',Below W.heap.size W w'->AdC W g s B key (adQ ln key q x) (.int .i64 (adE ln key q x)) (.returned (.int .i64 1)) w'):=Hh fun e w' b=>by
  have e1:adE ln key q x=1:=aj e;unfold adQ;rw [e1,ah (by decide)];exact ad_below h b _
 have F2:Hid (¬ (ln:Int)<=x.n->(x.k=2\/x.k=3)->¬ x.key=key->∀ w',Below W.heap.size W w'->AdC W g s B key (adQ ln key q x) (.int .i64 (adE ln key q x)) (.returned (.int .i64 15)) w'):=Hh fun e k23 ek w' b=>by
  have e1:adE ln key q x=15:=(ah e).trans (aj ⟨k23,ek⟩);unfold adQ;rw [e1,ah (by decide)];exact ad_below h b _
 obtain ⟨k,r0,cq,bg,bk⟩:=h;have kl:=cq.lt;have gl:=ay r0;have ne:¬ g=k:=fun e=>by
  obtain ⟨cs,a,hr,_⟩:=cq;rw [← e,r0] at hr;injection hr with hr;injection hr with _ h2 _;exact absurd h2 (by decide)
 have F3:Hid (¬ (ln:Int)<=x.n->¬ ((x.k=2\/x.k=3)/\x.key≠key)->∀ w1 w',Below W.heap.size W w1->Cq w' k (puS q x)->Only (At1 k) w1 w'->AdC W g s B key (adQ ln key q x) (.int .i64 (adE ln key q x)) (.returned (.int .i64 (puE q))) w'):=Hh fun e ek w1 w' b d o=>by
  have e1:adE ln key q x=puE q:=(ah e).trans (ah ek);have e2:adQ ln key q x=puS q x:=by
   unfold adQ;rw [e1];unfold puE puS
   by_cases h8:8<=q.L.length
   ·rw [aj h8,aj h8,ah (by decide)]
   ·rw [ah h8,ah h8,aj rfl]
  rw [e1,e2];exact ⟨rfl,⟨k,(o.block g (by have:=b.size;omega) (fun e=>ne e)).trans ((b.block g gl).trans r0),d,bg,bk⟩,(Only.of_below b).trans (o.mono (G':=B) fun j _ e=>e ▸ bk) fun _ _ e=>e⟩
 have S0:Hid (Ad0 W g s k key q (qA x) B (W.alloc (.cells (qA x) 53))):=Hh ⟨X0,bBl B0.out r0,cq.below B0.out,B0.out⟩;have PU:Hid (∀ w',Ad0 W g s k key q (qA x) B w'->Calls prog 100 #[.pointer (some ⟨k,0,none⟩),qV x] w' fun e w2=>e = .returned (.int .i64 (puE q))/\Cq w2 k (puS q x)/\Only (At1 k) w' w2):=Hh fun w' a=>Qe.push_any a.que hk x;have PE:Hid (puE q=12\/puE q=0):=Hh (by unfold puE;split;exact .inl rfl;exact .inr rfl);have NX:Hid (¬ At1 k W.heap.size/\¬ At1 k g):=Hh ⟨fun e=>by unfold At1 at e;omega,fun e=>ne e⟩;generalize AdC W g s B key (adQ ln key q x) (.int .i64 (adE ln key q x))=T at *;generalize puE q=pe at *;generalize puS q x=ps at *;clear C B0 X0 r0 cq bg bk kl gl ne hx hk;obtain ⟨xi,xk,xn,xf,xr,⟨v0,v1,v2,v3⟩,xy⟩:=x;unfold qV qA ptr at *;dsimp only at ND F1 F2 F3 S0 PU hk4 ⊢
 go_enter func74,ntmps74
 go_upto_region 1 with fail;generalize W.alloc (.cells #[.int .i64 xi,.int .i64 xk,.int .i64 xn,.int .i64 xf,.int .i64 xr,.int .u8 v0,.int .u8 v1,.int .u8 v2,.int .u8 v3,.int .i64 xy] 53)=w1 at *;have x2:=Sd.cell_by (Fl.rc S0.out.box 2);have g0:=Sd.cell_by (Fl.rc S0.out.row 0);unfold ptr at g0;refine Sd.start [(false,0),(false,1),(false,2),(false,3),(false,4),(false,5),(true,6),(false,7)] (by kernel_rfl) (by kernel_rfl) (by kernel_rfl) ?_;dsimp only [Sd.picks,List.getElem?_cons_succ,List.getElem?_cons_zero]
 iterate 6 (refine Sd.lit ?_;quiet_step (fail);refine az ?_)
 refine Sd.call (by rfl) (fun K hK=>?_);have NX1:=ND.out w1.drew ((aa w1.heap.size w1).drew);go_simp;refine NX1.mono ?_;rintro e w3 ⟨rfl,b3⟩;have B3:=Hh ((aa w1.heap.size w1).drew.trans b3);refine hK _ _ (Sd.Cl.of B3) ?_;clear hK K b3 NX1 ND
 iterate 1 (refine Sd.lit ?_;quiet_step (fail);refine az ?_)
 refine Sd.done ?_;have S3:=Hh (S0.out.mono B3);clear S0 B3 x2 g0;have k1:=Fl.rc S3.out.box 1
 by_cases h1:(ln:Int)<=xn
 ·have E:=Hh (F1.out h1 w3 S3.out.bel)
  clear F1 F2 F3 hk4;go_wp2;exact E.out
 ·have F4:=Hh (F2.out h1)
  have F5:=Hh (F3.out h1);clear F1 F2 F3
  rcases hk4 with rfl | rfl | rfl | rfl
  case' inl | inr.inr.inr =>
   go_upto_region 10 with fail;have F6:Hid (∀ w1 w',Below W.heap.size W w1->Cq w' k ps->Only (At1 k) w1 w'->T (.returned (.int .i64 pe)) w'):=Hh (F5.out (by omega));have S4:=Hh S3.out;clear F4 F5 S3;generalize hw:w3=w4 at *;clear hw w3
  case' inr.inl | inr.inr.inl =>
   go_upto_region 8 with fail;have y9:=Sd.cell_by (Fl.rc S3.out.box 9);have g1:=Sd.cell_by (Fl.rc S3.out.row 1);refine Sd.start [(false,0),(false,1),(false,2),(false,3),(false,4),(false,5),(false,6)] (by kernel_rfl) (by kernel_rfl) (by kernel_rfl) ?_;dsimp only [Sd.picks,List.getElem?_cons_succ,List.getElem?_cons_zero]
   iterate 7 (refine Sd.lit ?_;quiet_step (fail);refine az ?_)
   refine Sd.done ?_;have S4:=Hh (S3.out.mono (aa w3.heap.size w3).drew);clear y9 g1 S3;generalize w3.drew=w4 at *
   rcases Classical.em (xy=key) with hy | hy
   rotate_left
   ·have E:=Hh (F4.out (by omega) hy w4 S4.out.bel)
    clear F4 F5;go_wp2;exact E.out
   have F6:Hid (∀ w1 w',Below W.heap.size W w1->Cq w' k ps->Only (At1 k) w1 w'->T (.returned (.int .i64 pe)) w'):=Hh (F5.out (fun a=>a.2 hy));clear F4 F5;go_upto_region 10 with fail;clear hy
  all_goals
   have x0:=Sc.cell_in (C:=fun W'=>Only (At1 k) w4 W') (a:=⟨W.heap.size,0,none⟩) (fun W' oo=>oo.cell (row_cell S4.out.box 0) NX.out.1);have x1:=Sc.cell_in (C:=fun W'=>Only (At1 k) w4 W') (a:=⟨W.heap.size,1,none⟩) (fun W' oo=>oo.cell (row_cell S4.out.box 1) NX.out.1);have x2:=Sc.cell_in (C:=fun W'=>Only (At1 k) w4 W') (a:=⟨W.heap.size,2,none⟩) (fun W' oo=>oo.cell (row_cell S4.out.box 2) NX.out.1);have x3:=Sc.cell_in (C:=fun W'=>Only (At1 k) w4 W') (a:=⟨W.heap.size,3,none⟩) (fun W' oo=>oo.cell (row_cell S4.out.box 3) NX.out.1);have x4:=Sc.cell_in (C:=fun W'=>Only (At1 k) w4 W') (a:=⟨W.heap.size,4,none⟩) (fun W' oo=>oo.cell (row_cell S4.out.box 4) NX.out.1);have x5:=Sc.cell_in (C:=fun W'=>Only (At1 k) w4 W') (a:=⟨W.heap.size,5,none⟩) (fun W' oo=>oo.cell (row_cell S4.out.box 5) NX.out.1);have x6:=Sc.cell_in (C:=fun W'=>Only (At1 k) w4 W') (a:=⟨W.heap.size,6,none⟩) (fun W' oo=>oo.cell (row_cell S4.out.box 6) NX.out.1);have x7:=Sc.cell_in (C:=fun W'=>Only (At1 k) w4 W') (a:=⟨W.heap.size,7,none⟩) (fun W' oo=>oo.cell (row_cell S4.out.box 7) NX.out.1);have x8:=Sc.cell_in (C:=fun W'=>Only (At1 k) w4 W') (a:=⟨W.heap.size,8,none⟩) (fun W' oo=>oo.cell (row_cell S4.out.box 8) NX.out.1);have x9:=Sc.cell_in (C:=fun W'=>Only (At1 k) w4 W') (a:=⟨W.heap.size,9,none⟩) (fun W' oo=>oo.cell (row_cell S4.out.box 9) NX.out.1);have g2:=Sc.cell_in (C:=fun W'=>Only (At1 k) w4 W') (a:=⟨g,2,none⟩) (fun W' oo=>oo.cell (row_cell S4.out.row 2) NX.out.2);unfold ptr at g2;have OD:Hid (Only (At1 k) w4 w4.drew):=Hh (Only.of_below (aa _ _).drew);have ne:Nonempty (Sc.In (fun W'=>Only (At1 k) w4 W')):=⟨⟨_,OD.out⟩⟩;have SX:=S4.out.mono (aa w4.heap.size w4).drew;have PX:=Hh (PU.out w4.drew SX);have BX:=Hh SX.bel;clear SX PU S4 NX;refine Sc.start (fun W'=>Only (At1 k) w4 W') [(false,0),(false,1),(false,2),(false,3),(false,4),(true,5),(false,6)] (by kernel_rfl) (by kernel_rfl) (by kernel_rfl) OD.out ?_;dsimp only [Sd.picks,List.getElem?_cons_succ,List.getElem?_cons_zero]
   iterate 5 (refine Sd.lit ?_;quiet_step (fail);refine az ?_)
   clear x0 x1 x2 x3 x4 x5 x6 x7 x8 x9 g2;refine Sd.call (by rfl) (fun K hK=>?_);go_simp;refine PX.out.mono ?_;rintro e w5 ⟨rfl,d5,o5⟩;have E:=Hh (F6.out _ w5 BX.out d5 o5);refine hK _ _ (Sc.Cl.of (OD.out.trans o5 fun _ _ e=>e)) ?_;clear hK K d5 o5 PX F6 BX OD
   rcases PE.out with rfl | rfl
  all_goals
   iterate 1 (refine Sd.lit ?_;quiet_step (fail);refine az ?_)
   refine Sd.done ?_;clear ne PE;go_wp2;exact E.out
theorem gt_k (h:Gt W g B s key q) (hc:ClE W s F c t) (b:Below W.heap.size W w'):Gt w' g B s key q/\ClE w' s F c t:=by
 obtain ⟨vn,L,p,vq,Fs,C⟩:=hc;exact ⟨h.only (J:=fun _=>False) (fun _ _ f=>f) (Only.of_below b),vn,L,p,vq,Fs,C.below b⟩
def errV (n e:Int):Value:=if e=0 then .nilIface else .iface 154 (rfu n e)
variable {G:Gs} {l:List Int}
theorem ad_sb (h:isQ l):adE G.c.S.length G.key G.q (qof l)=sbE G l/\adQ G.c.S.length G.key G.q (qof l)=(sbC G l).q:=by
 have e:adE G.c.S.length G.key G.q (qof l)=sbE G l:=by
  unfold adE sbE;rw [ah (fun g:¬ isQ l=>g h)]
 refine ⟨e,?_⟩;unfold adQ sbC;rw [e]
 split <;> rfl
variable {v:Value}
theorem take23_any (hc:ClE W s F G.c t) (h:Gt W g B s G.key G.q) (low:∀ k,B k->k < W.heap.size) (hk:ok G.q) (R:Rd KU W v l) (hb:∀ x∈l,0<=x/\x < 256):Calls prog 43 #[ptr g,v] W (AdC W g s B G.key (sbC G l).q (errV (sbI l) (sbE G l))):=by
 have TK:=Hh (take_any W v l hb R)
 by_cases hq:isQ l
 ·have ei:sbI l=(qof l).id:=aj hq
  have NB:Hid (∀ w',Below W.heap.size W w'->¬ B w'.heap.size):=Hh fun w' b e=>by have:=low _ e;have:=b.size;omega
  obtain ⟨ee,eq_⟩:=ad_sb (G:=G) hq;have A:=Hh (fun w' (b:Below W.heap.size W w')=>admit_any (gt_k h hc b).2 (gt_k h hc b).1 hk (qof l) hq.2.1);have FIN:Hid (∀ w1 w2,Below W.heap.size W w1->AdC w1 g s B G.key (sbC G l).q (.int .i64 (sbE G l)) (.returned (.int .i64 (sbE G l))) w2->AdC W g s B G.key (sbC G l).q (errV (sbI l) (sbE G l)) (.returned (errV (sbI l) (sbE G l))) w2):=Hh fun w1 w2 b d=>⟨rfl,d.2.1,(Only.of_below b).trans d.2.2 fun _ _ e=>e⟩;unfold TakePost at TK;rw [aj hq,aj hq] at TK;rw [ee,eq_] at A;generalize AdC W g s B G.key (sbC G l).q (errV (sbI l) (sbE G l))=T at *;rw [ei] at FIN;generalize (sbC G l).q=q1 at *;generalize sbE G l=se at *;clear ee eq_ ei hc h hk R hb;generalize qof l=x at *;obtain ⟨xi,xk,xn,xf,xr,⟨v0,v1,v2,v3⟩,xy⟩:=x;unfold qV qA at *;dsimp only at TK A FIN ⊢;unfold ptr at A ⊢
  go_enter func43,ntmps43
  go_wp2_with fail;refine TK.out.mono ?_;rintro e w1 ⟨rfl,b1⟩;have B1:=Hh b1;clear b1 TK;have B2:=Hh (B1.out.alloc B1.out.size (.cells #[.int .i64 xi,.int .i64 xk,.int .i64 xn,.int .i64 xf,.int .i64 xr,.int .u8 v0,.int .u8 v1,.int .u8 v2,.int .u8 v3,.int .i64 xy] 53));have R2:=Hh (am w1 (.cells #[.int .i64 xi,.int .i64 xk,.int .i64 xn,.int .i64 xf,.int .i64 xr,.int .u8 v0,.int .u8 v1,.int .u8 v2,.int .u8 v3,.int .i64 xy] 53));go_upto_region 2 with fail;have NB2:=Hh (NB.out w1 B1.out);have A2:=Hh (A.out _ B2.out);have F2:=Hh (fun w2 d=>FIN.out _ w2 B2.out d);generalize w1.alloc (.cells #[.int .i64 xi,.int .i64 xk,.int .i64 xn,.int .i64 xf,.int .i64 xr,.int .u8 v0,.int .u8 v1,.int .u8 v2,.int .u8 v3,.int .i64 xy] 53)=w2 at *;generalize w1.heap.size=gx at *;clear B1 B2 NB A FIN;have c0:=rc1 R2.out 0;have c1:=rc1 R2.out 1;have c2:=rc1 R2.out 2;have c3:=rc1 R2.out 3;have c4:=rc1 R2.out 4;have c5:=rc1 R2.out 5;have c6:=rc1 R2.out 6;have c7:=rc1 R2.out 7;have c8:=rc1 R2.out 8;have c9:=rc1 R2.out 9;go_wp2_with fail;refine A2.out.mono ?_
  intro e w3 d
  have D:=Hh d;obtain ⟨rfl,-,o3⟩:=d;have c10:=rc1 ((o3.block _ (ay R2.out) NB2.out).trans R2.out) 0;have E:=Hh (F2.out w3 D.out);clear c0 c1 c2 c3 c4 c5 c6 c7 c8 c9 A2 R2 D o3 NB2 F2;unfold errV rfu at *
  by_cases hs:se=0
  ·subst hs
   rw [aj rfl] at E;go_wp2;exact E.out
  ·rw [ah hs] at E
   go_wp2;exact E.out
 ·have e1:sbI l=0:=ah hq
  have e2:sbE G l=2:=aj hq;have e3:(sbC G l).q=G.q:=by unfold sbC;rw [e2,ah (by decide)]
  have FIN:Hid (∀ w',Below W.heap.size W w'->AdC W g s B G.key (sbC G l).q (errV (sbI l) (sbE G l)) (.returned (errV 0 2)) w'):=Hh fun w' b=>by
   rw [e1,e2,e3];exact ad_below h b _
  unfold TakePost at TK;rw [ah hq,ah hq] at TK;generalize AdC W g s B G.key (sbC G l).q (errV (sbI l) (sbE G l))=T at *;clear e1 e2 e3 hc h low hk R hb hq;unfold errV rfu at FIN;rw [ah (by decide)] at FIN;unfold zQ z4 qV qA at TK;unfold ptr
  go_enter func43,ntmps43
  go_wp2_with fail;refine TK.out.mono ?_;rintro e w1 ⟨rfl,b1⟩;have E:=Hh (FIN.out _ (b1.alloc b1.size (.cells #[.int .i64 0,.int .i64 0,.int .i64 0,.int .i64 0,.int .i64 0,.int .u8 0,.int .u8 0,.int .u8 0,.int .u8 0,.int .i64 0] 53)));clear b1 TK FIN;go_wp2;exact E.out
theorem gsubmit_any (hc:ClE W s F G.c t) (h:Gt W g B s G.key G.q) (low:∀ k,B k->k < W.heap.size) (hg:Glob W) (ng:¬ B 0) (hk:ok G.q) (R:Rd KU W v l) (hb:∀ x∈l,0<=x/\x < 256):Calls prog 15 #[ptr g,v] W fun e w'=>∃ u,e = .returned u/\Rd KU w' u (sbA G l)/\Gt w' g (Fx B W w') s G.key (sbC G l).q/\Only B W w':=by
 have TK:=Hh (take23_any hc h low hk R hb);have HG:=Hh hg;have NG:=Hh ng;have RF:=Hh (fun (w':World) (h:Glob w')=>refused_any h (sbI l) (sbE G l));have AN:=Hh (fun w'=>ganswer_any w' ⟨sbI l,sbE G l,z4⟩ (sb_may G l));have FIN:Hid (∀ w1 w2 u,AdC W g s B G.key (sbC G l).q (errV (sbI l) (sbE G l)) (.returned (errV (sbI l) (sbE G l))) w1->Below w1.heap.size w1 w2->Rd KU w2 u (sbA G l)->∃ u',Ending.returned u = .returned u'/\Rd KU w2 u' (sbA G l)/\Gt w2 g (Fx B W w2) s G.key (sbC G l).q/\Only B W w2):=Hh fun w1 w2 u d b r=>⟨u,rfl,r,(d.2.1.only (J:=fun _=>False) (fun _ _ f=>f) (Only.of_below b)).wide fun k e=>.inl e,d.2.2.then b⟩;have SA:sbA G l=if sbE G l=0 then [] else yb ⟨sbI l,sbE G l,z4⟩:=rfl;generalize sbA G l=sa at *;generalize sbE G l=se at *;generalize sbI l=si at *;generalize (sbC G l).q=q1 at *;clear hc h low hg ng hk R hb;unfold ptr at *
 go_enter func15,ntmps15
 go_wp2_with fail;refine TK.out.mono ?_
 intro e w1 d
 have D:=Hh d;have F1:=Hh (fun w2 u=>FIN.out w1 w2 u ⟨rfl,d.2⟩);have G1:=Hh (HG.out.only NG.out d.2.2);obtain ⟨rfl,-,-⟩:=d;clear TK FIN HG NG D;unfold errV at *
 by_cases hs:se=0
 ·subst hs
  rw [aj rfl] at SA;subst SA;rw [aj rfl];have E:=Hh (F1.out w1 (.slice none 0 0) (aa _ _) (Rw.Rd.nil w1));go_wp2
  go_ret
  exact E.out
 ·rw [ah hs] at SA ⊢
  subst SA;have RX:=Hh (RF.out w1 G1.out);clear RF;unfold rfu at *;go_wp2_with fail;refine RX.out.mono ?_;rintro e w2 ⟨rfl,b2⟩;have AX:=Hh (AN.out w2);have B2:=Hh b2;clear RX b2 AN;unfold yV yA z4 at *;go_wp2_with fail;refine AX.out.mono ?_;rintro e w3 ⟨u,rfl,r3,b3⟩;have E:=Hh (F1.out w3 u (bTr B2 b3) r3);clear AX B2 r3 b3 F1;go_wp2
  go_ret
  exact E.out
open Fl (rec4 arr4 sto4 sto4_row sto4_below sto4_other sto4_size)
open Fs (results_rec o_sto4)
open Pa (sat vat)
open Cu (SvC srE srV srC Cl)
attribute [local irreducible] Sg.wpSg
theorem operation_any (w:World) (k:Int) (hk:k=1\/k=2\/k=3):Calls prog 93 #[.int .i64 k] w fun e w'=>e = .returned (.int .i64 (k - 1))/\Below w.heap.size w w':=by
 rcases hk with rfl | rfl | rfl
 all_goals
  go_enter func93,ntmps93
  go_wp2
  go_ret
  exact ⟨rfl,aa _ _⟩
theorem results_rec1 {fn:Func} {p:Tmp} (h:fn.results=#[.cell p 36]) (tmps:Array Value) (w:World) (g:Nat) (y:R4) (hp:tmps.getD p undef = .pointer (some ⟨g,0,none⟩)) (hrow:w.heap[g]? = some (.cells (arr4 y) 36 (0,0))):(results fn tmps).run prog w = .ok (rec4 y) w :=
 results_cell_row h tmps w g _ (arr4 y) _ _ hp hrow underlying36 rfl (by show _=some 4;kernel_rfl)
def sV (c:Cs) (n:Int):R4:=(if vat c.V n=true then 1 else 0,Wt.rl c.P n % 256,(c.pl:Int) % 256,0)
theorem gstate_any {c:Cs} (hc:ClE W s F c t) (h:Gt W g B s key q) {n:Nat} (hn:n < c.S.length):Calls prog 92 #[ptr g,.int .i64 n] W fun e w'=>e = .returned (rec4 (sV c n))/\Below W.heap.size W w':=by
 obtain ⟨vn,L,p,vq,Fs,C⟩:=hc;obtain ⟨k,r0,-,-,-⟩:=h;have RG:=Hh r0;have CR:=Hh (fun w' (b:Below W.heap.size W w')=>Cu.crole_any (C.below b) (n:Int));have CP:=Hh (fun w' (b:Below W.heap.size W w')=>Cu.cplace_any (C.below b));have CL:=Hh (fun w' (b:Below W.heap.size W w')=>Cu.clive_in (C.below b) hn);have SV:sV c n=(if vat c.V n=true then 1 else 0,Wt.rl c.P n % 256,(c.pl:Int) % 256,0):=rfl;have U8:∀ x:Int,IntKind.u8.wrap x=x % 256:=fun x=>by simp [IntKind.wrap,IntKind.bits,IntKind.signed]
 generalize sV c n=sv at *;generalize Wt.rl c.P n=rl at *;generalize (c.pl:Int)=pl at *;generalize vat c.V n=lv at *;clear C r0 hn;have B1:=Hh ((aa W.heap.size W).alloc (ac _) (.cells (arr4 z4) 36));have R1:=Hh (am W (.cells (arr4 z4) 36));have G1:=Hh (bBl B1.out RG.out);unfold arr4 z4 ptr at *;dsimp only at B1 R1 ⊢
 go_enter func92,ntmps92
 go_upto_region 1 with fail;generalize W.alloc (.cells #[.int .u8 0,.int .u8 0,.int .u8 0,.int .u8 0] 36)=w1 at *;have g0:=Sd.cell_by (Fl.rc G1.out 0);refine Sg.startP [(0,0),(0,1),(0,2),(0,3),(0,4),(0,7),(0,8),(0,9),(0,10),(1,5),(0,6),(1,11),(0,12),(0,13),(2,14),(1,15)] [⟨14,5,#[.int .u8 0,.int .u8 0,.int .u8 0,.int .u8 0],36,none,none⟩] (by kernel_rfl) (by kernel_rfl) (by kernel_rfl) (by decide) (by decide) ?_ ?_ ?_
 ·simp
 ·intro f hf
  simp only [aN,bp,cG] at hf;subst hf;exact Sg.okP rfl rfl rfl fun ρ w=>by go_simp
 dsimp only [Sg.picks,List.getElem?_cons_succ,List.getElem?_cons_zero];have BW:=Hh ((aa w1.heap.size w1).drew)
 iterate 9 (refine Sg.lit (fun xs=>?_);simp only [Sg.fill,aK,aD];quiet_step (fail);refine az ?_)
 refine Sg.callB (fun xs w3 hb hc=>⟨by rfl,fun K hK=>?_⟩);have B3:=bTr BW hb;have CX:=Hh (CR.out w3 (bTr B1 B3.out));clear hb hc BW CR;simp only [Sg.fill,aK,aD];go_simp;refine CX.out.mono ?_;rintro e w4 ⟨rfl,b4⟩;have B4:=bTr B3 b4;refine hK _ _ (Sd.Cl.of B4) b4.size (fun _=>b4) ?_;clear hK K b4 B3 CX
 iterate 1 (refine Sg.lit (fun xs=>?_);simp only [Sg.fill,aK,aD];quiet_step (fail);refine az ?_)
 refine Sg.callB (fun xs w5 hb hc=>⟨by rfl,fun K hK=>?_⟩);have B5:=bTr B4 hb;have CX:=Hh (CP.out w5 (bTr B1 B5.out));clear hb hc B4 CP;simp only [Sg.fill,aK,aD];go_simp;refine CX.out.mono ?_;rintro e w6 ⟨rfl,b6⟩;have B6:=bTr B5 b6;refine hK _ _ (Sd.Cl.of B6) b6.size (fun _=>b6) ?_;clear hK K b6 B5 CX
 iterate 2 (refine Sg.lit (fun xs=>?_);simp only [Sg.fill,aK,aD];quiet_step (fail);refine az ?_)
 refine Sg.meetP (fun gF w7 hb hc row n7 hH hL=>?_);have B7:=bTr B6 hb;have R7:=Hh (row);clear hb hc row hH hL B6;refine Sg.callB (fun xs w9 hb hc=>⟨by rfl,fun K hK=>?_⟩);have B9:=bTr B7 hb;have R9:=bBl hb R7;obtain ⟨k0,k1,k2,k3,f0,f1,f2,f3⟩:=rf4 R9;have RA:=Hh (sto4_row (q:=(0,0,0,0)) R9 ((0:Int),rl % 256,pl % 256,(0:Int)));have BA:=Hh (sto4_below (g:=gF) (o:=0) (r:=((0:Int),rl % 256,pl % 256,(0:Int))) B9 n7);have hsz:=sto4_size w9 gF 0 ((0:Int),rl % 256,pl % 256,(0:Int));clear hb hc B7 R7 R9 B9;simp only [Sg.fill,aD];go_simp;refine hK _ _ (Sd.Cl.of BA.out) (by rw [← hsz];exact ac _) (fun h=>absurd rfl h) ?_;clear hK K k0 k1 k2 k3 f0 f1 f2 f3 hsz
 show Sg.wpSg _ _ _ _ _ _ _ _ _ _ _ (sto4 w9 gF 0 ((0:Int),rl % 256,pl % 256,(0:Int)))
 generalize sto4 w9 gF 0 ((0:Int),rl % 256,pl % 256,(0:Int))=wA at *;refine Sg.done (fun wB hb hc=>?_);have BX:=Hh (bTr BA hb);have RB:=Hh (bBl hb RA);have NE:Hid (gF≠W.heap.size):=Hh (by have:=ay R1.out;omega);have R0c:=Hh (bBl BX.out R1.out);have GC:=Hh (bBl BX.out G1.out);have BB:=Hh (bTr B1 BX.out);have CX:=Hh (CL.out wB BB.out);have NF:Hid (W.heap.size<=gF):=Hh (by have:=B1.out.size;omega);clear hb hc RA BA CL BX R1 G1 g0 n7 B1 w9 w7;unfold arr4 at RB;have c0:=Fl.rc GC.out 0;go_wp2_with fail;refine CX.out.mono ?_;rintro e wC ⟨rfl,bc⟩;have RD:=Hh (bBl bc RB.out);have RE:=Hh (bBl bc R0c.out);have BD:=Hh (bTr BB bc);clear bc RB R0c GC c0 CX BB
 cases lv with
 | false =>
   have S0:sv=((0:Int),rl % 256,pl % 256,(0:Int)):=SV;obtain ⟨k0,k1,k2,k3,f0,f1,f2,f3⟩:=rf4 RD.out;obtain ⟨j0,j1,j2,j3,h0,h1,h2,h3⟩:=rf4 RE.out;have RF:=Hh (sto4_row (q:=(0,0,0,0)) RE.out ((0:Int),rl % 256,pl % 256,(0:Int)));have BF:=Hh (sto4_below (g:=W.heap.size) (o:=0) (r:=((0:Int),rl % 256,pl % 256,(0:Int))) BD.out (ac _));go_wp2;exact aA (results_rec1 (p:=4) rfl _ _ W.heap.size _ rfl RF.out) rfl ⟨by rw [S0],BF.out⟩
 | true =>
   have S0:sv=((1:Int),rl % 256,pl % 256,(0:Int)):=SV;obtain ⟨k0,k1,k2,k3,f0,f1,f2,f3⟩:=rf4 RD.out;have RD1:Hid ((wC.setCell ⟨gF,0,none⟩ (.int .u8 1)).heap[gF]? = some (.cells #[.int .u8 1,.int .u8 (rl % 256),.int .u8 (pl % 256),.int .u8 0] 36 (0,0))):=Hh (Rw.heap_setCell_same (j:=0) RD.out (.int .u8 1));have RE1:=Hh ((aH wC ⟨gF,0,none⟩ (.int .u8 1) W.heap.size NE.out.symm).trans RE.out);have BD1:=Hh (BD.out.setCell (p:=⟨gF,0,none⟩) NF.out (.int .u8 1));go_upto_region 4 with fail;clear k0 k1 k2 k3 f0 f1 f2 f3 RD RE BD;generalize wC.setCell ⟨gF,0,none⟩ (.int .u8 1)=wD at *;obtain ⟨k0,k1,k2,k3,f0,f1,f2,f3⟩:=rf4 RD1.out;obtain ⟨j0,j1,j2,j3,h0,h1,h2,h3⟩:=rf4 RE1.out;have RF:=Hh (sto4_row (q:=(0,0,0,0)) RE1.out ((1:Int),rl % 256,pl % 256,(0:Int)));have BF:=Hh (sto4_below (g:=W.heap.size) (o:=0) (r:=((1:Int),rl % 256,pl % 256,(0:Int))) BD1.out (ac _));go_wp2;exact aA (results_rec1 (p:=4) rfl _ _ W.heap.size _ rfl RF.out) rfl ⟨by rw [S0],BF.out⟩
open Pa (lit1 end1)
def OuC (W:World) (s:Nat) (F:Nat->Prop) (c:Cs) (t:Nat) (y:R4) (v:Value) (e:Ending) (w':World):Prop:=e = .returned (.tuple #[rec4 y,v])/\ClE w' s (Fx F W w') c t/\Only F W w'
structure Ou0 (W:World) (g s k:Nat) (key:Int) (x:Q) (w:World):Prop where
 box:w.heap[W.heap.size]? = some (.cells (qA x) 53 (0,0))
 res:w.heap[W.heap.size+1]? = some (.cells (arr4 z4) 36 (0,0))
 row:w.heap[g]? = some (.cells #[ptr s,.int .i64 key,ptr k] 92 (0,0))
variable {k gB:Nat} {x:Q}
theorem Ou0.mono (h:Ou0 W g s k key x w) (b:Below w.heap.size w w'):Ou0 W g s k key x w':=⟨bBl b h.box,bBl b h.res,bBl b h.row⟩
theorem ou_of (x:Q) (r0:W.heap[g]? = some (.cells #[ptr s,.int .i64 key,ptr k] 92 (0,0))):Ou0 W g s k key x ((W.alloc (.cells (qA x) 53)).alloc (.cells (arr4 z4) 36))/\Below W.heap.size W ((W.alloc (.cells (qA x) 53)).alloc (.cells (arr4 z4) 36)):=by
 have b1:Below W.heap.size W (W.alloc (.cells (qA x) 53)):=(aa _ _).alloc (ac _) _;have r1:=am W (.cells (qA x) 53);have z1:(W.alloc (.cells (qA x) 53)).heap.size=W.heap.size+1:=by simp
 generalize W.alloc (.cells (qA x) 53)=w1 at *;have b2:Below w1.heap.size w1 (w1.alloc (.cells (arr4 z4) 36)):=(aa _ _).alloc (ac _) _;have r2:=am w1 (.cells (arr4 z4) 36);rw [z1] at r2;have b3:=b1.trans (b2.mono b1.size);exact ⟨⟨bBl b2 r1,r2,bBl b3 r0⟩,b3⟩
variable {c:Cs}
theorem outcome_state (hc:ClE W s F c t) (h:Gt W g B s key q) (x:Q) (hn:0<=x.n/\x.n < c.S.length) (h4:x.k=4):Calls prog 66 #[ptr g,qV x] W (OuC W s F c (t+1) (sV c x.n) .nilIface):=by
 obtain ⟨n,hnn⟩:∃ n:Nat,(n:Int)=x.n:=⟨x.n.toNat,by omega⟩;have ST:=Hh (fun w' (b:Below W.heap.size W w')=>gstate_any (gt_k h hc b).2 (gt_k h hc b).1 (n:=n) (by omega));have FIN:Hid (∀ w' e,Below W.heap.size W w'->e=Ending.returned (.tuple #[rec4 (sV c x.n),.nilIface])->OuC W s F c (t+1) (sV c x.n) .nilIface e w'):=Hh fun w' e b he=>⟨he,cle_late (cle_fx W (cle_below hc b)),Only.of_below b⟩;obtain ⟨k,r0,-,-,-⟩:=h;have S0:=Hh (ou_of x r0).1;have B0:=Hh (ou_of x r0).2;rw [hnn] at ST;clear hc r0 hn hnn;generalize sV c x.n=sv at *;generalize OuC W s F c (t+1) sv .nilIface=T at *;obtain ⟨xi,xk,xn,xf,xr,⟨v0,v1,v2,v3⟩,xy⟩:=x;obtain rfl:xk=4:=h4;obtain ⟨a0,a1,a2,a3⟩:=sv;unfold qV qA arr4 z4 ptr at *;dsimp only at ST FIN S0 B0 ⊢
 go_enter func66,ntmps66
 go_upto_region 1 with fail;generalize (W.alloc (.cells #[.int .i64 xi,.int .i64 4,.int .i64 xn,.int .i64 xf,.int .i64 xr,.int .u8 v0,.int .u8 v1,.int .u8 v2,.int .u8 v3,.int .i64 xy] 53)).alloc (.cells #[.int .u8 0,.int .u8 0,.int .u8 0,.int .u8 0] 36)=w1 at *;have c1:=Fl.rc S0.out.box 1;have c2:=Fl.rc S0.out.box 2;have SX:=Hh (ST.out w1 B0.out);go_wp2_with fail;refine SX.out.mono ?_;rintro e w2 ⟨rfl,b2⟩;have R2:=Hh (bBl b2 S0.out.res);have B2:=Hh (bTr B0 b2);have RF:=Hh (sto4_row (q:=z4) R2.out (a0,a1,a2,a3));have BF:=Hh (sto4_below (g:=W.heap.size+1) (o:=0) (r:=(a0,a1,a2,a3)) B2.out (Nat.le_succ _));have E:=Hh (FIN.out _ _ BF.out rfl);unfold arr4 z4 at R2;obtain ⟨k0,k1,k2,k3,f0,f1,f2,f3⟩:=rf4 R2.out;clear b2 c1 c2 SX ST FIN S0 B0 B2;unfold rec4 at *;go_wp2;exact aA (results_rec (p:=4) (r:=5) rfl _ _ (W.heap.size+1) (a0,a1,a2,a3) .nilIface rfl rfl RF.out) rfl E.out
structure Ou1 (W:World) (s:Nat) (x:Q) (F:Nat->Prop) (c:Cs) (t gB:Nat) (y:R4) (w:World):Prop where
 box:w.heap[W.heap.size]? = some (.cells (qA x) 53 (0,0))
 res:w.heap[W.heap.size+1]? = some (.cells (arr4 z4) 36 (0,0))
 val:w.heap[gB]? = some (.cells (arr4 y) 36 (0,0))
 cl:∃ F1:Nat->Prop,ClE w s F1 c t/\∀ k,F1 k->F k\/W.heap.size+2<=k
 only:Only F W w
variable {y:R4}
theorem Ou1.mono (h:Ou1 W s x F c t gB y w) (b:Below w.heap.size w w'):Ou1 W s x F c t gB y w':=by
 obtain ⟨F1,c1,n1⟩:=h.cl;exact ⟨bBl b h.box,bBl b h.res,bBl b h.val,⟨F1,cle_below c1 b,n1⟩,h.only.then b⟩
theorem ou_fin (low:∀ k,F k->k < W.heap.size) (h:Ou1 W s x F c t gB y w) (u:R4) (v:Value):OuC W s F c t u v (.returned (.tuple #[rec4 u,v])) (sto4 w (W.heap.size+1) 0 u)/\(sto4 w (W.heap.size+1) 0 u).heap[W.heap.size+1]? = some (.cells (arr4 u) 36 (0,0)):=by
 obtain ⟨F1,c1,n1⟩:=h.cl;have o:=o_sto4 w (W.heap.size+1) u;have hz:=h.only.size
 have c2:=cle_only c1 (fun k f e=>by
  rcases n1 k f with f | f
  ·have:=low k f;omega
  ·omega) o
 refine ⟨⟨rfl,cle_wide c2 (fun k f=>?_) (fun k f=>?_),h.only.trans (o.mono (G':=fun k=>W.heap.size<=k) fun k _ e=>by show W.heap.size<=k;omega) fun k hk e=>absurd hk (by omega)⟩,sto4_row (q:=z4) h.res u⟩
 ·have:=cle_low c2 k f
  rcases n1 k f with f | f
  ·exact .inl f
  ·exact .inr ⟨by omega,this⟩
 ·rcases f with f | f
  ·have:=low k f;rw [sto4_size];omega
  ·exact f.2
theorem outcome_do (hc:ClE W s F c t) (h:Gt W g B s key q) (dis:∀ k,F k->¬ B k) (ok:OkC c t) (ht:t<=1000) (hg:Glob W) (hG:¬ F 0) (x:Q) (hx:good x) (hv:okV x.v) (h4:x.k≠4):Calls prog 66 #[ptr g,qV x] W (OuC W s F (srC c x.n (x.k - 1) x.f x.r x.v) (t+1) (srV c x.n (x.k - 1) x.f x.r x.v) (errV x.id (srE c x.n (x.k - 1) x.f x.r))):=by
 have hk3:x.k=1\/x.k=2\/x.k=3:=by have:=hx.2.1;omega
 have LOW:=Hh (cle_low hc);obtain ⟨k,r0,-,bg,-⟩:=h;have NG:Hid (¬ F g):=Hh fun f=>dis g f bg;have GL:=ay r0;have GN:Hid (g < W.heap.size):=Hh GL;have S0:=Hh (ou_of x r0).1;have B0:=Hh (ou_of x r0).2;have HC:=Hh hc;have ov:okR x.v:=okV_to hv
 have SV:=Hh (fun (w':World) (o:Only F W w') (cl:ClE w' s F c t)=>by
  obtain ⟨vn,L,p,vq,Fs,C⟩:=cl
  exact Cu.cserve_any C ok ht (hg.only hG o) hG x.n (x.k - 1) x.f x.r x.v ov)
 have VB:srE c x.n (x.k - 1) x.f x.r≠0->srV c x.n (x.k - 1) x.f x.r x.v=z4:=srV_bare;generalize srC c x.n (x.k - 1) x.f x.r x.v=c2 at *;generalize srV c x.n (x.k - 1) x.f x.r x.v=y at *;generalize srE c x.n (x.k - 1) x.f x.r=ee at *;have FN:=Hh (fun w gB (h:Ou1 W s x F c2 (t+1) gB y w) (u:R4) (v:Value)=>ou_fin LOW.out h u v);have OP:=Hh (fun w'=>operation_any w' x.k hk3);have K4:(x.k == 4)=false:=by simpa using h4
 clear hc r0 dis hG hx hv h4 ok ov hk3 hg bg GL;obtain ⟨xi,xk,xn,xf,xr,⟨v0,v1,v2,v3⟩,xy⟩:=x;unfold qV qA arr4 z4 ptr at *;dsimp only at SV FN S0 B0 OP K4 ⊢
 go_enter func66,ntmps66
 go_upto_region 1 with fail;generalize hw1:(W.alloc (.cells #[.int .i64 xi,.int .i64 xk,.int .i64 xn,.int .i64 xf,.int .i64 xr,.int .u8 v0,.int .u8 v1,.int .u8 v2,.int .u8 v3,.int .i64 xy] 53)).alloc (.cells #[.int .u8 0,.int .u8 0,.int .u8 0,.int .u8 0] 36)=w1 at *;have Z1:Hid (w1.heap.size=W.heap.size+2):=Hh (by rw [← hw1];simp);clear hw1;have c1:=Fl.rc S0.out.box 1;go_upto_region 3 with fail;have b1:=Sd.cell_by (Fl.rc S0.out.box 1);have b3:=Sd.cell_by (Fl.rc S0.out.box 3);have b4:=Sd.cell_by (Fl.rc S0.out.box 4);clear c1;refine Sg.startP [(0,0),(0,1),(0,3),(0,4),(0,5),(0,6),(1,2),(0,7),(2,8),(1,9)] [⟨8,6,#[.int .i64 0,.int .i64 0,.int .i64 0],66,none,none⟩] (by kernel_rfl) (by kernel_rfl) (by kernel_rfl) (by decide) (by decide) ?_ ?_ ?_
 ·simp
 ·intro f hf
  simp only [aN,bp,cG] at hf;subst hf;exact Sg.okP rfl rfl rfl fun ρ w=>by go_simp
 dsimp only [Sg.picks,List.getElem?_cons_succ,List.getElem?_cons_zero];have BW:=Hh ((aa w1.heap.size w1).drew)
 iterate 6 (refine Sg.lit (fun xs=>?_);simp only [Sg.fill,aK,aD];quiet_step (fail);refine az ?_)
 clear b1 b3 b4;refine Sg.callB (fun xs w3 hb hc=>⟨by rfl,fun K hK=>?_⟩);have B3:=bTr BW hb;have CX:=Hh (OP.out w3);clear hb hc BW OP;simp only [Sg.fill,aK,aD];go_simp;refine CX.out.mono ?_;rintro e w4 ⟨rfl,b4⟩;have B4:=bTr B3 b4;refine hK _ _ (Sd.Cl.of B4) b4.size (fun _=>b4) ?_;clear hK K b4 B3 CX
 iterate 1 (refine Sg.lit (fun xs=>?_);simp only [Sg.fill,aK,aD];quiet_step (fail);refine az ?_)
 refine Sg.meetP (fun gA w7 hb hc row n7 hH hL=>?_);have B7:=bTr B4 hb;have R7:=Hh (row);have N7:=Hh n7;clear hb hc row hH hL B4 n7;refine Sg.callB (fun xs w9 hb hc=>⟨by rfl,fun K hK=>?_⟩);have B9:=bTr B7 hb;have R9:=bBl hb R7;obtain ⟨k0,k1,k2⟩:=rc3 R9;have f0:=row_frozen R9 0;have f1:=row_frozen R9 1;have f2:=row_frozen R9 2;clear hb hc B7 R7;simp only [Sg.fill,aD];go_simp;have RA:Hid ((((w9.setCell ⟨gA,0,none⟩ (.int .i64 (xk - 1))).setCell ⟨gA,1,none⟩ (.int .i64 xf)).setCell ⟨gA,2,none⟩ (.int .i64 xr)).heap[gA]? = some (.cells #[.int .i64 (xk - 1),.int .i64 xf,.int .i64 xr] 66 (0,0))):=Hh (Rw.heap_setCell_same (j:=2) (Rw.heap_setCell_same (j:=1) (Rw.heap_setCell_same (j:=0) R9 _) _) _);have BA:Hid (Below w1.heap.size w1 (((w9.setCell ⟨gA,0,none⟩ (.int .i64 (xk - 1))).setCell ⟨gA,1,none⟩ (.int .i64 xf)).setCell ⟨gA,2,none⟩ (.int .i64 xr))):=Hh (((B9.out.setCell (p:=⟨gA,0,none⟩) N7.out _).setCell (p:=⟨gA,1,none⟩) N7.out _).setCell (p:=⟨gA,2,none⟩) N7.out _);have hsz:(((w9.setCell ⟨gA,0,none⟩ (.int .i64 (xk - 1))).setCell ⟨gA,1,none⟩ (.int .i64 xf)).setCell ⟨gA,2,none⟩ (.int .i64 xr)).heap.size=w9.heap.size:=by simp
 refine hK _ _ (Sd.Cl.of BA.out) (by rw [hsz];exact ac _) (fun h=>absurd rfl h) ?_;clear hK K k0 k1 k2 f0 f1 f2 hsz R9 B9;generalize ((w9.setCell ⟨gA,0,none⟩ (.int .i64 (xk - 1))).setCell ⟨gA,1,none⟩ (.int .i64 xf)).setCell ⟨gA,2,none⟩ (.int .i64 xr)=wA at *;refine Sg.done (fun wB hb hc=>?_);have R5:=Hh (bBl hb RA);have B5:=Hh (bTr BA hb);clear hb hc RA BA;have S5:=Hh (S0.out.mono B5.out);have A5:=Hh (bTr B0 B5.out);have C5:=Hh (cle_below HC.out A5.out);have NA:Hid (W.heap.size+2<=gA):=Hh (by have:=N7.out;have:=Z1.out;omega);have Z5:Hid (W.heap.size+2<=wB.heap.size):=Hh (by have:=B5.out.size;have:=Z1.out;omega);have NF:Hid (¬ F W.heap.size/\¬ F gA/\¬ F (W.heap.size+1)):=Hh ⟨fun f=>by have:=LOW.out _ f;omega,fun f=>by have:=LOW.out _ f;have:=NA.out;omega,fun f=>by have:=LOW.out _ f;omega⟩;clear S0 B0 N7 Z1 B5 HC w3 w7 w9;go_upto_region 4 with fail;have x0:=Sc.cell_in (C:=fun W'=>Only F wB W') (a:=⟨g,0,none⟩) (fun W' oo=>oo.cell (row_cell S5.out.row 0) NG.out);have x2:=Sc.cell_in (C:=fun W'=>Only F wB W') (a:=⟨W.heap.size,2,none⟩) (fun W' oo=>oo.cell (row_cell S5.out.box 2) NF.out.1);have x5:=Sc.cell_in (C:=fun W'=>Only F wB W') (a:=⟨W.heap.size,5,none⟩) (fun W' oo=>oo.cell (row_cell S5.out.box 5) NF.out.1);have x6:=Sc.cell_in (C:=fun W'=>Only F wB W') (a:=⟨W.heap.size,6,none⟩) (fun W' oo=>oo.cell (row_cell S5.out.box 6) NF.out.1);have x7:=Sc.cell_in (C:=fun W'=>Only F wB W') (a:=⟨W.heap.size,7,none⟩) (fun W' oo=>oo.cell (row_cell S5.out.box 7) NF.out.1);have x8:=Sc.cell_in (C:=fun W'=>Only F wB W') (a:=⟨W.heap.size,8,none⟩) (fun W' oo=>oo.cell (row_cell S5.out.box 8) NF.out.1);have y0:=Sc.cell_in (C:=fun W'=>Only F wB W') (a:=⟨gA,0,none⟩) (fun W' oo=>oo.cell (row_cell R5.out 0) NF.out.2.1);have y1:=Sc.cell_in (C:=fun W'=>Only F wB W') (a:=⟨gA,1,none⟩) (fun W' oo=>oo.cell (row_cell R5.out 1) NF.out.2.1);have y2:=Sc.cell_in (C:=fun W'=>Only F wB W') (a:=⟨gA,2,none⟩) (fun W' oo=>oo.cell (row_cell R5.out 2) NF.out.2.1);unfold ptr at x0;have ne:Nonempty (Sc.In (fun W'=>Only F wB W')):=⟨⟨_,Only.refl _ _⟩⟩;refine Sg.start (fun W'=>Only F wB W') [0,1,2,3,4,5,6,7,8] [(1,9),(0,10),(0,11),(0,12),(2,13),(1,14),(0,15)] [⟨13,7,#[.int .u8 0,.int .u8 0,.int .u8 0,.int .u8 0],36,none,none⟩]
  (by kernel_rfl) (by kernel_rfl) (by kernel_rfl) (by kernel_rfl) (by rfl) (by show ([7]:List Nat).Nodup;decide)
  (by intro f hf f' hf';simp only [aN,bp,cG] at hf hf';subst hf;subst hf';simp)
  (by intro f hf f' hf';simp only [aN,bp,cG] at hf hf';subst hf;subst hf';simp)
  (by
    intro f hf
    simp only [aN,bp,cG] at hf;subst hf
    exact Sg.okP rfl rfl rfl fun ρ w=>by go_simp)
  (Only.of_below ((aa _ _).drew)) (fun W' h=>h.size) (fun W' o h=>h.then ((aa _ _).alloc (ac _) o)) ?_
 dsimp only [Sg.picksL,List.getElem?_cons_succ,List.getElem?_cons_zero]
 iterate 9 (refine lit1 ?_;quiet_step (fail);refine az ?_)
 refine end1 ⟨fun f hf=>by simp only [aN,bp,cG] at hf;subst hf;(intro s v e;cases e),?_⟩;dsimp only [Sg.picks,List.getElem?_cons_succ,List.getElem?_cons_zero];clear x0 x2 x5 x6 x7 x8 y0 y1 y2;refine Sg.call (fun xs w2 hb hc=>⟨by rfl,fun K hK=>?_⟩);have b2:Below wB.heap.size wB w2:=((aa wB.heap.size wB).drew).trans hb;have o2:Only F W w2:=(Only.of_below A5.out).then b2;have CX:=Hh (SV.out w2 o2 (cle_below C5.out b2));clear hb hc SV;simp only [Sg.fill,aK,aD];unfold rec4 Ad.addr at CX;go_simp;refine CX.out.mono ?_;rintro e w3 ⟨rfl,c3,o3⟩;refine hK _ _ (Sc.Cl.of ((Only.of_below b2).trans o3 fun _ _ f=>f)) o3.size (fun j h1 h2=>o3.block j h2 fun f=>by have:=LOW.out j f;have:=Z5.out;omega) ?_;clear hK K CX;have O3:=Hh (o2.trans o3 fun _ _ f=>f)
 have C3:Hid (∃ F1:Nat->Prop,ClE w3 s F1 c2 (t+1)/\(∀ k,F1 k->F k\/W.heap.size+2<=k)/\∀ k,F1 k->F k\/(w2.heap.size<=k/\k < w3.heap.size)):=Hh ⟨_,c3,fun k f=>by
  have:=Z5.out;have:=b2.size
  rcases f with f | f
  ·exact .inl f
  ·exact .inr (by omega),fun k f=>f⟩
 have S3:Hid (w3.heap[W.heap.size]? = some (.cells #[.int .i64 xi,.int .i64 xk,.int .i64 xn,.int .i64 xf,.int .i64 xr,.int .u8 v0,.int .u8 v1,.int .u8 v2,.int .u8 v3,.int .i64 xy] 53 (0,0))/\w3.heap[W.heap.size+1]? = some (.cells #[.int .u8 0,.int .u8 0,.int .u8 0,.int .u8 0] 36 (0,0))):=Hh ⟨(o3.block _ (ay (bBl b2 S5.out.box)) NF.out.1).trans (bBl b2 S5.out.box),(o3.block _ (ay (bBl b2 S5.out.res)) NF.out.2.2).trans (bBl b2 S5.out.res)⟩;clear b2 o2 c3 o3 S5 C5 A5;obtain ⟨a0,a1,a2,a3⟩:=y;unfold rec4
 iterate 3 (refine Sg.lit (fun xs=>?_);simp only [Sg.fill,aK,aD];quiet_step (fail);refine az ?_)
 refine Sg.meetP (fun gB wm hb hc row n7 hH hL=>?_);have NB:Hid (gB < w2.heap.size\/w3.heap.size<=gB):=Hh (hH _ (aO ..));have NB2:Hid (W.heap.size+2<=gB):=Hh (by have:=Z5.out;omega);have R6:Hid (wm.heap[gB]? = some (.cells #[.int .u8 0,.int .u8 0,.int .u8 0,.int .u8 0] 36 (0,0))):=Hh row;have B6:=Hh hb;have N6:=Hh n7;clear hb hc row n7 hH hL;go_simp;refine Sg.call0 (fun xs w7 hb hc=>⟨by rfl,fun K hK=>?_⟩);have R7:=Hh (bBl hb R6);have B7:=Hh (bTr B6 hb);obtain ⟨k0,k1,k2,k3,f0,f1,f2,f3⟩:=rf4 R7.out;have OC:Hid (Only F wB w7):=Hh (by obtain ⟨p,rfl⟩:=hc;exact p.ok);clear hb hc R6 B6;simp only [Sg.fill,aD];go_simp;have RV:=Hh (sto4_row (q:=(0,0,0,0)) R7.out (a0,a1,a2,a3));have oB:=o_sto4 w7 gB (a0,a1,a2,a3)
 have OB:Hid (Only F wB (sto4 w7 gB 0 (a0,a1,a2,a3))/\Ou1 W s ⟨xi,xk,xn,xf,xr,(v0,v1,v2,v3),xy⟩ F c2 (t+1) gB (a0,a1,a2,a3) (sto4 w7 gB 0 (a0,a1,a2,a3))):=Hh (by
  have z1:=Z5.out;have z2:=NB2.out;have z3:=O3.out.size;obtain ⟨F1,d1,d2,d3⟩:=C3.out
  have d4:=cle_only (cle_below d1 B7.out) (J:=fun k=>k=gB) (fun k f e=>by
   rcases d3 k f with f | f
   ·have:=LOW.out k f;omega
   ·have:=NB.out;omega) oB
  have o8:=O3.out.then B7.out;have n8:=N6.out
  refine ⟨OC.out.trans oB fun k hk e=>absurd hk (by omega),sto4_other (bBl B7 S3.out.1) (by omega),sto4_other (bBl B7 S3.out.2) (by omega),RV.out,⟨F1,d4,d2⟩,o8.trans oB fun k hk e=>absurd hk (by omega)⟩)
 refine hK _ _ (Sc.Cl.of OB.out.1) (Nat.le_of_eq (sto4_size w7 gB 0 (a0,a1,a2,a3)).symm) ?_;clear hK K k0 k1 k2 k3 f0 f1 f2 f3 R7 B7 OC RV oB NB N6 S3 C3 O3
 show Sg.wpSg _ _ _ _ _ _ _ _ _ _ _ (sto4 w7 gB 0 (a0,a1,a2,a3))
 have O8:=Hh OB.out.2;have ne8:Nonempty (Sc.In (fun W'=>Only F wB W')):=ne;clear OB;generalize sto4 w7 gB 0 (a0,a1,a2,a3)=w8 at *
 iterate 1 (refine Sg.lit (fun xs=>?_);simp only [Sg.fill,aD];quiet_step (fail);refine az ?_)
 refine Sg.done (fun w9 hb hc=>?_);have O9:=Hh (O8.out.mono hb);clear hb hc O8 ne ne8 w7 w8 wm w2 w3;have RB:=O9.out.box;have RR:=O9.out.res;have RV:=O9.out.val;unfold qA arr4 z4 at *;dsimp only at RB RR RV
 by_cases he:ee=0
 ·subst he
  have F9:=FN.out _ _ O9.out (a0,a1,a2,a3) .nilIface;have E:=Hh F9.1;have RF:=Hh F9.2;obtain ⟨k0,k1,k2,k3,f0,f1,f2,f3⟩:=rf4 RV;obtain ⟨j0,j1,j2,j3,h0,h1,h2,h3⟩:=rf4 RR;clear F9 FN O9 RB RR RV VB;go_wp2;exact aA (results_rec (p:=4) (r:=5) rfl _ _ (W.heap.size+1) (a0,a1,a2,a3) .nilIface rfl rfl RF.out) rfl E.out
 ·obtain ⟨rfl,rfl,rfl,rfl⟩:a0=0/\a1=0/\a2=0/\a3=0:=by
   have:=VB he
   simpa using this
  have F9:=FN.out _ _ (O9.out.mono (aa w9.heap.size w9).drew) (0,0,0,0) (errV xi ee);have E:=Hh F9.1;have RF:=Hh F9.2;have RX:=Hh (bBl (aa w9.heap.size w9).drew RR);go_upto_region 6 with fail;have x0:=Sc.cell_in (C:=fun W'=>Only (fun j=>j=W.heap.size+1) w9 W') (a:=⟨W.heap.size,0,none⟩) (fun W' oo=>oo.cell (row_cell RB 0) (fun e=>by simp at e));have OD:Hid (Only (fun j=>j=W.heap.size+1) w9 w9.drew):=Hh (Only.of_below (aa _ _).drew);have ne9:Nonempty (Sc.In (fun W'=>Only (fun j=>j=W.heap.size+1) w9 W')):=⟨⟨_,OD.out⟩⟩;clear RB RR RV F9 FN O9 VB;refine Sc.start (fun W'=>Only (fun j=>j=W.heap.size+1) w9 W') [(false,0),(false,1),(false,2),(false,3),(false,4),(false,5),(false,6),(true,7),(false,8)] (by kernel_rfl) (by kernel_rfl) (by kernel_rfl) OD.out ?_;dsimp only [Sd.picks,List.getElem?_cons_succ,List.getElem?_cons_zero]
  iterate 7 (refine Sd.lit ?_;quiet_step (fail);refine az ?_)
  refine Sd.call (by rfl) (fun K hK=>?_);generalize w9.drew=wE at *;obtain ⟨j0,j1,j2,j3,h0,h1,h2,h3⟩:=rf4 RX.out;go_simp;refine hK _ _ (Sc.Cl.of (OD.out.trans (o_sto4 wE (W.heap.size+1) (0,0,0,0)) fun _ _ e=>e)) ?_;clear hK K j0 j1 j2 j3 h0 h1 h2 h3 x0 OD RX
  iterate 1 (refine Sd.lit ?_;quiet_step (fail);refine az ?_)
  refine Sd.done ?_;have ER:errV xi ee = .iface 154 (.agg #[.int .i64 xi,.iface 25 (.int .i64 ee)]):=ah he;rw [ER] at E ⊢;go_wp2;exact aA (results_rec (p:=4) (r:=5) rfl _ _ (W.heap.size+1) (0,0,0,0) _ rfl rfl RF.out) rfl E.out
def nxB (G:Gs):Bool:=decide (0 < G.q.L.length) && (! decide (stE G (fst G.q)=13) || faB G.q)
def nxY (G:Gs):Y:=if nxB G=true then ⟨(fst G.q).id,stE G (fst G.q),if stE G (fst G.q)=0 then stR G (fst G.q) else z4⟩ else zY
def nxK (G:Gs):Cs:=if 0 < G.q.L.length then stK G (fst G.q) else G.c
theorem stR_bare (h:stE G x≠0):stR G x=z4:=by
 unfold stE at h;unfold stR
 split at h
 ·exact absurd rfl h
 ·rename_i h4
  rw [ah h4];exact srV_bare h
theorem stA_nx (G:Gs):stA G=if nxB G=true then yb (nxY G) else []:=by
 unfold stA
 by_cases h0:0 < G.q.L.length
 ·rw [aj h0]
  by_cases e:stE G (fst G.q)=13
  ·rw [aj e]
   have eb:nxB G=faB G.q:=by unfold nxB;rw [an h0,an e];simp
   unfold nxY;rw [eb]
   by_cases f:faB G.q=true
   ·rw [aj f,aj f,aj f,e,ah (by decide)]
   ·rw [ah f,ah f]
  ·rw [ah e]
   have eb:nxB G=true:=by unfold nxB;rw [an h0,ak e];simp
   unfold nxY;rw [eb,aj rfl,aj rfl]
   by_cases f:stE G (fst G.q)=0
   ·rw [aj f]
   ·rw [ah f,stR_bare f]
 ·rw [ah h0]
  have eb:nxB G=false:=by unfold nxB;rw [ak h0];simp
  rw [eb,ah (by decide)]
theorem nx_none (h0:¬ 0 < G.q.L.length):nxB G=false/\nxY G=zY/\nxK G=G.c/\stQ G=G.q:=by
 have eb:nxB G=false:=by unfold nxB;rw [ak h0];simp
 exact ⟨eb,by unfold nxY;rw [eb];rfl,ah h0,ah h0⟩
theorem nx_done (h0:0 < G.q.L.length) (e:stE G (fst G.q)≠13):nxB G=true/\nxY G=⟨(fst G.q).id,stE G (fst G.q),if stE G (fst G.q)=0 then stR G (fst G.q) else z4⟩/\nxK G=stK G (fst G.q)/\stQ G=poS G.q:=by
 have eb:nxB G=true:=by unfold nxB;rw [an h0,ak e];simp
 exact ⟨eb,by unfold nxY;rw [aj eb],aj h0,by unfold stQ;rw [aj h0,ah e]⟩
theorem nx_time (h0:0 < G.q.L.length) (e:stE G (fst G.q)=13):nxB G=faB G.q/\nxY G=(if faB G.q=true then ⟨(fst G.q).id,13,z4⟩ else zY)/\nxK G=stK G (fst G.q)/\stQ G=faS G.q:=by
 have eb:nxB G=faB G.q:=by unfold nxB;rw [an h0,an e];simp
 exact ⟨eb,by unfold nxY;rw [eb,e,ah (show ¬ (13:Int)=0 by decide)],aj h0,by unfold stQ;rw [aj h0,aj e]⟩
theorem nx_may (h:OkG G t) (hb:nxB G=true):may (nxY G):=by
 have h0:0 < G.q.L.length:=by
  unfold nxB at hb;rw [aG] at hb;exact of_decide_eq_true hb.1
 have m:=may_st (s:=G) (fst G.q) (h.fst h0).1;have e:nxY G=⟨(fst G.q).id,stE G (fst G.q),stR G (fst G.q)⟩:=by
  unfold nxY;rw [aj hb]
  by_cases f:stE G (fst G.q)=0
  ·rw [aj f]
  ·rw [ah f,stR_bare f]
 rw [e];exact m
structure Nx (W:World) (g s:Nat) (F B:Nat->Prop) (key:Int) (c:Cs) (q:Qs) (t:Nat) (w:World):Prop where
 cl:∃ F1:Nat->Prop,ClE w s F1 c t/\∀ k,F1 k->F k\/W.heap.size < k
 gt:Gt w g B s key q
 res:w.heap[W.heap.size]? = some (.cells zR 44 (0,0))
 only:Only (fun k=>F k\/B k) W w
section
variable {W w w':World} {g s t:Nat} {F B:Nat->Prop} {key:Int} {c:Cs} {q:Qs}
theorem Nx.mono (h:Nx W g s F B key c q t w) (b:Below w.heap.size w w'):Nx W g s F B key c q t w':=by
 obtain ⟨F1,c1,n1⟩:=h.cl;exact ⟨⟨F1,cle_below c1 b,n1⟩,h.gt.only (J:=fun _=>False) (fun _ _ f=>f) (Only.of_below b),bBl b h.res,h.only.then b⟩
theorem Nx.late (h:Nx W g s F B key c q t w):Nx W g s F B key c q (t+1) w:=by
 obtain ⟨F1,c1,n1⟩:=h.cl;exact ⟨⟨F1,cle_late c1,n1⟩,h.gt,h.res,h.only⟩
theorem Nx.que (lowB:∀ k,B k->k < W.heap.size) (dis:∀ k,F k->¬ B k) (h:Nx W g s F B key c q t w):∃ k,w.cell? ⟨g,2,none⟩=some (.pointer (some ⟨k,0,none⟩))/\Cq w k q/\(k < W.heap.size/\B k)/\∀ w' q',Cq w' k q'->Only (At1 k) w w'->Nx W g s F B key c q' t w':=by
 obtain ⟨F1,c1,n1⟩:=h.cl;obtain ⟨k,r0,cq,bg,bk⟩:=h.gt;refine ⟨k,row_cell r0 2,cq,⟨lowB k bk,bk⟩,fun w' q' d o=>?_⟩;have ne:g≠k:=fun e=>by
  obtain ⟨cs,a,hr,_⟩:=cq;rw [← e,r0] at hr;injection hr with hr;injection hr with _ h2 _;exact absurd h2 (by decide)
 exact ⟨⟨F1,cle_only c1 (fun j f e=>by
  obtain rfl:j=k:=e
  rcases n1 j f with f | f
  ·exact dis j f bk
  ·have:=lowB j bk;omega) o,n1⟩,⟨k,(o.block g (ay r0) (fun e=>ne e)).trans r0,d,bg,bk⟩,(o.block _ (ay h.res) (fun e=>by have:=lowB k bk;unfold At1 at e;omega)).trans h.res,h.only.trans (o.mono (G':=fun k=>F k\/B k) fun j _ e=>by obtain rfl:j=k:=e;exact .inr bk) fun _ _ e=>e⟩
theorem Nx.fin {H:Nat->Prop} (lowB:∀ k,B k->k < W.heap.size) (dis:∀ k,F k->¬ B k) (hH:∀ k,F k\/B k->H k) (lowH:∀ k,H k->k < W.heap.size) (h:Nx W g s F B key c q t w) (cs:Array Value):GE (w.setRow W.heap.size cs) g s (Fx H W (w.setRow W.heap.size cs)) ⟨c,key,q⟩ t/\Only H W (w.setRow W.heap.size cs):=by
 obtain ⟨F1,c1,n1⟩:=h.cl;have o:=Qe.only_row (w:=w) (g:=W.heap.size) cs;have hz:=h.only.size;have hl:W.heap.size < w.heap.size:=ay h.res;have hs:(w.setRow W.heap.size cs).heap.size=w.heap.size:=by simp [World.setRow]
 have c2:=cle_only c1 (fun k f e=>by
  obtain rfl:k=W.heap.size:=e
  rcases n1 _ f with f | f
  ·have:=lowH _ (hH _ (.inl f));omega
  ·omega) o
 refine ⟨⟨F1,B,c2,h.gt.only (fun k b e=>by obtain rfl:k=W.heap.size:=e;have:=lowB _ b;omega) o,fun k f b=>?_,fun k f=>?_,fun k f=>?_⟩,(h.only.mono fun k _ f=>hH k f).trans (o.mono (G':=fun k=>W.heap.size<=k) fun k _ e=>by show W.heap.size<=k;have:k=W.heap.size:=e;omega) fun k hk e=>absurd hk (by omega)⟩
 ·rcases n1 k f with f | f
  ·exact dis k f b
  ·have:=lowB k b;omega
 ·rcases f with f | f
  ·have:=cle_low c2 k f
   rcases n1 k f with f | f
   ·exact .inl (hH k (.inl f))
   ·exact .inr ⟨by omega,this⟩
  ·exact .inl (hH k (.inr f))
 ·rcases f with f | f
  ·have:=lowH k f;omega
  ·exact f.2
end
theorem outcome_any (hc:ClE W s F G.c t) (h:Gt W g B s G.key G.q) (dis:∀ k,F k->¬ B k) (ok:OkC G.c t) (ht:t<=1000) (hg:Glob W) (hG:¬ F 0) (x:Q) (hx:good x) (hv:okV x.v) (hn:x.n < G.c.S.length):Calls prog 66 #[ptr g,qV x] W (OuC W s F (stK G x) (t+1) (stR G x) (errV x.id (stE G x))):=by
 unfold stK stR stE
 by_cases h4:x.k=4
 ·rw [aj h4,aj h4,aj h4]
  exact outcome_state hc h x ⟨hx.2.2.1.1,hn⟩ h4
 ·rw [ah h4,ah h4,ah h4]
  exact outcome_do hc h dis ok ht hg hG x hx hv h4
def NxC (W:World) (g s:Nat) (H:Nat->Prop) (G:Gs) (t:Nat) (e:Ending) (w':World):Prop:=e = .returned (.tuple #[yV (nxY G),.bool (nxB G)])/\GE w' g s (Fx H W w') ⟨nxK G,G.key,stQ G⟩ (t+1)/\Only H W w'
variable {H:Nat->Prop}
theorem next_none (h:GE W g s H G t) (hk:OkG G t) (h0:¬ 0 < G.q.L.length):Calls prog 37 #[ptr g] W (NxC W g s H G t):=by
 obtain ⟨F,B,hc,hgt,dis,hH,low⟩:=h;have lowB:=fun k b=>low k (hH k (.inr b));have B0:=Hh ((aa W.heap.size W).alloc (ac _) (.cells zR 44));have N0:Hid (Nx W g s F B G.key G.c G.q t (W.alloc (.cells zR 44))):=Hh ⟨⟨F,cle_below hc B0.out,fun k f=>.inl f⟩,hgt.only (J:=fun _=>False) (fun _ _ f=>f) (Only.of_below B0.out),am W _,Only.of_below B0.out⟩;have FIN:Hid (∀ w',Nx W g s F B G.key G.c G.q (t+1) w'->NxC W g s H G t (.returned (.tuple #[yV zY,.bool false])) (w'.setRow W.heap.size zR)):=Hh fun w' n=>by
  obtain ⟨e1,e2,e3,e4⟩:=nx_none h0;have f:=n.fin lowB dis hH low zR;unfold NxC;rw [e1,e2,e3,e4];exact ⟨rfl,f.1,f.2⟩
 obtain ⟨k,c2,cq,-,-⟩:=N0.out.que lowB dis;have FS:=Hh (Qe.first_any cq hk.qo);have hh:has G.q=false:=ak h0;rw [hh] at FS;generalize fst G.q=x at *;generalize NxC W g s H G t=T at *;clear hc hgt dis hH low lowB hk cq h0 hh;obtain ⟨xi,xk,xn,xf,xr,⟨v0,v1,v2,v3⟩,xy⟩:=x;unfold zR qV qA yV yA zY z4 ptr at *;dsimp only at FS FIN ⊢
 go_enter func37,ntmps37
 go_upto_region 1 with fail;generalize W.alloc (.cells #[.int .i64 0,.int .i64 0,.int .u8 0,.int .u8 0,.int .u8 0,.int .u8 0] 44)=w1 at *;go_wp2_with fail;refine FS.out.mono ?_;rintro e w2 ⟨rfl,b2⟩;have N2:=Hh ((N0.out.mono b2).mono ((aa w2.heap.size w2).alloc (ac _) (.cells #[.int .i64 xi,.int .i64 xk,.int .i64 xn,.int .i64 xf,.int .i64 xr,.int .u8 v0,.int .u8 v1,.int .u8 v2,.int .u8 v3,.int .i64 xy] 53)));clear b2 c2 FS N0;go_upto_region 2 with fail;generalize w2.alloc (.cells #[.int .i64 xi,.int .i64 xk,.int .i64 xn,.int .i64 xf,.int .i64 xr,.int .u8 v0,.int .u8 v1,.int .u8 v2,.int .u8 v3,.int .i64 xy] 53)=w3 at *;have R3:=Hh N2.out.res;have E:=Hh (FIN.out w3 N2.out.late);unfold zR at R3;clear N2 FIN
 go_wp2_with ((with_reducible refine wpList_store_row (o:=⟨none,_,_,_,_,_⟩) rfl 44 _ _ rfl W.heap.size #[.int .i64 0,.int .i64 0,.int .u8 0,.int .u8 0,.int .u8 0,.int .u8 0] rfl rfl _ _ R3.out (by kernel_rfl) rfl (by simp [Value.oneCell']) ?_))
 exact aA (results_reply (p:=2) (r:=3) rfl _ _ W.heap.size _ rfl rfl (setRow_heap w3 W.heap.size _ _ _ _ R3.out) rfl) rfl E.out
theorem next_some (h:GE W g s H G t) (hk:OkG G t) (ht:t<=1000) (hg:Glob W) (ng:¬ H 0) (h0:0 < G.q.L.length):Calls prog 37 #[ptr g] W (NxC W g s H G t):=by
 obtain ⟨F,B,hc,hgt,dis,hH,low⟩:=h;have gl:=aC _ _ hg;have lowB:=fun k b=>low k (hH k (.inr b));have B0:=Hh ((aa W.heap.size W).alloc (ac _) (.cells zR 44));have N0:Hid (Nx W g s F B G.key G.c G.q t (W.alloc (.cells zR 44))):=Hh ⟨⟨F,cle_below hc B0.out,fun k f=>.inl f⟩,hgt.only (J:=fun _=>False) (fun _ _ f=>f) (Only.of_below B0.out),am W _,Only.of_below B0.out⟩;have xf:=hk.fst h0;have SEE:=stE_in (s:=G) (fst G.q);have F1:Hid (stE G (fst G.q)=0->∀ w',Nx W g s F B G.key (stK G (fst G.q)) (poS G.q) (t+1) w'->NxC W g s H G t (.returned (.tuple #[yV ⟨(fst G.q).id,0,stR G (fst G.q)⟩,.bool true])) (w'.setRow W.heap.size (yA ⟨(fst G.q).id,0,stR G (fst G.q)⟩))):=Hh fun e w' n=>by
  obtain ⟨e1,e2,e3,e4⟩:=nx_done h0 (by omega);rw [e,aj rfl] at e2;have f:=n.fin lowB dis hH low (yA ⟨(fst G.q).id,0,stR G (fst G.q)⟩);unfold NxC;rw [e1,e2,e3,e4];exact ⟨rfl,f.1,f.2⟩
 have F2:Hid (stE G (fst G.q)≠0->stE G (fst G.q)≠13->∀ w',Nx W g s F B G.key (stK G (fst G.q)) (poS G.q) (t+1) w'->NxC W g s H G t (.returned (.tuple #[yV ⟨(fst G.q).id,stE G (fst G.q),z4⟩,.bool true])) (w'.setRow W.heap.size (yA ⟨(fst G.q).id,stE G (fst G.q),z4⟩))):=Hh fun e0 e w' n=>by
  obtain ⟨e1,e2,e3,e4⟩:=nx_done h0 e;rw [ah e0] at e2;have f:=n.fin lowB dis hH low (yA ⟨(fst G.q).id,stE G (fst G.q),z4⟩);unfold NxC;rw [e1,e2,e3,e4];exact ⟨rfl,f.1,f.2⟩
 have F3:Hid (stE G (fst G.q)=13->faB G.q=true->∀ w',Nx W g s F B G.key (stK G (fst G.q)) (faS G.q) (t+1) w'->NxC W g s H G t (.returned (.tuple #[yV ⟨(fst G.q).id,13,z4⟩,.bool true])) (w'.setRow W.heap.size (yA ⟨(fst G.q).id,13,z4⟩))):=Hh fun e b w' n=>by
  obtain ⟨e1,e2,e3,e4⟩:=nx_time h0 e;rw [b] at e1 e2;rw [aj rfl] at e2;have f:=n.fin lowB dis hH low (yA ⟨(fst G.q).id,13,z4⟩);unfold NxC;rw [e1,e2,e3,e4];exact ⟨rfl,f.1,f.2⟩
 have F4:Hid (stE G (fst G.q)=13->faB G.q=false->∀ w',Nx W g s F B G.key (stK G (fst G.q)) (faS G.q) (t+1) w'->NxC W g s H G t (.returned (.tuple #[yV zY,.bool false])) (w'.setRow W.heap.size zR)):=Hh fun e b w' n=>by
  obtain ⟨e1,e2,e3,e4⟩:=nx_time h0 e;rw [b] at e1 e2;rw [ah (by decide)] at e2;have f:=n.fin lowB dis hH low zR;unfold NxC;rw [e1,e2,e3,e4];exact ⟨rfl,f.1,f.2⟩
 obtain ⟨k,c2,cq,-,-⟩:=N0.out.que lowB dis;have FS:=Hh (Qe.first_any cq hk.qo);have hh:has G.q=true:=an h0;rw [hh] at FS
 have OC:Hid (∀ w',Below W.heap.size W w'->w'.heap[W.heap.size]? = some (.cells zR 44 (0,0))->Calls prog 66 #[ptr g,qV (fst G.q)] w' fun e w2=>e = .returned (.tuple #[rec4 (stR G (fst G.q)),errV (fst G.q).id (stE G (fst G.q))])/\Nx W g s F B G.key (stK G (fst G.q)) G.q (t+1) w2/\Glob w2/\Only F w' w2):=Hh (fun w' b res=>by
  have wl:W.heap.size < w'.heap.size:=ay res;have nf:¬ F 0:=fun f=>ng (hH _ (.inl f));have gt':Gt w' g B s G.key G.q:=hgt.only (J:=fun _=>False) (fun _ _ f=>f) (Only.of_below b);refine (outcome_any (cle_below hc b) gt' dis hk.ok ht (hg.below b) nf (fst G.q) xf.1 xf.2.1 xf.2.2).mono fun e w2 d=>?_;obtain ⟨o1,o2,o3⟩:=d;refine ⟨o1,⟨⟨_,o2,fun k f=>?_⟩,gt'.only (fun k b f=>dis k f b) o3,(o3.block _ wl (fun f=>?_)).trans res,(Only.of_below b).trans (o3.mono (G':=fun k=>F k\/B k) fun k _ f=>.inl f) fun k _ f=>f⟩,(hg.below b).only nf o3,o3⟩
  ·rcases f with f | f
   ·exact .inl f
   ·exact .inr (by omega)
  ·have:=low _ (hH _ (.inl f));omega)
 have LF:=Hh (fun k f=>low k (hH k (.inl f)));have NB:Hid (¬ B 0):=Hh fun b=>ng (hH _ (.inr b));have QU:=Hh (fun w' (n:Nx W g s F B G.key (stK G (fst G.q)) G.q (t+1) w')=>n.que lowB dis);have QO:=Hh hk.qo;generalize NxC W g s H G t=T at *;generalize stK G (fst G.q)=ck at *;generalize stR G (fst G.q)=sr at *;generalize stE G (fst G.q)=ee at *;generalize fst G.q=x at *;generalize G.q=q at *;clear hc hgt dis hH low lowB hk cq h0 hh gl xf;obtain ⟨xi,xk,xn,xf,xr,⟨v0,v1,v2,v3⟩,xy⟩:=x;obtain ⟨a0,a1,a2,a3⟩:=sr;unfold zR qV qA ptr at *;dsimp only at FS OC F1 F2 F3 F4 ⊢
 go_enter func37,ntmps37
 go_upto_region 1 with fail;have BW:=Hh B0.out;have RW:=Hh N0.out.res;generalize W.alloc (.cells #[.int .i64 0,.int .i64 0,.int .u8 0,.int .u8 0,.int .u8 0,.int .u8 0] 44)=w1 at *;go_wp2_with fail;refine FS.out.mono ?_;rintro e w2 ⟨rfl,b2⟩;have bb:=(aa w2.heap.size w2).alloc (ac _) (.cells #[.int .i64 xi,.int .i64 xk,.int .i64 xn,.int .i64 xf,.int .i64 xr,.int .u8 v0,.int .u8 v1,.int .u8 v2,.int .u8 v3,.int .i64 xy] 53);have X2:=Hh (am w2 (.cells #[.int .i64 xi,.int .i64 xk,.int .i64 xn,.int .i64 xf,.int .i64 xr,.int .u8 v0,.int .u8 v1,.int .u8 v2,.int .u8 v3,.int .i64 xy] 53));have B2:=Hh ((bTr BW b2).out.trans (bb.mono (bTr BW b2).out.size));have R2:=Hh (bBl bb (bBl b2 RW.out));have GX:Hid (¬ F w2.heap.size/\W.heap.size<=w2.heap.size):=Hh ⟨fun f=>by have:=LF.out _ f;have:=(bTr BW b2).out.size;omega,(bTr BW b2).out.size⟩;unfold zR at R2;clear b2 c2 FS N0 bb B0 BW RW LF;go_upto_region 4 with fail;generalize w2.alloc (.cells #[.int .i64 xi,.int .i64 xk,.int .i64 xn,.int .i64 xf,.int .i64 xr,.int .u8 v0,.int .u8 v1,.int .u8 v2,.int .u8 v3,.int .i64 xy] 53)=w3 at *;generalize w2.heap.size=gx at *;have q0:=Fl.rc X2.out 0;have q1:=Fl.rc X2.out 1;have q2:=Fl.rc X2.out 2;have q3:=Fl.rc X2.out 3;have q4:=Fl.rc X2.out 4;have q5:=Fl.rc X2.out 5;have q6:=Fl.rc X2.out 6;have q7:=Fl.rc X2.out 7;have q8:=Fl.rc X2.out 8;have q9:=Fl.rc X2.out 9;have OX:=Hh (OC.out w3 B2.out R2.out);clear OC;go_wp2_with fail;refine OX.out.mono ?_;rintro e w4 ⟨rfl,n4,g4,o4⟩;have X4:=Hh ((o4.block _ (ay X2.out) GX.out.1).trans X2.out);have B5:=Hh ((aa w4.heap.size w4).alloc (ac _) (.cells #[.int .u8 a0,.int .u8 a1,.int .u8 a2,.int .u8 a3] 36));have Y5:=Hh (am w4 (.cells #[.int .u8 a0,.int .u8 a1,.int .u8 a2,.int .u8 a3] 36));have X5:=Hh (bBl B5.out X4.out);have N5:=Hh (n4.mono B5.out);have G5:=Hh (g4.below B5.out);have GY:Hid (W.heap.size<=w4.heap.size):=Hh (by have:=ay n4.res;omega);clear q0 q1 q2 q3 q4 q5 q6 q7 q8 q9 OX n4 g4 o4 X4 X2 B2 R2;unfold rec4;go_upto_region 5 with fail;generalize w4.alloc (.cells #[.int .u8 a0,.int .u8 a1,.int .u8 a2,.int .u8 a3] 36)=w5 at *;generalize w4.heap.size=gy at *;clear B5
 rcases (by omega:ee=0\/ee=13\/(ee≠0/\ee≠13)) with rfl | rfl | ⟨e0,e13⟩
 ·have EV:errV xi 0 = .nilIface:=aj rfl
  rw [EV];have IS:=Hh (is_none w5);go_wp2_with fail;refine IS.out.mono ?_;rintro e w6 ⟨rfl,b6⟩;have N6:=Hh (N5.out.mono b6);have X6:=Hh (bBl b6 X5.out);have Y6:=Hh (bBl b6 Y5.out);obtain ⟨k6,c6,d6,l6,f6⟩:=QU.out w6 N6.out;have PO:=Hh (Qe.pop_any d6 QO.out);have FQ:=Hh f6;have L6:=Hh l6.1;have L7:Hid (¬ At1 k6 0):=Hh fun e=>NB.out (by obtain rfl:0=k6:=e;exact l6.2);clear N5 X5 Y5 G5 b6 IS d6 f6 l6 QU N6;go_upto_region 10 with fail;go_wp2_with fail;refine PO.out.mono ?_;rintro e w7 ⟨rfl,d7,o7⟩;have N7:=Hh (FQ.out w7 _ d7 o7);have X7:=Hh ((o7.block _ (ay X6.out) (fun e=>by unfold At1 at e;have:=GX.out.2;have:=L6.out;omega)).trans X6.out);have Y7:=Hh ((o7.block _ (ay Y6.out) (fun e=>by unfold At1 at e;have:=GY.out;have:=L6.out;omega)).trans Y6.out);clear c6 PO d7 o7 FQ X6 Y6;have q0:=Fl.rc X7.out 0;obtain ⟨y0,y1,y2,y3,-⟩:=rf4 Y7.out;have E:=Hh (F1.out (by trivial) w7 N7.out);have R7:=Hh N7.out.res;unfold zR at R7;unfold yV yA at E;clear F1 F2 F3 F4 N7 X7 Y7
  go_wp2_with ((with_reducible refine wpList_store_row (o:=⟨none,_,_,_,_,_⟩) rfl 44 _ _ rfl W.heap.size #[.int .i64 xi,.int .i64 0,.int .u8 a0,.int .u8 a1,.int .u8 a2,.int .u8 a3] rfl rfl _ _ R7.out (by kernel_rfl) rfl (by simp [Value.oneCell']) ?_))
  exact aA (results_reply (p:=2) (r:=3) rfl _ _ W.heap.size _ rfl rfl (setRow_heap w7 W.heap.size _ _ _ _ R7.out) rfl) rfl E.out
 ·have EV:errV xi 13 = .iface 154 (rfu xi 13):=ah (by decide)
  rw [EV];have IS:=Hh (at_bool (show decide ((13:Int)=13)=true from rfl) (is_any xi 13 w5));go_wp2_with fail;refine IS.out.mono ?_;rintro e w6 ⟨rfl,b6⟩;have N6:=Hh (N5.out.mono b6);have G6:=Hh (G5.out.below b6);obtain ⟨k6,c6,d6,l6,f6⟩:=QU.out w6 N6.out;have PO:=Hh (Qe.fail_any d6 QO.out);have FQ:=Hh f6;have L6:=Hh l6.1;have L7:Hid (¬ At1 k6 0):=Hh fun e=>NB.out (by obtain rfl:0=k6:=e;exact l6.2);have F5:=Hh (F3.out (by trivial));have F6:=Hh (F4.out (by trivial));clear N5 X5 Y5 G5 b6 IS d6 f6 l6 QU N6 F1 F2 F3 F4;generalize faV q=qv at *;obtain ⟨u0,u1,u2,u3,u4,⟨z0,z1,z2,z3⟩,u5⟩:=qv;unfold qV qA at PO;dsimp only at PO;go_upto_region 6 with fail;go_wp2_with fail;refine PO.out.mono ?_;rintro e w7 ⟨rfl,d7,o7⟩;have b8:=(aa w7.heap.size w7).alloc (ac _) (.cells #[.int .i64 u0,.int .i64 u1,.int .i64 u2,.int .i64 u3,.int .i64 u4,.int .u8 z0,.int .u8 z1,.int .u8 z2,.int .u8 z3,.int .i64 u5] 53);have N8:=Hh ((FQ.out w7 _ d7 o7).mono b8);have G8:=Hh ((G6.out.only (G:=At1 k6) (fun e=>L7.out e) o7).below b8);clear c6 PO d7 o7 FQ b8;go_upto_region 7 with fail;generalize w7.alloc (.cells #[.int .i64 u0,.int .i64 u1,.int .i64 u2,.int .i64 u3,.int .i64 u4,.int .u8 z0,.int .u8 z1,.int .u8 z2,.int .u8 z3,.int .i64 u5] 53)=w8 at *;have R8:=Hh N8.out.res;unfold zR at R8
  cases hb:faB q with
  | false =>
    have E:=Hh (F6.out hb w8 N8.out);unfold yV yA zY z4 at E;clear F5 F6 N8 hb
    go_wp2_with ((with_reducible refine wpList_store_row (o:=⟨none,_,_,_,_,_⟩) rfl 44 _ _ rfl W.heap.size #[.int .i64 0,.int .i64 0,.int .u8 0,.int .u8 0,.int .u8 0,.int .u8 0] rfl rfl _ _ R8.out (by kernel_rfl) rfl (by simp [Value.oneCell']) ?_))
    exact aA (results_reply (p:=2) (r:=3) rfl _ _ W.heap.size _ rfl rfl (setRow_heap w8 W.heap.size _ _ _ _ R8.out) rfl) rfl E.out
  | true =>
    have F7:=Hh (F5.out hb);have RX:=Hh (refused_any G8.out xi 13);clear F5 F6 hb G6 G8;go_wp2_with fail;refine RX.out.mono ?_;rintro e w9 ⟨rfl,b9⟩;have N9:=Hh (N8.out.mono b9);have E:=Hh (F7.out w9 N9.out);have R9:=Hh N9.out.res;unfold zR at R9;unfold yV yA z4 at *;clear F7 N8 N9 b9 R8 RX
    go_wp2_with ((with_reducible refine wpList_store_row (o:=⟨none,_,_,_,_,_⟩) rfl 44 _ _ rfl W.heap.size #[.int .i64 xi,.int .i64 13,.int .u8 0,.int .u8 0,.int .u8 0,.int .u8 0] rfl rfl _ _ R9.out (by kernel_rfl) rfl (by simp [Value.oneCell']) ?_))
    exact aA (results_reply (p:=2) (r:=3) rfl _ _ W.heap.size _ rfl rfl (setRow_heap w9 W.heap.size _ _ _ _ R9.out) rfl) rfl E.out
 ·have EV:errV xi ee = .iface 154 (rfu xi ee):=ah e0
  rw [EV];have IS:=Hh (at_bool (show decide (ee=13)=false from ak e13) (is_any xi ee w5));go_wp2_with fail;refine IS.out.mono ?_;rintro e w6 ⟨rfl,b6⟩;have N6:=Hh (N5.out.mono b6);have G6:=Hh (G5.out.below b6);obtain ⟨k6,c6,d6,l6,f6⟩:=QU.out w6 N6.out;have PO:=Hh (Qe.pop_any d6 QO.out);have FQ:=Hh f6;have L6:=Hh l6.1;have L7:Hid (¬ At1 k6 0):=Hh fun e=>NB.out (by obtain rfl:0=k6:=e;exact l6.2);have F5:=Hh (F2.out e0 e13);clear N5 X5 Y5 G5 b6 IS d6 f6 l6 QU N6 F1 F2 F3 F4;go_upto_region 10 with fail;go_wp2_with fail;refine PO.out.mono ?_;rintro e w7 ⟨rfl,d7,o7⟩;have N7:=Hh (FQ.out w7 _ d7 o7);have G7:=Hh (G6.out.only (G:=At1 k6) (fun e=>L7.out e) o7);clear c6 PO d7 o7 FQ;have RX:=Hh (refused_any G7.out xi ee);unfold rfu at *;go_wp2_with fail;refine RX.out.mono ?_;rintro e w9 ⟨rfl,b9⟩;have N9:=Hh (N7.out.mono b9);have E:=Hh (F5.out w9 N9.out);have R9:=Hh N9.out.res;unfold zR at R9;unfold yV yA z4 at *;clear F5 N7 N9 b9 RX
  go_wp2_with ((with_reducible refine wpList_store_row (o:=⟨none,_,_,_,_,_⟩) rfl 44 _ _ rfl W.heap.size #[.int .i64 xi,.int .i64 ee,.int .u8 0,.int .u8 0,.int .u8 0,.int .u8 0] rfl rfl _ _ R9.out (by kernel_rfl) rfl (by simp [Value.oneCell']) ?_))
  exact aA (results_reply (p:=2) (r:=3) rfl _ _ W.heap.size _ rfl rfl (setRow_heap w9 W.heap.size _ _ _ _ R9.out) rfl) rfl E.out
end Ga
namespace Ga
open Fs (Wf)
open Cu (Ac actV actA actC actE)
def acR:Ac:=⟨1,0,0,0,z4,0,0,0⟩
variable {G:Gs} {t g s:Nat}
theorem ok_nx (h:OkG G t):OkC (nxK G) (t+1)/\Syn (nxK G):=by
 unfold nxK
 split
 ·rename_i h0
  exact h.stK _ (h.fst h0).2.1
 ·exact ⟨h.ok.next,h.sy⟩
theorem gstep_any {W:World} {H:Nat->Prop} (h:GE W g s H G t) (hk:OkG G t) (hg:Glob W) (ng:¬ H 0) (ht:t<=900):Calls prog 11 #[ptr g] W fun e w'=>∃ u,e = .returned u/\Rd KU w' u (stA G)/\GE w' g s (Fx H W w') (stC G) (t+2)/\Only H W w':=by
 have gl:=aC _ _ hg;have LH:Hid (∀ k,H k->k < W.heap.size):=Hh (by obtain ⟨F,B,h1,h2,h3,h4,h5⟩:=h;exact h5);have NX:Calls prog 37 #[ptr g] W (NxC W g s H G t):=by
  by_cases h0:0 < G.q.L.length
  ·exact next_some h hk (by omega) hg ng h0
  ·exact next_none h hk h0
 have NX:=Hh NX;have DO:Hid (∀ w1 cs,GE w1 g s (Fx H W w1) ⟨nxK G,G.key,stQ G⟩ (t+1)->Only H W w1->W.heap.size<=w1.heap.size->(w1.alloc (.cells cs 44)).cell? ⟨g,0,none⟩=some (ptr s)/\Calls prog 10 #[ptr s,actV acR] (w1.alloc (.cells cs 44)) fun e w'=>(∃ x,e = .returned (.int .i64 x))/\w'.heap[w1.heap.size]? = some (.cells cs 44 (0,0))/\GE w' g s (Fx H W w') (stC G) (t+2)/\Only H W w'):=Hh fun w1 cs ge o1 z1=>by
  have b2:Below w1.heap.size w1 (w1.alloc (.cells cs 44)):=(aa _ _).alloc (ac _) _;have r2:=am w1 (.cells cs 44);have z2:=b2.size;have lt2:=ay r2;generalize w1.alloc (.cells cs 44)=w2 at *;have o2:Only H W w2:=o1.then b2;obtain ⟨F,B,⟨vn,L,p,vq,Fs,h1⟩,h2,h3,h4,h5⟩:=ge;have l1:∀ k,Fx H W w1 k->k < w1.heap.size:=h5;have h2':=h2;obtain ⟨k,r0,-,-,-⟩:=h2;have hx:Wf acR.f:=by unfold Wf acR;rfl
  have ok:=ok_nx hk;have nf:¬ F 0:=fun f=>by
   rcases h4 _ (.inl f) with f | f
   ·exact ng f
   ·exact absurd gl (by show ¬ 0 < _;omega)
  refine ⟨row_cell (bBl b2 r0) 0,(Cu.cdo_any (h1.below b2) ok.1 ok.2 (by omega) (hg.only ng o2) nf acR (by show okR z4;exact Fl.okR_z) hx).mono fun e w' d=>?_⟩;obtain ⟨d1,d2,d3⟩:=d;have z3:=d3.size;have lh:=LH.out;refine ⟨⟨_,d1⟩,(d3.block _ lt2 fun f=>?_).trans r2,⟨Fx F w2 w',B,d2,(h2'.only (J:=fun _=>False) (fun _ _ f=>f) (Only.of_below b2)).only (fun k b f=>h3 k f b) d3,fun k f b=>?_,fun k f=>?_,fun k f=>?_⟩,o2.trans d3 fun k hk f=>?_⟩
  ·have:=l1 _ (h4 _ (.inl f));omega
  ·rcases f with f | f
   ·exact h3 k f b
   ·have:=l1 k (h4 k (.inr b));omega
  ·have hw:∀ k,Fx H W w1 k->Fx H W w' k:=fun k f=>by
    rcases f with f | f
    ·exact .inl f
    ·exact .inr (by omega)
   rcases f with f | f
   ·rcases f with f | f
    ·exact hw k (h4 k (.inl f))
    ·exact .inr (by omega)
   ·exact hw k (h4 k (.inr f))
  ·rcases f with f | f
   ·have:=lh k f;omega
   ·exact f.2
  ·rcases h4 k (.inl f) with f | f
   ·exact f
   ·omega
 have GW:Hid (∀ w1 w2,GE w1 g s (Fx H W w1) (stC G) (t+2)->Below w1.heap.size w1 w2->Only H W w1->GE w2 g s (Fx H W w2) (stC G) (t+2)/\Only H W w2):=Hh fun w1 w2 ge b o=>by
  obtain ⟨F,B,h1,h2,h3,h4,h5⟩:=ge;have z:=b.size;have lh:=LH.out;have zo:=o.size;refine ⟨⟨F,B,cle_below h1 b,h2.only (J:=fun _=>False) (fun _ _ f=>f) (Only.of_below b),h3,fun k f=>?_,fun k f=>?_⟩,o.then b⟩
  ·rcases h4 k f with f | f
   ·exact .inl f
   ·exact .inr (by omega)
  ·rcases f with f | f
   ·have:=lh k f;omega
   ·exact f.2
 have AN:=Hh (fun w' (b:nxB G=true)=>ganswer_any w' (nxY G) (nx_may hk b));have SA:=Hh (stA_nx G);unfold NxC at NX;generalize stC G=Gc at *;generalize stA G=sa at *;generalize nxB G=nb at *;generalize nxY G=y at *;generalize (⟨nxK G,G.key,stQ G⟩:Gs)=Gn at *;clear h hk hg ng gl LH;obtain ⟨yi,ye,⟨v0,v1,v2,v3⟩⟩:=y;unfold ptr yV yA actV actA acR z4 at *;dsimp only at NX DO AN ⊢
 go_enter func11,ntmps11
 go_wp2_with fail;refine NX.out.mono ?_;rintro e w1 ⟨rfl,ge1,o1⟩;obtain ⟨c0,dd⟩:=DO.out w1 #[.int .i64 yi,.int .i64 ye,.int .u8 v0,.int .u8 v1,.int .u8 v2,.int .u8 v3] ge1 o1 o1.size;have DD:=Hh dd;clear dd NX DO ge1 o1;go_wp2_with fail;refine DD.out.mono ?_;rintro e w3 ⟨⟨x,rfl⟩,r3,ge3,o3⟩;have R3:=Hh r3;have E3:=Hh (fun w4 (b:Below w3.heap.size w3 w4)=>GW.out w3 w4 ge3 b o3);clear DD GW r3 ge3 o3 c0;generalize w1.heap.size=gy at *
 cases nb with
 | false =>
   have e0:sa = []:=SA.out.trans (ah (by decide));subst e0;have E:=Hh (E3.out w3 (aa _ _));clear E3 AN SA;go_wp2
   go_ret
   exact ⟨_,rfl,Rw.Rd.nil w3,E.out.1,E.out.2⟩
 | true =>
   have e0:sa=yb ⟨yi,ye,(v0,v1,v2,v3)⟩:=SA.out.trans (aj rfl);subst e0;have q0:=Fl.rc R3.out 0;have q1:=Fl.rc R3.out 1;have q2:=Fl.rc R3.out 2;have q3:=Fl.rc R3.out 3;have q4:=Fl.rc R3.out 4;have q5:=Fl.rc R3.out 5;have AX:=Hh (AN.out w3 rfl);clear AN SA;go_wp2_with fail;refine AX.out.mono ?_;rintro e w4 ⟨u,rfl,r4,b4⟩;have E:=Hh (E3.out w4 b4);have R4:=Hh r4;clear E3 AX r4 b4 R3 q0 q1 q2 q3 q4 q5;go_wp2
   go_ret
   exact ⟨_,rfl,R4.out,E.out.1,E.out.2⟩
end Ga
