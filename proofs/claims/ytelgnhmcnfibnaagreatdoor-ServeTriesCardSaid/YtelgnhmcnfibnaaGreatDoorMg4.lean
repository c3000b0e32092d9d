import Derived.Test.YtelgnhmcnfibnaaGreatDoorMg3
import Derived.Test.YtelgnhmcnfibnaaGreatDoorChecked
import Derived.WalkKit
import Derived.LaidEql
import Derived.Stop.Asserts
import Derived.Stop.IfaceNil
import Derived.RowKitTokens
import Derived.Lib.IfaceEq
import Derived.Lib.Hide
import Derived.LoopTactic
import Derived.Outline
import Derived.Test.YtelgnhmcnfibnaaGreatDoorMg2
import Derived.Deep.Cut
set_option maxRecDepth 100000
namespace Go.Proofs.YtelgnhmcnfibnaaGreatDoor.Fs
open Go.RowKit Go.Maps
open Fl (R4 z4 K4 rec4 rat goodF goodFB okR okL doE newR file arr4 row_cell row_frozen good_any)
open Rw (Rd Ow At)
attribute [local irreducible] Sd.wpSd wpQuiet Sf.wpSf
structure AddC (s:Nat) (m:Value) (d:Int) (g:Nat) (p:Int) (v:Value) (W:World):Prop where
 row:W.heap[s]? = some (.cells #[m,.int .i64 d] 93 (0,0))
 box:W.heap[g]? = some (.cells #[.int .i64 p,v] 71 (0,0))
theorem mk_eql (b:Option Nat) (W:World):(binOp .eql 91 (.map b) (.map none)).run Tryz.prog W = .ok (.bool b.isNone) W:=run_eql_map_nil W _ _ _ b Tryz.underlying91
theorem off_s {w:World} {v:Value} {l:List R4} {s:Nat} {o:Option Nat} {d:Int} {T:TypeId} (R:Rd K4 w v l) (h0:0 < l.length) (row:w.heap[s]? = some (.cells #[.map o,.int .i64 d] T (0,0))):∀ k,v.ownBlock=some k→k=s→False:=fun k hk e=>by
 obtain ⟨a,cap,rfl,_,_,h3⟩:=R;obtain ⟨b,off,rfl,hA⟩:=h3 h0;obtain rfl:b=k:=by simpa [Value.ownBlock] using hk
 subst e;have c:=hA 0 h0 0 _ rfl;have r:=row_cell row (off+0 * 4+0);have:w.cell? ⟨b,off+0 * 4+0,none⟩=some (.int .u8 (l.getD 0 z4).1):=c;rw [r] at this
 match off,this with
 | 0,h=>simp at h
 | 1,h=>simp at h
 | k+2,h=>simp at h
set_option maxHeartbeats 2000000 in
theorem add_some {w:World} {s b:Nat} {F:Nat→Prop} {C:List Ent} {d:Int} (S:Sto w s F (.map (some b)) C d) (n p:Int) (a:Option Addr) (q cap:Nat) (l:List R4) (R:Rd K4 w (.slice a q cap) l) (hn:0≤n∧n≤63) (hg:goodF p l) (hl:okL l) (hc:look Ent.n n C=none) :
 Calls Tryz.prog 27 #[.pointer (some ⟨s,0,none⟩),.int .i64 n,.agg #[.int .i64 p,.slice a q cap]] w (AddPost w s F d 0 (put key (n,p,l) (C.map Ent.abs))):=by
 obtain ⟨h1,hB,hz⟩:=box_file w p (.slice a q cap);have HB:=Lib.hid hB;have H1:=Lib.hid h1;have HZ:=Lib.hid hz;have RR:=Lib.hid R;have HL:=Lib.hid hl;have HGD:=Lib.hid hg;have GA:=good_any _ p (.slice a q cap) l (R.below hB);rw [show goodFB p l=true from decide_eq_true hg] at GA;have HG:=Lib.hid GA;have SS:=Lib.hid S;have n1:0≤n:=hn.1;have n2:n < 64:=by omega
 have HN:Hid (Wf n):=WalkArith.wf_i64 (by omega);have L:=Lib.hid (lv_none hc);have LB:=Lib.hid (lb_none hc);have FIN:Hid (∀ (u:Value) W W',Below w.heap.size w W→W.grownBy W' (some b)→Ow K4 W w.heap.size 26 u l→(∀ c:Ent,c.n=n→c.file=file p u→c.l=l→Mp W' F (.map (some b)) (put Ent.n c C))→AddPost w s F d 0 (put key (n,p,l) (C.map Ent.abs)) (.returned (.int .i64 0)) W'):=fun u W W' hb hgr ow mp=>by
  obtain ⟨au,cu,rfl,_⟩:=ow.slice;obtain ⟨S1,O1⟩:=S.place (c:=⟨n,p,au,cu,l⟩) hb hgr (mp _ rfl rfl rfl) ow hn hg hl;rw [abs_put] at S1;exact ⟨rfl,S1,O1⟩
 have hne:b≠s:=S.map_ne;have hbl:=S.low b S.mp.isMap.1;have hlen:=S.len;clear h1 hB hz R GA hg hn S hc hl;unfold file at HG
 go_enter Tryz.func27,Tryz.ntmps27
 go_wp2_with fail;generalize (w.alloc (.cells #[.int .i64 p,.slice a q cap] 71))=W at *;refine HG.out.mono ?_;rintro e w1 ⟨rfl,b1⟩;have B1:=Lib.hid (HB.out.trans (b1.mono HB.out.size));have S1:=SS.out.below B1.out;have c0:w1.cell? ⟨s,0,none⟩=some (.map (some b)):=row_cell S1.row 0;have M:=Lib.hid S1.mp;have hz:=HZ.out;have G1:=Lib.hid ((b1.block w.heap.size (by omega)).trans H1.out);have hE:=mk_eql (some b);have B2:=Lib.hid (B1.out.alloc B1.out.size (.cells #[.int .i64 0,.slice none 0 0] 71));have G2:=Lib.hid ((Below.heap_alloc w1 (.cells #[.int .i64 0,.slice none 0 0] 71) w.heap.size (by have:=b1.size;omega)).trans G1.out);have c2:(w1.alloc (.cells #[.int .i64 0,.slice none 0 0] 71)).cell? ⟨s,0,none⟩=some (.map (some b)):=row_cell (SS.out.below B2.out).row 0;clear b1 HG HB S1 G1 H1 hz
 go_wp2_with (at_lookup;refine at_look1 rfl _ _ rfl M.out rfl _ rfl HN.out _ L.out _ LB.out ?_)
 clear c0 c2 M hE B1;generalize (w1.alloc (.cells #[.int .i64 0,.slice none 0 0] 71))=W2 at *;have S2:=Lib.hid (SS.out.below B2.out);have C0:AddC s (.map (some b)) d w.heap.size p (.slice a q cap) W2.drew:=⟨S2.out.row,G2.out⟩;have c0:=Sc.cell_in (C:=AddC s (.map (some b)) d w.heap.size p (.slice a q cap)) (a:=⟨s,0,none⟩) (fun W' h=>row_cell h.row 0);have r0:=Sc.cell_in (C:=AddC s (.map (some b)) d w.heap.size p (.slice a q cap)) (a:=⟨w.heap.size,0,none⟩) (fun W' h=>row_cell h.box 0);have r1:=Sc.cell_in (C:=AddC s (.map (some b)) d w.heap.size p (.slice a q cap)) (a:=⟨w.heap.size,1,none⟩) (fun W' h=>row_cell h.box 1);have ne:Nonempty (Sc.In (AddC s (.map (some b)) d w.heap.size p (.slice a q cap))):=⟨⟨_,C0⟩⟩;have BW:=Lib.hid (B2.out.trans ((Below.refl W2.heap.size W2).drew.mono B2.out.size));refine Sc.start (AddC s (.map (some b)) d w.heap.size p (.slice a q cap)) [(false,0),(false,1),(false,2),(false,3),(false,4),(false,5),(true,6),(true,7)] (by kernel_rfl) (by kernel_rfl) (by kernel_rfl) C0 ?_;dsimp only [Sd.picks,List.getElem?_cons_succ,List.getElem?_cons_zero]
 repeat (refine Sd.lit ?_;quiet_step (fail);refine wpQuiet_nil ?_)
 refine Sd.call (by rfl) (fun K hK=>?_);have CA:=copied_any W2.drew p (.slice a q cap) l (RR.out.below BW.out) (by have:=HGD.out.2.2.2.1;omega);unfold file at CA;go_simp;refine CA.mono ?_;rintro e w3 ⟨u,rfl,o3,b3⟩;have hszz:w.heap.size≤W2.drew.heap.size:=B2.out.size;have B3:=Lib.hid (BW.out.trans (b3.mono hszz));have O3:=Lib.hid (o3.low hszz);have S3:=SS.out.below B3.out;have G3:w3.heap[w.heap.size]? = _:=(b3.block _ (by have:=HZ.out;have:=lt_of_block G2.out;exact this)).trans C0.box;refine hK _ _ (Sc.Cl.of ⟨S3.row,G3⟩) ?_;clear hK K b3 o3 CA C0 G2 B2 BW c0 r0 r1 S2;have M3:=Lib.hid S3.mp;have R3:=Lib.hid S3.row;have G3':=Lib.hid G3;clear S3 G3;obtain ⟨au,cu,rfl,_⟩:=O3.out.slice;refine Sd.call (by rfl) (fun K hK=>?_);refine wp_put _ _ _ rfl rfl M3.out ⟨n,p,au,cu,l⟩ rfl rfl HN.out (by unfold maxLen;omega) (fun w4 m4 g4=>?_)
 have RES:=Lib.hid (FIN.out _ w3 w4 B3.out g4 O3.out (fun c e1 e2 e3=>by
  obtain ⟨cn,cp,ca,cc,cl⟩:=c;simp only at e1 e3;subst e1 e3;unfold Ent.file Fl.file Ent.sl at e2;injection e2 with e2;have e4:=congrArg (fun t:Array Value=>t[0]?) e2;have e5:=congrArg (fun t:Array Value=>t[1]?) e2
  simp at e4 e5
  obtain ⟨rfl,rfl⟩:=e5;subst e4
  exact m4))
 have hws:=lt_of_block R3.out;have hwg:=lt_of_block G3'.out;refine hK _ _ (Sc.Cl.of ⟨(g4.block s hws (by intro e;injection e with e;exact hne e.symm)).trans R3.out,(g4.block w.heap.size hwg (by intro e;injection e with e;omega)).trans G3'.out⟩) ?_;clear hK K m4 g4 FIN;refine Sd.done ?_;go_wp2
 go_ret
 exact RES.out
set_option maxHeartbeats 2000000 in
theorem add_make {w:World} {s:Nat} {F:Nat→Prop} {C:List Ent} {d:Int} (S:Sto w s F (.map none) C d) (n p:Int) (a:Option Addr) (q cap:Nat) (l:List R4) (R:Rd K4 w (.slice a q cap) l) (hn:0≤n∧n≤63) (hg:goodF p l) (hl:okL l) (hc:look Ent.n n C=none) :
 Calls Tryz.prog 27 #[.pointer (some ⟨s,0,none⟩),.int .i64 n,.agg #[.int .i64 p,.slice a q cap]] w (AddPost w s F d 0 (put key (n,p,l) (C.map Ent.abs))):=by
 obtain ⟨h1,hB,hz⟩:=box_file w p (.slice a q cap);have HB:=Lib.hid hB;have H1:=Lib.hid h1;have HZ:=Lib.hid hz;have RR:=Lib.hid R;have HL:=Lib.hid hl;have HGD:=Lib.hid hg;have GA:=good_any _ p (.slice a q cap) l (R.below hB);rw [show goodFB p l=true from decide_eq_true hg] at GA;have HG:=Lib.hid GA;have SS:=Lib.hid S;have n1:0≤n:=hn.1;have n2:n < 64:=by omega
 have HN:Hid (Wf n):=WalkArith.wf_i64 (by omega);have L:=Lib.hid (lv_none hc);have LB:=Lib.hid (lb_none hc);have HNG:=Lib.hid (And.intro hn (And.intro hg hl));have hlen:=S.len;have hsl:=S.low s S.foot;clear h1 hB hz R GA hg hn S hc hl;unfold file at HG;have hmm:=@run_makeMap Tryz.prog
 go_enter Tryz.func27,Tryz.ntmps27
 go_wp2_with fail;generalize (w.alloc (.cells #[.int .i64 p,.slice a q cap] 71))=W at *;refine HG.out.mono ?_;rintro e w1 ⟨rfl,b1⟩;have B1:=Lib.hid (HB.out.trans (b1.mono HB.out.size));have S1:=SS.out.below B1.out;have c0:w1.cell? ⟨s,0,none⟩=some (.map none):=row_cell S1.row 0;have M:=Lib.hid S1.mp;have hz:=HZ.out;have G1:=Lib.hid ((b1.block w.heap.size (by omega)).trans H1.out);have hE:=mk_eql none;have B2:=Lib.hid (B1.out.alloc B1.out.size (.cells #[.int .i64 0,.slice none 0 0] 71));have G2:=Lib.hid ((Below.heap_alloc w1 (.cells #[.int .i64 0,.slice none 0 0] 71) w.heap.size (by have:=b1.size;omega)).trans G1.out);have S2:=SS.out.below B2.out;have c2:(w1.alloc (.cells #[.int .i64 0,.slice none 0 0] 71)).cell? ⟨s,0,none⟩=some (.map none):=row_cell S2.row 0;have hz2:(w1.alloc (.cells #[.int .i64 0,.slice none 0 0] 71)).heap.size=w1.heap.size+1:=by simp
 have MK:=SS.out.make B2.out;have S3:=(S2.below ((Below.refl _ _).alloc (Nat.le_refl _) (.map #[] 0)));have c3:((w1.alloc (.cells #[.int .i64 0,.slice none 0 0] 71)).alloc (.map #[] 0)).cell? ⟨s,0,none⟩=some (.map none):=row_cell S3.row 0;have f3:((w1.alloc (.cells #[.int .i64 0,.slice none 0 0] 71)).alloc (.map #[] 0)).frozen? ⟨s,0,none⟩=false:=row_frozen S3.row 0;have hgs:w.heap.size≠s:=by omega
 have G3:=Lib.hid ((Below.heap_setCell ((w1.alloc (.cells #[.int .i64 0,.slice none 0 0] 71)).alloc (.map #[] 0)) ⟨s,0,none⟩ (.map (some (w1.heap.size+1))) w.heap.size hgs).trans ((Below.heap_alloc (w1.alloc (.cells #[.int .i64 0,.slice none 0 0] 71)) (.map #[] 0) w.heap.size (by have:=B2.out.size;have:=b1.size;omega)).trans G2.out));rw [hz2] at MK;have S3':=Lib.hid MK.1;have O3':=Lib.hid MK.2;have OS:Only (fun k=>k=s) w ((((w1.alloc (.cells #[.int .i64 0,.slice none 0 0] 71)).alloc (.map #[] 0)).setCell ⟨s,0,none⟩ (.map (some (w1.heap.size+1))))):=(Only.of_below (B2.out.alloc B2.out.size _)).trans (Only.set (fun k=>k=s) _ (a:=⟨s,0,none⟩) rfl _) fun _ _ g=>g;have R3:=Lib.hid (rd_only RR.out (fun h0 k hk e=>off_s RR.out h0 SS.out.row k hk e) OS);clear b1 HG HB S1 G1 H1 hz G2 S2 S3 MK hz2 OS
 go_wp2_with (at_lookup;refine at_look1 rfl _ _ rfl M.out rfl _ rfl HN.out _ L.out _ LB.out ?_)
 clear c0 c2 c3 f3 M hE hmm B2 B1;generalize hb:w1.heap.size+1=b at *;clear hb;generalize (((w1.alloc (.cells #[.int .i64 0,.slice none 0 0] 71)).alloc (.map #[] 0)).setCell ⟨s,0,none⟩ (.map (some b)))=W2 at *;have hne:b≠s:=S3'.out.map_ne;have hcl:C.length < maxLen:=by unfold maxLen;omega
 have hws2:w.heap.size < W2.heap.size:=lt_of_block G3.out;have C0:AddC s (.map (some b)) d w.heap.size p (.slice a q cap) W2.drew:=⟨S3'.out.row,G3.out⟩;have c0:=Sc.cell_in (C:=AddC s (.map (some b)) d w.heap.size p (.slice a q cap)) (a:=⟨s,0,none⟩) (fun W' h=>row_cell h.row 0);have r0:=Sc.cell_in (C:=AddC s (.map (some b)) d w.heap.size p (.slice a q cap)) (a:=⟨w.heap.size,0,none⟩) (fun W' h=>row_cell h.box 0);have r1:=Sc.cell_in (C:=AddC s (.map (some b)) d w.heap.size p (.slice a q cap)) (a:=⟨w.heap.size,1,none⟩) (fun W' h=>row_cell h.box 1);have ne:Nonempty (Sc.In (AddC s (.map (some b)) d w.heap.size p (.slice a q cap))):=⟨⟨_,C0⟩⟩;have BW:Hid (Below W2.heap.size W2 W2.drew):=Lib.hid ((Below.refl W2.heap.size W2).drew);have hFb:=S3'.out.mp.isMap.1;have hbl:=S3'.out.low b hFb;have hbg:w.heap.size≠b:=fun e=>by
  obtain ⟨_,es,cl,hm⟩:=S3'.out.mp.isMap;rw [← e] at hm;have:=G3.out.symm.trans hm
  cases this
 refine Sc.start (AddC s (.map (some b)) d w.heap.size p (.slice a q cap)) [(false,0),(false,1),(false,2),(false,3),(false,4),(false,5),(true,6),(true,7)] (by kernel_rfl) (by kernel_rfl) (by kernel_rfl) C0 ?_;dsimp only [Sd.picks,List.getElem?_cons_succ,List.getElem?_cons_zero]
 repeat (refine Sd.lit ?_;quiet_step (fail);refine wpQuiet_nil ?_)
 refine Sd.call (by rfl) (fun K hK=>?_);have CA:=copied_any W2.drew p (.slice a q cap) l (R3.out.below BW.out) (by have:=HGD.out.2.2.2.1;omega);unfold file at CA;go_simp;refine CA.mono ?_;rintro e w3 ⟨u,rfl,o3,b3⟩;have B3:=Lib.hid (BW.out.trans (b3.mono (Nat.le_refl W2.heap.size)));have O3:Hid (Ow K4 w3 W2.heap.size 26 u l):=o3;have S4:=S3'.out.below B3.out;have G4:w3.heap[w.heap.size]? = _:=(b3.block _ hws2).trans C0.box;refine hK _ _ (Sc.Cl.of ⟨S4.row,G4⟩) ?_;clear hK K b3 o3 CA C0 G3 BW c0 r0 r1 R3;have M3:=Lib.hid S4.mp;have R4':=Lib.hid S4.row;have G3':=Lib.hid G4;clear S4 G4;obtain ⟨au,cu,rfl,_⟩:=O3.out.slice;refine Sd.call (by rfl) (fun K hK=>?_);refine wp_put _ _ _ rfl rfl M3.out ⟨n,p,au,cu,l⟩ rfl rfl HN.out hcl (fun w4 m4 g4=>?_);have RES:Hid (AddPost w s F d 0 (put key (n,p,l) (C.map Ent.abs)) (.returned (.int .i64 0)) w4):=by
  obtain ⟨P1,P2⟩:=S3'.out.place (c:=⟨n,p,au,cu,l⟩) B3.out g4 m4 O3.out HNG.out.1 HNG.out.2.1 HNG.out.2.2;rw [abs_put] at P1;exact ⟨rfl,P1.wide (Fx.trans O3'.out P2.size) (Fx.low SS.out.low (O3'.out.trans' P2).size),O3'.out.trans' P2⟩
 have hws:=lt_of_block R4'.out;have hwg:=lt_of_block G3'.out;refine hK _ _ (Sc.Cl.of ⟨(g4.block s hws (by intro e;injection e with e;exact hne e.symm)).trans R4'.out,(g4.block w.heap.size hwg (by intro e;injection e with e;exact hbg e)).trans G3'.out⟩) ?_;clear hK K m4 g4;refine Sd.done ?_;go_wp2
 go_ret
 exact RES.out
theorem look_abs {C:List Ent} {n:Int} : look key n (C.map Ent.abs)=(look Ent.n n C).map Ent.abs:=abs_look n C
theorem add_any {w:World} {s:Nat} {F:Nat→Prop} {A:Abs} {d:Int} (S:St w s F A d) (n p:Int) (v:Value) (l:List R4) (R:Rd K4 w v l) (hl:okL l) :
 Calls Tryz.prog 27 #[.pointer (some ⟨s,0,none⟩),.int .i64 n,file p v] w (AddPost w s F d (addE A n p l) (addA A n p l)):=by
 obtain ⟨m,C,h,rfl⟩:=S;obtain ⟨a,cap,rfl,_⟩:=R.slice;have no:∀ z e w',addE (C.map Ent.abs) n p l=z→z≠0→(e = .returned (.int .i64 z)∧Below w.heap.size w w')→AddPost w s F d (addE (C.map Ent.abs) n p l) (addA (C.map Ent.abs) n p l) e w':=fun z e w' hz h0 ⟨he,b⟩=>by
  unfold AddPost addA;rw [hz,if_neg h0];exact ⟨he,St.fx ⟨m,C,h,rfl⟩ b,Only.of_below b⟩
 by_cases hn:0≤n∧n≤63
 ·by_cases hg:goodF p l
  ·cases hc:look Ent.n n C with
   | some c=>exact (add_10 h n p a _ cap l R hn hg hc).mono fun e w'=>no 10 e w' (by unfold addE;rw [if_pos hn,if_pos hg,look_abs,hc];rfl) (by decide)
   | none =>
     have e0:addE (C.map Ent.abs) n p l=0:=by unfold addE;rw [if_pos hn,if_pos hg,look_abs,hc];rfl
     unfold addA;rw [e0,if_pos rfl]
     rcases h.mp with ⟨rfl,_⟩ | ⟨b,rfl,_,_⟩
     ·exact add_make h n p a _ cap l R hn hg hl hc
     ·exact add_some h n p a _ cap l R hn hg hl hc
  ·exact (add_2 w s n p a _ cap l R hn hg).mono fun e w'=>no 2 e w' (by unfold addE;rw [if_pos hn,if_neg hg]) (by decide)
 ·exact (add_1 w s n p a _ cap hn).mono fun e w'=>no 1 e w' (by unfold addE;rw [if_neg hn]) (by decide)
end Go.Proofs.YtelgnhmcnfibnaaGreatDoor.Fs
namespace Go.Proofs.YtelgnhmcnfibnaaGreatDoor.Fs
open Go.RowKit Go.Extern.Stop Go.Stop Go.Extern
def flt (n e:Int):Value:=.agg #[.int .i64 n,.iface 28 (.int .i64 e)]
def fault (n e:Int):Value:=.iface 163 (flt n e)
theorem isTypeOf (v:Value) (w:World):(Extern.ReflectliteType.typeOf #[.iface 28 v]).run Tryz.prog w = .ok (.iface 135 (.agg #[.pointer (some ⟨1,28,none⟩)])) w:=by kernel_rfl
theorem isTypeOfF (v:Value) (w:World):(Extern.ReflectliteType.typeOf #[.iface 163 v]).run Tryz.prog w = .ok (.iface 135 (.agg #[.pointer (some ⟨1,163,none⟩)])) w:=by kernel_rfl
def compF : Array Value → Sem Value := Extern.ReflectliteType.method fun t => do Rtype.noPackHeld "Comparable" t; pure (.bool (← typeInfo t).comparable)
theorem isComparable (w:World):(compF #[.agg #[.pointer (some ⟨1,28,none⟩)]]).run Tryz.prog w = .ok (.bool true) w:=by kernel_rfl
theorem isMethodComparable (v : Value) (w : World) : (Go.method 315 135 v "Comparable").run Tryz.prog w = .ok (121, v) w := by kernel_rfl
theorem noIsF (v:Value) (xT:TypeId) (w:World):(Instr.typeAssert (.iface 163 v) xT 176 true).run Tryz.prog w = .ok (.tuple #[.nilIface,.bool false]) w:=run_typeAssert_lacksB Tryz.underlying176 (by kernel_rfl) (by kernel_rfl) v xT w
theorem noIsE (v:Value) (xT:TypeId) (w:World):(Instr.typeAssert (.iface 28 v) xT 176 true).run Tryz.prog w = .ok (.tuple #[.nilIface,.bool false]) w:=run_typeAssert_lacksB Tryz.underlying176 (by kernel_rfl) (by kernel_rfl) v xT w
theorem hasUnwrapF (v:Value) (xT:TypeId) (w:World):(Instr.typeAssert (.iface 163 v) xT 143 true).run Tryz.prog w = .ok (.tuple #[.iface 163 v,.bool true]) w:=run_typeAssert_hasB Tryz.underlying143 (by kernel_rfl) v xT w
theorem noUnwrapE (v:Value) (xT:TypeId) (w:World):(Instr.typeAssert (.iface 28 v) xT 143 true).run Tryz.prog w = .ok (.tuple #[.nilIface,.bool false]) w:=run_typeAssert_lacksB Tryz.underlying143 (by kernel_rfl) (by kernel_rfl) v xT w
theorem noUnwrapsE (v:Value) (xT:TypeId) (w:World):(Instr.typeAssert (.iface 28 v) xT 145 true).run Tryz.prog w = .ok (.tuple #[.nilIface,.bool false]) w:=run_typeAssert_lacksB Tryz.underlying145 (by kernel_rfl) (by kernel_rfl) v xT w
theorem methodUnwrap (v : Value) (w : World) : (Go.method 315 163 v "Unwrap").run Tryz.prog w = .ok (131, v) w := by kernel_rfl
theorem eql_errno (a b:Int) (w:World):(binOp .eql 75 (.iface 28 (.int .i64 a)) (.iface 28 (.int .i64 b))).run Tryz.prog w = .ok (.bool (decide (a=b))) w:=by
 have:=Lib.run_eql_iface_int (P:=Tryz.prog) w (t:=75) (tx:=28) (k:=.i64) (q:=.i64) a b Tryz.underlying75 (by kernel_rfl) Tryz.underlying28;rw [this]
 congr 2
theorem eql_types (v u:Value) (w:World):(binOp .eql 75 (.iface 163 v) (.iface 28 u)).run Tryz.prog w = .ok (.bool false) w:=run_eql_iface_types (P:=Tryz.prog) _ _ v u Tryz.underlying75 (by decide) w
theorem ret_b {a b:Bool} (h:a=b):Ending.returned (.bool a) = .returned (.bool b):=by rw [h]
theorem unwrap_any (w:World) (n:Int) (x:Value):Calls Tryz.prog 131 #[.agg #[.int .i64 n,x]] w fun e w'=>e = .returned x∧Below w.heap.size w w':=by
 go_enter Tryz.func131,Tryz.ntmps131
 go_wp2
 go_ret
 exact ⟨rfl,(Below.refl w.heap.size w).alloc (Nat.le_refl _) _⟩
set_option maxHeartbeats 2000000 in
theorem is_loop (n e:Int) (w:World):Calls Tryz.prog 82 #[fault n e,.iface 28 (.int .i64 5),.bool true] w fun ev w'=>ev = .returned (.bool (decide (e=5)))∧Below w.heap.size w w':=by
 have nF:=noIsF;have nE:=noIsE;have uF:=hasUnwrapF;have uE:=noUnwrapE;have vE:=noUnwrapsE;have mU:=methodUnwrap;have hty:=eql_types;have heq:=eql_errno;unfold fault flt
 by_cases h:e=5
 ·have hd:=decide_eq_true h
  go_enter Tryz.func82,Tryz.ntmps82
  go_wp2;refine wp_loop_rounds 2 ?_;rw [rounds_succ]
  go_wp2_with (go_at_call 131;refine (unwrap_any _ _ _).mono ?_;rintro ev w1 ⟨rfl,b1⟩)
  rw [rounds_succ];go_wp2
  go_ret
  exact ⟨ret_b hd.symm,b1⟩
 ·have hd:=decide_eq_false h
  go_enter Tryz.func82,Tryz.ntmps82
  go_wp2;refine wp_loop_rounds 2 ?_;rw [rounds_succ]
  go_wp2_with (go_at_call 131;refine (unwrap_any _ _ _).mono ?_;rintro ev w1 ⟨rfl,b1⟩)
  rw [rounds_succ];go_wp2
  go_ret
  exact ⟨ret_b hd.symm,b1⟩
set_option maxHeartbeats 2000000 in
theorem is_any (n e:Int) (w:World):Calls Tryz.prog 68 #[fault n e,.iface 28 (.int .i64 5)] w fun ev w'=>ev = .returned (.bool (decide (e=5)))∧Below w.heap.size w w':=by
 have h8:=@run_callFunc_extern Tryz.prog 64 _ Extern.ReflectliteType.typeOf Tryz.func64 (by kernel_rfl) (by kernel_rfl) (by kernel_rfl) (by kernel_rfl);have h32:=@run_callFunc_extern Tryz.prog 121 _ compF Tryz.func121 (by kernel_rfl) (by kernel_rfl) (by kernel_rfl) (by kernel_rfl);have tT:=isTypeOf;have cT:=isComparable;have mR:=isMethodComparable;have L:=Lib.hid (is_loop n e w);unfold fault flt at *
 go_enter Tryz.func68,Tryz.ntmps68
 go_wp2_with (go_at_call 82;refine L.out.mono ?_;rintro ev w1 ⟨rfl,b1⟩)
 go_ret
 exact ⟨rfl,b1⟩
end Go.Proofs.YtelgnhmcnfibnaaGreatDoor.Fs
namespace Go.Proofs.YtelgnhmcnfibnaaGreatDoor.Fs
open Go.RowKit Go.Extern.Stop Go.Stop Go.Extern
def valF:Array Value→Sem Value:=fun args=>ReflectliteValue.unpack (args.getD 0 (.tuple #[]))
def typF : Array Value → Sem Value := ReflectliteValue.methodAny (ReflectliteValue.valueError "reflectlite.Value.Type" 0) (fun t _ _ _ => ReflectliteType.toType t)
def nilF : Array Value → Sem Value := ReflectliteValue.method (ReflectliteValue.valueError "reflectlite.Value.IsNil" 0) ReflectliteValue.isNil
def kinF:Array Value→Sem Value:=ReflectliteType.abiMethod fun t=>do pure (.int .u8 (← Rtype.kind t))
def eleF:Array Value→Sem Value:=ReflectliteType.method ReflectliteType.elem
def impF : Array Value → Sem Value := ReflectliteType.relation "Implements" ReflectliteType.implements_
def asgF : Array Value → Sem Value := ReflectliteType.relation "AssignableTo" ReflectliteType.assignableTo
def elvF : Array Value → Sem Value := ReflectliteValue.method (ReflectliteValue.valueError "reflectlite.Value.Elem" 0) ReflectliteValue.elem
theorem valP (t:Addr) (w:World):(valF #[.iface 167 (.pointer (some t))]).run Tryz.prog w = .ok (.agg #[.pointer (some ⟨1,167,none⟩),.pointer (some ⟨w.heap.size,0,none⟩),.int .u64 150]) (w.alloc (.cells #[.pointer (some t)] 167)):=by kernel_rfl
theorem valE (e:Int) (w:World):(valF #[.iface 28 (.int .i64 e)]).run Tryz.prog w = .ok (.agg #[.pointer (some ⟨1,28,none⟩),.pointer (some ⟨w.heap.size,0,none⟩),.int .u64 130]) (w.alloc (.cells #[.int .i64 e] 28)):=by kernel_rfl
theorem typP (a:Addr) (w:World):(typF #[.agg #[.pointer (some ⟨1,167,none⟩),.pointer (some a),.int .u64 150]]).run Tryz.prog w = .ok (.iface 135 (.agg #[.pointer (some ⟨1,167,none⟩)])) w:=by kernel_rfl
theorem mKind (h : Value) (w : World) : (Go.method 315 135 (.agg #[h]) "Kind").run Tryz.prog w = .ok (110, h) w := by kernel_rfl
theorem mElem (h : Value) (w : World) : (Go.method 315 135 (.agg #[h]) "Elem").run Tryz.prog w = .ok (122, .agg #[h]) w := by kernel_rfl
theorem mImp (h : Value) (w : World) : (Go.method 315 135 (.agg #[h]) "Implements").run Tryz.prog w = .ok (123, .agg #[h]) w := by kernel_rfl
theorem mAsg (h : Value) (w : World) : (Go.method 315 135 (.agg #[h]) "AssignableTo").run Tryz.prog w = .ok (120, .agg #[h]) w := by kernel_rfl
theorem kindP (w:World):(kinF #[.pointer (some ⟨1,167,none⟩)]).run Tryz.prog w = .ok (.int .u8 22) w:=by kernel_rfl
theorem kindE (w:World):(kinF #[.pointer (some ⟨1,28,none⟩)]).run Tryz.prog w = .ok (.int .u8 2) w:=by kernel_rfl
theorem elemP (w:World):(eleF #[.agg #[.pointer (some ⟨1,167,none⟩)]]).run Tryz.prog w = .ok (.iface 135 (.agg #[.pointer (some ⟨1,28,none⟩)])) w:=by kernel_rfl
theorem impE (w:World):(impF #[.agg #[.pointer (some ⟨1,28,none⟩)],.iface 135 (.agg #[.pointer (some ⟨1,75,none⟩)])]).run Tryz.prog w = .ok (.bool true) w:=by kernel_rfl
theorem asgE (w:World):(asgF #[.agg #[.pointer (some ⟨1,28,none⟩)],.iface 135 (.agg #[.pointer (some ⟨1,28,none⟩)])]).run Tryz.prog w = .ok (.bool true) w:=by kernel_rfl
theorem asgF' (w:World):(asgF #[.agg #[.pointer (some ⟨1,163,none⟩)],.iface 135 (.agg #[.pointer (some ⟨1,28,none⟩)])]).run Tryz.prog w = .ok (.bool false) w:=by kernel_rfl
theorem noAsF (v:Value) (xT:TypeId) (w:World):(Instr.typeAssert (.iface 163 v) xT 140 true).run Tryz.prog w = .ok (.tuple #[.nilIface,.bool false]) w:=run_typeAssert_lacksB Tryz.underlying140 (by kernel_rfl) (by kernel_rfl) v xT w
theorem rlm (z:Sem Value) (f:TypeId→Addr→Nat→Nat→Sem Value) (v:Value) :
 ReflectliteValue.method z f #[v]=(do match ← ReflectliteValue.parts v with | none=>z | some (t,a,fl)=>f t a fl (fl % 32)):=rfl
theorem partsP (a:Addr) (w:World):(ReflectliteValue.parts (.agg #[.pointer (some ⟨1,167,none⟩),.pointer (some a),.int .u64 150])).run Tryz.prog w = .ok (some (167,a,150)) w:=by kernel_rfl
theorem nilP (a p:Addr) (W:World) (ha:W.cell? a=some (.pointer (some p))):(nilF #[.agg #[.pointer (some ⟨1,167,none⟩),.pointer (some a),.int .u64 150]]).run Tryz.prog W = .ok (.bool false) W:=by
 unfold nilF;rw [rlm];simp only [Sem.run_bind,partsP,Result.andThen]
 simp [ReflectliteValue.isNil,loadVar,isAgg,underlying,Tryz.underlying167,ha,Result.andThen]
theorem elemOfP (w:World):(Rtype.elem? 167).run Tryz.prog w = .ok (some 28) w:=by kernel_rfl
theorem mkE (p:Addr) (w:World):(ReflectliteValue.mk 28 p ReflectliteValue.flagAddr).run Tryz.prog w = .ok (.agg #[.pointer (some ⟨1,28,none⟩),.pointer (some p),.int .u64 386]) w:=by kernel_rfl
theorem elvP (a p:Addr) (W:World) (ha:W.cell? a=some (.pointer (some p))):(elvF #[.agg #[.pointer (some ⟨1,167,none⟩),.pointer (some a),.int .u64 150]]).run Tryz.prog W = .ok (.agg #[.pointer (some ⟨1,28,none⟩),.pointer (some p),.int .u64 386]) W:=by
 unfold elvF;rw [rlm];simp only [Sem.run_bind,partsP,Result.andThen]
 simp [ReflectliteValue.elem,loadVar,isAgg,underlying,Tryz.underlying167,ha,Result.andThen,elemOfP,mkE]
theorem rls (v x:Value):ReflectliteValue.set #[v,x]=(do
 let (some (dst,a,fl),some (src,b,_)):=(← ReflectliteValue.parts v,← ReflectliteValue.parts x)
  | unsupported (.noEntry "extern/(internal/reflectlite.Value).Set.zeroValue")
 if fl / ReflectliteValue.flagAddr % 2 == 0 then unsupported (.noEntry "extern/(internal/reflectlite.Value).Set.unaddressable")
 let val ← loadVar src b
 if ← Rtype.directlyAssignable dst src then storeVar dst a val
 else if ← Rtype.implements dst src then
  if (← Rtype.kind src) == 20 then
   match val with
   | .nilIface => unsupported (.noEntry "extern/reflectlite: a nil value of one interface type handed on as a value of another")
   | _=>storeVar dst a val
  else storeVar dst a (.iface src val)
 else panicString ("reflectlite.Set: value of type " ++ (← Rtype.spelt src) ++ " is not assignable to type " ++ (← Rtype.spelt dst))
 pure (.tuple #[])):=rfl
theorem partsEa (a:Addr) (w:World):(ReflectliteValue.parts (.agg #[.pointer (some ⟨1,28,none⟩),.pointer (some a),.int .u64 386])).run Tryz.prog w = .ok (some (28,a,386)) w:=by kernel_rfl
theorem partsE (a:Addr) (w:World):(ReflectliteValue.parts (.agg #[.pointer (some ⟨1,28,none⟩),.pointer (some a),.int .u64 130])).run Tryz.prog w = .ok (some (28,a,130)) w:=by kernel_rfl
theorem directE (w:World):(Rtype.directlyAssignable 28 28).run Tryz.prog w = .ok true w:=by kernel_rfl
theorem setE (ta b:Addr) (e:Int) (old:Value) (W:World) (hb:W.cell? b=some (.int .i64 e)) (ht:W.cell? ta=some old) (hf:W.frozen? ta=false) :
 (ReflectliteValue.set #[.agg #[.pointer (some ⟨1,28,none⟩),.pointer (some ta),.int .u64 386],.agg #[.pointer (some ⟨1,28,none⟩),.pointer (some b),.int .u64 130]]).run Tryz.prog W
   = .ok (.tuple #[]) (W.setCell ta (.int .i64 e)):=by
 rw [rls];simp only [Sem.run_bind,partsEa,partsE,Result.andThen]
 simp [ReflectliteValue.flagAddr,loadVar,isAgg,underlying,Tryz.underlying28,hb,Result.andThen,directE,storeVar,Value.cells,storeCells,Addr.add]
 rw [run_store Tryz.prog W ta _ _ (by rfl)]
 simp [ht,hf]
end Go.Proofs.YtelgnhmcnfibnaaGreatDoor.Fs
namespace Go.Proofs.YtelgnhmcnfibnaaGreatDoor.Fs
open Go.RowKit Go.Extern.Stop Go.Stop Go.Extern
open Fl (row_cell row_frozen)
def Glob (w:World):Prop:=w.cell? ⟨0,0,none⟩=some (.iface 135 (.agg #[.pointer (some ⟨1,75,none⟩)]))
theorem Glob.below {w w':World} (h:Glob w) (b:Below w.heap.size w w'):Glob w':=(b.cell (World.block_lt_of_cell? _ _ h)).trans h
theorem Glob.only {G:Nat→Prop} {w w':World} (h:Glob w) (hn:¬ G 0) (o:Only G w w'):Glob w':=o.cell h hn
def AsPost (w:World) (tb:Nat) (e:Int) (ev:Ending) (w':World):Prop:=ev = .returned (.bool true)∧w'.heap[tb]? = some (.cells #[.int .i64 e] 28 (0,0))∧Only (fun k=>k=tb) w w'
set_option maxHeartbeats 4000000 in
theorem as_loop (n e:Int) (tb b:Nat) (w:World) (hb:w.cell? ⟨b,0,none⟩=some (.pointer (some ⟨tb,0,none⟩))) (ht:w.heap[tb]? = some (.cells #[.int .i64 0] 28 (0,0))) :
 Calls Tryz.prog 56 #[fault n e,.iface 167 (.pointer (some ⟨tb,0,none⟩)),.agg #[.pointer (some ⟨1,167,none⟩),.pointer (some ⟨b,0,none⟩),.int .u64 150],.iface 135 (.agg #[.pointer (some ⟨1,28,none⟩)])] w (AsPost w tb e):=by
 have h42:=@run_callFunc_extern Tryz.prog 64 _ Extern.ReflectliteType.typeOf Tryz.func64 (by kernel_rfl) (by kernel_rfl) (by kernel_rfl) (by kernel_rfl);have h102:=@run_callFunc_extern Tryz.prog 120 _ asgF Tryz.func120 (by kernel_rfl) (by kernel_rfl) (by kernel_rfl) (by kernel_rfl);have h60:=@run_callFunc_extern Tryz.prog 65 _ elvF Tryz.func65 (by kernel_rfl) (by kernel_rfl) (by kernel_rfl) (by kernel_rfl);have h50:=@run_callFunc_extern Tryz.prog 53 _ valF Tryz.func53 (by kernel_rfl) (by kernel_rfl) (by kernel_rfl) (by kernel_rfl);have h61:=@run_callFunc_extern Tryz.prog 66 _ ReflectliteValue.set Tryz.func66 (by kernel_rfl) (by kernel_rfl) (by kernel_rfl) (by kernel_rfl);have tF:=isTypeOfF;have tE:=isTypeOf;have mA:=mAsg;have aF:=asgF';have aE:=asgE;have nA:=noAsF;have uF:=hasUnwrapF;have mU:=methodUnwrap;have vE:=valE;have HB:=Lib.hid hb;have HT:=Lib.hid ht;have B0:=Lib.hid ((Below.refl w.heap.size w).alloc (Nat.le_refl _) (.cells #[.pointer (some ⟨1,167,none⟩),.pointer (some ⟨b,0,none⟩),.int .u64 150] 117));clear hb ht;unfold fault flt
 go_enter Tryz.func56,Tryz.ntmps56
 go_wp2;refine wp_loop_rounds 2 ?_;rw [rounds_succ]
 go_wp2_with (go_at_call 131;refine (unwrap_any _ _ _).mono ?_;rintro ev w1 ⟨rfl,b1⟩)
 have B1:=Lib.hid (B0.out.trans (b1.mono B0.out.size));have G0:w1.heap[w.heap.size]? = some (.cells #[.pointer (some ⟨1,167,none⟩),.pointer (some ⟨b,0,none⟩),.int .u64 150] 117 (0,0)):=(b1.block _ (by simp)).trans (heap_alloc_new w _);have e0:w1.cell? ⟨w.heap.size,0,none⟩=some (.pointer (some ⟨1,167,none⟩)):=row_cell G0 0;have e1:w1.cell? ⟨w.heap.size,1,none⟩=some (.pointer (some ⟨b,0,none⟩)):=row_cell G0 1;have e2:w1.cell? ⟨w.heap.size,2,none⟩=some (.int .u64 150):=row_cell G0 2;have hbl:=World.block_lt_of_cell? _ _ HB.out;have el:=elvP ⟨b,0,none⟩ ⟨tb,0,none⟩ w1 ((B1.out.cell hbl).trans HB.out);have htl:=lt_of_block HT.out;have T1:=(B1.out.block tb htl).trans HT.out;have T2:=(Below.heap_alloc w1 (.cells #[.int .i64 e] 28) tb (by have:=B1.out.size;omega)).trans T1;have st:=setE ⟨tb,0,none⟩ ⟨w1.heap.size,0,none⟩ e (.int .i64 0) (w1.alloc (.cells #[.int .i64 e] 28)) (by simp) (row_cell T2 0) (row_frozen T2 0);have RES:Hid (AsPost w tb e (.returned (.bool true)) ((w1.alloc (.cells #[.int .i64 e] 28)).setCell ⟨tb,0,none⟩ (.int .i64 e))):=by
  refine ⟨rfl,?_,?_⟩
  ·have:=Rw.heap_setCell_same (j:=0) T2 (.int .i64 e)
   rw [this]
   simp
  ·exact (Only.of_below (B1.out.alloc B1.out.size _)).trans (Only.set (fun k=>k=tb) _ (a:=⟨tb,0,none⟩) rfl _) fun _ _ g=>g
 clear b1 G0 T1 T2 HB HT B0 B1 hbl htl;rw [rounds_succ];go_wp2
 go_ret
 exact RES.out
set_option maxHeartbeats 4000000 in
theorem as_any (n e:Int) (tb:Nat) (w:World) (hg:Glob w) (ht:w.heap[tb]? = some (.cells #[.int .i64 0] 28 (0,0))) :
 Calls Tryz.prog 38 #[fault n e,.iface 167 (.pointer (some ⟨tb,0,none⟩))] w (AsPost w tb e):=by
 have h50:=@run_callFunc_extern Tryz.prog 53 _ valF Tryz.func53 (by kernel_rfl) (by kernel_rfl) (by kernel_rfl) (by kernel_rfl);have h51:=@run_callFunc_extern Tryz.prog 54 _ typF Tryz.func54 (by kernel_rfl) (by kernel_rfl) (by kernel_rfl) (by kernel_rfl);have h52:=@run_callFunc_extern Tryz.prog 55 _ nilF Tryz.func55 (by kernel_rfl) (by kernel_rfl) (by kernel_rfl) (by kernel_rfl);have h95:=@run_callFunc_extern Tryz.prog 110 _ kinF Tryz.func110 (by kernel_rfl) (by kernel_rfl) (by kernel_rfl) (by kernel_rfl);have h104:=@run_callFunc_extern Tryz.prog 122 _ eleF Tryz.func122 (by kernel_rfl) (by kernel_rfl) (by kernel_rfl) (by kernel_rfl);have h105:=@run_callFunc_extern Tryz.prog 123 _ impF Tryz.func123 (by kernel_rfl) (by kernel_rfl) (by kernel_rfl) (by kernel_rfl);have f6:=valP;have f7:=typP;have mK:=mKind;have mE:=mElem;have mI:=mImp;have kP:=kindP;have kE:=kindE;have eP:=elemP;have iE:=impE;have hlt:0 < w.heap.size:=World.block_lt_of_cell? _ _ hg;have htl:=lt_of_block ht;have B2:Below w.heap.size w ((w.alloc (.cells #[.pointer (some ⟨tb,0,none⟩)] 167)).alloc (.cells #[.pointer (some ⟨1,167,none⟩),.pointer (some ⟨w.heap.size,0,none⟩),.int .u64 150] 117)):=((Below.refl w.heap.size w).alloc (Nat.le_refl _) _).alloc (by simp) _;have n8:=nilP ⟨w.heap.size,0,none⟩ ⟨tb,0,none⟩ ((w.alloc (.cells #[.pointer (some ⟨tb,0,none⟩)] 167)).alloc (.cells #[.pointer (some ⟨1,167,none⟩),.pointer (some ⟨w.heap.size,0,none⟩),.int .u64 150] 117)) (by simp);have hg2:((w.alloc (.cells #[.pointer (some ⟨tb,0,none⟩)] 167)).alloc (.cells #[.pointer (some ⟨1,167,none⟩),.pointer (some ⟨w.heap.size,0,none⟩),.int .u64 150] 117)).cell? ⟨0,0,none⟩=some (.iface 135 (.agg #[.pointer (some ⟨1,75,none⟩)])):=hg.below B2;have AL:=Lib.hid (as_loop n e tb w.heap.size ((w.alloc (.cells #[.pointer (some ⟨tb,0,none⟩)] 167)).alloc (.cells #[.pointer (some ⟨1,167,none⟩),.pointer (some ⟨w.heap.size,0,none⟩),.int .u64 150] 117)) (by simp) ((B2.block tb htl).trans ht));have BB:=Lib.hid B2;have HTL:=Lib.hid htl;clear hg ht B2 htl;unfold fault flt at *
 go_enter Tryz.func38,Tryz.ntmps38
 go_wp2_with (go_at_call 56;refine AL.out.mono ?_;rintro ev w1 ⟨rfl,r1,o1⟩)
 go_ret
 exact ⟨rfl,r1,(Only.of_below BB.out).trans o1 fun _ _ g=>g⟩
set_option maxHeartbeats 1000000 in
theorem number_any (n e:Int) (w:World) (hg:Glob w):Calls Tryz.prog 69 #[fault n e] w fun ev w'=>ev = .returned (.int .i64 e)∧Below w.heap.size w w':=by
 have B0:=Lib.hid ((Below.refl w.heap.size w).alloc (Nat.le_refl _) (.cells #[.int .i64 0] 28));have AS:=Lib.hid (as_any n e w.heap.size (w.alloc (.cells #[.int .i64 0] 28)) (hg.below B0.out) (heap_alloc_new w _));clear hg;unfold fault flt at *
 go_enter Tryz.func69,Tryz.ntmps69
 go_wp2_with fail;refine AS.out.mono ?_;rintro ev w1 ⟨rfl,r1,o1⟩;have c1:w1.cell? ⟨w.heap.size,0,none⟩=some (.int .i64 e):=row_cell r1 0;have BB:=Lib.hid (B0.out.trans (o1.below (by simp) fun k hk=>by rw [hk];exact Nat.le_refl _));clear r1 o1 B0 AS;go_wp2
 go_ret
 exact ⟨rfl,BB.out⟩
end Go.Proofs.YtelgnhmcnfibnaaGreatDoor.Fs
namespace Go.Proofs.YtelgnhmcnfibnaaGreatDoor.Fs
open Go.RowKit Go.Maps
open Fl (R4 z4 K4 rec4 rat goodF goodFB okR okL doE newR file arr4 sto2 sto4 sto2_row sto2_other sto2_below sto2_size sto4_row sto4_other sto4_below sto4_size row_cell row_frozen do_any DoPost)
open Rw (Rd Ow At)
attribute [local irreducible] Sd.wpSd wpQuiet Sf.wpSf
structure Ask0 (w:World) (o f r:Int) (x:R4) (W:World):Prop where
 adr:W.heap[w.heap.size]? = some (.cells #[.int .i64 o,.int .i64 f,.int .i64 r] 24 (0,0))
 arg:W.heap[w.heap.size+1]? = some (.cells (arr4 x) 26 (0,0))
 res:W.heap[w.heap.size+2]? = some (.cells (arr4 z4) 26 (0,0))
 siz:w.heap.size+3≤W.heap.size
 bel:Below w.heap.size w W
theorem Ask0.mono {w W W':World} {o f r:Int} {x:R4} (h:Ask0 w o f r x W) (b:Below W.heap.size W W'):Ask0 w o f r x W' :=
 have s:=h.siz
 ⟨(b.block _ (by omega)).trans h.adr,(b.block _ (by omega)).trans h.arg,(b.block _ (by omega)).trans h.res,Nat.le_trans h.siz b.size,h.bel.trans (b.mono (by omega))⟩
theorem ask0_of (w:World) (o f r:Int) (x:R4):Ask0 w o f r x (((w.alloc (.cells #[.int .i64 o,.int .i64 f,.int .i64 r] 24)).alloc (.cells #[.int .u8 x.1,.int .u8 x.2.1,.int .u8 x.2.2.1,.int .u8 x.2.2.2] 26)).alloc (.cells #[.int .u8 0,.int .u8 0,.int .u8 0,.int .u8 0] 26)):=by
 have z1:∀ a,(w.alloc a).heap.size=w.heap.size+1:=fun a=>by simp
 have z2:∀ a b,((w.alloc a).alloc b).heap.size=w.heap.size+2:=fun a b=>by simp
 refine ⟨?_,?_,?_,by simp,(((Below.refl w.heap.size w).alloc (Nat.le_refl _) _).alloc (by simp) _).alloc (by simp;omega) _⟩
 ·exact (Below.heap_alloc _ _ _ (by rw [z2];omega)).trans ((Below.heap_alloc _ _ _ (by rw [z1];omega)).trans (heap_alloc_new w _))
 ·have:=heap_alloc_new (w.alloc (.cells #[.int .i64 o,.int .i64 f,.int .i64 r] 24)) (.cells (arr4 x) 26)
  rw [z1] at this;exact (Below.heap_alloc _ _ _ (by rw [z2];omega)).trans this
 ·have:=heap_alloc_new ((w.alloc (.cells #[.int .i64 o,.int .i64 f,.int .i64 r] 24)).alloc (.cells (arr4 x) 26)) (.cells (arr4 z4) 26)
  rw [z2] at this;exact this
def Adr (w:World) (o f r:Int) (W:World):Prop:=W.heap[w.heap.size]? = some (.cells #[.int .i64 o,.int .i64 f,.int .i64 r] 24 (0,0))
def AskNo (w:World) (f k:Int) (e:Ending) (w':World):Prop:=e = .returned (.tuple #[rec4 z4,fault f k])∧Below w.heap.size w w'
set_option maxHeartbeats 2000000 in
theorem ask_none {w:World} {s:Nat} {F:Nat→Prop} {m:Value} {C:List Ent} {d:Int} (S:Sto w s F m C d) (o f r:Int) (x:R4) (hn:Wf f) (hk:look Ent.n f C=none) :
 Calls Tryz.prog 67 #[.pointer (some ⟨s,0,none⟩),Ad.addr o f r,rec4 x] w (AskNo w f 3):=by
 have A0:=ask0_of w o f r x;have S0:Hid (Ask0 w o f r x (((w.alloc (.cells #[.int .i64 o,.int .i64 f,.int .i64 r] 24)).alloc (.cells #[.int .u8 x.1,.int .u8 x.2.1,.int .u8 x.2.2.1,.int .u8 x.2.2.2] 26)).alloc (.cells #[.int .u8 0,.int .u8 0,.int .u8 0,.int .u8 0] 26))):=A0;have SS:=Lib.hid (S.below A0.bel);have HN:=Lib.hid hn;have L:=Lib.hid (lv_none hk);have LB:=Lib.hid (lb_none hk);clear A0 hn;clear S hk;unfold rec4;unfold Ad.addr
 go_enter Tryz.func67,Tryz.ntmps67
 go_wp2_with fail;generalize (((w.alloc (.cells #[.int .i64 o,.int .i64 f,.int .i64 r] 24)).alloc (.cells #[.int .u8 x.1,.int .u8 x.2.1,.int .u8 x.2.2.1,.int .u8 x.2.2.2] 26)).alloc (.cells #[.int .u8 0,.int .u8 0,.int .u8 0,.int .u8 0] 26))=W at *;have c0:=Sd.cell_by (show W.cell? ⟨s,0,none⟩=some m from row_cell SS.out.row 0);have a1:=Sd.cell_by (show W.cell? ⟨w.heap.size,1,none⟩=some (.int .i64 f) from row_cell S0.out.adr 1);have hlk:∀ P:Sd.By W,(Instr.lookup 91 m (.int .i64 f) true).run Tryz.prog P.world = .ok (.tuple #[.agg #[.int .i64 0,.slice none 0 0],.bool false]) P.world:=fun P=>by
  have:=run_look (SS.out.below P.below).mp HN.out true;rw [L.out,LB.out] at this;exact this
 refine Sf.start [(0,0),(0,1),(0,2),(0,3),(0,4),(0,5),(0,6),(0,7),(0,8),(0,9),(2,10),(1,11),(0,12)] [⟨10,8,#[.int .i64 0,.slice none 0 0],71⟩] (by kernel_rfl) (by kernel_rfl) (by kernel_rfl) (by decide) (by decide) ?_ ?_ ?_
 ·simp
 ·intro f hf
  simp only [List.mem_cons,List.not_mem_nil,or_false] at hf;subst hf;exact ⟨_,rfl,rfl,rfl,fun ρ w=>by go_simp⟩
 dsimp only [Sf.picks,List.getElem?_cons_succ,List.getElem?_cons_zero];have BW:=Lib.hid ((Below.refl W.heap.size W).drew)
 repeat (refine Sf.lit (fun xs=>?_);simp only [Sf.fill,List.foldl_cons,List.foldl_nil];quiet_step (fail);refine wpQuiet_nil ?_)
 refine Sf.meet (fun gF w7 hb hc row n7 hH hL=>?_);have B7:=Lib.hid (BW.out.trans (hb.mono BW.out.size));have R7:Hid (w7.heap[gF]? = some (.cells #[.int .i64 0,.slice none 0 0] 71 (0,0))):=row;clear hb hc row hH hL BW;refine Sf.call (fun xs w9 hb hc=>⟨by rfl,fun K hK=>?_⟩);have B9:=Lib.hid (B7.out.trans (hb.mono B7.out.size));have R9:=(hb.block _ (lt_of_block R7.out)).trans R7.out;have k0:w9.cell? ⟨gF,0,none⟩=some (.int .i64 0):=row_cell R9 0;have k1:w9.cell? ⟨gF,1,none⟩=some (.slice none 0 0):=row_cell R9 1;have f0:=row_frozen R9 0;have f1:=row_frozen R9 1;have RA:=Lib.hid (sto2_row R9 0 (.slice none 0 0));have BA:=Lib.hid (sto2_below (p:=0) (v:=.slice none 0 0) B9.out n7);have hsz:=sto2_size w9 gF 0 (.slice none 0 0);clear hb hc B7 R7 R9 B9;simp only [Sf.fill,List.foldl_nil];go_simp;refine hK _ _ (Sd.Cl.of BA.out) (by rw [← hsz];exact Nat.le_refl _) (fun h=>absurd rfl h) ?_;clear hK K k0 k1 f0 f1 hsz
 show Sf.wpSf _ _ _ _ _ _ _ _ _ _ (sto2 w9 gF 0 (.slice none 0 0))
 generalize sto2 w9 gF 0 (.slice none 0 0)=wA at *
 repeat (refine Sf.lit (fun xs=>?_);simp only [Sf.fill,List.foldl_nil];quiet_step (fail);refine wpQuiet_nil ?_)
 refine Sf.done (fun wB hb hc=>?_);have BX:=Lib.hid (BA.out.trans (hb.mono BA.out.size));have G1:=Lib.hid ((hb.block _ (lt_of_block RA.out)).trans RA.out);have S1:=Lib.hid (S0.out.mono BX.out);have N7:Hid (W.heap.size≤gF):=n7;clear hb hc BA RA c0 a1 hlk n7 S0;clear BX G1 N7 SS;go_wp2_with fail;have C0:Adr w o f r wB.drew:=S1.out.adr;have a1:=Sc.cell_in (C:=Adr w o f r) (a:=⟨w.heap.size,1,none⟩) (v:=.int .i64 f) (fun W' h=>row_cell h 1);have ne:Nonempty (Sc.In (Adr w o f r)):=⟨⟨_,C0⟩⟩;refine Sc.start (Adr w o f r) [(false,0),(false,1),(false,2),(false,3),(false,4),(false,5),(true,6),(false,7)] (by kernel_rfl) (by kernel_rfl) (by kernel_rfl) C0 ?_;dsimp only [Sd.picks,List.getElem?_cons_succ,List.getElem?_cons_zero]
 repeat (refine Sd.lit ?_;quiet_step (fail);refine wpQuiet_nil ?_)
 have S2:=Lib.hid (S1.out.mono ((Below.refl wB.heap.size wB).drew));clear S1 C0 a1;generalize wB.drew=Wy at *;refine Sd.call (by rfl) (fun K hK=>?_);have d0:Wy.cell? ⟨w.heap.size+2,0,none⟩=some (.int .u8 0):=row_cell S2.out.res 0;have d1:Wy.cell? ⟨w.heap.size+2,1,none⟩=some (.int .u8 0):=row_cell S2.out.res 1;have d2:Wy.cell? ⟨w.heap.size+2,2,none⟩=some (.int .u8 0):=row_cell S2.out.res 2;have d3:Wy.cell? ⟨w.heap.size+2,3,none⟩=some (.int .u8 0):=row_cell S2.out.res 3;have k0:=row_frozen S2.out.res 0;have k1:=row_frozen S2.out.res 1;have k2:=row_frozen S2.out.res 2;have k3:=row_frozen S2.out.res 3;have L2:Adr w o f r (sto4 Wy (w.heap.size+2) 0 z4):=sto4_other S2.out.adr (by omega);have R3:=Lib.hid (sto4_row S2.out.res z4);have B3:=Lib.hid (sto4_below (o:=0) (r:=z4) S2.out.bel (show w.heap.size≤w.heap.size+2 by omega));clear S2;go_simp;refine hK _ _ (Sc.Cl.of L2) ?_;clear hK K d0 d1 d2 d3 k0 k1 k2 k3 L2
 show Sd.wpSd _ _ _ _ _ _ (sto4 Wy (w.heap.size+2) 0 z4)
 generalize sto4 Wy (w.heap.size+2) 0 z4=Wz at *
 repeat (refine Sd.lit ?_;quiet_step (fail);refine wpQuiet_nil ?_)
 refine Sd.done ?_;go_wp2
 (try simp only [Exit.inBlock,Exit.then])
 exact bodyPost_ret (results_rec (p:=6) (r:=7) rfl _ _ (w.heap.size+2) z4 (fault f 3) rfl rfl R3.out) rfl ⟨rfl,B3.out⟩
theorem do_err (w:World) (p:Int) (v:Value) (l:List R4) (R:Rd K4 w v l) (hl:okL l) (o r k:Int) (x:R4) (he:doE p l o r=k) (hk:k≠0):Calls Tryz.prog 81 #[file p v,.int .i64 o,.int .i64 r,rec4 x] w fun e w'=>∃ a cap,e = .returned (.tuple #[file 0 (.slice a 0 cap),rec4 z4,.int .i64 k])∧Below w.heap.size w w' :=
 (do_any w p v l R hl o r x).mono fun e w' ⟨u,h1,h2,h3⟩=>by
   rw [he,if_neg hk] at h2;obtain ⟨a,cap,rfl,_⟩:=h2.slice;rw [he,if_neg hk,if_neg hk] at h1;exact ⟨a,cap,h1,h3⟩
theorem do_ok (w:World) (p:Int) (v:Value) (l:List R4) (R:Rd K4 w v l) (hl:okL l) (o r:Int) (x:R4) (he:doE p l o r=0):Calls Tryz.prog 81 #[file p v,.int .i64 o,.int .i64 r,rec4 x] w fun e w'=>∃ a cap,e = .returned (.tuple #[file p (.slice a l.length cap),rec4 (newR l o r x),.int .i64 0])∧Ow K4 w' w.heap.size 26 (.slice a l.length cap) (l.set r.toNat (newR l o r x))∧Below w.heap.size w w' :=
 (do_any w p v l R hl o r x).mono fun e w' ⟨u,h1,h2,h3⟩=>by
   rw [he,if_pos rfl] at h2;obtain ⟨a,cap,rfl,_⟩:=h2.slice;rw [List.length_set] at h1 h2;rw [he,if_pos rfl,if_pos rfl] at h1;exact ⟨a,cap,h1,h2,h3⟩
theorem two_res (w:World) (q:Int) (u:Value) (y:R4):((w.alloc (.cells #[.int .i64 q,u] 71)).alloc (.cells (arr4 y) 26)).heap[w.heap.size]? = some (.cells #[.int .i64 q,u] 71 (0,0))∧((w.alloc (.cells #[.int .i64 q,u] 71)).alloc (.cells (arr4 y) 26)).heap[w.heap.size+1]? = some (.cells (arr4 y) 26 (0,0))∧Below w.heap.size w ((w.alloc (.cells #[.int .i64 q,u] 71)).alloc (.cells (arr4 y) 26)):=by
 refine ⟨(Below.heap_alloc _ _ _ (by simp)).trans (heap_alloc_new w _),?_,((Below.refl w.heap.size w).alloc (Nat.le_refl _) _).alloc (by simp) _⟩;have:=heap_alloc_new (w.alloc (.cells #[.int .i64 q,u] 71)) (.cells (arr4 y) 26)
 simpa using this
set_option maxHeartbeats 2000000 in
theorem ask_err {w:World} {s:Nat} {F:Nat→Prop} {m:Value} {C:List Ent} {d:Int} (S:Sto w s F m C d) (o f r k:Int) (x:R4) (hn:Wf f) {c:Ent} (hk:look Ent.n f C=some c) (he:doE c.p c.l o r=k) (h0:k≠0) :
 Calls Tryz.prog 67 #[.pointer (some ⟨s,0,none⟩),Ad.addr o f r,rec4 x] w (AskNo w f k):=by
 obtain ⟨ho,hgd,hok,_,_,hcm⟩:=S.find hk;have RR:=Lib.hid (ho.rd);have OK:=Lib.hid hok;have A0:=ask0_of w o f r x;have S0:Hid (Ask0 w o f r x (((w.alloc (.cells #[.int .i64 o,.int .i64 f,.int .i64 r] 24)).alloc (.cells #[.int .u8 x.1,.int .u8 x.2.1,.int .u8 x.2.2.1,.int .u8 x.2.2.2] 26)).alloc (.cells #[.int .u8 0,.int .u8 0,.int .u8 0,.int .u8 0] 26))):=A0;have SS:=Lib.hid (S.below A0.bel);have HN:=Lib.hid hn;have L:=Lib.hid (lv_some hk);have LB:=Lib.hid (lb_some hk);obtain ⟨cn,p,a,cap,l⟩:=c;unfold Ent.sl at RR;simp only at *;have HE:=Lib.hid (And.intro he h0);have hk1:(k == 0)=false:=by simpa using h0
 obtain ⟨q,hq⟩:∃ q,q=l.length:=⟨_,rfl⟩;rw [← hq] at RR L;have HQ:=Lib.hid hq;clear S hk A0 hn ho hgd hok hcm he hq;unfold rec4;unfold Ad.addr
 go_enter Tryz.func67,Tryz.ntmps67
 go_wp2_with fail;generalize (((w.alloc (.cells #[.int .i64 o,.int .i64 f,.int .i64 r] 24)).alloc (.cells #[.int .u8 x.1,.int .u8 x.2.1,.int .u8 x.2.2.1,.int .u8 x.2.2.2] 26)).alloc (.cells #[.int .u8 0,.int .u8 0,.int .u8 0,.int .u8 0] 26))=W at *;have c0:=Sd.cell_by (show W.cell? ⟨s,0,none⟩=some m from row_cell SS.out.row 0);have a1:=Sd.cell_by (show W.cell? ⟨w.heap.size,1,none⟩=some (.int .i64 f) from row_cell S0.out.adr 1);have hlk:∀ P:Sd.By W,(Instr.lookup 91 m (.int .i64 f) true).run Tryz.prog P.world = .ok (.tuple #[.agg #[.int .i64 p,.slice a q cap],.bool true]) P.world:=fun P=>by
  have:=run_look (SS.out.below P.below).mp HN.out true;rw [L.out,LB.out] at this;exact this
 refine Sf.start [(0,0),(0,1),(0,2),(0,3),(0,4),(0,5),(0,6),(0,7),(0,8),(0,9),(2,10),(1,11),(0,12)] [⟨10,8,#[.int .i64 0,.slice none 0 0],71⟩] (by kernel_rfl) (by kernel_rfl) (by kernel_rfl) (by decide) (by decide) ?_ ?_ ?_
 ·simp
 ·intro f hf
  simp only [List.mem_cons,List.not_mem_nil,or_false] at hf;subst hf;exact ⟨_,rfl,rfl,rfl,fun ρ w=>by go_simp⟩
 dsimp only [Sf.picks,List.getElem?_cons_succ,List.getElem?_cons_zero];have BW:=Lib.hid ((Below.refl W.heap.size W).drew)
 repeat (refine Sf.lit (fun xs=>?_);simp only [Sf.fill,List.foldl_cons,List.foldl_nil];quiet_step (fail);refine wpQuiet_nil ?_)
 refine Sf.meet (fun gF w7 hb hc row n7 hH hL=>?_);have B7:=Lib.hid (BW.out.trans (hb.mono BW.out.size));have R7:Hid (w7.heap[gF]? = some (.cells #[.int .i64 0,.slice none 0 0] 71 (0,0))):=row;clear hb hc row hH hL BW;refine Sf.call (fun xs w9 hb hc=>⟨by rfl,fun K hK=>?_⟩);have B9:=Lib.hid (B7.out.trans (hb.mono B7.out.size));have R9:=(hb.block _ (lt_of_block R7.out)).trans R7.out;have k0:w9.cell? ⟨gF,0,none⟩=some (.int .i64 0):=row_cell R9 0;have k1:w9.cell? ⟨gF,1,none⟩=some (.slice none 0 0):=row_cell R9 1;have f0:=row_frozen R9 0;have f1:=row_frozen R9 1;have RA:=Lib.hid (sto2_row R9 p (.slice a q cap));have BA:=Lib.hid (sto2_below (p:=p) (v:=.slice a q cap) B9.out n7);have hsz:=sto2_size w9 gF p (.slice a q cap);clear hb hc B7 R7 R9 B9;simp only [Sf.fill,List.foldl_nil];go_simp;refine hK _ _ (Sd.Cl.of BA.out) (by rw [← hsz];exact Nat.le_refl _) (fun h=>absurd rfl h) ?_;clear hK K k0 k1 f0 f1 hsz
 show Sf.wpSf _ _ _ _ _ _ _ _ _ _ (sto2 w9 gF p (.slice a q cap))
 generalize sto2 w9 gF p (.slice a q cap)=wA at *
 repeat (refine Sf.lit (fun xs=>?_);simp only [Sf.fill,List.foldl_nil];quiet_step (fail);refine wpQuiet_nil ?_)
 refine Sf.done (fun wB hb hc=>?_);have BX:=Lib.hid (BA.out.trans (hb.mono BA.out.size));have G1:=Lib.hid ((hb.block _ (lt_of_block RA.out)).trans RA.out);have S1:=Lib.hid (S0.out.mono BX.out);have N7:Hid (W.heap.size≤gF):=n7;clear hb hc BA RA c0 a1 hlk n7 S0;have b0:wB.cell? ⟨gF,0,none⟩=some (.int .i64 p):=row_cell G1.out 0;have b1:wB.cell? ⟨gF,1,none⟩=some (.slice a q cap):=row_cell G1.out 1;have a0:wB.cell? ⟨w.heap.size,0,none⟩=some (.int .i64 o):=row_cell S1.out.adr 0;have a2:wB.cell? ⟨w.heap.size,2,none⟩=some (.int .i64 r):=row_cell S1.out.adr 2;have x0:wB.cell? ⟨w.heap.size+1,0,none⟩=some (.int .u8 x.1):=row_cell S1.out.arg 0;have x1:wB.cell? ⟨w.heap.size+1,1,none⟩=some (.int .u8 x.2.1):=row_cell S1.out.arg 1;have x2:wB.cell? ⟨w.heap.size+1,2,none⟩=some (.int .u8 x.2.2.1):=row_cell S1.out.arg 2;have x3:wB.cell? ⟨w.heap.size+1,3,none⟩=some (.int .u8 x.2.2.2):=row_cell S1.out.arg 3;have DO:=Lib.hid (do_err wB p (.slice a q cap) l (RR.out.below S1.out.bel) OK.out o r k x HE.out.1 HE.out.2);clear SS BX G1 N7 L LB;unfold file rec4 at DO;go_wp2_with fail;refine DO.out.mono ?_;rintro e w3 ⟨ua,ucap,rfl,b3⟩;obtain ⟨t1,t2,tB⟩:=two_res w3 0 (.slice ua 0 ucap) z4;have S3:=Lib.hid ((S1.out.mono b3).mono tB);clear t1 t2 tB b3 DO b0 b1 a0 a2 x0 x1 x2 x3 S1;unfold z4;unfold arr4 z4 at S3;go_wp2_with fail;generalize ((w3.alloc (.cells #[.int .i64 0,.slice ua 0 ucap] 71)).alloc (.cells #[.int .u8 0,.int .u8 0,.int .u8 0,.int .u8 0] 26))=Wq at *;have S1:Hid (Ask0 w o f r x Wq):=S3;clear S3;have C0:Adr w o f r Wq.drew:=S1.out.adr;have a1:=Sc.cell_in (C:=Adr w o f r) (a:=⟨w.heap.size,1,none⟩) (v:=.int .i64 f) (fun W' h=>row_cell h 1);have ne:Nonempty (Sc.In (Adr w o f r)):=⟨⟨_,C0⟩⟩;refine Sc.start (Adr w o f r) [(false,0),(false,1),(false,2),(false,3),(false,4),(false,5),(false,6),(true,7),(false,8)] (by kernel_rfl) (by kernel_rfl) (by kernel_rfl) C0 ?_;dsimp only [Sd.picks,List.getElem?_cons_succ,List.getElem?_cons_zero]
 repeat (refine Sd.lit ?_;quiet_step (fail);refine wpQuiet_nil ?_)
 have S2:=Lib.hid (S1.out.mono ((Below.refl Wq.heap.size Wq).drew));clear S1 C0 a1;generalize Wq.drew=Wy at *;refine Sd.call (by rfl) (fun K hK=>?_);have d0:Wy.cell? ⟨w.heap.size+2,0,none⟩=some (.int .u8 0):=row_cell S2.out.res 0;have d1:Wy.cell? ⟨w.heap.size+2,1,none⟩=some (.int .u8 0):=row_cell S2.out.res 1;have d2:Wy.cell? ⟨w.heap.size+2,2,none⟩=some (.int .u8 0):=row_cell S2.out.res 2;have d3:Wy.cell? ⟨w.heap.size+2,3,none⟩=some (.int .u8 0):=row_cell S2.out.res 3;have k0:=row_frozen S2.out.res 0;have k1:=row_frozen S2.out.res 1;have k2:=row_frozen S2.out.res 2;have k3:=row_frozen S2.out.res 3;have L2:Adr w o f r (sto4 Wy (w.heap.size+2) 0 z4):=sto4_other S2.out.adr (by omega);have R3:=Lib.hid (sto4_row S2.out.res z4);have B3:=Lib.hid (sto4_below (o:=0) (r:=z4) S2.out.bel (show w.heap.size≤w.heap.size+2 by omega));clear S2;go_simp;refine hK _ _ (Sc.Cl.of L2) ?_;clear hK K d0 d1 d2 d3 k0 k1 k2 k3 L2
 show Sd.wpSd _ _ _ _ _ _ (sto4 Wy (w.heap.size+2) 0 z4)
 generalize sto4 Wy (w.heap.size+2) 0 z4=Wz at *
 repeat (refine Sd.lit ?_;quiet_step (fail);refine wpQuiet_nil ?_)
 refine Sd.done ?_;go_wp2
 (try simp only [Exit.inBlock,Exit.then])
 exact bodyPost_ret (results_rec (p:=6) (r:=7) rfl _ _ (w.heap.size+2) z4 (fault f k) rfl rfl R3.out) rfl ⟨rfl,B3.out⟩
end Go.Proofs.YtelgnhmcnfibnaaGreatDoor.Fs
namespace Go.Proofs.YtelgnhmcnfibnaaGreatDoor.Fs
open Go.RowKit Go.Maps
open Fl (R4 z4 K4 rec4 rat goodF goodFB okR okL doE newR file arr4 sto2 sto4 sto2_row sto2_other sto2_below sto2_size sto4_row sto4_other sto4_below sto4_size row_cell row_frozen do_any DoPost)
open Rw (Rd Ow At)
attribute [local irreducible] Sd.wpSd wpQuiet Sf.wpSf
theorem Sto.place2 {w W W':World} {s b B:Nat} {F:Nat→Prop} {C:List Ent} {d:Int} {c:Ent} (h:Sto w s F (.map (some b)) C d) (hb:Below w.heap.size w W) (hB:w.heap.size≤B) (hg:W.grownBy W' (some b)) (mp:Mp W' F (.map (some b)) (Fs.put Ent.n c C)) (ow:Ow K4 W B 26 c.sl c.l) (hn:0≤c.n∧c.n≤63) (hgd:goodF c.p c.l) (hl:okL c.l) :
 St W' s (fun k=>F k∨(B≤k∧k < W'.heap.size)) ((Fs.put Ent.n c C).map Ent.abs) d∧Only F w W':=by
 have hne:=h.map_ne;have hFb:=h.mp.isMap.1;have hbl:=h.low b hFb;have hsl:=h.low s h.foot;have O:Only F w W':=(Only.of_below hb).trans (Only.grown (G:=fun k=>k=b) rfl hg) fun k _ e=>e ▸ hFb;have off:∀ k,c.sl.ownBlock=some k→B≤k∧k < W.heap.size:=ow_new ow;refine ⟨⟨_,_,h.put (w':=W') (d':=d) (F':=fun k=>F k∨(B≤k∧k < W'.heap.size)) ?_ (fun k hk=>.inl hk) (mp.wide fun k hk=>.inl hk) (fun e he hne=>?_) ?_ (fun k hk=>.inr ⟨(off k hk).1,Nat.lt_of_lt_of_le (off k hk).2 hg.size⟩) (fun e he hne k hk hk'=>?_) hn hgd hl (fun k hk=>?_),rfl⟩,O⟩
 ·rw [hg.block s (Nat.lt_of_lt_of_le hsl hb.size) (by intro e;injection e with e;exact hne e.symm),hb.block s hsl]
  exact h.row
 ·exact ow_only (G:=fun k=>k=b) ((h.own e he).keep hb) (fun k hk e'=>(h.off he).2 b rfl (by rw [hk,e'])) (Only.grown rfl hg)
 ·exact ow_only (G:=fun k=>k=b) (ow.low (Nat.zero_le _)) (fun k hk e'=>by have:=(off k hk).1;omega) (Only.grown rfl hg)
 ·have:=(off k hk).1
  have:=h.low k (h.mine e he k hk')
  omega
 ·rcases hk with hk | ⟨_,hk⟩
  ·have:=h.low k hk
   have:=O.size
   omega
  ·exact hk
def AskYes (w:World) (s:Nat) (F:Nat→Prop) (d:Int) (y:R4) (A':Abs) (e:Ending) (w':World):Prop:=e = .returned (.tuple #[rec4 y,.nilIface])∧St w' s (Fx F w w') A' d∧Only F w w'
structure OkC (w:World) (s:Nat) (m:Value) (d o f r:Int) (g:Nat) (p:Int) (u:Value) (W:World):Prop where
 row:W.heap[s]? = some (.cells #[m,.int .i64 d] 93 (0,0))
 adr:W.heap[w.heap.size]? = some (.cells #[.int .i64 o,.int .i64 f,.int .i64 r] 24 (0,0))
 box:W.heap[g]? = some (.cells #[.int .i64 p,u] 71 (0,0))
set_option maxHeartbeats 4000000 in
theorem ask_ok {w:World} {s b:Nat} {F:Nat→Prop} {C:List Ent} {d:Int} (S:Sto w s F (.map (some b)) C d) (o f r:Int) (x:R4) (hx:okR x) (hn:Wf f) {c:Ent} (hk:look Ent.n f C=some c) (he:doE c.p c.l o r=0) :
 Calls Tryz.prog 67 #[.pointer (some ⟨s,0,none⟩),Ad.addr o f r,rec4 x] w (AskYes w s F d (newR c.l o r x) (put key (f,c.p,c.l.set r.toNat (newR c.l o r x)) (C.map Ent.abs))):=by
 obtain ⟨ho,hgd,hok,_,hnm,hcm⟩:=S.find hk;have RR:=Lib.hid (ho.rd);have OK:=Lib.hid hok;have A0:=ask0_of w o f r x;have S0:Hid (Ask0 w o f r x (((w.alloc (.cells #[.int .i64 o,.int .i64 f,.int .i64 r] 24)).alloc (.cells #[.int .u8 x.1,.int .u8 x.2.1,.int .u8 x.2.2.1,.int .u8 x.2.2.2] 26)).alloc (.cells #[.int .u8 0,.int .u8 0,.int .u8 0,.int .u8 0] 26))):=A0;have SS:=Lib.hid (S.below A0.bel);have HN:=Lib.hid hn;have L:=Lib.hid (lv_some hk);have LB:=Lib.hid (lb_some hk);have SW:=Lib.hid S;have hne:=S.map_ne;have hlen:=S.len;have hsl:=S.low s S.foot;have hbl:=S.low b S.mp.isMap.1;obtain ⟨cn,p,a,cap,l⟩:=c;unfold Ent.sl at RR;simp only at *;have FIN:Hid (∀ (B:Nat) (au:Option Addr) (cu:Nat) (W W' W'':World),w.heap.size+3≤B→Below w.heap.size w W→W.grownBy W' (some b)→Ow K4 W B 26 (.slice au l.length cu) (l.set r.toNat (newR l o r x))→(∀ c:Ent,c.n=f→c.file=file p (.slice au l.length cu)→c.l=l.set r.toNat (newR l o r x)→Mp W' F (.map (some b)) (put Ent.n c C))→B≤W'.heap.size→Only (fun k=>k=w.heap.size+2) W' W''→AskYes w s F d (newR l o r x) (put key (f,p,l.set r.toNat (newR l o r x)) (C.map Ent.abs)) (.returned (.tuple #[rec4 (newR l o r x),.nilIface])) W''):=fun B au cu W W' W'' hB hb hgr ow mp hBW o2=>by
  have hlen2:(l.set r.toNat (newR l o r x)).length=l.length:=List.length_set ..;have hfile:(⟨f,p,au,cu,l.set r.toNat (newR l o r x)⟩:Ent).file=file p (.slice au l.length cu):=by unfold Ent.file Ent.sl;rw [hlen2]
  have ow':Ow K4 W B 26 (⟨f,p,au,cu,l.set r.toNat (newR l o r x)⟩:Ent).sl (l.set r.toNat (newR l o r x)):=by unfold Ent.sl;rw [hlen2];exact ow
  obtain ⟨S1,O1⟩:=S.place2 (c:=⟨f,p,au,cu,l.set r.toNat (newR l o r x)⟩) hb (by omega) hgr (mp _ rfl hfile rfl) ow' hnm (good_do he) (okL_set hok (okR_new hok hx));rw [abs_put] at S1;have O2:Only F w W'':=O1.trans (o2.mono (G':=fun k=>k=w.heap.size+2) fun _ _ g=>g) fun k hk e=>by omega
  have S2:=S1.only (G:=fun k=>k=w.heap.size+2) (fun k hk e=>by
   rcases hk with hk | ⟨hk,_⟩
   ·have:=S.low k hk;omega
   ·omega) o2
  refine ⟨rfl,S2.wide (fun k hk=>?_) (Fx.low S.low O2.size),O2⟩
  rcases hk with hk | ⟨h1,h2⟩
  ·exact .inl hk
  ·exact .inr ⟨by omega,Nat.lt_of_lt_of_le h2 o2.size⟩
 have HE:=Lib.hid he;obtain ⟨q,hq⟩:∃ q,q=l.length:=⟨_,rfl⟩;rw [← hq] at RR L FIN;have HQ:=Lib.hid hq;clear S hk A0 hn ho hgd hok hcm he hq hnm;unfold rec4;unfold Ad.addr
 go_enter Tryz.func67,Tryz.ntmps67
 go_wp2_with fail;generalize (((w.alloc (.cells #[.int .i64 o,.int .i64 f,.int .i64 r] 24)).alloc (.cells #[.int .u8 x.1,.int .u8 x.2.1,.int .u8 x.2.2.1,.int .u8 x.2.2.2] 26)).alloc (.cells #[.int .u8 0,.int .u8 0,.int .u8 0,.int .u8 0] 26))=W at *;have c0:=Sd.cell_by (show W.cell? ⟨s,0,none⟩=some (.map (some b)) from row_cell SS.out.row 0);have a1:=Sd.cell_by (show W.cell? ⟨w.heap.size,1,none⟩=some (.int .i64 f) from row_cell S0.out.adr 1);have hlk:∀ P:Sd.By W,(Instr.lookup 91 (.map (some b)) (.int .i64 f) true).run Tryz.prog P.world = .ok (.tuple #[.agg #[.int .i64 p,.slice a q cap],.bool true]) P.world:=fun P=>by
  have:=run_look (SS.out.below P.below).mp HN.out true;rw [L.out,LB.out] at this;exact this
 refine Sf.start [(0,0),(0,1),(0,2),(0,3),(0,4),(0,5),(0,6),(0,7),(0,8),(0,9),(2,10),(1,11),(0,12)] [⟨10,8,#[.int .i64 0,.slice none 0 0],71⟩] (by kernel_rfl) (by kernel_rfl) (by kernel_rfl) (by decide) (by decide) ?_ ?_ ?_
 ·simp
 ·intro f hf
  simp only [List.mem_cons,List.not_mem_nil,or_false] at hf;subst hf;exact ⟨_,rfl,rfl,rfl,fun ρ w=>by go_simp⟩
 dsimp only [Sf.picks,List.getElem?_cons_succ,List.getElem?_cons_zero];have BW:=Lib.hid ((Below.refl W.heap.size W).drew)
 repeat (refine Sf.lit (fun xs=>?_);simp only [Sf.fill,List.foldl_cons,List.foldl_nil];quiet_step (fail);refine wpQuiet_nil ?_)
 refine Sf.meet (fun gF w7 hb hc row n7 hH hL=>?_);have B7:=Lib.hid (BW.out.trans (hb.mono BW.out.size));have R7:Hid (w7.heap[gF]? = some (.cells #[.int .i64 0,.slice none 0 0] 71 (0,0))):=row;clear hb hc row hH hL BW;refine Sf.call (fun xs w9 hb hc=>⟨by rfl,fun K hK=>?_⟩);have B9:=Lib.hid (B7.out.trans (hb.mono B7.out.size));have R9:=(hb.block _ (lt_of_block R7.out)).trans R7.out;have k0:w9.cell? ⟨gF,0,none⟩=some (.int .i64 0):=row_cell R9 0;have k1:w9.cell? ⟨gF,1,none⟩=some (.slice none 0 0):=row_cell R9 1;have f0:=row_frozen R9 0;have f1:=row_frozen R9 1;have RA:=Lib.hid (sto2_row R9 p (.slice a q cap));have BA:=Lib.hid (sto2_below (p:=p) (v:=.slice a q cap) B9.out n7);have hsz:=sto2_size w9 gF p (.slice a q cap);clear hb hc B7 R7 R9 B9;simp only [Sf.fill,List.foldl_nil];go_simp;refine hK _ _ (Sd.Cl.of BA.out) (by rw [← hsz];exact Nat.le_refl _) (fun h=>absurd rfl h) ?_;clear hK K k0 k1 f0 f1 hsz
 show Sf.wpSf _ _ _ _ _ _ _ _ _ _ (sto2 w9 gF p (.slice a q cap))
 generalize sto2 w9 gF p (.slice a q cap)=wA at *
 repeat (refine Sf.lit (fun xs=>?_);simp only [Sf.fill,List.foldl_nil];quiet_step (fail);refine wpQuiet_nil ?_)
 refine Sf.done (fun wB hb hc=>?_);have BX:=Lib.hid (BA.out.trans (hb.mono BA.out.size));have G1:=Lib.hid ((hb.block _ (lt_of_block RA.out)).trans RA.out);have S1:=Lib.hid (S0.out.mono BX.out);have N7:Hid (W.heap.size≤gF):=n7;clear hb hc BA RA c0 a1 hlk n7 S0;have b0:wB.cell? ⟨gF,0,none⟩=some (.int .i64 p):=row_cell G1.out 0;have b1:wB.cell? ⟨gF,1,none⟩=some (.slice a q cap):=row_cell G1.out 1;have a0:wB.cell? ⟨w.heap.size,0,none⟩=some (.int .i64 o):=row_cell S1.out.adr 0;have a2:wB.cell? ⟨w.heap.size,2,none⟩=some (.int .i64 r):=row_cell S1.out.adr 2;have x0:wB.cell? ⟨w.heap.size+1,0,none⟩=some (.int .u8 x.1):=row_cell S1.out.arg 0;have x1:wB.cell? ⟨w.heap.size+1,1,none⟩=some (.int .u8 x.2.1):=row_cell S1.out.arg 1;have x2:wB.cell? ⟨w.heap.size+1,2,none⟩=some (.int .u8 x.2.2.1):=row_cell S1.out.arg 2;have x3:wB.cell? ⟨w.heap.size+1,3,none⟩=some (.int .u8 x.2.2.2):=row_cell S1.out.arg 3;have DO:=Lib.hid (do_ok wB p (.slice a q cap) l (RR.out.below S1.out.bel) OK.out o r x HE.out);rw [← HQ.out] at DO;have HB3:Hid (w.heap.size+3≤wB.heap.size):=S1.out.siz;clear BX G1 N7 L LB RR OK HE SS;generalize l.set r.toNat (newR l o r x)=l2 at *;generalize newR l o r x=y at *;unfold file rec4 at DO;go_wp2_with fail;refine DO.out.mono ?_;rintro e w3 ⟨ua,ucap,rfl,o3,b3⟩;obtain ⟨t1,t2,tB⟩:=two_res w3 p (.slice ua q ucap) y;have S3:=Lib.hid ((S1.out.mono b3).mono tB);have T1:=Lib.hid t1;have T2:=Lib.hid t2;have O3:=Lib.hid (o3.keep tB);have hw3:Hid (wB.heap.size≤w3.heap.size):=b3.size;clear t1 t2 tB b3 DO b0 b1 a0 a2 x0 x1 x2 x3 S1 o3;unfold arr4 at S3 T1 T2 O3;go_wp2_with fail;have TZ:Hid (w3.heap.size+2=((w3.alloc (.cells #[.int .i64 p,.slice ua q ucap] 71)).alloc (.cells #[.int .u8 y.1,.int .u8 y.2.1,.int .u8 y.2.2.1,.int .u8 y.2.2.2] 26)).heap.size):=by unfold Hid;simp
 generalize ((w3.alloc (.cells #[.int .i64 p,.slice ua q ucap] 71)).alloc (.cells #[.int .u8 y.1,.int .u8 y.2.1,.int .u8 y.2.2.1,.int .u8 y.2.2.2] 26))=Wq at *;have S5:=Lib.hid (SW.out.below S3.out.bel);have C0:OkC w s (.map (some b)) d o f r w3.heap.size p (.slice ua q ucap) Wq.drew:=⟨S5.out.row,S3.out.adr,T1.out⟩;have c0:=Sc.cell_in (C:=OkC w s (.map (some b)) d o f r w3.heap.size p (.slice ua q ucap)) (a:=⟨s,0,none⟩) (fun W' h=>row_cell h.row 0);have a1:=Sc.cell_in (C:=OkC w s (.map (some b)) d o f r w3.heap.size p (.slice ua q ucap)) (a:=⟨w.heap.size,1,none⟩) (v:=.int .i64 f) (fun W' h=>row_cell h.adr 1);have r0:=Sc.cell_in (C:=OkC w s (.map (some b)) d o f r w3.heap.size p (.slice ua q ucap)) (a:=⟨w3.heap.size,0,none⟩) (fun W' h=>row_cell h.box 0);have r1:=Sc.cell_in (C:=OkC w s (.map (some b)) d o f r w3.heap.size p (.slice ua q ucap)) (a:=⟨w3.heap.size,1,none⟩) (fun W' h=>row_cell h.box 1);have ne:Nonempty (Sc.In (OkC w s (.map (some b)) d o f r w3.heap.size p (.slice ua q ucap))):=⟨⟨_,C0⟩⟩;refine Sc.start (OkC w s (.map (some b)) d o f r w3.heap.size p (.slice ua q ucap)) [(false,0),(false,1),(false,2),(false,3),(false,4),(false,5),(false,6),(true,7)] (by kernel_rfl) (by kernel_rfl) (by kernel_rfl) C0 ?_;dsimp only [Sd.picks,List.getElem?_cons_succ,List.getElem?_cons_zero]
 repeat (refine Sd.lit ?_;quiet_step (fail);refine wpQuiet_nil ?_)
 have BD:Below Wq.heap.size Wq Wq.drew:=(Below.refl _ _).drew;have S6:=Lib.hid (S3.out.mono BD);have M6:=Lib.hid (S5.out.below BD).mp;have R6:=Lib.hid (S5.out.below BD).row;have T6:Hid (Wq.drew.heap[w3.heap.size]? = _):=T1.out;have T7:Hid (Wq.drew.heap[w3.heap.size+1]? = _):=T2.out;have O6:=Lib.hid (O3.out.keep BD);have Z6:Hid (w3.heap.size+2=Wq.drew.heap.size):=TZ.out;clear c0 a1 r0 r1 C0 S3 S5 T1 T2 O3 TZ BD;generalize Wq.drew=Wy at *;refine Sd.call (by rfl) (fun K hK=>?_);have hcl:C.length < maxLen:=by unfold maxLen;omega
 have hll2:Hid (l2.length=q):=by
  have:=O6.out;unfold Ow World.ownsRow at this
  rcases this.2 with ⟨e,h0⟩ | ⟨g,cp,cur,e,_⟩
  ·injection e with _ e _;exact h0.trans e.symm
  ·injection e with _ e _;exact e.symm
 have hfl:(⟨f,p,ua,ucap,l2⟩:Ent).file = .agg #[.int .i64 p,.slice ua q ucap]:=by unfold Ent.file Ent.sl Fl.file;rw [hll2.out]
 refine wp_put _ _ _ rfl rfl M6.out ⟨f,p,ua,ucap,l2⟩ rfl (by rw [hfl];rfl) HN.out hcl (fun w4 m4 g4=>?_);have hbne1:b≠w3.heap.size:=by have:=HB3.out;have:=hw3.out;omega
 have hbne2:b≠w3.heap.size+1:=by have:=HB3.out;have:=hw3.out;omega
 have RES:=Lib.hid (fun W''=>FIN.out wB.heap.size ua ucap Wy w4 W'' HB3.out S6.out.bel g4 O6.out (fun c e1 e2 e3=>by
  obtain ⟨cn',cp,ca,cc,cl⟩:=c;simp only at e1 e3;subst e1 e3;unfold Ent.file Fl.file Ent.sl at e2;injection e2 with e2;have e4:=congrArg (fun t:Array Value=>t[0]?) e2;have e5:=congrArg (fun t:Array Value=>t[1]?) e2
  simp at e4 e5
  obtain ⟨rfl,_,rfl⟩:=e5;subst e4
  exact m4) (by have:=g4.size;have:=Z6.out;have:=hw3.out;omega))
 have old:∀ k,k < Wy.heap.size→k≠b→w4.heap[k]? = Wy.heap[k]?:=fun k hk hne=>g4.block k hk (by intro e;injection e with e;exact hne e);have N1:w4.heap[s]? = _:=(old s (lt_of_block R6.out) (fun e=>hne e.symm)).trans R6.out;have N2:w4.heap[w.heap.size]? = _:=(old _ (lt_of_block S6.out.adr) (by omega)).trans S6.out.adr;have N3:w4.heap[w3.heap.size]? = _:=(old _ (lt_of_block T6.out) (fun e=>hbne1 e.symm)).trans T6.out;have N4:w4.heap[w3.heap.size+1]? = _:=(old _ (lt_of_block T7.out) (fun e=>hbne2 e.symm)).trans T7.out;have N5:w4.heap[w.heap.size+2]? = _:=(old _ (lt_of_block S6.out.res) (by omega)).trans S6.out.res;refine hK _ _ (Sc.Cl.of ⟨N1,N2,N3⟩) ?_;clear hK K m4 g4 FIN N1 N2 N3 old R6 M6 T6 T7 O6;refine Sd.done ?_;have y0:w4.cell? ⟨w3.heap.size+1,0,none⟩=some (.int .u8 y.1):=row_cell N4 0;have y1:w4.cell? ⟨w3.heap.size+1,1,none⟩=some (.int .u8 y.2.1):=row_cell N4 1;have y2:w4.cell? ⟨w3.heap.size+1,2,none⟩=some (.int .u8 y.2.2.1):=row_cell N4 2;have y3:w4.cell? ⟨w3.heap.size+1,3,none⟩=some (.int .u8 y.2.2.2):=row_cell N4 3;have d0:w4.cell? ⟨w.heap.size+2,0,none⟩=some (.int .u8 0):=row_cell N5 0;have d1:w4.cell? ⟨w.heap.size+2,1,none⟩=some (.int .u8 0):=row_cell N5 1;have d2:w4.cell? ⟨w.heap.size+2,2,none⟩=some (.int .u8 0):=row_cell N5 2;have d3:w4.cell? ⟨w.heap.size+2,3,none⟩=some (.int .u8 0):=row_cell N5 3;have k0:=row_frozen N5 0;have k1:=row_frozen N5 1;have k2:=row_frozen N5 2;have k3:=row_frozen N5 3;have R9:=Lib.hid (sto4_row N5 y);have O9:Hid (Only (fun k=>k=w.heap.size+2) w4 (sto4 w4 (w.heap.size+2) 0 y)):=by
  have O1:∀ W:World,∀ o v,Only (fun k=>k=w.heap.size+2) W (W.setCell ⟨w.heap.size+2,o,none⟩ v):=fun W o v=>Only.set (fun k=>k=w.heap.size+2) W (a:=⟨w.heap.size+2,o,none⟩) rfl v;exact (((O1 _ _ _).trans (O1 _ _ _) fun _ _ g=>g).trans (O1 _ _ _) fun _ _ g=>g).trans (O1 _ _ _) fun _ _ g=>g
 clear N4 N5 S6 HB3 hw3 Z6;go_wp2
 (try simp only [Exit.inBlock,Exit.then])
 exact bodyPost_ret (results_rec (p:=6) (r:=7) rfl _ _ (w.heap.size+2) y .nilIface rfl rfl R9.out) rfl (RES.out _ O9.out)
end Go.Proofs.YtelgnhmcnfibnaaGreatDoor.Fs
namespace Go.Proofs.YtelgnhmcnfibnaaGreatDoor.Fs
open Go.RowKit Go.Maps
open Fl (R4 z4 K4 rec4 rat goodF goodFB okR okL doE newR file arr4 sto2 sto4 sto4_row sto4_other sto4_below sto4_size row_cell row_frozen)
open Ad (goodB)
open Rw (Rd Ow At)
theorem ask_any {w:World} {s:Nat} {F:Nat→Prop} {m:Value} {C:List Ent} {d:Int} (S:Sto w s F m C d) (o f r:Int) (x:R4) (hx:okR x) (hn:goodB o f r=true) :
 (∃ k,k≠0∧dE (C.map Ent.abs) o f r=k∧Calls Tryz.prog 67 #[.pointer (some ⟨s,0,none⟩),Ad.addr o f r,rec4 x] w (AskNo w f k)) ∨
 (dE (C.map Ent.abs) o f r=0∧Calls Tryz.prog 67 #[.pointer (some ⟨s,0,none⟩),Ad.addr o f r,rec4 x] w (AskYes w s F d (dV (C.map Ent.abs) o f r x) (dA (C.map Ent.abs) o f r x))):=by
 have hg:Ad.good o f r:=of_decide_eq_true hn;have wf:Wf f:=WalkArith.wf_i64 (by unfold Ad.good at hg;omega)
 cases hk:look Ent.n f C with
 | none=>exact .inl ⟨3,by decide,by unfold dE;rw [if_pos hn,look_abs,hk];rfl,ask_none S o f r x wf hk⟩
 | some c =>
   have e:dE (C.map Ent.abs) o f r=doE c.p c.l o r:=by unfold dE;rw [if_pos hn,look_abs,hk];rfl
   by_cases h0:doE c.p c.l o r=0
   ·refine .inr ⟨e.trans h0,?_⟩
    have e1:dV (C.map Ent.abs) o f r x=newR c.l o r x:=by
     unfold dV;rw [e,h0,look_abs,hk]
     rfl
    have e2:dA (C.map Ent.abs) o f r x=put key (f,c.p,c.l.set r.toNat (newR c.l o r x)) (C.map Ent.abs):=by
     unfold dA;rw [e,h0,look_abs,hk]
     rfl
    rw [e1,e2]
    rcases S.mp with ⟨_,rfl⟩ | ⟨b,rfl,_,_⟩
    ·cases hk
    ·exact ask_ok S o f r x hx wf hk h0
   ·exact .inl ⟨_,h0,e,ask_err S o f r _ x wf hk rfl h0⟩
theorem Sto.count {w:World} {s:Nat} {F:Nat→Prop} {m:Value} {C:List Ent} {d:Int} (h:Sto w s F m C d) (d':Int):Sto (w.setCell ⟨s,1,none⟩ (.int .i64 d')) s F m C d'∧Only F w (w.setCell ⟨s,1,none⟩ (.int .i64 d')):=by
 have O:Only (fun k=>k=s) w (w.setCell ⟨s,1,none⟩ (.int .i64 d')):=Only.set (fun k=>k=s) w (a:=⟨s,1,none⟩) rfl _;refine ⟨⟨?_,h.foot,h.mp.kept fun b hb=>?_,fun c hc=>ow_only (G:=fun k=>k=s) (h.own c hc) (fun k hk e=>(h.off hc).1 (e ▸ hk)) O,h.mine,h.apart,h.ok,fun k hk=>Nat.lt_of_lt_of_le (h.low k hk) O.size⟩,O.mono fun k _ e=>e ▸ h.foot⟩
 ·have:=Rw.heap_setCell_same (j:=1) h.row (.int .i64 d')
  rw [this]
  simp
 ·subst hb
  exact Below.heap_setCell w _ _ b h.map_ne
def DoSPost (w:World) (s:Nat) (F:Nat→Prop) (d:Int) (y:R4) (k:Int) (A':Abs) (e:Ending) (w':World):Prop:=e = .returned (.tuple #[rec4 y,.int .i64 k])∧St w' s (Fx F w w') A' d∧Only F w w'
theorem o_sto4 (W:World) (g:Nat) (y:R4):Only (fun k=>k=g) W (sto4 W g 0 y):=by
 have O1:∀ W:World,∀ o v,Only (fun k=>k=g) W (W.setCell ⟨g,o,none⟩ v):=fun W o v=>Only.set (fun k=>k=g) W (a:=⟨g,o,none⟩) rfl v;exact (((O1 _ _ _).trans (O1 _ _ _) fun _ _ g=>g).trans (O1 _ _ _) fun _ _ g=>g).trans (O1 _ _ _) fun _ _ g=>g
def DoNo (w:World) (k:Int) (e:Ending) (w':World):Prop:=e = .returned (.tuple #[rec4 z4,.int .i64 k])∧Below w.heap.size w w'
set_option maxHeartbeats 1000000 in
theorem do_nil (w:World) (o f r:Int) (x:R4):Calls Tryz.prog 60 #[.pointer none,Ad.addr o f r,rec4 x] w (DoNo w 1):=by
 have A0:=ask0_of w o f r x;have S0:Hid (Ask0 w o f r x (((w.alloc (.cells #[.int .i64 o,.int .i64 f,.int .i64 r] 24)).alloc (.cells #[.int .u8 x.1,.int .u8 x.2.1,.int .u8 x.2.2.1,.int .u8 x.2.2.2] 26)).alloc (.cells #[.int .u8 0,.int .u8 0,.int .u8 0,.int .u8 0] 26))):=A0;clear A0;unfold rec4;unfold Ad.addr
 go_enter Tryz.func60,Tryz.ntmps60
 go_upto_region 2 with fail;generalize (((w.alloc (.cells #[.int .i64 o,.int .i64 f,.int .i64 r] 24)).alloc (.cells #[.int .u8 x.1,.int .u8 x.2.1,.int .u8 x.2.2.1,.int .u8 x.2.2.2] 26)).alloc (.cells #[.int .u8 0,.int .u8 0,.int .u8 0,.int .u8 0] 26))=W at *;have d0:W.cell? ⟨w.heap.size+2,0,none⟩=some (.int .u8 0):=row_cell S0.out.res 0;have d1:W.cell? ⟨w.heap.size+2,1,none⟩=some (.int .u8 0):=row_cell S0.out.res 1;have d2:W.cell? ⟨w.heap.size+2,2,none⟩=some (.int .u8 0):=row_cell S0.out.res 2;have d3:W.cell? ⟨w.heap.size+2,3,none⟩=some (.int .u8 0):=row_cell S0.out.res 3;have k0:=row_frozen S0.out.res 0;have k1:=row_frozen S0.out.res 1;have k2:=row_frozen S0.out.res 2;have k3:=row_frozen S0.out.res 3;have R3:=Lib.hid (sto4_row S0.out.res z4);have B3:=Lib.hid (sto4_below (o:=0) (r:=z4) S0.out.bel (show w.heap.size≤w.heap.size+2 by omega));clear S0;go_wp2
 (try simp only [Exit.inBlock,Exit.then])
 exact bodyPost_ret (results_rec (p:=6) (r:=7) rfl _ _ (w.heap.size+2) z4 (.int .i64 1) rfl rfl R3.out) rfl ⟨rfl,B3.out⟩
set_option maxHeartbeats 1000000 in
theorem do_1 (w:World) (s:Nat) (o f r:Int) (x:R4) (hn:goodB o f r=false):Calls Tryz.prog 60 #[.pointer (some ⟨s,0,none⟩),Ad.addr o f r,rec4 x] w (DoNo w 1):=by
 have A0:=ask0_of w o f r x;have S0:Hid (Ask0 w o f r x (((w.alloc (.cells #[.int .i64 o,.int .i64 f,.int .i64 r] 24)).alloc (.cells #[.int .u8 x.1,.int .u8 x.2.1,.int .u8 x.2.2.1,.int .u8 x.2.2.2] 26)).alloc (.cells #[.int .u8 0,.int .u8 0,.int .u8 0,.int .u8 0] 26))):=A0;have GA:∀ W,Calls Tryz.prog 39 #[Ad.addr o f r] W fun e w'=>e = .returned (.bool false)∧Below W.heap.size W w':=fun W=>by have:=Ad.good_any W o f r;rwa [hn] at this
 have HG:=Lib.hid GA;clear A0 GA hn;unfold rec4;unfold Ad.addr at *
 go_enter Tryz.func60,Tryz.ntmps60
 have AC:=S0.out;have a0:=row_cell AC.adr 0;have a1:=row_cell AC.adr 1;have a2:=row_cell AC.adr 2;clear AC;go_wp2_with fail;generalize (((w.alloc (.cells #[.int .i64 o,.int .i64 f,.int .i64 r] 24)).alloc (.cells #[.int .u8 x.1,.int .u8 x.2.1,.int .u8 x.2.2.1,.int .u8 x.2.2.2] 26)).alloc (.cells #[.int .u8 0,.int .u8 0,.int .u8 0,.int .u8 0] 26))=W at *;refine (HG.out _).mono ?_;rintro e w1 ⟨rfl,b1⟩;have S2:=Lib.hid (S0.out.mono b1);clear b1 HG S0 a0 a1 a2;have d0:w1.cell? ⟨w.heap.size+2,0,none⟩=some (.int .u8 0):=row_cell S2.out.res 0;have d1:w1.cell? ⟨w.heap.size+2,1,none⟩=some (.int .u8 0):=row_cell S2.out.res 1;have d2:w1.cell? ⟨w.heap.size+2,2,none⟩=some (.int .u8 0):=row_cell S2.out.res 2;have d3:w1.cell? ⟨w.heap.size+2,3,none⟩=some (.int .u8 0):=row_cell S2.out.res 3;have k0:=row_frozen S2.out.res 0;have k1:=row_frozen S2.out.res 1;have k2:=row_frozen S2.out.res 2;have k3:=row_frozen S2.out.res 3;have R3:=Lib.hid (sto4_row S2.out.res z4);have B3:=Lib.hid (sto4_below (o:=0) (r:=z4) S2.out.bel (show w.heap.size≤w.heap.size+2 by omega));clear S2;go_wp2
 (try simp only [Exit.inBlock,Exit.then])
 exact bodyPost_ret (results_rec (p:=6) (r:=7) rfl _ _ (w.heap.size+2) z4 (.int .i64 1) rfl rfl R3.out) rfl ⟨rfl,B3.out⟩
set_option maxHeartbeats 2000000 in
theorem do_no (w:World) (s:Nat) (o f r k:Int) (x:R4) (hg:Glob w) (h5:k≠5) (hn:goodB o f r=true) (ha:∀ W,Below w.heap.size w W→w.heap.size+3≤W.heap.size→Calls Tryz.prog 67 #[.pointer (some ⟨s,0,none⟩),Ad.addr o f r,rec4 x] W (AskNo W f k)) :
 Calls Tryz.prog 60 #[.pointer (some ⟨s,0,none⟩),Ad.addr o f r,rec4 x] w (DoNo w k):=by
 have A0:=ask0_of w o f r x;have S0:Hid (Ask0 w o f r x (((w.alloc (.cells #[.int .i64 o,.int .i64 f,.int .i64 r] 24)).alloc (.cells #[.int .u8 x.1,.int .u8 x.2.1,.int .u8 x.2.2.1,.int .u8 x.2.2.2] 26)).alloc (.cells #[.int .u8 0,.int .u8 0,.int .u8 0,.int .u8 0] 26))):=A0;have HGL:=Lib.hid hg;have H5:=Lib.hid (decide_eq_false h5);clear hg h5;have GA:∀ W,Calls Tryz.prog 39 #[Ad.addr o f r] W fun e w'=>e = .returned (.bool true)∧Below W.heap.size W w':=fun W=>by have:=Ad.good_any W o f r;rwa [hn] at this
 have HG:=Lib.hid GA;have HA:=Lib.hid ha;clear A0 GA hn ha;unfold rec4 at *;unfold Ad.addr at *
 go_enter Tryz.func60,Tryz.ntmps60
 have AC:=S0.out;have a0:=row_cell AC.adr 0;have a1:=row_cell AC.adr 1;have a2:=row_cell AC.adr 2;clear AC;go_wp2_with fail;generalize (((w.alloc (.cells #[.int .i64 o,.int .i64 f,.int .i64 r] 24)).alloc (.cells #[.int .u8 x.1,.int .u8 x.2.1,.int .u8 x.2.2.1,.int .u8 x.2.2.2] 26)).alloc (.cells #[.int .u8 0,.int .u8 0,.int .u8 0,.int .u8 0] 26))=W at *;refine (HG.out _).mono ?_;rintro e w1 ⟨rfl,b1⟩;have S1:=Lib.hid (S0.out.mono b1);clear b1 HG S0 a0 a1 a2;have a0:w1.cell? ⟨w.heap.size,0,none⟩=some (.int .i64 o):=row_cell S1.out.adr 0;have a1:w1.cell? ⟨w.heap.size,1,none⟩=some (.int .i64 f):=row_cell S1.out.adr 1;have a2:w1.cell? ⟨w.heap.size,2,none⟩=some (.int .i64 r):=row_cell S1.out.adr 2;have x0:w1.cell? ⟨w.heap.size+1,0,none⟩=some (.int .u8 x.1):=row_cell S1.out.arg 0;have x1:w1.cell? ⟨w.heap.size+1,1,none⟩=some (.int .u8 x.2.1):=row_cell S1.out.arg 1;have x2:w1.cell? ⟨w.heap.size+1,2,none⟩=some (.int .u8 x.2.2.1):=row_cell S1.out.arg 2;have x3:w1.cell? ⟨w.heap.size+1,3,none⟩=some (.int .u8 x.2.2.2):=row_cell S1.out.arg 3;go_wp2_with fail;refine (HA.out w1 S1.out.bel S1.out.siz).mono ?_;rintro e w2 ⟨rfl,b2⟩;have B2:=Lib.hid (((Below.refl w2.heap.size w2).alloc (Nat.le_refl _) (.cells #[.int .u8 0,.int .u8 0,.int .u8 0,.int .u8 0] 26)));have S2:=Lib.hid ((S1.out.mono b2).mono B2.out);clear b2 S1 a0 a1 a2 x0 x1 x2 x3 HA;unfold rec4 z4 fault flt;go_wp2_with fail;clear B2;generalize (w2.alloc (.cells #[.int .u8 0,.int .u8 0,.int .u8 0,.int .u8 0] 26))=W2 at *;have IS:=Lib.hid (is_any f k W2);rw [H5.out] at IS;unfold fault flt at IS;refine IS.out.mono ?_;rintro e w4 ⟨rfl,b4⟩;have S4:=Lib.hid (S2.out.mono b4);clear b4 IS S2;go_wp2_with fail;have NU:=number_any f k w4 (HGL.out.below S4.out.bel);unfold fault flt at NU;refine NU.mono ?_;rintro e w5 ⟨rfl,b5⟩;have S5:=Lib.hid (S4.out.mono b5);clear b5 S4 NU;have d0:w5.cell? ⟨w.heap.size+2,0,none⟩=some (.int .u8 0):=row_cell S5.out.res 0;have d1:w5.cell? ⟨w.heap.size+2,1,none⟩=some (.int .u8 0):=row_cell S5.out.res 1;have d2:w5.cell? ⟨w.heap.size+2,2,none⟩=some (.int .u8 0):=row_cell S5.out.res 2;have d3:w5.cell? ⟨w.heap.size+2,3,none⟩=some (.int .u8 0):=row_cell S5.out.res 3;have k0:=row_frozen S5.out.res 0;have k1:=row_frozen S5.out.res 1;have k2:=row_frozen S5.out.res 2;have k3:=row_frozen S5.out.res 3;have R3:=Lib.hid (sto4_row S5.out.res z4);have B3:=Lib.hid (sto4_below (o:=0) (r:=z4) S5.out.bel (show w.heap.size≤w.heap.size+2 by omega));clear S5;go_wp2
 (try simp only [Exit.inBlock,Exit.then])
 exact bodyPost_ret (results_rec (p:=6) (r:=7) rfl _ _ (w.heap.size+2) z4 (.int .i64 k) rfl rfl R3.out) rfl ⟨rfl,B3.out⟩
set_option maxHeartbeats 2000000 in
theorem do_5 {w:World} {s:Nat} {F:Nat→Prop} {m:Value} {C:List Ent} {d:Int} (S:Sto w s F m C d) (o f r:Int) (x:R4) (hg:Glob w) (h0:¬ F 0) (hd:0≤d∧d < 1000000) (hn:goodB o f r=true) (ha:∀ W,Below w.heap.size w W→w.heap.size+3≤W.heap.size→Calls Tryz.prog 67 #[.pointer (some ⟨s,0,none⟩),Ad.addr o f r,rec4 x] W (AskNo W f 5)) :
 Calls Tryz.prog 60 #[.pointer (some ⟨s,0,none⟩),Ad.addr o f r,rec4 x] w (DoSPost w s F (d+1) z4 5 (C.map Ent.abs)):=by
 have A0:=ask0_of w o f r x;have S0:Hid (Ask0 w o f r x (((w.alloc (.cells #[.int .i64 o,.int .i64 f,.int .i64 r] 24)).alloc (.cells #[.int .u8 x.1,.int .u8 x.2.1,.int .u8 x.2.2.1,.int .u8 x.2.2.2] 26)).alloc (.cells #[.int .u8 0,.int .u8 0,.int .u8 0,.int .u8 0] 26))):=A0;have HGL:=Lib.hid hg;have SS:=Lib.hid S;have HF0:=Lib.hid h0;have W0:IntKind.i64.wrap (d+1)=d+1:=IntWalk.i64_in _ (by omega);clear hg S h0 hd;have GA:∀ W,Calls Tryz.prog 39 #[Ad.addr o f r] W fun e w'=>e = .returned (.bool true)∧Below W.heap.size W w':=fun W=>by have:=Ad.good_any W o f r;rwa [hn] at this
 have HG:=Lib.hid GA;have HA:=Lib.hid ha;clear A0 GA hn ha;unfold rec4 at *;unfold Ad.addr at *
 go_enter Tryz.func60,Tryz.ntmps60
 have AC:=S0.out;have a0:=row_cell AC.adr 0;have a1:=row_cell AC.adr 1;have a2:=row_cell AC.adr 2;clear AC;go_wp2_with fail;generalize (((w.alloc (.cells #[.int .i64 o,.int .i64 f,.int .i64 r] 24)).alloc (.cells #[.int .u8 x.1,.int .u8 x.2.1,.int .u8 x.2.2.1,.int .u8 x.2.2.2] 26)).alloc (.cells #[.int .u8 0,.int .u8 0,.int .u8 0,.int .u8 0] 26))=W at *;refine (HG.out _).mono ?_;rintro e w1 ⟨rfl,b1⟩;have S1:=Lib.hid (S0.out.mono b1);clear b1 HG S0 a0 a1 a2;have a0:w1.cell? ⟨w.heap.size,0,none⟩=some (.int .i64 o):=row_cell S1.out.adr 0;have a1:w1.cell? ⟨w.heap.size,1,none⟩=some (.int .i64 f):=row_cell S1.out.adr 1;have a2:w1.cell? ⟨w.heap.size,2,none⟩=some (.int .i64 r):=row_cell S1.out.adr 2;have x0:w1.cell? ⟨w.heap.size+1,0,none⟩=some (.int .u8 x.1):=row_cell S1.out.arg 0;have x1:w1.cell? ⟨w.heap.size+1,1,none⟩=some (.int .u8 x.2.1):=row_cell S1.out.arg 1;have x2:w1.cell? ⟨w.heap.size+1,2,none⟩=some (.int .u8 x.2.2.1):=row_cell S1.out.arg 2;have x3:w1.cell? ⟨w.heap.size+1,3,none⟩=some (.int .u8 x.2.2.2):=row_cell S1.out.arg 3;go_wp2_with fail;refine (HA.out w1 S1.out.bel S1.out.siz).mono ?_;rintro e w2 ⟨rfl,b2⟩;have B2:=Lib.hid (((Below.refl w2.heap.size w2).alloc (Nat.le_refl _) (.cells #[.int .u8 0,.int .u8 0,.int .u8 0,.int .u8 0] 26)));have S2:=Lib.hid ((S1.out.mono b2).mono B2.out);clear b2 S1 a0 a1 a2 x0 x1 x2 x3 HA;unfold rec4 z4 fault flt;go_wp2_with fail;clear B2;generalize (w2.alloc (.cells #[.int .u8 0,.int .u8 0,.int .u8 0,.int .u8 0] 26))=W2 at *;have IS:=Lib.hid (is_any f 5 W2);rw [show decide ((5:Int)=5)=true from rfl] at IS;unfold fault flt at IS;refine IS.out.mono ?_;rintro e w4 ⟨rfl,b4⟩;have S4:=Lib.hid (S2.out.mono b4);clear b4 IS S2;have T4:=SS.out.below S4.out.bel;have c1:w4.cell? ⟨s,1,none⟩=some (.int .i64 d):=row_cell T4.row 1;have f1:w4.frozen? ⟨s,1,none⟩=false:=row_frozen T4.row 1;obtain ⟨t5,t6⟩:=T4.count (d+1);have T5:=Lib.hid t5;have O5:=Lib.hid t6;have GL5:Hid (Glob (w4.setCell ⟨s,1,none⟩ (.int .i64 (d+1)))):=(HGL.out.below S4.out.bel).only HF0.out t6;have N5:Hid (Ask0 w o f r x (w4.setCell ⟨s,1,none⟩ (.int .i64 (d+1))))∨True:=.inr trivial;have hsl:=SS.out.low s SS.out.foot;have A5:Hid ((w4.setCell ⟨s,1,none⟩ (.int .i64 (d+1))).heap[w.heap.size+2]? = some (.cells (arr4 z4) 26 (0,0))):=(Below.heap_setCell w4 ⟨s,1,none⟩ _ _ (by show w.heap.size+2≠s;omega)).trans S4.out.res;have BB:Hid (Only F w (w4.setCell ⟨s,1,none⟩ (.int .i64 (d+1)))):=(Only.of_below S4.out.bel).trans t6 fun _ _ g=>g;clear T4 t5 t6 N5 S4;go_wp2_with fail;clear c1 f1;generalize w4.setCell ⟨s,1,none⟩ (.int .i64 (d+1))=w5 at *;have NU:=number_any f 5 w5 GL5.out;unfold fault flt at NU;refine NU.mono ?_;rintro e w6 ⟨rfl,b6⟩;have T6:=Lib.hid (T5.out.below b6);have A6:=Lib.hid ((b6.block _ (lt_of_block A5.out)).trans A5.out);have O6:=Lib.hid (BB.out.then b6);clear b6 NU T5 A5 BB O5;have d0:w6.cell? ⟨w.heap.size+2,0,none⟩=some (.int .u8 0):=row_cell A6.out 0;have d1:w6.cell? ⟨w.heap.size+2,1,none⟩=some (.int .u8 0):=row_cell A6.out 1;have d2:w6.cell? ⟨w.heap.size+2,2,none⟩=some (.int .u8 0):=row_cell A6.out 2;have d3:w6.cell? ⟨w.heap.size+2,3,none⟩=some (.int .u8 0):=row_cell A6.out 3;have k0:=row_frozen A6.out 0;have k1:=row_frozen A6.out 1;have k2:=row_frozen A6.out 2;have k3:=row_frozen A6.out 3;have R3:=Lib.hid (sto4_row A6.out z4);have O7:Only F w (sto4 w6 (w.heap.size+2) 0 z4):=O6.out.trans (o_sto4 w6 (w.heap.size+2) z4) fun k hk e=>by omega
 have FIN:Hid (DoSPost w s F (d+1) z4 5 (C.map Ent.abs) (.returned (.tuple #[rec4 z4,.int .i64 5])) (sto4 w6 (w.heap.size+2) 0 z4)):=⟨rfl,⟨m,C,(T6.out.only (G:=fun k=>k=w.heap.size+2) (fun k hk e=>by have:=SS.out.low k hk;omega) (o_sto4 w6 (w.heap.size+2) z4)).wide (fun k hk=>.inl hk) (Fx.low SS.out.low O7.size),rfl⟩,O7⟩;clear A6 O6 O7 T6;go_wp2
 (try simp only [Exit.inBlock,Exit.then])
 exact bodyPost_ret (results_rec (p:=6) (r:=7) rfl _ _ (w.heap.size+2) z4 (.int .i64 5) rfl rfl R3.out) rfl FIN.out
set_option maxHeartbeats 2000000 in
theorem do_yes (w:World) (s:Nat) (F:Nat→Prop) (d:Int) (A':Abs) (y:R4) (o f r:Int) (x:R4) (hF:∀ k,F k→k < w.heap.size) (hn:goodB o f r=true) (ha:∀ W,Below w.heap.size w W→w.heap.size+3≤W.heap.size→Calls Tryz.prog 67 #[.pointer (some ⟨s,0,none⟩),Ad.addr o f r,rec4 x] W (AskYes W s F d y A')) :
 Calls Tryz.prog 60 #[.pointer (some ⟨s,0,none⟩),Ad.addr o f r,rec4 x] w (DoSPost w s F d y 0 A'):=by
 have A0:=ask0_of w o f r x;have S0:Hid (Ask0 w o f r x (((w.alloc (.cells #[.int .i64 o,.int .i64 f,.int .i64 r] 24)).alloc (.cells #[.int .u8 x.1,.int .u8 x.2.1,.int .u8 x.2.2.1,.int .u8 x.2.2.2] 26)).alloc (.cells #[.int .u8 0,.int .u8 0,.int .u8 0,.int .u8 0] 26))):=A0;have HF:=Lib.hid hF;clear hF;have GA:∀ W,Calls Tryz.prog 39 #[Ad.addr o f r] W fun e w'=>e = .returned (.bool true)∧Below W.heap.size W w':=fun W=>by have:=Ad.good_any W o f r;rwa [hn] at this
 have HG:=Lib.hid GA;have HA:=Lib.hid ha;clear A0 GA hn ha;unfold rec4 at *;unfold Ad.addr at *
 go_enter Tryz.func60,Tryz.ntmps60
 have AC:=S0.out;have a0:=row_cell AC.adr 0;have a1:=row_cell AC.adr 1;have a2:=row_cell AC.adr 2;clear AC;go_wp2_with fail;generalize (((w.alloc (.cells #[.int .i64 o,.int .i64 f,.int .i64 r] 24)).alloc (.cells #[.int .u8 x.1,.int .u8 x.2.1,.int .u8 x.2.2.1,.int .u8 x.2.2.2] 26)).alloc (.cells #[.int .u8 0,.int .u8 0,.int .u8 0,.int .u8 0] 26))=W at *;refine (HG.out _).mono ?_;rintro e w1 ⟨rfl,b1⟩;have S1:=Lib.hid (S0.out.mono b1);clear b1 HG S0 a0 a1 a2;have a0:w1.cell? ⟨w.heap.size,0,none⟩=some (.int .i64 o):=row_cell S1.out.adr 0;have a1:w1.cell? ⟨w.heap.size,1,none⟩=some (.int .i64 f):=row_cell S1.out.adr 1;have a2:w1.cell? ⟨w.heap.size,2,none⟩=some (.int .i64 r):=row_cell S1.out.adr 2;have x0:w1.cell? ⟨w.heap.size+1,0,none⟩=some (.int .u8 x.1):=row_cell S1.out.arg 0;have x1:w1.cell? ⟨w.heap.size+1,1,none⟩=some (.int .u8 x.2.1):=row_cell S1.out.arg 1;have x2:w1.cell? ⟨w.heap.size+1,2,none⟩=some (.int .u8 x.2.2.1):=row_cell S1.out.arg 2;have x3:w1.cell? ⟨w.heap.size+1,3,none⟩=some (.int .u8 x.2.2.2):=row_cell S1.out.arg 3;go_wp2_with fail;refine (HA.out w1 S1.out.bel S1.out.siz).mono ?_;rintro e w2 ⟨rfl,t2,o2⟩;have hwl:w.heap.size+3≤w2.heap.size:=Nat.le_trans S1.out.siz o2.size;have RW:w2.heap[w.heap.size+2]? = some (.cells (arr4 z4) 26 (0,0)):=(o2.block _ (by have:=S1.out.siz;omega) (fun g=>by have:=HF.out _ g;omega)).trans S1.out.res;obtain ⟨g1,g2,g3⟩:=box_rec w2 y;have B2:=Lib.hid g2;have T2:=Lib.hid (t2.below g2);have A6:Hid ((w2.alloc (.cells (arr4 y) 26)).heap[w.heap.size+2]? = some (.cells (arr4 z4) 26 (0,0))):=(g2.block _ (by omega)).trans RW;have Y6:=Lib.hid g1;have hF2:Hid (∀ k,Fx F w1 w2 k→k≠w.heap.size+2∧(F k∨w.heap.size≤k)):=fun k hk=>by
  have:=S1.out.siz
  rcases hk with hk | ⟨hk,_⟩
  ·have:=HF.out k hk
   exact ⟨by omega,.inl hk⟩
  ·exact ⟨by omega,.inr (by omega)⟩
 have O6:Hid (Only F w (w2.alloc (.cells (arr4 y) 26))):=((Only.of_below S1.out.bel).trans o2 fun _ _ g=>g).then g2;clear g1 g2 g3 t2 o2 S1 a0 a1 a2 x0 x1 x2 x3 HA RW B2;unfold rec4;have Y4:Hid (arr4 y=#[.int .u8 y.1,.int .u8 y.2.1,.int .u8 y.2.2.1,.int .u8 y.2.2.2]):=rfl;rw [Y4.out] at T2 A6 Y6 O6;have y0:(w2.alloc (.cells #[.int .u8 y.1,.int .u8 y.2.1,.int .u8 y.2.2.1,.int .u8 y.2.2.2] 26)).cell? ⟨w2.heap.size,0,none⟩=some (.int .u8 y.1):=row_cell Y6.out 0;go_upto_region 5 with fail;clear y0;generalize (w2.alloc (.cells #[.int .u8 y.1,.int .u8 y.2.1,.int .u8 y.2.2.1,.int .u8 y.2.2.2] 26))=w6 at *;have y0:w6.cell? ⟨w2.heap.size,0,none⟩=some (.int .u8 y.1):=row_cell Y6.out 0;have y1:w6.cell? ⟨w2.heap.size,1,none⟩=some (.int .u8 y.2.1):=row_cell Y6.out 1;have y2:w6.cell? ⟨w2.heap.size,2,none⟩=some (.int .u8 y.2.2.1):=row_cell Y6.out 2;have y3:w6.cell? ⟨w2.heap.size,3,none⟩=some (.int .u8 y.2.2.2):=row_cell Y6.out 3;have d0:w6.cell? ⟨w.heap.size+2,0,none⟩=some (.int .u8 0):=row_cell A6.out 0;have d1:w6.cell? ⟨w.heap.size+2,1,none⟩=some (.int .u8 0):=row_cell A6.out 1;have d2:w6.cell? ⟨w.heap.size+2,2,none⟩=some (.int .u8 0):=row_cell A6.out 2;have d3:w6.cell? ⟨w.heap.size+2,3,none⟩=some (.int .u8 0):=row_cell A6.out 3;have k0:=row_frozen A6.out 0;have k1:=row_frozen A6.out 1;have k2:=row_frozen A6.out 2;have k3:=row_frozen A6.out 3;have R3:=Lib.hid (sto4_row A6.out y);have O7:Only F w (sto4 w6 (w.heap.size+2) 0 y):=O6.out.trans (o_sto4 w6 (w.heap.size+2) y) fun k hk e=>by omega
 have FIN:Hid (DoSPost w s F d y 0 A' (.returned (.tuple #[rec4 y,.int .i64 0])) (sto4 w6 (w.heap.size+2) 0 y)):=by
  have T7:=T2.out.only (G:=fun k=>k=w.heap.size+2) (fun k hk e=>(hF2.out k hk).1 e) (o_sto4 w6 (w.heap.size+2) y);refine ⟨rfl,T7.wide (fun k hk=>?_) (Fx.low HF.out O7.size),O7⟩
  rcases (hF2.out k hk).2 with h | h
  ·exact .inl h
  ·exact .inr ⟨h,T7.low k hk⟩
 clear A6 O6 O7 T2 hF2;go_wp2
 (try simp only [Exit.inBlock,Exit.then])
 exact bodyPost_ret (results_rec (p:=6) (r:=7) rfl _ _ (w.heap.size+2) y (.int .i64 0) rfl rfl R3.out) rfl FIN.out
theorem dos_any {w:World} {s:Nat} {F:Nat→Prop} {A:Abs} {d:Int} (S:St w s F A d) (hg:Glob w) (h0:¬ F 0) (hd:0≤d∧d < 1000000) (o f r:Int) (x:R4) (hx:okR x) :
 Calls Tryz.prog 60 #[.pointer (some ⟨s,0,none⟩),Ad.addr o f r,rec4 x] w (DoSPost w s F (dD A o f r d) (dV A o f r x) (dE A o f r) (dA A o f r x)):=by
 obtain ⟨m,C,h,rfl⟩:=S;have no:∀ k e w',dE (C.map Ent.abs) o f r=k→k≠0→k≠5→DoNo w k e w'→DoSPost w s F (dD (C.map Ent.abs) o f r d) (dV (C.map Ent.abs) o f r x) (dE (C.map Ent.abs) o f r) (dA (C.map Ent.abs) o f r x) e w':=fun k e w' hk h0 h5 ⟨he,b⟩=>by
  have e1:dV (C.map Ent.abs) o f r x=z4:=by unfold dV;split;rfl;rw [hk,if_neg h0]
  have e2:dA (C.map Ent.abs) o f r x=C.map Ent.abs:=by unfold dA;split;rfl;rw [hk,if_neg h0]
  have e3:dD (C.map Ent.abs) o f r d=d:=by unfold dD;rw [hk,if_neg h5]
  rw [e1,e2,e3,hk];exact ⟨he,St.fx ⟨m,C,h,rfl⟩ b,Only.of_below b⟩
 cases hn:goodB o f r with
 | false=>exact (do_1 w s o f r x hn).mono fun e w'=>no 1 e w' (by unfold dE;rw [if_neg (by rw [hn];decide)]) (by decide) (by decide)
 | true =>
   by_cases hz:dE (C.map Ent.abs) o f r=0
   ·have e3:dD (C.map Ent.abs) o f r d=d:=by unfold dD;rw [hz,if_neg (by decide)]
    rw [e3,hz];refine do_yes w s F d _ _ o f r x h.low hn fun W hb _=>?_
    rcases ask_any (h.below hb) o f r x hx hn with ⟨k,h1,h2,_⟩ | ⟨_,h3⟩
    ·exact absurd (h2.symm.trans hz) h1
    ·exact h3
   ·have ask:∀ W,Below w.heap.size w W→w.heap.size+3≤W.heap.size→Calls Tryz.prog 67 #[.pointer (some ⟨s,0,none⟩),Ad.addr o f r,rec4 x] W (AskNo W f (dE (C.map Ent.abs) o f r)):=fun W hb _=>by
     rcases ask_any (h.below hb) o f r x hx hn with ⟨k,h1,h2,h3⟩ | ⟨h3,_⟩
     ·rw [h2];exact h3
     ·exact absurd h3 hz
    by_cases h5:dE (C.map Ent.abs) o f r=5
    ·have e1:dV (C.map Ent.abs) o f r x=z4:=by unfold dV;split;rfl;rw [h5,if_neg (by decide)]
     have e2:dA (C.map Ent.abs) o f r x=C.map Ent.abs:=by unfold dA;split;rfl;rw [h5,if_neg (by decide)]
     have e3:dD (C.map Ent.abs) o f r d=d+1:=by unfold dD;rw [h5,if_pos rfl]
     rw [e1,e2,e3];rw [h5] at ask ⊢;exact do_5 h o f r x hg h0 hd hn ask
    ·exact (do_no w s o f r _ x hg h5 hn ask).mono fun e w'=>no _ e w' rfl hz h5
end Go.Proofs.YtelgnhmcnfibnaaGreatDoor.Fs
namespace Go.Proofs.YtelgnhmcnfibnaaGreatDoor.Sv
open Go.RowKit Go.Maps
open Fl (R4 z4 rec4 arr4 okR row_cell row_frozen sto4 sto4_below okR_z)
open Fs (Abs St Only Fx Glob dE dV dA dD dos_any do_nil DoSPost DoNo)
open Ad (goodB good)
def xE (z:Bool) (A:Abs) (o f r:Int):Int:=if z=true then 1 else dE A o f r
def xV (z:Bool) (A:Abs) (o f r:Int) (x:R4):R4:=if z=true then z4 else dV A o f r x
def xA (z:Bool) (A:Abs) (o f r:Int) (x:R4):Abs:=if z=true then A else dA A o f r x
def xD (z:Bool) (A:Abs) (o f r:Int) (d:Int):Int:=if z=true then d else dD A o f r d
structure Nd (w:World) (p:Value) (F:Nat→Prop) (A:Abs) (d:Int) (z:Bool):Prop where
 low:∀ k,F k→k < w.heap.size
 glob:Glob w
 off:¬ F 0
 st:z=false→∃ s,p = .pointer (some ⟨s,0,none⟩)∧St w s F A d
 nil:z=true→p = .pointer none
section
variable {w W w2 w':World} {p:Value} {F G:Nat→Prop} {A A':Abs} {d d':Int} {z:Bool}
theorem Nd.glt (h:Nd w p F A d z):0 < w.heap.size:=World.block_lt_of_cell? _ _ h.glob
theorem Nd.only (h:Nd w p F A d z) (hn:∀ k,F k→¬ G k) (hg:¬ G 0) (o:Only G w w'):Nd w' p F A d z :=
 ⟨fun k hk=>Nat.lt_of_lt_of_le (h.low k hk) o.size,h.glob.only hg o,h.off,fun e=>by obtain ⟨s,e1,h1⟩:=h.st e;exact ⟨s,e1,h1.only hn o⟩,h.nil⟩
theorem Nd.below (h:Nd w p F A d z) (b:Below w.heap.size w w'):Nd w' p F A d z:=h.only (G:=fun _=>False) (fun _ _ g=>g) (fun g=>g) (Only.of_below b)
theorem Nd.wide (h:Nd w p F A d z) (hF:∀ k,F k→G k) (hl:∀ k,G k→k < w.heap.size) (hg:¬ G 0):Nd w p G A d z :=
 ⟨hl,h.glob,hg,fun e=>by obtain ⟨s,e1,h1⟩:=h.st e;exact ⟨s,e1,h1.wide hF hl⟩,h.nil⟩
theorem Nd.stay (h:Nd w p F A d z) (b:Below w.heap.size w w'):Nd w' p (Fx F w w') A d z∧Only F w w' :=
 ⟨(h.below b).wide (fun _ hk=>.inl hk) (Fx.low h.low b.size) (Fx.not h.off h.glt),Only.of_below b⟩
theorem Nd.fin (h:Nd w p F A d z) (b:Below w.heap.size w W) (n:Nd w2 p (Fx F W w2) A' d' z) (o:Only F W w2) (k:Only (fun j=>w.heap.size≤j∧j < W.heap.size) w2 w'):Nd w' p (Fx F w w') A' d' z∧Only F w w':=by
 have hsz:=b.size;have hsz2:=o.size;have hsz3:=k.size;have oo:Only F w w':=((Only.of_below b).trans o fun _ _ g=>g).trans k (fun j hj g=>by have:=g.1;omega)
 have n':Nd w' p (Fx F W w2) A' d' z:=n.only (fun j g g'=>by
  rcases g with g | g
  ·have:=h.low j g;omega
  ·omega) (fun g=>by have:=h.glt;omega) k
 exact ⟨n'.wide (fun j g=>by
  rcases g with g | g
  ·exact .inl g
  ·exact .inr (by omega)) (Fx.low h.low (by omega)) (Fx.not h.off h.glt),oo⟩
theorem nd_do (N:Nd w p F A d z) (hd:0≤d∧d < 1000000) (o f r:Int) (x:R4) (hx:okR x):Calls Tryz.prog 60 #[p,Ad.addr o f r,rec4 x] w fun e w'=>e = .returned (.tuple #[rec4 (xV z A o f r x),.int .i64 (xE z A o f r)])∧Nd w' p (Fx F w w') (xA z A o f r x) (xD z A o f r d) z∧Only F w w':=by
 cases z with
 | true =>
   obtain rfl:=N.nil rfl;exact (do_nil w o f r x).mono fun e w' ⟨he,b⟩=>⟨he,N.stay b⟩
 | false =>
   obtain ⟨s,rfl,S⟩:=N.st rfl;refine (dos_any S N.glob N.off hd o f r x hx).mono fun e w' ⟨he,st,on⟩=>⟨he,⟨st.low,N.glob.only N.off on,Fx.not N.off N.glt,fun _=>⟨s,rfl,st⟩,nofun⟩,on⟩
end
def Goes (n:Int) (q:R4) (b:B5):Prop:=ck3 q.1 q.2.1 q.2.2.1=q.2.2.2∧q.1=n∧q.2.1 < 192∧(q.2.1 / 64=1→opnE b=0)
instance (n:Int) (q:R4) (b:B5):Decidable (Goes n q b):=by unfold Goes;infer_instance
section
variable (z:Bool) (A:Abs) (n:Int) (q:R4) (b:B5)
def obE:Int:=if Goes n q b then xE z A (q.2.1 / 64) (q.2.1 % 64) q.2.2.1 else if ck3 q.1 q.2.1 q.2.2.1≠q.2.2.2 then 14 else if q.1≠n then 3 else if ¬ q.2.1 < 192 then 2 else 14
def obV:R4:=if Goes n q b then xV z A (q.2.1 / 64) (q.2.1 % 64) q.2.2.1 (svX q b) else z4
def obA:Abs:=if Goes n q b then xA z A (q.2.1 / 64) (q.2.1 % 64) q.2.2.1 (svX q b) else A
def obD (d:Int):Int:=if Goes n q b then xD z A (q.2.1 / 64) (q.2.1 % 64) q.2.2.1 d else d
end
def ObPost (w:World) (p:Value) (F:Nat→Prop) (A:Abs) (d:Int) (z:Bool) (n:Int) (q:R4) (b:B5) (e:Ending) (w':World):Prop :=
 e = .returned (.tuple #[rec4 (obV z A n q b),.int .i64 (obE z A n q b)])∧Nd w' p (Fx F w w') (obA z A n q b) (obD z A n q b d) z∧Only F w w'
section
variable {w w':World} {p:Value} {F:Nat→Prop} {A:Abs} {d:Int} {z:Bool} {n k:Int} {q:R4} {b:B5}
theorem ob_no (N:Nd w p F A d z) (hn:¬ Goes n q b) (hk:(if ck3 q.1 q.2.1 q.2.2.1≠q.2.2.2 then (14:Int) else if q.1≠n then 3 else if ¬ q.2.1 < 192 then 2 else 14)=k) (bl:Below w.heap.size w w'):ObPost w p F A d z n q b (.returned (.tuple #[rec4 z4,.int .i64 k])) w':=by
 have:=N.stay bl;unfold ObPost obV obE obA obD;rw [if_neg hn,if_neg hn,if_neg hn,if_neg hn,hk];exact ⟨rfl,this⟩
theorem ob_yes (hn:Goes n q b) (h:Nd w' p (Fx F w w') (xA z A (q.2.1 / 64) (q.2.1 % 64) q.2.2.1 (svX q b)) (xD z A (q.2.1 / 64) (q.2.1 % 64) q.2.2.1 d) z∧Only F w w') :
 ObPost w p F A d z n q b (.returned (.tuple #[rec4 (xV z A (q.2.1 / 64) (q.2.1 % 64) q.2.2.1 (svX q b)),.int .i64 (xE z A (q.2.1 / 64) (q.2.1 % 64) q.2.2.1)])) w':=by
 unfold ObPost obV obE obA obD;rw [if_pos hn,if_pos hn,if_pos hn,if_pos hn];exact ⟨rfl,h⟩
end
structure Ob0 (w:World) (q:R4) (b:B5) (W:World):Prop where
 a:W.heap[w.heap.size]? = some (.cells (arr4 q) 25 (0,0))
 b:W.heap[w.heap.size+1]? = some (.cells (arr5 b) 27 (0,0))
 r:W.heap[w.heap.size+2]? = some (.cells (arr4 z4) 26 (0,0))
 p:W.heap[w.heap.size+3]? = some (.cells #[.int .u8 q.2.1,.int .u8 q.2.2.1] 57 (0,0))
 bel:Below w.heap.size w W
 siz:w.heap.size+4≤W.heap.size
theorem Ob0.mono {w W W':World} {q:R4} {b:B5} (h:Ob0 w q b W) (k:Below W.heap.size W W'):Ob0 w q b W' :=
 have s:=h.siz
 ⟨(k.block _ (by omega)).trans h.a,(k.block _ (by omega)).trans h.b,(k.block _ (by omega)).trans h.r,(k.block _ (by omega)).trans h.p,h.bel.trans (k.mono h.bel.size),Nat.le_trans h.siz k.size⟩
theorem four_new (w:World) (o1 o2 o3 o4:Obj):((((w.alloc o1).alloc o2).alloc o3).alloc o4).heap[w.heap.size]? = some o1∧((((w.alloc o1).alloc o2).alloc o3).alloc o4).heap[w.heap.size+1]? = some o2∧((((w.alloc o1).alloc o2).alloc o3).alloc o4).heap[w.heap.size+2]? = some o3∧((((w.alloc o1).alloc o2).alloc o3).alloc o4).heap[w.heap.size+3]? = some o4∧Below w.heap.size w ((((w.alloc o1).alloc o2).alloc o3).alloc o4)∧((((w.alloc o1).alloc o2).alloc o3).alloc o4).heap.size=w.heap.size+4:=by
 have h1:(w.alloc o1).heap.size=w.heap.size+1:=by simp
 have h2:((w.alloc o1).alloc o2).heap.size=w.heap.size+2:=by simp
 have h3:(((w.alloc o1).alloc o2).alloc o3).heap.size=w.heap.size+3:=by simp
 have r1:=heap_alloc_new w o1;have r2:=heap_alloc_new (w.alloc o1) o2;have r3:=heap_alloc_new ((w.alloc o1).alloc o2) o3;have r4:=heap_alloc_new (((w.alloc o1).alloc o2).alloc o3) o4;rw [h1] at r2;rw [h2] at r3;rw [h3] at r4
 exact ⟨(Below.heap_alloc _ _ _ (by omega)).trans ((Below.heap_alloc _ _ _ (by omega)).trans ((Below.heap_alloc _ _ _ (by omega)).trans r1)),(Below.heap_alloc _ _ _ (by omega)).trans ((Below.heap_alloc _ _ _ (by omega)).trans r2),(Below.heap_alloc _ _ _ (by omega)).trans r3,r4,
  ((((Below.refl w.heap.size w).alloc (Nat.le_refl _) _).alloc (by omega) _).alloc (by omega) _).alloc (by omega) _,by simp⟩
theorem ob0_of (w:World) (q:R4) (b:B5):Ob0 w q b ((((w.alloc (.cells (arr4 q) 25)).alloc (.cells (arr5 b) 27)).alloc (.cells (arr4 z4) 26)).alloc (.cells #[.int .u8 q.2.1,.int .u8 q.2.2.1] 57)):=by
 obtain ⟨h1,h2,h3,h4,h5,h6⟩:=four_new w (.cells (arr4 q) 25) (.cells (arr5 b) 27) (.cells (arr4 z4) 26) (.cells #[.int .u8 q.2.1,.int .u8 q.2.2.1] 57);exact ⟨h1,h2,h3,h4,h5,by omega⟩
end Go.Proofs.YtelgnhmcnfibnaaGreatDoor.Sv
namespace Go.Proofs.YtelgnhmcnfibnaaGreatDoor.Sv
open Go.RowKit Go.Maps
open Fl (R4 z4 rec4 arr4 okR row_cell row_frozen sto4 sto4_below okR_z)
open Fs (Abs Only Fx results_rec)
open Ad (TakePost take_any pair addr goodB good)
attribute [local irreducible] wpQuiet
theorem okR_opn {b:B5} (hb:is5 b):okR (opnV b):=by
 unfold opnV
 split
 ·exact ⟨hb.1,hb.2.1,hb.2.2.1,hb.2.2.2.1⟩
 ·exact okR_z
set_option maxHeartbeats 4000000 in
theorem obey_any {w:World} {p:Value} {F:Nat→Prop} {A:Abs} {d:Int} {z:Bool} (N:Nd w p F A d z) (hd:0≤d∧d < 1000000) (n:Int) (q:R4) (hq:okR q) (b:B5) (hb:is5 b) :
 Calls Tryz.prog 44 #[p,.int .i64 n,rec4 q,val5 b] w (ObPost w p F A d z n q b):=by
 obtain ⟨⟨a1,a2⟩,⟨b1,b2⟩,⟨c1,c2⟩,_⟩:=hq;have S0:Hid (Ob0 w q b ((((w.alloc (.cells #[.int .u8 q.1,.int .u8 q.2.1,.int .u8 q.2.2.1,.int .u8 q.2.2.2] 25)).alloc (.cells #[.int .u8 b.1,.int .u8 b.2.1,.int .u8 b.2.2.1,.int .u8 b.2.2.2.1,.int .u8 b.2.2.2.2] 27)).alloc (.cells #[.int .u8 0,.int .u8 0,.int .u8 0,.int .u8 0] 26)).alloc (.cells #[.int .u8 q.2.1,.int .u8 q.2.2.1] 57))):=Lib.hid (ob0_of w q b);have NN:=Lib.hid N;have HD:=Lib.hid hd;have HB:=Lib.hid hb;have NO:=Lib.hid (fun k w'=>ob_no (w':=w') (k:=k) (n:=n) (q:=q) (b:=b) N);have YES:=Lib.hid (fun w'=>ob_yes (w:=w) (w':=w') (p:=p) (F:=F) (A:=A) (d:=d) (z:=z) (n:=n) (q:=q) (b:=b));have CK:Hid (∀ W,Calls Tryz.prog 21 #[.int .u8 q.1,.agg #[.int .u8 q.2.1,.int .u8 q.2.2.1]] W fun e w'=>e = .returned (.agg #[.int .u8 q.1,.int .u8 q.2.1,.int .u8 q.2.2.1,.int .u8 (ck3 q.1 q.2.1 q.2.2.1)])∧Below W.heap.size W w'):=Lib.hid fun W=>checked_any W q.1 q.2.1 q.2.2.1;have E0:∀ W,(Op.equalIn 10000 25 (.agg #[.int .u8 q.1,.int .u8 q.2.1,.int .u8 q.2.2.1,.int .u8 q.2.2.2]) (.agg #[.int .u8 q.1,.int .u8 q.2.1,.int .u8 q.2.2.1,.int .u8 (ck3 q.1 q.2.1 q.2.2.1)])).run Tryz.prog W = .ok (decide (q=(q.1,q.2.1,q.2.2.1,ck3 q.1 q.2.1 q.2.2.1))) W:=fun W=>eq_a4 q (q.1,q.2.1,q.2.2.1,ck3 q.1 q.2.1 q.2.2.1) W;have EE:q=(q.1,q.2.1,q.2.2.1,ck3 q.1 q.2.1 q.2.2.1)↔ck3 q.1 q.2.1 q.2.2.1=q.2.2.2:=⟨fun h=>(congrArg (fun x:R4=>x.2.2.2) h).symm,fun h=>by rw [h]⟩;have W0:IntKind.i64.wrap q.1=q.1:=IntWalk.i64_in _ (by omega);have TA:=Lib.hid (fun W=>take_any W q.2.1 q.2.2.1 b1 b2 c1 c2);have YB:Hid (0≤q.2.1 / 64):=Lib.hid (by omega);have A1:=Lib.hid (And.intro a1 a2);have B1:=Lib.hid (And.intro b1 b2);clear N hd hb a1 a2 b1 b2 c1 c2
 by_cases h1:ck3 q.1 q.2.1 q.2.2.1=q.2.2.2
 case' neg =>
  have QUIT:Hid (∀ w',Below w.heap.size w w'→ObPost w p F A d z n q b (.returned (.tuple #[rec4 z4,.int .i64 14])) w'):=Lib.hid fun w'=>NO.out 14 w' (fun g=>h1 g.1) (if_pos h1);rw [decide_eq_false (fun g=>h1 (EE.1 g))] at E0;clear NO
 case' pos =>
  rw [decide_eq_true (EE.2 h1)] at E0
 all_goals
  have H1:=Lib.hid h1;have EQ:=Lib.hid E0;clear h1 E0 EE;generalize ck3 q.1 q.2.1 q.2.2.1=c at CK EQ;unfold rec4 val5
  go_enter Tryz.func44,Tryz.ntmps44
  go_upto_region 2 with fail;generalize (((w.alloc (.cells #[.int .u8 q.1,.int .u8 q.2.1,.int .u8 q.2.2.1,.int .u8 q.2.2.2] 25)).alloc (.cells #[.int .u8 b.1,.int .u8 b.2.1,.int .u8 b.2.2.1,.int .u8 b.2.2.2.1,.int .u8 b.2.2.2.2] 27)).alloc (.cells #[.int .u8 0,.int .u8 0,.int .u8 0,.int .u8 0] 26)).alloc (.cells #[.int .u8 q.2.1,.int .u8 q.2.2.1] 57)=W at *;have x0:=Qb.cell_by (show W.cell? ⟨w.heap.size,0,none⟩=some (.int .u8 q.1) from row_cell S0.out.a 0);have x1:=Qb.cell_by (show W.cell? ⟨w.heap.size,1,none⟩=some (.int .u8 q.2.1) from row_cell S0.out.a 1);have x2:=Qb.cell_by (show W.cell? ⟨w.heap.size,2,none⟩=some (.int .u8 q.2.2.1) from row_cell S0.out.a 2);have x3:=Qb.cell_by (show W.cell? ⟨w.heap.size,3,none⟩=some (.int .u8 q.2.2.2) from row_cell S0.out.a 3);have y0:=Qb.cell_by (show W.cell? ⟨w.heap.size+3,0,none⟩=some (.int .u8 q.2.1) from row_cell S0.out.p 0);have y1:=Qb.cell_by (show W.cell? ⟨w.heap.size+3,1,none⟩=some (.int .u8 q.2.2.1) from row_cell S0.out.p 1);have eq:=EQ.out;refine Qb.wp_region_by (by kernel_rfl) (by kernel_rfl) ?_
  repeat (quiet_step ((first | (go_at_call 21;with_reducible exact Qb.of_below (CK.out _)))))
  refine wpQuiet_nil ?_;clear x0 x1 x2 x3 y0 y1 eq EQ CK
  intro _ hw'
  obtain ⟨p',rfl⟩:=hw';obtain ⟨w1,bw⟩:=p';simp only;have S1:=Lib.hid (S0.out.mono bw);clear bw S0;have d0:w1.cell? ⟨w.heap.size+2,0,none⟩=some (.int .u8 0):=row_cell S1.out.r 0;have d1:w1.cell? ⟨w.heap.size+2,1,none⟩=some (.int .u8 0):=row_cell S1.out.r 1;have d2:w1.cell? ⟨w.heap.size+2,2,none⟩=some (.int .u8 0):=row_cell S1.out.r 2;have d3:w1.cell? ⟨w.heap.size+2,3,none⟩=some (.int .u8 0):=row_cell S1.out.r 3;have k0:=row_frozen S1.out.r 0;have k1:=row_frozen S1.out.r 1;have k2:=row_frozen S1.out.r 2;have k3:=row_frozen S1.out.r 3;have R3:=Lib.hid (st4_row S1.out.r z4);have B3:=Lib.hid (sto4_below (o:=0) (r:=z4) S1.out.bel (show w.heap.size≤w.heap.size+2 by omega))
 ·have x0:w1.cell? ⟨w.heap.size,0,none⟩=some (.int .u8 q.1):=row_cell S1.out.a 0
  by_cases h2:q.1=n
  ·subst h2
   have p0:w1.cell? ⟨w.heap.size+3,0,none⟩=some (.int .u8 q.2.1):=row_cell S1.out.p 0;have p1:w1.cell? ⟨w.heap.size+3,1,none⟩=some (.int .u8 q.2.2.1):=row_cell S1.out.p 1;clear R3 B3
   by_cases h3:q.2.1 < 192
   ·have TK:Hid (∀ W,Calls Tryz.prog 59 #[.agg #[.int .u8 q.2.1,.int .u8 q.2.2.1]] W fun e w'=>e = .returned (.tuple #[.agg #[.int .i64 (q.2.1 / 64),.int .i64 (q.2.1 % 64),.int .i64 q.2.2.1],.int .i64 0])∧Below W.heap.size W w'):=Lib.hid fun W=>(TA.out W).mono fun e w' ⟨h,hb⟩=>⟨by rcases h with ⟨_,h⟩ | ⟨h,_⟩;exact h;omega,hb⟩
    have H3:=Lib.hid h3;clear h3 TA;go_wp2_with fail;clear d0 d1 d2 d3 k0 k1 k2 k3 p0 p1 x0 W0;refine (TK.out _).mono ?_;rintro e w2 ⟨rfl,bw⟩;have S2:=Lib.hid ((S1.out.mono bw).mono ((Below.refl w2.heap.size w2).alloc (Nat.le_refl _) (.cells #[.int .i64 (q.2.1 / 64),.int .i64 (q.2.1 % 64),.int .i64 q.2.2.1] 24)));have AR:=Lib.hid (heap_alloc_new w2 (.cells #[.int .i64 (q.2.1 / 64),.int .i64 (q.2.1 % 64),.int .i64 q.2.2.1] 24));clear bw S1 TK;generalize hy1:q.2.1 / 64=y1 at *;generalize hy2:q.2.1 % 64=y2 at *;have HY1:=Lib.hid hy1;have HY2:=Lib.hid hy2;have YB':=YB.out;clear hy1 hy2 YB;go_upto_region 7 with fail;generalize w2.alloc (.cells #[.int .i64 y1,.int .i64 y2,.int .i64 q.2.2.1] 24)=W2 at *;generalize w2.heap.size=g3 at *;go_upto_region 10 with fail;have S3:=Lib.hid (S2.out.mono ((Below.refl W2.heap.size W2).alloc (Nat.le_refl _) (.cells #[.int .u8 0,.int .u8 0,.int .u8 0,.int .u8 0] 26)));have AR3:=Lib.hid ((Below.heap_alloc W2 (.cells #[.int .u8 0,.int .u8 0,.int .u8 0,.int .u8 0] 26) g3 (lt_of_block AR.out)).trans AR.out);have XR:Hid ((W2.alloc (.cells #[.int .u8 0,.int .u8 0,.int .u8 0,.int .u8 0] 26)).heap[W2.heap.size]? = some (.cells (arr4 z4) 26 (0,0))):=Lib.hid (heap_alloc_new W2 _);have G4:Hid (w.heap.size+4≤W2.heap.size∧g3 < W2.heap.size):=Lib.hid ⟨S2.out.siz,lt_of_block AR.out⟩;clear S2 AR;generalize W2.alloc (.cells #[.int .u8 0,.int .u8 0,.int .u8 0,.int .u8 0] 26)=W3 at *;generalize W2.heap.size=g4 at *;have m0:W3.cell? ⟨g3,0,none⟩=some (.int .i64 y1):=row_cell AR3.out 0
    by_cases ho:y1=1
    ·subst ho
     have e0:W3.cell? ⟨w.heap.size+1,0,none⟩=some (.int .u8 b.1):=row_cell S3.out.b 0;have e1:W3.cell? ⟨w.heap.size+1,1,none⟩=some (.int .u8 b.2.1):=row_cell S3.out.b 1;have e2:W3.cell? ⟨w.heap.size+1,2,none⟩=some (.int .u8 b.2.2.1):=row_cell S3.out.b 2;have e3:W3.cell? ⟨w.heap.size+1,3,none⟩=some (.int .u8 b.2.2.2.1):=row_cell S3.out.b 3;have e4:W3.cell? ⟨w.heap.size+1,4,none⟩=some (.int .u8 b.2.2.2.2):=row_cell S3.out.b 4;have OP:=open_any W3 b;unfold OpnPost val5 rec4 at OP;have SX:Hid (svX q b=opnV b):=Lib.hid (if_pos HY1.out);have OX:Hid (okR (opnV b)):=Lib.hid (okR_opn HB.out)
     by_cases h4:opnE b=0
     ·have GO:Hid (Goes q.1 q b):=Lib.hid ⟨H1.out,rfl,H3.out,fun _=>h4⟩
      rw [h4] at OP;have HOP:=Lib.hid OP;clear OP h4 NO;generalize hx:opnV b=x at *;clear hx;go_wp2_with fail;clear m0 e0 e1 e2 e3 e4;refine HOP.out.mono ?_;rintro e w4 ⟨rfl,bw⟩;have S3':=Lib.hid (S3.out.mono bw);have AR3':=Lib.hid ((bw.block _ (lt_of_block AR3.out)).trans AR3.out);have XR3:=(bw.block _ (lt_of_block XR.out)).trans XR.out;have S4:Hid (Ob0 w q b (sto4 w4 g4 0 x)):=Lib.hid ⟨Fl.sto4_other S3'.out.a (by have:=G4.out;omega),Fl.sto4_other S3'.out.b (by have:=G4.out;omega),Fl.sto4_other S3'.out.r (by have:=G4.out;omega),Fl.sto4_other S3'.out.p (by have:=G4.out;omega),sto4_below S3'.out.bel (by have:=G4.out;omega),by rw [Fl.sto4_size];exact S3'.out.siz⟩;have AR4:=Lib.hid (Fl.sto4_other (o:=0) (r:=x) (g:=g4) AR3'.out (by have:=G4.out;omega));have XR4:=Lib.hid (st4_row XR3 x);have d0:w4.cell? ⟨g4,0,none⟩=some (.int .u8 0):=row_cell XR3 0;have d1:w4.cell? ⟨g4,1,none⟩=some (.int .u8 0):=row_cell XR3 1;have d2:w4.cell? ⟨g4,2,none⟩=some (.int .u8 0):=row_cell XR3 2;have d3:w4.cell? ⟨g4,3,none⟩=some (.int .u8 0):=row_cell XR3 3;have k0:=row_frozen XR3 0;have k1:=row_frozen XR3 1;have k2:=row_frozen XR3 2;have k3:=row_frozen XR3 3;clear bw S3 AR3 XR XR3 S3' AR3' HOP;go_upto_region 14 with fail;clear d0 d1 d2 d3 k0 k1 k2 k3
      show Code.wp _ _ _ _ (sto4 w4 g4 0 x)
      generalize sto4 w4 g4 0 x=W4 at *;generalize (1:Int)=y1 at HY1 YES AR4;have m0:W4.cell? ⟨g3,0,none⟩=some (.int .i64 y1):=row_cell AR4.out 0;have m1:W4.cell? ⟨g3,1,none⟩=some (.int .i64 y2):=row_cell AR4.out 1;have m2:W4.cell? ⟨g3,2,none⟩=some (.int .i64 q.2.2.1):=row_cell AR4.out 2;have v0:W4.cell? ⟨g4,0,none⟩=some (.int .u8 x.1):=row_cell XR4.out 0;have v1:W4.cell? ⟨g4,1,none⟩=some (.int .u8 x.2.1):=row_cell XR4.out 1;have v2:W4.cell? ⟨g4,2,none⟩=some (.int .u8 x.2.2.1):=row_cell XR4.out 2;have v3:W4.cell? ⟨g4,3,none⟩=some (.int .u8 x.2.2.2):=row_cell XR4.out 3;have DO:=nd_do (NN.out.below S4.out.bel) HD.out y1 y2 q.2.2.1 x OX.out;have YS:=YES.out;rw [SX.out] at YS;have YY:=Lib.hid YS;generalize xV z A y1 y2 q.2.2.1 x=V at DO YY;generalize xE z A y1 y2 q.2.2.1=E at DO YY;generalize xA z A y1 y2 q.2.2.1 x=A' at DO YY;generalize xD z A y1 y2 q.2.2.1 d=D' at DO YY;unfold rec4 addr at DO;have HDO:=Lib.hid DO;clear DO YS YES AR4 XR4 OX SX;go_wp2_with fail;clear m0 m1 m2 v0 v1 v2 v3;refine HDO.out.mono ?_;rintro e w5 ⟨rfl,nd,on⟩;have R5:w5.heap[w.heap.size+2]? = some (.cells (arr4 z4) 26 (0,0)):=(on.block _ (lt_of_block S4.out.r) (fun g=>by have:=NN.out.low _ g;omega)).trans S4.out.r;have RES:Hid (ObPost w p F A d z q.1 q b (.returned (.tuple #[rec4 V,.int .i64 E])) (sto4 w5 (w.heap.size+2) 0 V)):=Lib.hid (YY.out _ GO.out (Nd.fin NN.out S4.out.bel nd on ((st4_only w5 (w.heap.size+2) V).mono fun j _ e=>by have:=S4.out.siz;subst e;exact ⟨by omega,by omega⟩)));have R3:=Lib.hid (st4_row R5 V);have d0:w5.cell? ⟨w.heap.size+2,0,none⟩=some (.int .u8 0):=row_cell R5 0;have d1:w5.cell? ⟨w.heap.size+2,1,none⟩=some (.int .u8 0):=row_cell R5 1;have d2:w5.cell? ⟨w.heap.size+2,2,none⟩=some (.int .u8 0):=row_cell R5 2;have d3:w5.cell? ⟨w.heap.size+2,3,none⟩=some (.int .u8 0):=row_cell R5 3;have k0:=row_frozen R5 0;have k1:=row_frozen R5 1;have k2:=row_frozen R5 2;have k3:=row_frozen R5 3;clear HDO nd on YY S4 R5;go_wp2
      (try simp only [Exit.inBlock,Exit.then])
      exact bodyPost_ret (results_rec (p:=8) (r:=9) rfl _ _ (w.heap.size+2) V (.int .i64 E) rfl rfl R3.out) rfl RES.out
     ·have E14:opnE b=14:=by
       unfold opnE at h4 ⊢
       split
       ·rename_i h5
        rw [if_pos h5] at h4;exact absurd rfl h4
       ·rfl
      have QUIT:Hid (∀ w',Below w.heap.size w w'→ObPost w p F A d z q.1 q b (.returned (.tuple #[rec4 z4,.int .i64 14])) w'):=Lib.hid fun w'=>NO.out 14 w' (fun g=>h4 (g.2.2.2 HY1.out)) (by rw [if_neg (fun g=>g H1.out),if_neg (fun g=>g rfl),if_neg (fun g=>by have:=H3.out;omega)]);rw [E14] at OP;have HOP:=Lib.hid OP;clear OP h4 NO E14 YES SX OX;generalize hx:opnV b=x at *;clear hx;go_wp2_with fail;clear m0 e0 e1 e2 e3 e4;refine HOP.out.mono ?_;rintro e w4 ⟨rfl,bw⟩;have S3':=Lib.hid (S3.out.mono bw);have XR3:=(bw.block _ (lt_of_block XR.out)).trans XR.out;have R4:=Lib.hid (Fl.sto4_other (o:=0) (r:=x) (g:=g4) S3'.out.r (by have:=G4.out;omega));have B4:=Lib.hid (sto4_below (o:=0) (r:=x) (g:=g4) S3'.out.bel (by have:=G4.out;omega));have d0:w4.cell? ⟨g4,0,none⟩=some (.int .u8 0):=row_cell XR3 0;have d1:w4.cell? ⟨g4,1,none⟩=some (.int .u8 0):=row_cell XR3 1;have d2:w4.cell? ⟨g4,2,none⟩=some (.int .u8 0):=row_cell XR3 2;have d3:w4.cell? ⟨g4,3,none⟩=some (.int .u8 0):=row_cell XR3 3;have k0:=row_frozen XR3 0;have k1:=row_frozen XR3 1;have k2:=row_frozen XR3 2;have k3:=row_frozen XR3 3;clear bw S3 AR3 XR XR3 S3' HOP;go_upto_region 12 with fail;clear d0 d1 d2 d3 k0 k1 k2 k3
      show Code.wp _ _ _ _ (sto4 w4 g4 0 x)
      generalize sto4 w4 g4 0 x=W4 at *;have d0:W4.cell? ⟨w.heap.size+2,0,none⟩=some (.int .u8 0):=row_cell R4.out 0;have d1:W4.cell? ⟨w.heap.size+2,1,none⟩=some (.int .u8 0):=row_cell R4.out 1;have d2:W4.cell? ⟨w.heap.size+2,2,none⟩=some (.int .u8 0):=row_cell R4.out 2;have d3:W4.cell? ⟨w.heap.size+2,3,none⟩=some (.int .u8 0):=row_cell R4.out 3;have k0:=row_frozen R4.out 0;have k1:=row_frozen R4.out 1;have k2:=row_frozen R4.out 2;have k3:=row_frozen R4.out 3;have R3:=Lib.hid (st4_row R4.out z4);have B3:=Lib.hid (sto4_below (o:=0) (r:=z4) B4.out (show w.heap.size≤w.heap.size+2 by omega));clear R4 B4;go_wp2
      (try simp only [Exit.inBlock,Exit.then])
      exact bodyPost_ret (results_rec (p:=8) (r:=9) rfl _ _ (w.heap.size+2) z4 (.int .i64 14) rfl rfl R3.out) rfl (QUIT.out _ B3.out)
    ·have SX:Hid (svX q b=z4):=Lib.hid (if_neg (by rw [HY1.out];exact ho))
     have OX:Hid (okR z4):=Lib.hid okR_z;have GO:Hid (Goes q.1 q b):=Lib.hid ⟨H1.out,rfl,H3.out,fun g=>absurd (HY1.out.symm.trans g) ho⟩;have S4:=S3;have AR4:=AR3;have XR4:=XR;clear NO S3 AR3 XR;generalize hx:z4=x at SX OX XR4;have HX:=Lib.hid hx;clear hx;go_upto_region 14 with fail;clear m0;generalize W3=W4 at *;have m0:W4.cell? ⟨g3,0,none⟩=some (.int .i64 y1):=row_cell AR4.out 0;have m1:W4.cell? ⟨g3,1,none⟩=some (.int .i64 y2):=row_cell AR4.out 1;have m2:W4.cell? ⟨g3,2,none⟩=some (.int .i64 q.2.2.1):=row_cell AR4.out 2;have v0:W4.cell? ⟨g4,0,none⟩=some (.int .u8 x.1):=row_cell XR4.out 0;have v1:W4.cell? ⟨g4,1,none⟩=some (.int .u8 x.2.1):=row_cell XR4.out 1;have v2:W4.cell? ⟨g4,2,none⟩=some (.int .u8 x.2.2.1):=row_cell XR4.out 2;have v3:W4.cell? ⟨g4,3,none⟩=some (.int .u8 x.2.2.2):=row_cell XR4.out 3;have DO:=nd_do (NN.out.below S4.out.bel) HD.out y1 y2 q.2.2.1 x OX.out;have YS:=YES.out;rw [SX.out] at YS;have YY:=Lib.hid YS;generalize xV z A y1 y2 q.2.2.1 x=V at DO YY;generalize xE z A y1 y2 q.2.2.1=E at DO YY;generalize xA z A y1 y2 q.2.2.1 x=A' at DO YY;generalize xD z A y1 y2 q.2.2.1 d=D' at DO YY;unfold rec4 addr at DO;have HDO:=Lib.hid DO;clear DO YS YES AR4 XR4 OX SX;go_wp2_with fail;clear m0 m1 m2 v0 v1 v2 v3;refine HDO.out.mono ?_;rintro e w5 ⟨rfl,nd,on⟩;have R5:w5.heap[w.heap.size+2]? = some (.cells (arr4 z4) 26 (0,0)):=(on.block _ (lt_of_block S4.out.r) (fun g=>by have:=NN.out.low _ g;omega)).trans S4.out.r;have RES:Hid (ObPost w p F A d z q.1 q b (.returned (.tuple #[rec4 V,.int .i64 E])) (sto4 w5 (w.heap.size+2) 0 V)):=Lib.hid (YY.out _ GO.out (Nd.fin NN.out S4.out.bel nd on ((st4_only w5 (w.heap.size+2) V).mono fun j _ e=>by have:=S4.out.siz;subst e;exact ⟨by omega,by omega⟩)));have R3:=Lib.hid (st4_row R5 V);have d0:w5.cell? ⟨w.heap.size+2,0,none⟩=some (.int .u8 0):=row_cell R5 0;have d1:w5.cell? ⟨w.heap.size+2,1,none⟩=some (.int .u8 0):=row_cell R5 1;have d2:w5.cell? ⟨w.heap.size+2,2,none⟩=some (.int .u8 0):=row_cell R5 2;have d3:w5.cell? ⟨w.heap.size+2,3,none⟩=some (.int .u8 0):=row_cell R5 3;have k0:=row_frozen R5 0;have k1:=row_frozen R5 1;have k2:=row_frozen R5 2;have k3:=row_frozen R5 3;clear HDO nd on YY S4 R5;go_wp2
     (try simp only [Exit.inBlock,Exit.then])
     exact bodyPost_ret (results_rec (p:=8) (r:=9) rfl _ _ (w.heap.size+2) V (.int .i64 E) rfl rfl R3.out) rfl RES.out
   ·have h3':192≤q.2.1:=by omega
    have TK:Hid (∀ W,Calls Tryz.prog 59 #[.agg #[.int .u8 q.2.1,.int .u8 q.2.2.1]] W fun e w'=>e = .returned (.tuple #[.agg #[.int .i64 0,.int .i64 0,.int .i64 0],.int .i64 2])∧Below W.heap.size W w'):=Lib.hid fun W=>(TA.out W).mono fun e w' ⟨h,hb⟩=>⟨by rcases h with ⟨h,_⟩ | ⟨_,h⟩;omega;exact h,hb⟩;have QUIT:Hid (∀ w',Below w.heap.size w w'→ObPost w p F A d z q.1 q b (.returned (.tuple #[rec4 z4,.int .i64 2])) w'):=Lib.hid fun w'=>NO.out 2 w' (fun g=>h3 g.2.2.1) (by rw [if_neg (fun g=>g H1.out),if_neg (fun g=>g rfl),if_pos h3]);clear h3 h3' TA NO YES;go_wp2_with fail;clear d0 d1 d2 d3 k0 k1 k2 k3 p0 p1 x0 W0;refine (TK.out _).mono ?_;rintro e w2 ⟨rfl,bw⟩;have S2:=Lib.hid ((S1.out.mono bw).mono ((Below.refl w2.heap.size w2).alloc (Nat.le_refl _) (.cells #[.int .i64 0,.int .i64 0,.int .i64 0] 24)));clear bw S1 TK;go_upto_region 7 with fail;generalize w2.alloc (.cells #[.int .i64 0,.int .i64 0,.int .i64 0] 24)=W2 at *;generalize w2.heap.size=g3 at *;have d0:W2.cell? ⟨w.heap.size+2,0,none⟩=some (.int .u8 0):=row_cell S2.out.r 0;have d1:W2.cell? ⟨w.heap.size+2,1,none⟩=some (.int .u8 0):=row_cell S2.out.r 1;have d2:W2.cell? ⟨w.heap.size+2,2,none⟩=some (.int .u8 0):=row_cell S2.out.r 2;have d3:W2.cell? ⟨w.heap.size+2,3,none⟩=some (.int .u8 0):=row_cell S2.out.r 3;have k0:=row_frozen S2.out.r 0;have k1:=row_frozen S2.out.r 1;have k2:=row_frozen S2.out.r 2;have k3:=row_frozen S2.out.r 3;have R3:=Lib.hid (st4_row S2.out.r z4);have B3:=Lib.hid (sto4_below (o:=0) (r:=z4) S2.out.bel (show w.heap.size≤w.heap.size+2 by omega));clear S2;go_wp2
    (try simp only [Exit.inBlock,Exit.then])
    exact bodyPost_ret (results_rec (p:=8) (r:=9) rfl _ _ (w.heap.size+2) z4 (.int .i64 2) rfl rfl R3.out) rfl (QUIT.out _ B3.out)
  ·have QUIT:Hid (∀ w',Below w.heap.size w w'→ObPost w p F A d z n q b (.returned (.tuple #[rec4 z4,.int .i64 3])) w'):=Lib.hid fun w'=>NO.out 3 w' (fun g=>h2 g.2.1) (by rw [if_neg (fun g=>g H1.out),if_pos h2])
   clear S1 NO YES TA;go_wp2
   (try simp only [Exit.inBlock,Exit.then])
   exact bodyPost_ret (results_rec (p:=8) (r:=9) rfl _ _ (w.heap.size+2) z4 (.int .i64 3) rfl rfl R3.out) rfl (QUIT.out _ B3.out)
 ·clear S1
  go_wp2
  (try simp only [Exit.inBlock,Exit.then])
  exact bodyPost_ret (results_rec (p:=8) (r:=9) rfl _ _ (w.heap.size+2) z4 (.int .i64 14) rfl rfl R3.out) rfl (QUIT.out _ B3.out)
end Go.Proofs.YtelgnhmcnfibnaaGreatDoor.Sv
