import Derived.Test.YtpkipilggkbkeaaGreatDoorMg4
import Derived.Test.YtpkipilggkbkeaaGreatDoorMg5
import Derived.Deep.Cut
import Derived.Test.YtpkipilggkbkeaaGreatDoorMg2
import Derived.Test.YtpkipilggkbkeaaGreatDoorMg3
namespace Go.Proofs.YtpkipilggkbkeaaGreatDoor.Fs
open Go.RowKit Go.Maps
open Fl (R4 z4 K4 rec4 rat goodF goodFB okR okL file arr4 sto4 sto4_row sto4_below row_cell row_frozen at4)
open Rw (Rd Ow At)
set_option maxRecDepth 100000
theorem ret_i {a b:Int} (h:a=b):Ending.returned (.int .i64 a) = .returned (.int .i64 b):=by rw [h]
theorem at3 {w:World} {b off:Nat} {L:List Ent} (h:At E3 w b off L) {i:Nat} {c:Ent} (hc:L[i]? = some c) :
 w.cell? ⟨b,off+i * 3,none⟩=some (.int .i64 c.n)∧w.cell? ⟨b,off+i * 3+1,none⟩=some (.int .i64 c.p)∧w.cell? ⟨b,off+i * 3+2,none⟩=some c.sl:=by
 have hi:=(List.getElem?_eq_some_iff.1 hc).1;have e:L.getD i E3.dft=c:=by rw [List.getD_eq_getElem?_getD,hc];rfl
 exact ⟨h i hi 0 _ (by rw [e];rfl),h i hi 1 _ (by rw [e];rfl),h i hi 2 _ (by rw [e];rfl)⟩
def Ix (L:List Ent) (n q:Int):Prop:=(q = -1∧∀ x∈L,x.n≠n)∨∃ i:Nat,∃ c,q=i∧L[i]? = some c∧c.n=n∧∀ j,j < i→∀ e,L[j]? = some e→e.n≠n
theorem ix_none {L:List Ent} {n:Int} (h:look Ent.n n L=none):Ix L n (-1):=.inl ⟨rfl,look_none.1 h⟩
theorem ix_some {L:List Ent} {n:Int} {c:Ent} (hs:Srt Ent.n L) (h:look Ent.n n L=some c):∃ i:Nat,L[i]? = some c∧Ix L n i:=by
 obtain ⟨hm,hn⟩:=look_some h;obtain ⟨i,hi⟩:=List.getElem?_of_mem hm;refine ⟨i,hi,.inr ⟨i,c,rfl,hi,hn,fun j hj e he=>?_⟩⟩;obtain ⟨hi1,hi2⟩:=List.getElem?_eq_some_iff.1 hi;obtain ⟨hj1,hj2⟩:=List.getElem?_eq_some_iff.1 he;have:=List.pairwise_iff_getElem.1 hs j i hj1 hi1 hj;rw [hi2,hj2] at this
 omega
set_option maxHeartbeats 1000000 in
theorem rix_any {w:World} {r:Nat} {F:Nat→Prop} {v:Value} {L:List Ent} {d:Int} (R:Rst w r F v L d) {n q:Int} (hq:Ix L n q) :
 Calls Tryz.prog 95 #[.pointer (some ⟨r,0,none⟩),.int .i64 n] w fun e w'=>e = .returned (.int .i64 q)∧Below w.heap.size w w':=by
 have c0:w.cell? ⟨r,0,none⟩=some v:=row_cell R.row 0;have hlen:=R.len;obtain ⟨a,cap,rfl,_,_,h3⟩:=R.list.rd;have H3:=Lib.hid h3;have HQ:=Lib.hid hq;clear R h3 hq;generalize hn:L.length=N at *;have HN:=Lib.hid hn;have C0:=Lib.hid c0;clear hn c0
 go_enter Tryz.func95,Tryz.ntmps95
 go_wp2
 go_loopw [5] (fun i wr=>∃ k:Nat,k≤N∧i = .int .i64 k∧Hid (∀ j,j < k→∀ e,L[j]? = some e→e.n≠n)∧Hid (Below w.heap.size w wr)) (fun i _=>N - (intOf i).toNat)
 case atStart=>exact ⟨0,Nat.zero_le _,rfl,fun j hj=>by omega,Below.refl _ _⟩
 case round =>
  obtain ⟨k,hk,rfl,hb,B⟩:=hrel;have c0:=(B.out.cell (World.block_lt_of_cell? _ _ C0.out)).trans C0.out
  by_cases hlt:k < N
  ·have hkL:k < L.length:=by have:=HN.out;omega
   obtain ⟨c,hc⟩:∃ c,L[k]? = some c:=⟨_,List.getElem?_eq_getElem hkL⟩;obtain ⟨b,off,rfl,hA⟩:=H3.out (by omega);obtain ⟨x0,_,_⟩:=at3 (hA.below B.out) hc
   by_cases he:c.n=n
   ·have E:Hid (q=k):=by
     rcases HQ.out with ⟨_,h⟩ | ⟨i,c',e1,h1,h2,h3⟩
     ·exact absurd he (h c (List.mem_of_getElem? hc))
     ·have:i=k:=by
       rcases Nat.lt_trichotomy i k with h | h | h
       ·exact absurd h2 (hb.out i h c' h1)
       ·exact h
       ·exact absurd he (h3 k h c hc)
      show q=k
      rw [e1,this]
    clear hc hkL hA;generalize c.n=cn at *;subst he;go_wp2
    go_ret
    exact ⟨ret_i E.out.symm,B.out⟩
   ·have NB:Hid (∀ j,j < k+1→∀ e,L[j]? = some e→e.n≠n):=fun j hj e hje=>by
     by_cases ej:j=k
     ·subst ej
      rw [hc] at hje;obtain rfl:=Option.some.inj hje;exact he
     ·exact hb.out j (by omega) e hje
    clear hc hkL hA;generalize c.n=cn at *;go_wp2
    go_roundw
    case rel=>exact ⟨k+1,by omega,by go_num,NB,B⟩
    case measure=>simp [intOf];omega
  ·obtain rfl:k=N:=by omega
   have E:Hid (q = -1):=by
    rcases HQ.out with ⟨h,_⟩ | ⟨i,c',e1,h1,h2,h3⟩
    ·exact h
    ·have:=(List.getElem?_eq_some_iff.1 h1).1
     exact absurd h2 (hb.out i (by have:=HN.out;omega) c' h1)
   go_wp2
   go_ret
   exact ⟨ret_i E.out.symm,B.out⟩
set_option maxHeartbeats 1000000 in
theorem rget_none {w:World} {r:Nat} {F:Nat→Prop} {v:Value} {L:List Ent} {d:Int} (R:Rst w r F v L d) {n:Int} (k:Int) (hq:Ix L n (-1)) :
 Calls Tryz.prog 74 #[.pointer (some ⟨r,0,none⟩),.int .i64 n,.int .i64 k] w (GetPost w z4 false):=by
 obtain ⟨h1,hB,hz⟩:=one_rec w;have H1:=Lib.hid h1;have HB:=Lib.hid hB;have HZ:=Lib.hid hz;have RR:=Lib.hid R;have HX:=Lib.hid (rix_any (R.below hB) hq);clear h1 hB hz R hq RR;unfold arr4 z4 at H1 HB HZ HX
 go_enter Tryz.func74,Tryz.ntmps74
 go_wp2_with fail;generalize (w.alloc (.cells #[.int .u8 0,.int .u8 0,.int .u8 0,.int .u8 0] 96))=W at *;refine HX.out.mono ?_;rintro e w1 ⟨rfl,b1⟩;have hz:=HZ.out;have G:w1.heap[w.heap.size]? = some (.cells (arr4 z4) 96 (0,0)):=(b1.block _ (by omega)).trans H1.out;have B1:=Lib.hid (HB.out.trans (b1.mono HB.out.size));have d0:w1.cell? ⟨w.heap.size,0,none⟩=some (.int .u8 0):=row_cell G 0;have d1:w1.cell? ⟨w.heap.size,1,none⟩=some (.int .u8 0):=row_cell G 1;have d2:w1.cell? ⟨w.heap.size,2,none⟩=some (.int .u8 0):=row_cell G 2;have d3:w1.cell? ⟨w.heap.size,3,none⟩=some (.int .u8 0):=row_cell G 3;have k0:=row_frozen G 0;have k1:=row_frozen G 1;have k2:=row_frozen G 2;have k3:=row_frozen G 3;have R2:=Lib.hid (sto4_row G z4);have B2:=Lib.hid (sto4_below (o:=0) (r:=z4) B1.out (show w.heap.size≤w.heap.size by omega));clear b1 HX HB H1 HZ hz G B1;go_wp2
 (try simp only [Exit.inBlock,Exit.then])
 exact bodyPost_ret (results_rec (p:=6) (r:=7) rfl _ _ w.heap.size z4 (.bool false) rfl rfl R2.out) rfl ⟨rfl,B2.out⟩
set_option maxHeartbeats 1000000 in
theorem rget_no {w:World} {r:Nat} {F:Nat→Prop} {v:Value} {L:List Ent} {d:Int} (R:Rst w r F v L d) {n:Int} (k:Int) {i:Nat} {c:Ent} (hi:L[i]? = some c) (hq:Ix L n i) (hk:¬ (0≤k∧k < c.l.length)) :
 Calls Tryz.prog 74 #[.pointer (some ⟨r,0,none⟩),.int .i64 n,.int .i64 k] w (GetPost w z4 false):=by
 obtain ⟨h1,hB,hz⟩:=one_rec w;have H1:=Lib.hid h1;have HB:=Lib.hid hB;have HZ:=Lib.hid hz;have RR:=Lib.hid R;have HX:=Lib.hid (rix_any (R.below hB) hq);have hlen:=R.len;have hiL:=(List.getElem?_eq_some_iff.1 hi).1;obtain ⟨a,cap,rfl,_,_,h3⟩:=R.list.rd;obtain ⟨b,off,rfl,hA⟩:=h3 (by omega);have A3:=Lib.hid (at3 hA hi);have FR:=Lib.hid (R.list.file c (List.mem_of_getElem? hi));have CR:=Lib.hid (row_cell R.row 0);have hlt:i < L.length:=hiL;obtain ⟨cn,cp,ca,cc,cl⟩:=c;unfold Ent.sl at A3 FR;simp only at *;have HK:=Lib.hid hk;clear hk;generalize hcl:cl.length=q at *;clear hcl FR;clear h1 hB hz R hq h3 hA hi RR hiL;generalize L.length=N at *;unfold arr4 z4 at H1 HB HZ HX
 go_enter Tryz.func74,Tryz.ntmps74
 go_wp2_with fail;generalize (w.alloc (.cells #[.int .u8 0,.int .u8 0,.int .u8 0,.int .u8 0] 96))=W at *;refine HX.out.mono ?_;rintro e w1 ⟨rfl,b1⟩;have hz:=HZ.out;have G:w1.heap[w.heap.size]? = some (.cells (arr4 z4) 96 (0,0)):=(b1.block _ (by omega)).trans H1.out;have B1:=Lib.hid (HB.out.trans (b1.mono HB.out.size));have CELL:=Lib.hid (fun (p:Addr) (u:Value) (h:w.cell? p=some u)=>(B1.out.cell (World.block_lt_of_cell? _ _ h)).trans h);have c0:w1.cell? ⟨r,0,none⟩=some (.slice (some ⟨b,off,none⟩) N cap):=CELL.out _ _ CR.out;have c2:=CELL.out _ _ A3.out.2.2;have d0:w1.cell? ⟨w.heap.size,0,none⟩=some (.int .u8 0):=row_cell G 0;have d1:w1.cell? ⟨w.heap.size,1,none⟩=some (.int .u8 0):=row_cell G 1;have d2:w1.cell? ⟨w.heap.size,2,none⟩=some (.int .u8 0):=row_cell G 2;have d3:w1.cell? ⟨w.heap.size,3,none⟩=some (.int .u8 0):=row_cell G 3;have k0:=row_frozen G 0;have k1:=row_frozen G 1;have k2:=row_frozen G 2;have k3:=row_frozen G 3
 by_cases hk0:k < 0
 ·have R2:=Lib.hid (sto4_row G z4)
  have B2:=Lib.hid (sto4_below (o:=0) (r:=z4) B1.out (show w.heap.size≤w.heap.size by omega));clear b1 HX HB H1 HZ hz G B1 CELL A3 CR;go_wp2
  (try simp only [Exit.inBlock,Exit.then])
  exact bodyPost_ret (results_rec (p:=6) (r:=7) rfl _ _ w.heap.size z4 (.bool false) rfl rfl R2.out) rfl ⟨rfl,B2.out⟩
 ·have hkq:(q:Int)≤k:=by have:=HK.out;omega
  have R2:=Lib.hid (sto4_row G z4);have B2:=Lib.hid (sto4_below (o:=0) (r:=z4) B1.out (show w.heap.size≤w.heap.size by omega));clear b1 HX HB H1 HZ hz G B1 CELL A3 CR;go_wp2
  (try simp only [Exit.inBlock,Exit.then])
  exact bodyPost_ret (results_rec (p:=6) (r:=7) rfl _ _ w.heap.size z4 (.bool false) rfl rfl R2.out) rfl ⟨rfl,B2.out⟩
set_option maxHeartbeats 1000000 in
theorem rget_yes {w:World} {r:Nat} {F:Nat→Prop} {v:Value} {L:List Ent} {d:Int} (R:Rst w r F v L d) {n:Int} (k:Nat) {i:Nat} {c:Ent} (hi:L[i]? = some c) (hq:Ix L n i) (hk:k < c.l.length) :
 Calls Tryz.prog 74 #[.pointer (some ⟨r,0,none⟩),.int .i64 n,.int .i64 (k:Int)] w (GetPost w (rat c.l k) true):=by
 obtain ⟨h1,hB,hz⟩:=one_rec w;have H1:=Lib.hid h1;have HB:=Lib.hid hB;have HZ:=Lib.hid hz;have RR:=Lib.hid R;have HX:=Lib.hid (rix_any (R.below hB) hq);have hlen:=R.len;have hiL:=(List.getElem?_eq_some_iff.1 hi).1;obtain ⟨a,cap,rfl,_,_,h3⟩:=R.list.rd;obtain ⟨b,off,rfl,hA⟩:=h3 (by omega);have A3:=Lib.hid (at3 hA hi);have FR:=Lib.hid (R.list.file c (List.mem_of_getElem? hi));have CR:=Lib.hid (row_cell R.row 0);have hlt:i < L.length:=hiL;obtain ⟨cn,cp,ca,cc,cl⟩:=c;unfold Ent.sl at A3 FR;simp only at *;have hk0:k < cl.length:=hk;obtain ⟨fa,fcap,ef,_,_,f3⟩:=FR.out;obtain ⟨fb,fo,ef2,fA⟩:=f3 (by omega);obtain ⟨rfl,rfl⟩:ca=some ⟨fb,fo,none⟩∧cc=fcap:=by injection ef with e1 _ e3;exact ⟨e1.trans ef2,e3⟩
 have F4:=Lib.hid (at4 fA k hk0);clear ef ef2 f3 fA FR hk;generalize rat cl k=y at *;generalize hcl:cl.length=q at *;clear hcl;clear h1 hB hz R hq h3 hA hi RR hiL;generalize L.length=N at *;unfold arr4 z4 at H1 HB HZ HX
 go_enter Tryz.func74,Tryz.ntmps74
 go_wp2_with fail;generalize (w.alloc (.cells #[.int .u8 0,.int .u8 0,.int .u8 0,.int .u8 0] 96))=W at *;refine HX.out.mono ?_;rintro e w1 ⟨rfl,b1⟩;have hz:=HZ.out;have G:w1.heap[w.heap.size]? = some (.cells (arr4 z4) 96 (0,0)):=(b1.block _ (by omega)).trans H1.out;have B1:=Lib.hid (HB.out.trans (b1.mono HB.out.size));have CELL:=Lib.hid (fun (p:Addr) (u:Value) (h:w.cell? p=some u)=>(B1.out.cell (World.block_lt_of_cell? _ _ h)).trans h);have c0:w1.cell? ⟨r,0,none⟩=some (.slice (some ⟨b,off,none⟩) N cap):=CELL.out _ _ CR.out;have c2:=CELL.out _ _ A3.out.2.2;have d0:w1.cell? ⟨w.heap.size,0,none⟩=some (.int .u8 0):=row_cell G 0;have d1:w1.cell? ⟨w.heap.size,1,none⟩=some (.int .u8 0):=row_cell G 1;have d2:w1.cell? ⟨w.heap.size,2,none⟩=some (.int .u8 0):=row_cell G 2;have d3:w1.cell? ⟨w.heap.size,3,none⟩=some (.int .u8 0):=row_cell G 3;have k0:=row_frozen G 0;have k1:=row_frozen G 1;have k2:=row_frozen G 2;have k3:=row_frozen G 3;obtain ⟨y0,y1,y2,y3⟩:=F4.out;have q0:=CELL.out _ _ y0;have q1:=CELL.out _ _ y1;have q2:=CELL.out _ _ y2;have q3:=CELL.out _ _ y3;clear y0 y1 y2 y3 F4;have R2:=Lib.hid (sto4_row G y);have B2:=Lib.hid (sto4_below (o:=0) (r:=y) B1.out (show w.heap.size≤w.heap.size by omega));clear b1 HX HB H1 HZ hz G B1 CELL A3 CR;go_wp2
 (try simp only [Exit.inBlock,Exit.then])
 exact bodyPost_ret (results_rec (p:=6) (r:=7) rfl _ _ w.heap.size y (.bool true) rfl rfl R2.out) rfl ⟨rfl,B2.out⟩
theorem srtL {L:List Ent} (h:OkA (L.map Ent.abs)):Srt Ent.n L:=(map_srt (κ:=Ent.n) (κ':=key) abs_key).1 h.srt
theorem rget_any {w:World} {r:Nat} {F:Nat→Prop} {v:Value} {L:List Ent} {d:Int} (R:Rst w r F v L d) (n k:Int) :
 Calls Tryz.prog 74 #[.pointer (some ⟨r,0,none⟩),.int .i64 n,.int .i64 k] w (GetPost w (gV (L.map Ent.abs) n k) (gB (L.map Ent.abs) n k)):=by
 cases hk:look Ent.n n L with
 | none =>
   rw [gV_none hk,gB_none hk];exact rget_none R k (ix_none hk)
 | some c =>
   obtain ⟨i,hi,hq⟩:=ix_some (srtL R.ok) hk
   by_cases hr:0≤k∧k < c.l.length
   ·obtain ⟨j,rfl⟩:∃ j:Nat,k=j:=⟨k.toNat,by omega⟩
    rw [gV_some hk,gB_some hk,if_pos hr,decide_eq_true hr,Int.toNat_natCast];exact rget_yes R j hi hq (by omega)
   ·rw [gV_some hk,gB_some hk,if_neg hr,decide_eq_false hr]
    exact rget_no R k hi hq hr
end Go.Proofs.YtpkipilggkbkeaaGreatDoor.Fs
namespace Go.Proofs.YtpkipilggkbkeaaGreatDoor.Fs
open Go.RowKit Go.Maps
open Fl (R4 z4 K4 rec4 rat goodF goodFB okR okL file arr4 sto4 sto4_row sto4_below sto4_own sto4_other sto4_off own4 row_cell row_frozen at4 infoR)
open Rw (Rd Ow At)
set_option maxRecDepth 100000
attribute [local irreducible] Sd.wpSd wpQuiet Sf.wpSf
theorem Only.of_from {B:Nat} {w w':World} (h:Below B w w'):Only (fun k=>B≤k) w w':=⟨h.os,h.tape,h.output,h.size,fun k _ hn=>h.block k (by omega)⟩
def Gd (F:Nat→Prop) (r:Nat) (W:World) (c:Ent):Prop:=Rd K4 W c.sl c.l∧(0 < c.l.length→∀ k,c.sl.ownBlock=some k→¬ (F k∨k=r))
theorem Rst.next {w W:World} {r:Nat} {F:Nat→Prop} {v v':Value} {L L':List Ent} {d d':Int} (R:Rst w r F v L d) (hF:∀ k,F k→k < w.heap.size) (O:Only (fun k=>k=r) w W) (row:W.heap[r]? = some (.cells #[v',.int .i64 d'] 42 (0,0)))
 (own:Ow E3 W w.heap.size 67 v' L') (mem:∀ c∈L',c∈L∨Gd F r W c) (ok:OkA (L'.map Ent.abs)):Rst W r F v' L' d':=by
 have hr:=lt_of_block R.row;refine ⟨row,R.off,⟨own.rd,fun _ k hk g=>?_,fun c hc=>?_,fun c hc=>?_⟩,ok⟩
 ·have:=(ow_new own k hk).1
  rcases g with g | g
  ·have:=hF k g;omega
  ·omega
 ·rcases mem c hc with h | h
  ·exact rd_only (G:=fun k=>k=r) (R.list.file c h) (fun h0 k hk e=>R.list.foff c h h0 k hk (.inr e)) O
  ·exact h.1
 ·rcases mem c hc with h | h
  ·exact R.list.foff c h
  ·exact h.2
theorem gd_new {F:Nat→Prop} {r:Nat} {W:World} {B:Nat} {c:Ent} (hF:∀ k,F k→k < B) (hr:r < B) (o:Ow K4 W B 96 c.sl c.l):Gd F r W c:=⟨o.rd,fun _ k hk g=>by
 have:=(ow_new o k hk).1
 rcases g with g | g
 ·have:=hF k g;omega
 ·omega⟩
theorem set3 {w:World} {B g N cap i:Nat} {L:List Ent} {c c':Ent} (h:Ow E3 w B 67 (.slice (some ⟨g,0,none⟩) N cap) L) (hN:N=L.length) (hi:L[i]? = some c) (hn:c'.n=c.n) (hp:c'.p=c.p) :
 Ow E3 ((w.setCell ⟨g,i * 3+1,none⟩ (.int .i64 c'.p)).setCell ⟨g,i * 3+2,none⟩ c'.sl) B 67 (.slice (some ⟨g,0,none⟩) N cap) (L.set i c'):=by
 subst hN;obtain ⟨hl,he⟩:=List.getElem?_eq_some_iff.1 hi;have e:L.getD i E3.dft=c:=by rw [List.getD_eq_getElem?_getD,hi];rfl
 have h1:=h.set i 1 hl (by decide) (.int .i64 c'.p) c (by rw [e,hp];rfl);have e1:L.set i c=L:=by rw [← he];exact List.set_getElem_self hl
 rw [e1] at h1
 have h2:=h1.set i 2 hl (by decide) c'.sl c' (by
  rw [e]
  show [Value.int .i64 c'.n,.int .i64 c'.p,c'.sl] = [Value.int .i64 c.n,.int .i64 c.p,c'.sl]
  rw [hn,hp])
 exact h2
theorem own3 {w:World} {B g N cap i:Nat} {L:List Ent} {c:Ent} (h:Ow E3 w B 67 (.slice (some ⟨g,0,none⟩) N cap) L) (hi:L[i]? = some c) :
 (w.cell? ⟨g,i * 3,none⟩=some (.int .i64 c.n)∧w.cell? ⟨g,i * 3+1,none⟩=some (.int .i64 c.p)∧w.cell? ⟨g,i * 3+2,none⟩=some c.sl)∧(∀ j,w.frozen? ⟨g,j,none⟩=false)∧B≤g∧g < w.heap.size:=by
 obtain ⟨g',cap',eg,h1,h2,_,_,hf,hA⟩:=h.form (by have:=(List.getElem?_eq_some_iff.1 hi).1;omega);have e:g=g':=by
  injection eg with e1;injection e1 with e1;injection e1 with e1 _ _
 subst e;have c:=at3 hA hi;simp only [Nat.zero_add] at c;exact ⟨c,hf,h1,h2⟩
def RSPost (w:World) (r:Nat) (F:Nat→Prop) (d:Int) (b:Bool) (A':Abs) (e:Ending) (w':World):Prop:=e = .returned (.bool b)∧Rs w' r F A' d∧Only (fun k=>k=r) w w'
set_option maxHeartbeats 1000000 in
theorem rset_no (w:World) (r:Value) (n k:Int) (x y:R4) (b:Bool) (hb:b=false∨b=true∧k=0) (hh:∀ W,Below w.heap.size w W→Calls Tryz.prog 74 #[r,.int .i64 n,.int .i64 k] W (GetPost W y b)) :
 Calls Tryz.prog 75 #[r,.int .i64 n,.int .i64 k,rec4 x] w fun e w'=>e = .returned (.bool false)∧Below w.heap.size w w':=by
 obtain ⟨h1,hB,hz⟩:=box_rec w x;have HB:=Lib.hid hB;have HH:=Lib.hid (hh _ hB);clear h1 hB hz hh;unfold rec4;unfold arr4 at HB HH
 rcases hb with rfl | ⟨rfl,rfl⟩
 ·go_enter Tryz.func75,Tryz.ntmps75
  go_wp2_with fail;refine HH.out.mono ?_;rintro e w1 ⟨rfl,b1⟩;have B1:=Lib.hid (HB.out.trans (b1.mono HB.out.size));have B2:=Lib.hid (B1.out.alloc B1.out.size (.cells #[.int .u8 y.1,.int .u8 y.2.1,.int .u8 y.2.2.1,.int .u8 y.2.2.2] 96));clear b1 HH HB;unfold rec4;go_wp2
  go_ret
  exact ⟨rfl,B2.out⟩
 ·go_enter Tryz.func75,Tryz.ntmps75
  go_wp2_with fail;refine HH.out.mono ?_;rintro e w1 ⟨rfl,b1⟩;have B1:=Lib.hid (HB.out.trans (b1.mono HB.out.size));have B2:=Lib.hid (B1.out.alloc B1.out.size (.cells #[.int .u8 y.1,.int .u8 y.2.1,.int .u8 y.2.2.1,.int .u8 y.2.2.2] 96));clear b1 HH HB;unfold rec4;go_wp2
  go_ret
  exact ⟨rfl,B2.out⟩
structure RC (r:Nat) (v:Value) (d:Int) (g:Nat) (p:Int) (u:Value) (W:World):Prop where
 row:W.heap[r]? = some (.cells #[v,.int .i64 d] 42 (0,0))
 box:W.heap[g]? = some (.cells #[.int .i64 p,u] 65 (0,0))
set_option maxHeartbeats 4000000 in
theorem rset_yes {w:World} {r:Nat} {F:Nat→Prop} {v:Value} {L:List Ent} {d:Int} (R:Rst w r F v L d) (hF:∀ k,F k→k < w.heap.size) {n:Int} (k:Nat) (x:R4) (hx:okR x) {i:Nat} {c:Ent} (hi:L[i]? = some c) (hq:Ix L n i) (hk:k < c.l.length) (hk0:k≠0) (y:R4) (hh:∀ W,Below w.heap.size w W→Calls Tryz.prog 74 #[.pointer (some ⟨r,0,none⟩),.int .i64 n,.int .i64 k] W (GetPost W y true)) :
 Calls Tryz.prog 75 #[.pointer (some ⟨r,0,none⟩),.int .i64 n,.int .i64 (k:Int),rec4 x] w (RSPost w r F d true ((L.set i (⟨c.n,c.p,none,0,c.l.set k x⟩:Ent)).map Ent.abs)):=by
 obtain ⟨h1,hB,hz⟩:=box_rec w x;have HB:=Lib.hid hB;have H1:=Lib.hid h1;have HH:=Lib.hid (hh _ hB);have IX:=Lib.hid (fun W (hb:Below w.heap.size w W)=>rix_any (R.below hb) hq);have RR:=Lib.hid R;have HI:=Lib.hid hi;have HF:=Lib.hid hF;have hlen:=R.len;have hil:i < L.length:=(List.getElem?_eq_some_iff.1 hi).1;have hrl:r < w.heap.size:=lt_of_block R.row;have hmem:=List.mem_of_getElem? hi;have hcm:c.abs∈L.map Ent.abs:=List.mem_map_of_mem hmem;have FR:=Lib.hid (R.list.file c hmem);have FO:=Lib.hid (R.list.foff c hmem);have GDC:=Lib.hid (R.ok.good _ hcm);obtain ⟨va,vcap,rfl,_⟩:=R.list.rd.slice;have FIN:Hid (∀ (ua:Option Addr) (uc:Nat) (v':Value) (W:World),Only (fun k=>k=r) w W→W.heap[r]? = some (.cells #[v',.int .i64 d] 42 (0,0))→Ow E3 W w.heap.size 67 v' (L.set i (⟨c.n,c.p,ua,uc,c.l.set k x⟩:Ent))→Ow K4 W w.heap.size 96 (⟨c.n,c.p,ua,uc,c.l.set k x⟩:Ent).sl (c.l.set k x)→RSPost w r F d true ((L.set i (⟨c.n,c.p,none,0,c.l.set k x⟩:Ent)).map Ent.abs) (.returned (.bool true)) W):=fun ua uc v' W O row own new=>by
  have e:(L.set i (⟨c.n,c.p,ua,uc,c.l.set k x⟩:Ent)).map Ent.abs=(L.set i (⟨c.n,c.p,none,0,c.l.set k x⟩:Ent)).map Ent.abs:=by rw [List.map_set,List.map_set];rfl
  have ok:OkA ((L.set i (⟨c.n,c.p,none,0,c.l.set k x⟩:Ent)).map Ent.abs):=by
   have e3:put Ent.n (⟨c.n,c.p,none,0,c.l.set k x⟩:Ent) L=L.set i (⟨c.n,c.p,none,0,c.l.set k x⟩:Ent):=put_set (srtL R.ok) hi rfl;rw [← e3,abs_put];exact R.ok.put (R.ok.nm _ hcm) (good_set (R.ok.good _ hcm) hk0) (okL_set (R.ok.ok _ hcm) hx)
  refine ⟨rfl,⟨v',_,R.next hF O row own (fun e he=>?_) (by rw [e];exact ok),e⟩,O⟩
  rcases List.mem_or_eq_of_mem_set he with h | rfl
  ·exact .inl h
  ·exact .inr (gd_new hF hrl new)
 clear h1 hB hz hh R hi hq hF hmem hcm hx;unfold Ent.sl at FR FO;generalize hN:L.length=N at *;have HN:=Lib.hid hN;have hr0:((k:Int) == 0)=false:=by simpa using hk0
 have HK0:=Lib.hid hk0;clear hN hk0;unfold rec4;unfold arr4 at H1 HB HH
 go_enter Tryz.func75,Tryz.ntmps75
 go_wp2_with fail;generalize (w.alloc (.cells #[.int .u8 x.1,.int .u8 x.2.1,.int .u8 x.2.2.1,.int .u8 x.2.2.2] 96))=W0 at *;refine HH.out.mono ?_;rintro e w1 ⟨rfl,b1⟩;have B2:=Lib.hid ((HB.out.trans (b1.mono HB.out.size)).alloc (HB.out.trans (b1.mono HB.out.size)).size (.cells #[.int .u8 y.1,.int .u8 y.2.1,.int .u8 y.2.2.1,.int .u8 y.2.2.2] 96));have H2:=Lib.hid ((Below.heap_alloc w1 (.cells #[.int .u8 y.1,.int .u8 y.2.1,.int .u8 y.2.2.1,.int .u8 y.2.2.2] 96) w.heap.size (by have:=b1.size;have:=lt_of_block H1.out;omega)).trans ((b1.block _ (lt_of_block H1.out)).trans H1.out));clear b1 HH HB H1;unfold rec4;go_wp2_with fail;clear hr0;generalize (w1.alloc (.cells #[.int .u8 y.1,.int .u8 y.2.1,.int .u8 y.2.2.1,.int .u8 y.2.2.2] 96))=W2 at *;refine (IX.out _ B2.out).mono ?_;rintro e w3 ⟨rfl,b3⟩;have B3:=Lib.hid (B2.out.trans (b3.mono B2.out.size));have H3:=Lib.hid ((b3.block _ (lt_of_block H2.out)).trans H2.out);clear b3 B2 H2 IX;have B4:=Lib.hid (B3.out.alloc B3.out.size (.cells #[] 67));have R4':=RR.out.below B4.out;have c0:(w3.alloc (.cells #[] 67)).cell? ⟨r,0,none⟩=some (.slice va N vcap):=row_cell R4'.row 0;have RDL:=Lib.hid R4'.list.rd;have OM:=Lib.hid (Rw.Ow.made (K:=E3) w3 w3.heap.size 67 (Nat.le_refl _));clear R4'
 go_wp2_with (at_builtin;refine Rw.all_step (K:=E3) Tryz.underlying38 infoE3 rfl (by omega) rfl _ _ rfl w3.heap.size _ _ rfl OM.out _ L rfl RDL.out ?c1 ?c2 ?_)
 case c1=>simp only [List.length_nil];have:=HN.out;omega
 case c2=>simp
 intro v5 w5 o5 b5
 obtain ⟨g5,cap5,e5⟩:∃ g cap,v5 = .slice (some ⟨g,0,none⟩) N cap:=by
  obtain ⟨g,cap,e,_⟩:=o5.form (by have:=HN.out;omega);rw [HN.out] at e;exact ⟨g,cap,e⟩
 subst e5;have B5:=Lib.hid (B4.out.trans (b5.mono B3.out.size));have Rw5:=(B5.out.block r hrl).trans RR.out.row;have c5:w5.cell? ⟨r,0,none⟩=some (.slice va N vcap):=row_cell Rw5 0;have f5:=row_frozen Rw5 0;have Row6:=Lib.hid (Rw.heap_setCell_same (j:=0) Rw5 (.slice (some ⟨g5,0,none⟩) N cap5));have O6:Hid (Only (fun k=>k=r) w (w5.setCell ⟨r,0,none⟩ (.slice (some ⟨g5,0,none⟩) N cap5))):=(Only.of_below B5.out).trans (Only.set (fun k=>k=r) w5 (a:=⟨r,0,none⟩) rfl _) fun _ _ g=>g;have OW6:=Lib.hid (o5.far (p:=⟨r,0,none⟩) Rw5 (by decide) (.slice (some ⟨g5,0,none⟩) N cap5));have Bx6:=Lib.hid ((Below.heap_setCell w5 ⟨r,0,none⟩ (.slice (some ⟨g5,0,none⟩) N cap5) w.heap.size (by show w.heap.size≠r;omega)).trans ((b5.block _ (by have:=lt_of_block H3.out;exact this)).trans ((Below.heap_alloc w3 (.cells #[] 67) w.heap.size (lt_of_block H3.out)).trans H3.out)));have hw3:Hid (w.heap.size≤w3.heap.size):=B3.out.size;clear b5 o5 B5 Rw5 B4 B3 H3 OM RDL c0;go_upto_region 6 with fail;clear c5 f5;generalize w5.setCell ⟨r,0,none⟩ (.slice (some ⟨g5,0,none⟩) N cap5)=w6 at *;obtain ⟨⟨_,q1,q2⟩,_,hg5,_⟩:=own3 OW6.out HI.out;have HG5:=Lib.hid hg5;have c6:w6.cell? ⟨r,0,none⟩=some (.slice (some ⟨g5,0,none⟩) N cap5):=row_cell Row6.out 0;unfold Ent.sl at q2;have B7:=Lib.hid ((Below.refl w6.heap.size w6).alloc (Nat.le_refl _) (.cells #[.int .i64 c.p,.slice c.a c.l.length c.cap] 65));have N7:=Lib.hid (heap_alloc_new w6 (.cells #[.int .i64 c.p,.slice c.a c.l.length c.cap] 65));clear hg5;go_upto_region 7 with fail;clear q1 q2 c6;have hz7:Hid ((w6.alloc (.cells #[.int .i64 c.p,.slice c.a c.l.length c.cap] 65)).heap.size=w6.heap.size+1):=by unfold Hid;simp
 generalize (w6.alloc (.cells #[.int .i64 c.p,.slice c.a c.l.length c.cap] 65))=w7 at *;have FR7:=Lib.hid ((rd_only FR.out (G:=fun k=>k=r) (fun h0 k hk e=>FO.out h0 k hk (.inr e)) (O6.out.then B7.out)).below ((Below.refl w7.heap.size w7).alloc (Nat.le_refl _) (.cells #[] 96)));have OM:=Lib.hid (Rw.Ow.made (K:=K4) w7 w7.heap.size 96 (Nat.le_refl _));have BA:=Lib.hid (Below.heap_alloc w7 (.cells #[] 96));have k7:(w7.alloc (.cells #[] 96)).cell? ⟨w6.heap.size,1,none⟩=some (.slice c.a c.l.length c.cap):=row_cell ((BA.out _ (by have:=hz7.out;omega)).trans N7.out) 1
 go_wp2_with (at_builtin;refine Rw.all_step (K:=K4) Tryz.underlying63 infoR rfl (by omega) rfl _ _ rfl w7.heap.size _ _ rfl OM.out _ c.l rfl FR7.out ?c1 ?c2 ?_)
 case c1=>simp only [List.length_nil];have:=GDC.out.2.2.2.1;have e:c.abs.2.2=c.l:=rfl;rw [e] at this;omega
 case c2=>simp
 intro u8 w8 o8 b8
 obtain ⟨g8,cap8,e8⟩:∃ g cap,u8 = .slice (some ⟨g,0,none⟩) c.l.length cap:=by
  obtain ⟨g,cap,e,_⟩:=o8.form (by omega);exact ⟨g,cap,e⟩
 subst e8;have B8:Below w7.heap.size w7 w8:=((Below.refl w7.heap.size w7).alloc (Nat.le_refl _) _).trans b8;have N8:=Lib.hid ((B8.block w6.heap.size (by have:=hz7.out;omega)).trans N7.out);have k8:w8.cell? ⟨w6.heap.size,1,none⟩=some (.slice c.a c.l.length c.cap):=row_cell N8.out 1;have f8:=row_frozen N8.out 1;have hs67:Hid (w6.heap.size < w7.heap.size):=by have:=hz7.out;show _ < _;omega
 have hwr6:Hid (w.heap.size≤w6.heap.size):=O6.out.size;have Bx8:=Lib.hid ((B8.block _ (by have:=lt_of_block Bx6.out;have:=hs67.out;omega)).trans ((B7.out.block _ (lt_of_block Bx6.out)).trans Bx6.out));have Row8:=Lib.hid ((B8.block r (by have:=hwr6.out;have:=hs67.out;omega)).trans ((B7.out.block r (by have:=hwr6.out;omega)).trans Row6.out));have OW8:=Lib.hid ((OW6.out.keep B7.out).keep B8);have O8:=Lib.hid o8;have n86:(Value.slice (some ⟨g8,0,none⟩) c.l.length cap8).ownBlock≠some w6.heap.size:=o8.range (.inl hs67.out);have n56:(Value.slice (some ⟨g5,0,none⟩) N cap5).ownBlock≠some w6.heap.size:=by
  intro e
  have:=(ow_new OW6.out w6.heap.size e).2
  omega
 have L8:Hid (Only (fun k=>k=r) w w8):=(O6.out.then B7.out).then B8;have Row9:=Lib.hid ((Below.heap_setCell w8 ⟨w6.heap.size,1,none⟩ (.slice (some ⟨g8,0,none⟩) c.l.length cap8) r (by have:=hwr6.out;show r≠w6.heap.size;omega)).trans Row8.out);have Bx9:=Lib.hid ((Below.heap_setCell w8 ⟨w6.heap.size,1,none⟩ (.slice (some ⟨g8,0,none⟩) c.l.length cap8) w.heap.size (by have:=lt_of_block Bx6.out;show w.heap.size≠w6.heap.size;omega)).trans Bx8.out);have N9:=Lib.hid (Rw.heap_setCell_same (j:=1) N8.out (.slice (some ⟨g8,0,none⟩) c.l.length cap8));have OW9:=Lib.hid (OW8.out.off (p:=⟨w6.heap.size,1,none⟩) n56 (.slice (some ⟨g8,0,none⟩) c.l.length cap8));have O9:=Lib.hid (O8.out.off (p:=⟨w6.heap.size,1,none⟩) n86 (.slice (some ⟨g8,0,none⟩) c.l.length cap8));have L9:Hid (Only (fun k=>k=r) w (w8.setCell ⟨w6.heap.size,1,none⟩ (.slice (some ⟨g8,0,none⟩) c.l.length cap8))):=L8.out.trans (Only.of_from (B:=w.heap.size) ((Below.refl w.heap.size w8).setCell (p:=⟨w6.heap.size,1,none⟩) hwr6.out _)) fun k hk g=>by omega
 clear B8 b8 o8 k7 BA OM FR7 Bx6 Bx8 Row6 Row8 OW6 OW8 O8 L8 N7 B7 n86 n56 O6;go_upto_region 8 with fail;clear k8 f8 N8;generalize w8.setCell ⟨w6.heap.size,1,none⟩ (.slice (some ⟨g8,0,none⟩) c.l.length cap8)=w9 at *;have k9:w9.cell? ⟨w6.heap.size,1,none⟩=some (.slice (some ⟨g8,0,none⟩) c.l.length cap8):=row_cell N9.out 1;have x0:w9.cell? ⟨w.heap.size,0,none⟩=some (.int .u8 x.1):=row_cell Bx9.out 0;have x1:w9.cell? ⟨w.heap.size,1,none⟩=some (.int .u8 x.2.1):=row_cell Bx9.out 1;have x2:w9.cell? ⟨w.heap.size,2,none⟩=some (.int .u8 x.2.2.1):=row_cell Bx9.out 2;have x3:w9.cell? ⟨w.heap.size,3,none⟩=some (.int .u8 x.2.2.2):=row_cell Bx9.out 3;obtain ⟨⟨d0,d1,d2,d3⟩,hfr,hg8,_⟩:=own4 O9.out k hk;have f0:=hfr (k * 4);have f1:=hfr (k * 4+1);have f2:=hfr (k * 4+2);have f3:=hfr (k * 4+3);have g8r:r≠g8:=by have:=hwr6.out;have:=hs67.out;omega
 have g86:w6.heap.size≠g8:=by have:=hs67.out;omega
 have g85:(Value.slice (some ⟨g5,0,none⟩) N cap5).ownBlock≠some g8:=by
  intro e
  obtain rfl:g5=g8:=by simpa [Value.ownBlock] using e
  obtain ⟨_,_,_,h5,_,_⟩:=OW9.out.form (by have:=HN.out;omega);obtain ⟨cur,hh⟩:∃ cur,w9.heap[g5]? = some (.cells cur 67 (0,0)):=by
   obtain ⟨_,h2⟩:=OW9.out
   rcases h2 with ⟨e,_⟩ | ⟨g,cap,cur,e,_,hh,_⟩
   ·cases e
   ·obtain rfl:g5=g:=by injection e with e;injection e with e;injection e
    exact ⟨cur,hh⟩
  exact O9.out.apart hh (by decide) rfl
 have Row10:=Lib.hid (sto4_other (g:=g8) (o:=k * 4) (r:=x) Row9.out g8r);have N10:=Lib.hid (sto4_other (g:=g8) (o:=k * 4) (r:=x) N9.out g86);have OW10:Hid (Ow E3 (sto4 w9 g8 (k * 4) x) w3.heap.size 67 (.slice (some ⟨g5,0,none⟩) N cap5) L):=(((OW9.out.off (p:=⟨g8,k * 4,none⟩) g85 _).off (p:=⟨g8,k * 4+1,none⟩) g85 _).off (p:=⟨g8,k * 4+2,none⟩) g85 _).off (p:=⟨g8,k * 4+3,none⟩) g85 _;have O10:=Lib.hid (sto4_own O9.out rfl k hk x);have L10:Hid (Only (fun k=>k=r) w (sto4 w9 g8 (k * 4) x)):=L9.out.trans (Only.of_from (B:=w.heap.size) (sto4_below (o:=k * 4) (r:=x) (Below.refl w.heap.size w9) (by have:=hwr6.out;have:=hs67.out;omega))) fun k hk g=>by omega
 have hg58:Hid (g5≠g8):=fun e=>g85 (by rw [e];rfl);have hg56:Hid (g5≠w6.heap.size):=by
  intro e
  obtain ⟨_,h2⟩:=OW9.out
  rcases h2 with ⟨e2,_⟩ | ⟨g,cap,cur,e2,_,hh,_⟩
  ·cases e2
  ·obtain rfl:g5=g:=by injection e2 with e2;injection e2 with e2;injection e2
   rw [e,N9.out] at hh;injection hh with hh;injection hh with _ hh _
   cases hh
 clear hfr hg8 g8r g86 g85 Row9 N9 OW9 O9 L9 Bx9;unfold sto4 at Row10 N10 OW10 O10 L10;go_wp2_with fail;clear d0 d1 d2 d3 f0 f1 f2 f3 x0 x1 x2 x3 k9;generalize (((w9.setCell ⟨g8,k * 4,none⟩ (.int .u8 x.1)).setCell ⟨g8,k * 4+1,none⟩ (.int .u8 x.2.1)).setCell ⟨g8,k * 4+2,none⟩ (.int .u8 x.2.2.1)).setCell ⟨g8,k * 4+3,none⟩ (.int .u8 x.2.2.2)=w10 at *;have C0:RC r (.slice (some ⟨g5,0,none⟩) N cap5) d w6.heap.size c.p (.slice (some ⟨g8,0,none⟩) c.l.length cap8) w10.drew:=⟨Row10.out,N10.out⟩;have c0:=Sc.cell_in (C:=RC r (.slice (some ⟨g5,0,none⟩) N cap5) d w6.heap.size c.p (.slice (some ⟨g8,0,none⟩) c.l.length cap8)) (a:=⟨r,0,none⟩) (fun W' h=>row_cell h.row 0);have r0:=Sc.cell_in (C:=RC r (.slice (some ⟨g5,0,none⟩) N cap5) d w6.heap.size c.p (.slice (some ⟨g8,0,none⟩) c.l.length cap8)) (a:=⟨w6.heap.size,0,none⟩) (fun W' h=>row_cell h.box 0);have r1:=Sc.cell_in (C:=RC r (.slice (some ⟨g5,0,none⟩) N cap5) d w6.heap.size c.p (.slice (some ⟨g8,0,none⟩) c.l.length cap8)) (a:=⟨w6.heap.size,1,none⟩) (fun W' h=>row_cell h.box 1);have ne:Nonempty (Sc.In (RC r (.slice (some ⟨g5,0,none⟩) N cap5) d w6.heap.size c.p (.slice (some ⟨g8,0,none⟩) c.l.length cap8))):=⟨⟨_,C0⟩⟩;refine Sc.start (RC r (.slice (some ⟨g5,0,none⟩) N cap5) d w6.heap.size c.p (.slice (some ⟨g8,0,none⟩) c.l.length cap8)) [(false,0),(false,1),(false,2),(false,3),(false,4),(false,5),(false,6),(false,7),(true,8)] (by kernel_rfl) (by kernel_rfl) (by kernel_rfl) C0 ?_;dsimp only [Sd.picks,List.getElem?_cons_succ,List.getElem?_cons_zero]
 repeat (refine Sd.lit ?_;quiet_step (fail);refine wpQuiet_nil ?_)
 have OW11:Hid (Ow E3 w10.drew w3.heap.size 67 (.slice (some ⟨g5,0,none⟩) N cap5) L):=OW10.out;have O11:Hid (Ow K4 w10.drew w7.heap.size 96 (.slice (some ⟨g8,0,none⟩) c.l.length cap8) (c.l.set k x)):=O10.out;have L11:Hid (Only (fun k=>k=r) w w10.drew):=L10.out.then ((Below.refl _ _).drew);have Row11:Hid (w10.drew.heap[r]? = _):=Row10.out;have N11:Hid (w10.drew.heap[w6.heap.size]? = _):=N10.out;clear c0 r0 r1 C0 OW10 O10 L10 Row10 N10;generalize w10.drew=w11 at *;refine Sd.call (by rfl) (fun K hK=>?_);obtain ⟨⟨_,q1,q2⟩,hfr,_,_⟩:=own3 OW11.out HI.out;unfold Ent.sl at q2;have f1:=hfr (i * 3+1);have f2:=hfr (i * 3+2);have hg5r:g5≠r:=by have:=HG5.out;have:=hw3.out;omega
 have RES:Hid (RSPost w r F d true ((L.set i (⟨c.n,c.p,none,0,c.l.set k x⟩:Ent)).map Ent.abs) (.returned (.bool true)) ((w11.setCell ⟨g5,i * 3+1,none⟩ (.int .i64 c.p)).setCell ⟨g5,i * 3+2,none⟩ (.slice (some ⟨g8,0,none⟩) c.l.length cap8))):=by
  have esl:(⟨c.n,c.p,some ⟨g8,0,none⟩,cap8,c.l.set k x⟩:Ent).sl = .slice (some ⟨g8,0,none⟩) c.l.length cap8:=by unfold Ent.sl;rw [List.length_set]
  have hn8:∀ j,(Value.slice (some ⟨g8,0,none⟩) c.l.length cap8).ownBlock≠some (⟨g5,j,none⟩:Addr).block:=fun j e=>by
   have:g8=g5:=by simpa [Value.ownBlock] using e
   exact hg58.out this.symm
  refine FIN.out (some ⟨g8,0,none⟩) cap8 (.slice (some ⟨g5,0,none⟩) N cap5) _ ?_ ?_ ?_ ?_
  ·have hwg:w.heap.size≤g5:=by have:=HG5.out;have:=hw3.out;omega
   exact L11.out.trans (Only.of_from (B:=w.heap.size) (((Below.refl w.heap.size w11).setCell (p:=⟨g5,i * 3+1,none⟩) hwg _).setCell (p:=⟨g5,i * 3+2,none⟩) hwg _)) fun k hk g=>by omega
  ·exact (Below.heap_setCell _ ⟨g5,i * 3+2,none⟩ _ r (fun e=>hg5r e.symm)).trans ((Below.heap_setCell _ ⟨g5,i * 3+1,none⟩ _ r (fun e=>hg5r e.symm)).trans Row11.out)
  ·have:=set3 (c':=⟨c.n,c.p,some ⟨g8,0,none⟩,cap8,c.l.set k x⟩) OW11.out HN.out.symm HI.out rfl rfl
   rw [esl] at this;exact this.low hw3.out
  ·rw [esl]
   exact ((O11.out.off (hn8 _) _).off (hn8 _) _).low (by have:=hwr6.out;have:=hs67.out;omega)
 have Row12:RC r (.slice (some ⟨g5,0,none⟩) N cap5) d w6.heap.size c.p (.slice (some ⟨g8,0,none⟩) c.l.length cap8) ((w11.setCell ⟨g5,i * 3+1,none⟩ (.int .i64 c.p)).setCell ⟨g5,i * 3+2,none⟩ (.slice (some ⟨g8,0,none⟩) c.l.length cap8)) :=
  ⟨(Below.heap_setCell _ ⟨g5,i * 3+2,none⟩ _ r (fun e=>hg5r e.symm)).trans ((Below.heap_setCell _ ⟨g5,i * 3+1,none⟩ _ r (fun e=>hg5r e.symm)).trans Row11.out),
   (Below.heap_setCell _ ⟨g5,i * 3+2,none⟩ _ w6.heap.size (fun e=>hg56.out e.symm)).trans ((Below.heap_setCell _ ⟨g5,i * 3+1,none⟩ _ w6.heap.size (fun e=>hg56.out e.symm)).trans N11.out)⟩
 clear hfr hg5r FIN OW11 O11 L11 Row11 N11;go_simp;refine hK _ _ (Sc.Cl.of Row12) ?_;clear hK K q1 q2 f1 f2 Row12;generalize (w11.setCell ⟨g5,i * 3+1,none⟩ (.int .i64 c.p)).setCell ⟨g5,i * 3+2,none⟩ (.slice (some ⟨g8,0,none⟩) c.l.length cap8)=w12 at *;refine Sd.done ?_;go_wp2
 go_ret
 exact RES.out
theorem rset_any {w:World} {r:Nat} {F:Nat→Prop} {A:Abs} {d:Int} (R:Rs w r F A d) (hF:∀ k,F k→k < w.heap.size) (n k:Int) (x:R4) (hx:okR x) :
 Calls Tryz.prog 75 #[.pointer (some ⟨r,0,none⟩),.int .i64 n,.int .i64 k,rec4 x] w (RSPost w r F d (sB A n k) (sA A n k x)):=by
 obtain ⟨v,L,h,rfl⟩:=R;have no:∀ e w',sB (L.map Ent.abs) n k=false→(e = .returned (.bool false)∧Below w.heap.size w w')→RSPost w r F d (sB (L.map Ent.abs) n k) (sA (L.map Ent.abs) n k x) e w':=fun e w' hb ⟨he,b⟩=>by
  unfold RSPost;rw [hb,sA_no hb x];exact ⟨he,⟨v,L,h.below b,rfl⟩,Only.of_below b⟩
 cases hb:gB (L.map Ent.abs) n k with
 | false=>exact (rset_no w _ n k x _ false (.inl rfl) fun W hbl=>by have:=rget_any (h.below hbl) n k;rwa [hb] at this).mono fun e w'=>no e w' (by unfold sB;rw [hb];rfl)
 | true =>
   by_cases h0:k=0
   ·exact (rset_no w _ n k x _ true (.inr ⟨rfl,h0⟩) fun W hbl=>by have:=rget_any (h.below hbl) n k;rwa [hb] at this).mono fun e w'=>no e w' (by unfold sB;rw [hb,h0];rfl)
   ·cases hk:look Ent.n n L with
    | none=>rw [gB_none hk] at hb;cases hb
    | some c =>
      rw [gB_some hk] at hb;obtain ⟨h1,h2⟩:=of_decide_eq_true hb;obtain ⟨i,hi,hq⟩:=ix_some (srtL h.ok) hk;rw [sB_some hk h1 h2 h0,sA_some hk h1 h2 h0];obtain ⟨j,rfl⟩:∃ j:Nat,k=j:=⟨k.toNat,by omega⟩;rw [Int.toNat_natCast];have e:(put Ent.n (c.recs (c.l.set j x)) L).map Ent.abs=(L.set i (⟨c.n,c.p,none,0,c.l.set j x⟩:Ent)).map Ent.abs:=by
       have e3:put Ent.n (c.recs (c.l.set j x)) L=L.set i (c.recs (c.l.set j x)):=put_set (srtL h.ok) hi rfl;rw [e3,List.map_set,List.map_set]
       rfl
      rw [e];exact rset_yes h hF j x hx hi hq (by omega) (by omega) _ fun W hbl=>by
       have:=rget_any (h.below hbl) n j;rw [gB_some hk,decide_eq_true ⟨h1,h2⟩] at this;exact this
end Go.Proofs.YtpkipilggkbkeaaGreatDoor.Fs
namespace Go.Proofs.YtpkipilggkbkeaaGreatDoor.Sz
open Go.RowKit
open Sd (light light_value picks)
open Sc (In)
def wpAnyZ (P:Program) (md:Region.Mode) (ops:Array Oper) (Q:Exit→Act→World→Prop) (S:World→Prop) (z:Nat):Nat→Array Bool→Act→World→Prop
 | 0,listed,a,w=>Region.ready md ops listed = []∧Q .normal a w
 | fuel+1,listed,a,w =>
   (Region.ready md ops listed = []→Q .normal a w) ∧
   ∀ i∈Region.ready md ops listed,wpOp P ops Q i (fun a' w'=>(i=z∨S w')∧wpAnyZ P md ops Q S z fuel (listed.setIfInBounds i true) a' w') a w
section
variable {P:Program} {md:Region.Mode} {ops:Array Oper} {Q:Exit→Act→World→Prop} {S:World→Prop} {z:Nat}
theorem any_of:∀ (fuel:Nat) (listed:Array Bool) (a:Act) (w:World),wpAnyZ P md ops Q S z fuel listed a w→wpAny P md ops Q fuel listed a w
 | 0,_,_,_,h=>h
 | fuel+1,_,_,_,h=>⟨h.1,fun i hi=>wpOp_mono (fun a' w' h'=>any_of fuel _ a' w' h'.2) (h.2 i hi)⟩
def Blocks (md:Region.Mode) (ops:Array Oper) (z i:Nat) (listed:Array Bool):Prop:=∃ oz e,ops[z]? = some oz∧e∈oz.after∧Region.binds md e=true∧listed.getD e.on true=false∧(e.on=i∨∃ ok,ops[e.on]? = some ok∧∃ e'∈ok.after,Region.binds md e'=true∧e'.on=i)
theorem first {i:Nat} {oi:Oper} {v:Value} (hi:ops[i]? = some oi) (hsel:∀ (j:Nat) (o:Oper) cs b,ops[j]? = some o→o.op≠.select cs b)
 (hQ:∀ c a w,Q (.panic c) (a.put oi.dst v) w→Q (.panic c) a w) :
 ∀ (fuel:Nat) (listed:Array Bool) (a:Act) (w:World),Blocks md ops z i listed →
  (∀ j oj,ops[j]? = some oj→j≠i→listed.getD j true=false→(∀ e∈oj.after,Region.binds md e=true→e.on≠i)→oi.apart ops oj=true) →
  i∈Region.ready md ops listed→YieldsIf P ops S oi v a→S w →
  wpAnyZ P md ops Q S z fuel (listed.setIfInBounds i true) (a.put oi.dst v) w→wpAnyZ P md ops Q S z (fuel+1) listed a w:=by
 intro fuel
 induction fuel with
 | zero =>
   intro listed a w _ _ hr hy hS H
   refine ⟨fun h=>(by rw [h] at hr;cases hr),fun j hj=>?_⟩
   by_cases hji:j=i
   ·subst hji;exact hy.wpOp hi hS ⟨.inr hS,H⟩
   ·have:=ready_mono hj hji
    rw [H.1] at this
    cases this
 | succ fuel ih =>
   intro listed a w hz hfree hr hy hS H
   refine ⟨fun h=>(by rw [h] at hr;cases hr),fun j hj=>?_⟩
   by_cases hji:j=i
   ·subst hji;exact hy.wpOp hi hS ⟨.inr hS,H⟩
   ·have h1:=H.2 j (ready_mono hj hji)
    obtain ⟨hjun,oj,hoj,hall⟩:=mem_ready.1 hj;have hnot:∀ e∈oj.after,Region.binds md e=true→e.on≠i:=fun e he hb heq=>by
     have h1:=hall e he hb;have h0:=(mem_ready.1 hr).1;rw [heq] at h1
     rcases Nat.lt_or_ge i listed.size with h' | h'
     ·simp [h'] at h0 h1;rw [h0] at h1;cases h1
     ·simp [Array.getElem?_eq_none h'] at h1
    obtain ⟨oz,ez,hoz,hez,hbz,hnl,hor⟩:=hz;have low:∀ {k:Nat},listed.getD k true=false→listed.getD k false=false:=fun {k} h=>by
     rcases Nat.lt_or_ge k listed.size with h' | h'
     ·simp [h'] at h ⊢;exact h
     ·simp [Array.getElem?_eq_none h'] at h
    have hjz:j≠z:=fun e=>by
     subst e;rw [hoj] at hoz;obtain rfl:=Option.some.inj hoz;have:=hall ez hez hbz;rw [low hnl] at this
     cases this
    have hje:j≠ez.on:=fun e=>by
     rcases hor with h | ⟨ok,hok,e',he',hb',hon⟩
     ·exact hji (e.trans h)
     ·rw [← e,hoj] at hok
      obtain rfl:=Option.some.inj hok;exact hnot e' he' hb' hon
    have hz':Blocks md ops z i (listed.setIfInBounds j true):=⟨oz,ez,hoz,hez,hbz,by rw [getD_set_ne true hje];exact hnl,hor⟩;have h2:=wpOp_putIf hoj (hfree j oj hoj hji hjun hnot) (fun cs b=>hsel i oi cs b hi) (fun cs b=>hsel j oj cs b hoj) hQ hy h1;have hfree':∀ k ok,ops[k]? = some ok→k≠i→(listed.setIfInBounds j true).getD k true=false →
     (∀ e∈ok.after,Region.binds md e=true→e.on≠i)→oi.apart ops ok=true:=fun k ok hk hki hun hno=>by
     refine hfree k ok hk hki ?_ hno
     by_cases hjk:j=k
     ·subst hjk;exact hjun
     ·rw [getD_set_ne true hjk] at hun;exact hun
    refine wpOp_mono (fun a' w' h3=>?_) h2;have hS':S w':=h3.2.1.resolve_left hjz;refine ⟨.inr hS',ih (listed.setIfInBounds j true) a' w' hz' hfree' (ready_mono hr (Ne.symm hji)) h3.1 hS' ?_⟩;rw [Array.setIfInBounds_comm _ _ hji];exact h3.2.2
theorem fin {listed:Array Bool} {a:Act} {w:World} (hr:Region.ready md ops listed = []) (h:Q .normal a w) :
 ∀ fuel,wpAnyZ P md ops Q S z fuel listed a w
 | 0=>⟨hr,h⟩
 | _+1=>⟨fun _=>h,by rw [hr];simp⟩
theorem all {rs:List Nat} {fuel:Nat} {listed:Array Bool} {a:Act} {w:World} (hr:Region.ready md ops listed=rs) (hne:rs≠[])
 (h:∀ i∈rs,wpOp P ops Q i (fun a' w'=>(i=z∨S w')∧wpAnyZ P md ops Q S z fuel (listed.setIfInBounds i true) a' w') a w):wpAnyZ P md ops Q S z (fuel+1) listed a w :=
 ⟨fun h0=>absurd (hr ▸ h0) hne,hr ▸ h⟩
end
def blocksB (ops:Array Oper) (z i:Nat) (listed:Array Bool):Bool:=match ops[z]? with
 | some oz=>oz.after.any fun e=>Region.binds .any e && !listed.getD e.on true && (e.on == i || match ops[e.on]? with
   | some ok=>ok.after.any fun e'=>Region.binds .any e' && e'.on == i
   | none=>false)
 | none=>false
theorem blocks_of {ops:Array Oper} {z i:Nat} {listed:Array Bool} (h:blocksB ops z i listed=true):Blocks .any ops z i listed:=by
 unfold blocksB at h
 cases ho:ops[z]? with
 | none=>rw [ho] at h;cases h
 | some oz =>
   rw [ho] at h;obtain ⟨e,he,hb⟩:=Array.any_eq_true'.1 h;simp only [Bool.and_eq_true,Bool.not_eq_true',Bool.or_eq_true,beq_iff_eq] at hb;obtain ⟨⟨hb1,hb2⟩,hb3⟩:=hb;refine ⟨oz,e,ho,he,hb1,hb2,?_⟩
   rcases hb3 with h3 | h3
   ·exact .inl h3
   ·cases hk:ops[e.on]? with
    | none=>rw [hk] at h3;cases h3
    | some ok =>
      rw [hk] at h3;obtain ⟨e',he',hb'⟩:=Array.any_eq_true'.1 h3;simp only [Bool.and_eq_true,beq_iff_eq] at hb';exact .inr ⟨ok,rfl,e',he',hb'.1,hb'.2⟩
def good (ops:Array Oper) (z:Nat):List (Bool×Nat)→Array Bool→Nat→Bool
 | _,_,0=>false
 | [],listed,_+1=>Region.ready .any ops listed == [z] && (Region.ready .any ops (listed.setIfInBounds z true)).isEmpty
 | (h,i) :: r,listed,fuel+1 =>
   (match ops[i]? with
    | some o=>i != z && (if h then Region.ready .any ops listed == [i] else light o.op && Region.free .any ops listed i && (Region.ready .any ops listed).contains i && blocksB ops z i listed)
    | none=>false) && good ops z r (listed.setIfInBounds i true) fuel
def wpSz (P:Program) (ops:Array Oper) (C:World→Prop) (Q:Exit→Act→World→Prop) (E:Act→World→Prop):List (Bool×Oper)→Act→World→Prop
 | [],a,w=>E a w
 | (false,o) :: r,a,w=>wpQuiet P ops C (fun a'=>wpSz P ops C Q E r a' w) [o] a
 | (true,o) :: r,a,w=>if Region.wanted o (yielded ops a.tmps) then o.wp P a w (fun a' w'=>C w'∧wpSz P ops C Q E r a' w') Q else wpSz P ops C Q E r (a.put o.dst undef) w
theorem sound {P:Program} {l:List Oper} {C:World→Prop} {Q:Exit→Act→World→Prop} {z:Nat} {oz:Oper} (hs:Region.noSelect l.toArray=true) (hQ:∀ c d v a w,Q (.panic c) (Act.put a d v) w→Q (.panic c) a w)
 (hoz:l[z]? = some oz) (hgd:oz.guard=none) :
 ∀ (sc:List (Bool×Nat)) (listed:Array Bool) (fuel:Nat) (a:Act) (w:World),good l.toArray z sc listed fuel=true→C w→wpSz P l.toArray C Q (fun a w=>oz.wp P a w (fun a' w'=>Q .normal a' w') Q) (picks l sc) a w→wpAnyZ P .any l.toArray Q C z fuel listed a w
 | [],listed,0,a,w,hg,_,h=>by cases hg
 | [],listed,fuel+1,a,w,hg,_,h=>by
   unfold good at hg;simp only [Bool.and_eq_true,beq_iff_eq,List.isEmpty_iff] at hg;refine all hg.1 (by simp) fun j hj=>?_;obtain rfl:j=z:=by simpa using hj
   have hop:l.toArray[j]? = some oz:=by rw [List.getElem?_toArray];exact hoz
   unfold wpOp;simp only [hop];rw [if_pos (by simp [Region.wanted,hgd])];exact .inl (Oper.wp_mono (fun a' w' k=>⟨by simp,fin hg.2 k fuel⟩) h)
 | _ :: _,_,0,_,_,hg,_,_=>by cases hg
 | (b,i) :: r,listed,fuel+1,a,w,hg,hC,h=>by
   unfold good at hg;simp only [Bool.and_eq_true] at hg;obtain ⟨hg1,hg2⟩:=hg;have hll:l.toArray[i]? = l[i]?:=by rw [List.getElem?_toArray]
   cases ho:l[i]? with
   | none=>rw [hll,ho] at hg1;cases hg1
   | some o =>
     rw [hll,ho] at hg1;simp only [Bool.and_eq_true,bne_iff_ne,ne_eq] at hg1;obtain ⟨_,hg1⟩:=hg1;have hop:l.toArray[i]? = some o:=hll.trans ho;have hp:picks l ((b,i) :: r)=(b,o) :: picks l r:=by rw [picks,ho]
     rw [hp] at h
     cases b with
     | true =>
       simp only [if_true,beq_iff_eq] at hg1;refine all hg1 (by simp) fun j hj=>?_;obtain rfl:j=i:=by simpa using hj
       unfold wpOp;simp only [hop];unfold wpSz at h
       by_cases hw:Region.wanted o (yielded l.toArray a.tmps)=true
       ·rw [if_pos hw] at h ⊢
        exact .inl (Oper.wp_mono (fun a' w' ⟨c,k⟩=>⟨.inr c,sound hs hQ hoz hgd r _ fuel a' w' hg2 c k⟩) h)
       ·rw [if_neg hw] at h ⊢
        exact ⟨.inr hC,sound hs hQ hoz hgd r _ fuel _ w hg2 hC h⟩
     | false =>
       simp only [Bool.false_eq_true,if_false,Bool.and_eq_true] at hg1;obtain ⟨⟨⟨hk,hf⟩,hr⟩,hbl⟩:=hg1;have hr':i∈Region.ready .any l.toArray listed:=by simpa using hr
       unfold wpSz at h
       by_cases hw:Region.wanted o (yielded l.toArray a.tmps)=true
       ·unfold wpQuiet at h
        rw [if_pos hw] at h;obtain ⟨v,hv,hn⟩:=h;refine first (v:=v) hop (Region.noSelect_spec hs) (fun c a w=>hQ c _ _ a w) fuel listed a w (blocks_of hbl) (Region.free_spec hop hf) hr' (.inl ⟨hw,fun w' hw'=>?_⟩) hC (sound hs hQ hoz hgd r _ fuel _ w hg2 hC hn)
        have q:=hv w' hw';unfold Oper.quietAt at q
        cases e:(execOp a.eval o).run P w' with
        | halt x w1=>rw [e] at q;cases q
        | ok n w1 =>
          obtain ⟨u,rfl⟩:=light_value hk e;rw [e] at q;obtain ⟨e1,e2⟩:=q;rw [e1,e2]
       ·unfold wpQuiet at h
        rw [if_neg hw] at h;exact first (v:=undef) hop (Region.noSelect_spec hs) (fun c a w=>hQ c _ _ a w) fuel listed a w (blocks_of hbl) (Region.free_spec hop hf) hr' (.inr ⟨by simpa using hw,rfl⟩) hC (sound hs hQ hoz hgd r _ fuel _ w hg2 hC h)
theorem start {P:Program} {id:Nat} {l:List Oper} {Q:Exit→Act→World→Prop} {a:Act} {w:World} {oz:Oper} (C:World→Prop) (sc:List (Bool×Nat)) (z:Nat) (hm:P.follows .mixedOrders=true) (hs:Region.noSelect l.toArray=true)
 (hg:good l.toArray z sc (Array.replicate l.toArray.size false) l.toArray.size=true) (hoz:l[z]? = some oz) (hgd:oz.guard=none) (h0:C w.drew)
 (h:wpSz P l.toArray (fun w'=>∃ p:In C,w'=p.world) (NoPanic Q) (fun a w=>oz.wp P a w (fun a' w'=>NoPanic Q .normal a' w') (NoPanic Q)) (picks l sc) a w.drew):(Code.region id l.toArray true).wp P Q a w :=
 wp_region_noPanic (wp_region_any hm (any_of _ _ _ _ (sound hs (fun _ _ _ _ _ h=>h) hoz hgd sc _ _ a _ hg (Sc.Cl.of h0) h)))
section
variable {P:Program} {ops:Array Oper} {C:World→Prop} {Q:Exit→Act→World→Prop} {E:Act→World→Prop} {a:Act} {w:World} {o:Oper} {r:List (Bool×Oper)}
theorem done (h:E a w):wpSz P ops C Q E [] a w:=h
theorem lit (h:wpQuiet P ops C (fun a'=>wpSz P ops C Q E r a' w) [o] a):wpSz P ops C Q E ((false,o) :: r) a w:=h
theorem call (hw:Region.wanted o (yielded ops a.tmps)=true) (h:∀ K:Act→World→Prop,(∀ a w,C w→wpSz P ops C Q E r a w→K a w)→o.wp P a w K Q):wpSz P ops C Q E ((true,o) :: r) a w:=by
 unfold wpSz;rw [if_pos hw];exact h _ fun a w c k=>⟨c,k⟩
end
end Go.Proofs.YtpkipilggkbkeaaGreatDoor.Sz
namespace Go.Proofs.YtpkipilggkbkeaaGreatDoor.Fs
open Go.RowKit Go.Maps
open Fl (R4 z4 K4 rec4 rat goodF goodFB okR okL file arr4 row_cell row_frozen rgood_any)
open Rw (Rd Ow At)
set_option maxRecDepth 100000
attribute [local irreducible] Sd.wpSd wpQuiet Sf.wpSf Sz.wpSz
theorem wp_all {α:Type} {Kd:Rw.Kind α} {P:Program} {K:Act→World→Prop} {w:World} {E:TypeId} {o:Oper} {a:Act} {Q:Exit→Act→World→Prop} {T:TypeId} {z:Value} {bytes:Nat} (ht:P.underlying T=some (.slice E))
 (hi:(P.info? E).map (fun i=>(i.zero,i.size,i.bytes))=some (some z,Kd.n,bytes)) (hz:z.cells.size=Kd.n) (hby:bytes≤64) (s x:Operand)
 (ho:o.op = .call { callee:=.builtin .append,args:=#[s,x],argTypes:=#[T,T] }) (B:Nat) (v:Value) (l:List α) (hs:a.eval s=v) (hown:Ow Kd w B E v l)
 (u:Value) (y:List α) (hx:a.eval x=u) (hu:Rd Kd w u y) (hlen:l.length+y.length < 2199023255552) (hB:B≤w.heap.size)
 (h:∀ v' w',Ow Kd w' B E v' (l ++ y)→Below B w w'→K (a.put o.dst v') w'):o.wp P a w K Q:=by
 obtain ⟨i0,hi0,hz0,hz1,hz2⟩:=info_parts hi;obtain ⟨ad,cap,rfl,h1,h2,h3⟩:=hu;have hb:(l.length+y.length) * bytes≤140737488355328:=Nat.le_trans (Nat.mul_le_mul (show l.length+y.length≤2199023255552 by omega) hby) (by omega)
 by_cases h0:0 < y.length
 ·obtain ⟨b,off,rfl,hA⟩:=h3 h0
  refine wp_append_own _ s x T ho B E i0 z Kd.n bytes ht hi0 hz0 hz1 hz2 hz Kd.pos v l.length (Kd.flat l) hs hown ⟨b,off,none⟩ y.length cap (Kd.flat y) hx (Rw.flat_length Kd y) ?_ (Rw.flat_one Kd y) (by unfold maxLen;omega) hb hB ?_
  ·intro j u hj
   have e:(⟨b,off,none⟩:Addr).add j=⟨b,off+j,none⟩:=by simp [Addr.add]
   rw [e];exact hA.flat j u hj
  ·intro v' w' g2 g3 _
   refine h v' w' ?_ ((Below.refl B w).grown g3 hB fun k hk=>(World.ownsRow.lt hown k hk).1)
   show w'.ownsRow B E Kd.n v' (l ++ y).length (Kd.flat (l ++ y))
   rw [Rw.flat_append,List.length_append];exact g2
 ·have ey:y = []:=List.length_eq_zero_iff.1 (by omega)
  subst ey
  cases ad with
  | none =>
    obtain rfl:=h1.2 rfl;have hrun:=run_append_owned_none (P:=P) (w:=w) B T o.type E i0 Kd.n ht hi0 v l.length (Kd.flat l) hown;unfold Oper.wp;have hk:=h v w (by rw [List.append_nil];exact hown) (Below.refl _ _);have hx':a.eval x = .slice none 0 0:=hx
    simp [execOp,ho,resolve,invoke,builtin,hs,hx',hrun,Result.andThen]
    exact hk
  | some ad =>
    refine wp_append_own _ s x T ho B E i0 z Kd.n bytes ht hi0 hz0 hz1 hz2 hz Kd.pos v l.length (Kd.flat l) hs hown ad 0 cap [] hx (by simp) (by simp) (by simp) (by unfold maxLen;simp at hlen;omega) (by simpa using hb) hB ?_
    intro v' w' g2 g3 _
    refine h v' w' ?_ ((Below.refl B w).grown g3 hB fun k hk=>(World.ownsRow.lt hown k hk).1)
    show w'.ownsRow B E Kd.n v' (l ++ []).length (Kd.flat (l ++ []))
    rw [List.append_nil]
    simpa using g2
theorem run_tail {w:World} {v:Value} {L:List Ent} (R:Rd E3 w v L) (k:Nat) (hk:k≤L.length):∃ ua uc,(∀ W,(Instr.sliceAt 38 v (some (.int .i64 (k:Int))) none none).run Tryz.prog W = .ok (.slice ua (L.length - k) uc) W)∧Rd E3 w (.slice ua (L.length - k) uc) (L.drop k):=by
 obtain ⟨a,cap,rfl,⟨h1,h2⟩,h3,h4⟩:=R;have hl:(L.drop k).length=L.length - k:=List.length_drop
 cases a with
 | none =>
   obtain rfl:=h2 rfl;have hL:L.length=0:=by omega
   obtain rfl:k=0:=by omega
   refine ⟨none,0,fun W=>?_,none,0,by rw [hl],⟨by rw [hl];omega,fun _=>rfl⟩,by unfold maxLen;omega,fun h=>by rw [hl] at h;omega⟩;rw [hL];go_simp
 | some a =>
   by_cases hc:cap=k
   ·refine ⟨some a,0,fun W=>?_,some a,0,by rw [hl],⟨by rw [hl];omega,nofun⟩,by unfold maxLen;omega,fun h=>by rw [hl] at h;omega⟩
    subst hc;have:L.length - cap=0:=by omega
    obtain ⟨b,off,sp⟩:=a;go_simp
   ·by_cases h0:0 < L.length
    ·obtain ⟨b,off,e,hA⟩:=h4 h0
     obtain rfl:a=⟨b,off,none⟩:=by injection e
     refine ⟨some ⟨b,off+k * 3,none⟩,cap - k,fun W=>?_,some ⟨b,off+k * 3,none⟩,cap - k,by rw [hl],⟨by rw [hl];omega,nofun⟩,by omega,fun h=>⟨b,off+k * 3,rfl,fun i hi j u hu=>?_⟩⟩
     ·go_simp
     ·rw [hl] at hi
      have hu':(E3.enc (L.getD (k+i) E3.dft))[j]? = some u:=by rw [← hu,List.getD_eq_getElem?_getD,List.getD_eq_getElem?_getD,List.getElem?_drop]
      have c:=hA (k+i) (by omega) j u hu';have e:off+(k+i) * E3.n+j=off+k * 3+i * E3.n+j:=by show off+(k+i) * 3+j=off+k * 3+i * 3+j;omega
      rw [e] at c;exact c
    ·obtain rfl:k=0:=by omega
     have hL:L.length=0:=by omega
     obtain ⟨b,off,sp⟩:=a;refine ⟨some (Addr.add ⟨b,off,sp⟩ (0 * 3)),cap,fun W=>?_,some (Addr.add ⟨b,off,sp⟩ (0 * 3)),cap,by rw [hl],⟨by rw [hl];omega,nofun⟩,h3,fun h=>by rw [hl] at h;omega⟩;go_simp
def RAPost (w:World) (r:Nat) (F:Nat→Prop) (d z:Int) (A':Abs) (e:Ending) (w':World):Prop:=e = .returned (.int .i64 z)∧Rs w' r F A' d∧Only (fun k=>k=r) w w'
theorem radd_1 (w:World) (r:Nat) (n p:Int) (a:Option Addr) (q cap:Nat) (hn:¬ (0≤n∧n≤63)):Calls Tryz.prog 55 #[.pointer (some ⟨r,0,none⟩),.int .i64 n,.agg #[.int .i64 p,.slice a q cap]] w fun e w'=>e = .returned (.int .i64 1)∧Below w.heap.size w w':=by
 by_cases h:n < 0
 ·go_enter Tryz.func55,Tryz.ntmps55
  go_wp2
  go_ret
  exact ⟨rfl,(Below.refl w.heap.size w).alloc (Nat.le_refl _) _⟩
 ·have h2:63 < n:=by omega
  go_enter Tryz.func55,Tryz.ntmps55
  go_wp2
  go_ret
  exact ⟨rfl,(Below.refl w.heap.size w).alloc (Nat.le_refl _) _⟩
theorem radd_2 (w:World) (r:Nat) (n p:Int) (a:Option Addr) (q cap:Nat) (l:List R4) (R:Rd K4 w (.slice a q cap) l) (hn:0≤n∧n≤63) (hg:¬ goodF p l):Calls Tryz.prog 55 #[.pointer (some ⟨r,0,none⟩),.int .i64 n,.agg #[.int .i64 p,.slice a q cap]] w fun e w'=>e = .returned (.int .i64 2)∧Below w.heap.size w w':=by
 obtain ⟨h1,hB,hz⟩:=box_file w p (.slice a q cap);have HB:=Lib.hid hB;have GA:=rgood_any _ p (.slice a q cap) l (R.below hB);rw [show goodFB p l=false from decide_eq_false hg] at GA;have HG:=Lib.hid GA;have n1:0≤n:=hn.1;have n2:n≤63:=hn.2;clear h1 hB hz R GA hg hn;unfold file at HG
 go_enter Tryz.func55,Tryz.ntmps55
 go_wp2_with fail;refine HG.out.mono ?_;rintro e w1 ⟨rfl,b1⟩;have B1:=Lib.hid (HB.out.trans (b1.mono HB.out.size));clear b1 HG HB;go_wp2
 go_ret
 exact ⟨rfl,B1.out⟩
theorem radd_10 {w:World} {r:Nat} {F:Nat→Prop} {v:Value} {L:List Ent} {d:Int} (RS:Rst w r F v L d) (n p:Int) (a:Option Addr) (q cap:Nat) (l:List R4) (R:Rd K4 w (.slice a q cap) l) (hn:0≤n∧n≤63) (hg:goodF p l) {i:Nat} (hq:Ix L n i):Calls Tryz.prog 55 #[.pointer (some ⟨r,0,none⟩),.int .i64 n,.agg #[.int .i64 p,.slice a q cap]] w fun e w'=>e = .returned (.int .i64 10)∧Below w.heap.size w w':=by
 obtain ⟨h1,hB,hz⟩:=box_file w p (.slice a q cap);have HB:=Lib.hid hB;have GA:=rgood_any _ p (.slice a q cap) l (R.below hB);rw [show goodFB p l=true from decide_eq_true hg] at GA;have HG:=Lib.hid GA;have IX:=Lib.hid (fun W (hb:Below w.heap.size w W)=>rix_any (RS.below hb) hq);have n1:0≤n:=hn.1;have n2:n≤63:=hn.2;have hi0:¬ ((i:Int) < 0):=by omega
 clear h1 hB hz R GA hg hn RS hq;unfold file at HG
 go_enter Tryz.func55,Tryz.ntmps55
 go_wp2_with fail;refine HG.out.mono ?_;rintro e w1 ⟨rfl,b1⟩;have B1:=Lib.hid (HB.out.trans (b1.mono HB.out.size));clear b1 HG HB;go_wp2_with fail;refine (IX.out _ B1.out).mono ?_;rintro e w2 ⟨rfl,b2⟩;have B2:=Lib.hid (B1.out.trans (b2.mono B1.out.size));clear b2 B1 IX;go_wp2
 go_ret
 exact ⟨rfl,B2.out⟩
def ARel (w:World) (L:List Ent) (n:Int) (v:Value) (k:Nat) (wr:World):Prop:=Ow E3 wr w.heap.size 67 v (L.take k)∧(∀ x∈L.take k,x.n < n)∧Below w.heap.size w wr
structure AC (r:Nat) (v:Value) (d:Int) (g:Nat) (p:Int) (u:Value) (W:World):Prop where
 row:W.heap[r]? = some (.cells #[v,.int .i64 d] 42 (0,0))
 box:W.heap[g]? = some (.cells #[.int .i64 p,u] 65 (0,0))
set_option maxHeartbeats 4000000 in
theorem radd_0 {w:World} {r:Nat} {F:Nat→Prop} {v:Value} {L:List Ent} {d:Int} (RS:Rst w r F v L d) (hF:∀ k,F k→k < w.heap.size) (n p:Int) (a:Option Addr) (q cap:Nat) (l:List R4) (R:Rd K4 w (.slice a q cap) l) (ho:0 < l.length→∀ k,(Value.slice a q cap).ownBlock=some k→¬ (F k∨k=r)) (hn:0≤n∧n≤63) (hg:goodF p l) (hl:okL l) (hc:look Ent.n n L=none) :
 Calls Tryz.prog 55 #[.pointer (some ⟨r,0,none⟩),.int .i64 n,.agg #[.int .i64 p,.slice a q cap]] w (RAPost w r F d 0 (put key (n,p,l) (L.map Ent.abs))):=by
 have hql:q=l.length:=by
  obtain ⟨_,_,e,_⟩:=R;injection e
 subst hql;obtain ⟨h1,hB,hz⟩:=box_file w p (.slice a l.length cap);have HB:=Lib.hid hB;have H1:=Lib.hid h1;have GA:=rgood_any _ p (.slice a l.length cap) l (R.below hB);rw [show goodFB p l=true from decide_eq_true hg] at GA;have HG:=Lib.hid GA;have IX:=Lib.hid (fun W (hb:Below w.heap.size w W)=>rix_any (RS.below hb) (ix_none hc));have RR:=Lib.hid RS;have hrl:r < w.heap.size:=lt_of_block RS.row;have hlen:=RS.len;have HS:=Lib.hid (srtL RS.ok);have HC:=Lib.hid (look_none.1 hc);have n1:0≤n:=hn.1;have n2:n≤63:=hn.2;have FIN:Hid (∀ (k:Nat) (v':Value) (W:World),(∀ x∈L.take k,x.n < n)→(∀ x,L[k]? = some x→n < x.n)→Only (fun k=>k=r) w W→W.heap[r]? = some (.cells #[v',.int .i64 d] 42 (0,0))→Ow E3 W w.heap.size 67 v' (L.take k ++ [(⟨n,p,a,cap,l⟩:Ent)] ++ L.drop k)→RAPost w r F d 0 (put key (n,p,l) (L.map Ent.abs)) (.returned (.int .i64 0)) W):=fun k v' W P1 P2 O row own=>by
  have e:put Ent.n (⟨n,p,a,cap,l⟩:Ent) L=L.take k ++ [(⟨n,p,a,cap,l⟩:Ent)] ++ L.drop k:=by
   rw [put_new hc,ins_at (k:=k) P1 P2]
   simp
  have e2:(L.take k ++ [(⟨n,p,a,cap,l⟩:Ent)] ++ L.drop k).map Ent.abs=put key (n,p,l) (L.map Ent.abs):=by rw [← e,abs_put];rfl
  refine ⟨rfl,⟨v',_,RS.next hF O row own (fun c hc'=>?_) (by rw [e2];exact RS.ok.put hn hg hl),e2⟩,O⟩;rw [← e] at hc'
  rcases mem_put.1 hc' with rfl | ⟨h,_⟩
  ·exact .inr ⟨rd_only (G:=fun k=>k=r) R (fun h0 k hk e=>ho h0 k hk (.inr e)) O,ho⟩
  ·exact .inl h
 have RV:=Lib.hid R;obtain ⟨va,vcap,rfl,_⟩:=RS.list.rd.slice;clear h1 hB hz R GA hg hn RS hc hF ho hl;generalize hN:L.length=N at *;have HN:=Lib.hid hN;generalize hQ:l.length=q at *;have HQ:=Lib.hid hQ;clear hN hQ;unfold file at HG;have hBN:=run_buildN
 go_enter Tryz.func55,Tryz.ntmps55
 go_wp2_with fail;generalize (w.alloc (.cells #[.int .i64 p,.slice a q cap] 65))=W0 at *;refine HG.out.mono ?_;rintro e w1 ⟨rfl,b1⟩;have B1:=Lib.hid (HB.out.trans (b1.mono HB.out.size));have X1:=Lib.hid ((b1.block _ (lt_of_block H1.out)).trans H1.out);clear b1 HG HB H1;go_wp2_with fail;refine (IX.out _ B1.out).mono ?_;rintro e w2 ⟨rfl,b2⟩;have B2:=Lib.hid (B1.out.trans (b2.mono B1.out.size));have X2:=Lib.hid ((b2.block _ (lt_of_block X1.out)).trans X1.out);clear b2 B1 IX X1;have OM:=Lib.hid (Rw.Ow.made (K:=E3) w2 w2.heap.size 67 (Nat.le_refl _));have B3:=Lib.hid ((Below.refl w2.heap.size w2).alloc (Nat.le_refl _) (.cells #[] 67));go_wp2;generalize (w2.alloc (.cells #[] 67))=W3 at *;generalize (Value.slice (some ⟨w2.heap.size,0,none⟩) 0 0)=v3 at *
 go_loopw [7,8] (fun v i wr=>∃ k:Nat,k≤N∧i = .int .i64 k∧Hid (ARel w2 L n v k wr)) (fun _ i _=>N - (intOf i).toNat)
 case atStart=>exact ⟨0,Nat.zero_le _,rfl,OM.out,by simp,B3.out⟩
 case round =>
  obtain ⟨k,hk,rfl,R⟩:=hrel;obtain ⟨oW,P1',bW⟩:=R.out;obtain ⟨va',vc',ev,_⟩:=oW.slice;have htk:(L.take k).length=k:=by rw [List.length_take];have:=HN.out;omega
  rw [htk] at ev;subst ev;have OW:=Lib.hid oW;have P1:=Lib.hid P1';have B:=Lib.hid bW;have R4':=RR.out.below (B2.out.trans (bW.mono B2.out.size));have c0:wr.cell? ⟨r,0,none⟩=some (.slice va N vcap):=row_cell R4'.row 0;have RL:=Lib.hid R4'.list.rd;have HX2:Hid (w.heap.size < w2.heap.size):=lt_of_block X2.out;clear R oW P1' bW R4' htk
  by_cases hlt:k < N
  ·have hkL:k < L.length:=by have:=HN.out;omega
   obtain ⟨⟨cn,cp,ca,cc,cl⟩,hc⟩:∃ c:Ent,L[k]? = some c:=⟨_,List.getElem?_eq_getElem hkL⟩;obtain ⟨b,off,eb,hA⟩:∃ b off,va=some ⟨b,off,none⟩∧At E3 wr b off L:=by
    obtain ⟨a',c',e,_,_,h⟩:=RL.out;obtain ⟨b,off,e2,hA⟩:=h (by omega);injection e with e1;exact ⟨b,off,e1.trans e2,hA⟩
   subst eb;obtain ⟨x0,x1,x2⟩:=at3 hA hc;unfold Ent.sl at x2;simp only at x0 x1 x2;have hcn:cn≠n:=HC.out _ (List.mem_of_getElem? hc)
   by_cases hcl:cn < n
   ·have TK:Hid (L.take (k+1)=L.take k ++ [(⟨cn,cp,ca,cc,cl⟩:Ent)]):=by rw [List.take_add_one,hc];rfl
    have P1n:Hid (∀ x∈L.take (k+1),x.n < n):=fun x hx=>by
     rw [TK.out] at hx
     rcases List.mem_append.1 hx with hx | hx
     ·exact P1.out x hx
     ·obtain rfl:=List.mem_singleton.1 hx
      exact hcl
    clear hc hA hkL;generalize hcq:cl.length=cq at *;have HCQ:=Lib.hid hcq;clear hcq
    go_wp2_with (at_builtin;refine Rw.push_step (K:=E3) Tryz.underlying38 infoE3 rfl (by omega) rfl _ _ rfl w2.heap.size _ (L.take k) rfl (OW.out.alloc _) _ (⟨cn,cp,ca,cc,cl⟩:Ent) rfl ?d1 ?d2 ?d3 ?_)
    case d1 =>
     intro j u hu
     unfold E3 Ent.sl at hu;simp only [HCQ.out] at hu
     match j,hu with
     | 0,hu=>simp at hu;subst hu;go_simp
     | 1,hu=>simp at hu;subst hu;go_simp
     | 2,hu=>simp at hu;subst hu;go_simp
     | j+3,hu=>simp at hu
    case d2=>rw [List.length_take];omega
    case d3=>have:=B.out.size;simp;omega
    intro v' w4 o4 b4
    rw [← TK.out] at o4;have N2:Hid (ARel w2 L n v' (k+1) w4):=⟨o4,P1n.out,(B.out.alloc B.out.size _).trans b4⟩;clear o4 b4;go_wp2
    go_roundw
    case rel=>exact ⟨k+1,by omega,by go_num,N2⟩
    case measure=>simp [intOf];omega
   ·have P2:Hid (∀ x,L[k]? = some x→n < x.n):=fun x hx=>by
     rw [hc] at hx;obtain rfl:=Option.some.inj hx
     show n < cn
     omega
    clear hc hA hkL hcn RL;go_wp2_with fail;clear x0 x1 x2;clear c0;have X4:=Lib.hid ((B.out.block _ (lt_of_block X2.out)).trans X2.out);have hw2:Hid (w.heap.size≤w2.heap.size):=B2.out.size;have BR:=Lib.hid (B2.out.trans (B.out.mono B2.out.size));have Row4:=Lib.hid ((BR.out.block r hrl).trans RR.out.row);have C0:AC r (.slice (some ⟨b,off,none⟩) N vcap) d w.heap.size p (.slice a q cap) wr.drew:=⟨Row4.out,X4.out⟩;have c0:=Sc.cell_in (C:=AC r (.slice (some ⟨b,off,none⟩) N vcap) d w.heap.size p (.slice a q cap)) (a:=⟨r,0,none⟩) (fun W' h=>row_cell h.row 0);have r0:=Sc.cell_in (C:=AC r (.slice (some ⟨b,off,none⟩) N vcap) d w.heap.size p (.slice a q cap)) (a:=⟨w.heap.size,0,none⟩) (fun W' h=>row_cell h.box 0);have r1:=Sc.cell_in (C:=AC r (.slice (some ⟨b,off,none⟩) N vcap) d w.heap.size p (.slice a q cap)) (a:=⟨w.heap.size,1,none⟩) (fun W' h=>row_cell h.box 1);have ne:Nonempty (Sc.In (AC r (.slice (some ⟨b,off,none⟩) N vcap) d w.heap.size p (.slice a q cap))):=⟨⟨_,C0⟩⟩;obtain ⟨ta,tc,htl,TR⟩:=run_tail RR.out.list.rd k (by have:=HN.out;omega);have TRD:=Lib.hid TR;rw [HN.out] at htl TRD;generalize N - k=mt at htl TRD;have OWR:Hid (Ow E3 wr.drew w2.heap.size 67 (.slice va' k vc') (L.take k)):=OW.out;have BRD:Hid (Below w2.heap.size w2 wr.drew):=B.out.drew;clear TR OW B BR Row4 X4 X2;refine Sz.start (AC r (.slice (some ⟨b,off,none⟩) N vcap) d w.heap.size p (.slice a q cap)) [(false,0),(false,1),(false,2),(false,3),(false,4),(false,7),(false,8),(false,9),(false,10),(false,11),(false,12),(true,5),(true,6),(true,13),(false,14),(false,15)] 16 (by kernel_rfl) (by kernel_rfl) (by kernel_rfl) rfl rfl C0 ?_;dsimp only [Sd.picks,List.getElem?_cons_succ,List.getElem?_cons_zero]
    repeat (refine Sz.lit ?_;quiet_step (fail);refine wpQuiet_nil ?_)
    clear c0 r0 r1 htl;have C1:=Lib.hid C0;clear C0;generalize wr.drew=w4 at *;refine Sz.call (by rfl) (fun K hK=>?_);go_simp;have ba:=Below.heap_alloc w4 (.cells #[.int .i64 n,.int .i64 p,.slice a q cap] 67);have B5:=Lib.hid (BRD.out.alloc BRD.out.size (.cells #[.int .i64 n,.int .i64 p,.slice a q cap] 67));have C5:AC r (.slice (some ⟨b,off,none⟩) N vcap) d w.heap.size p (.slice a q cap) (w4.alloc (.cells #[.int .i64 n,.int .i64 p,.slice a q cap] 67)):=⟨(ba r (lt_of_block C1.out.row)).trans C1.out.row,(ba _ (lt_of_block C1.out.box)).trans C1.out.box⟩;have O5:=Lib.hid (OWR.out.alloc (.cells #[.int .i64 n,.int .i64 p,.slice a q cap] 67));have R5:Hid (Rd E3 (w4.alloc (.cells #[.int .i64 n,.int .i64 p,.slice a q cap] 67)) (.slice (some ⟨w4.heap.size,0,none⟩) 1 1) [(⟨n,p,a,cap,l⟩:Ent)]):=by
     have:=(Rw.Ow.lit (K:=E3) w4 0 67 [(⟨n,p,a,cap,l⟩:Ent)] (Nat.zero_le _) (by unfold maxLen;simp)).rd;have e:(E3.flat [(⟨n,p,a,cap,l⟩:Ent)]).toArray=#[.int .i64 n,.int .i64 p,.slice a q cap]:=by unfold Rw.Kind.flat E3 Ent.sl;rw [← HQ.out];rfl
     rw [e] at this;exact this
    refine hK _ _ (Sc.Cl.of C5) ?_;clear hK K ba;have hz5:Hid (w2.heap.size≤(w4.alloc (.cells #[.int .i64 n,.int .i64 p,.slice a q cap] 67)).heap.size):=B5.out.size;have C5':=Lib.hid C5;clear C5 C1 OWR BRD;generalize (w4.alloc (.cells #[.int .i64 n,.int .i64 p,.slice a q cap] 67))=w5 at *;refine Sz.call (by rfl) (fun K hK=>?_);refine wp_all (Kd:=E3) Tryz.underlying38 infoE3 rfl (by omega) _ _ rfl w2.heap.size _ _ rfl O5.out _ _ rfl R5.out ?a1 hz5.out ?_
    case a1=>rw [List.length_take];simp;omega
    intro v6 w6 o6 b6
    have hrw2:r < w2.heap.size:=by have:=hw2.out;omega
    have hxw2:w.heap.size < w2.heap.size:=HX2.out;have C6:AC r (.slice (some ⟨b,off,none⟩) N vcap) d w.heap.size p (.slice a q cap) w6:=⟨(b6.block r hrw2).trans C5'.out.row,(b6.block _ hxw2).trans C5'.out.box⟩;have B6:=Lib.hid (B5.out.trans b6);have O6:=Lib.hid o6;obtain ⟨v6a,v6c,e6,_⟩:=o6.slice;refine hK _ _ (Sc.Cl.of C6) ?_;clear hK K o6 b6 B5 O5 R5 C5' hz5;have C6':=Lib.hid C6;clear C6;have T6:=Lib.hid (TRD.out.below (B2.out.trans (B6.out.mono B2.out.size)));refine Sz.call (by rfl) (fun K hK=>?_);refine wp_all (Kd:=E3) Tryz.underlying38 infoE3 rfl (by omega) _ _ rfl w2.heap.size _ _ rfl O6.out _ _ rfl T6.out ?a2 B6.out.size ?_
    case a2=>rw [List.length_append,List.length_take,List.length_drop];have:=HN.out;simp only [List.length_cons,List.length_nil];omega
    intro v7 w7 o7 b7
    obtain ⟨v7a,v7c,e7,_⟩:=o7.slice;obtain ⟨n7,rfl⟩:∃ n7,v7 = .slice v7a n7 v7c:=⟨_,e7⟩;clear e7;have C7:AC r (.slice (some ⟨b,off,none⟩) N vcap) d w.heap.size p (.slice a q cap) w7:=⟨(b7.block r hrw2).trans C6'.out.row,(b7.block _ hxw2).trans C6'.out.box⟩;have B7:=Lib.hid (B6.out.trans b7);refine hK _ _ (Sc.Cl.of C7) ?_;clear hK K b7 B6 O6 T6 C6' e6;have c7:w7.cell? ⟨r,0,none⟩=some (.slice (some ⟨b,off,none⟩) N vcap):=row_cell C7.row 0;have f7:=row_frozen C7.row 0;have BW:Below w.heap.size w w7:=B2.out.trans (B7.out.mono B2.out.size);have RES:Hid (RAPost w r F d 0 (put key (n,p,l) (L.map Ent.abs)) (.returned (.int .i64 0)) (w7.setCell ⟨r,0,none⟩ (.slice v7a n7 v7c))):=by
     refine FIN.out k (.slice v7a n7 v7c) _ P1.out P2.out ((Only.of_below BW).trans (Only.set (fun k=>k=r) w7 (a:=⟨r,0,none⟩) rfl _) fun _ _ g=>g) ?_ ?_
     ·have:=Rw.heap_setCell_same (j:=0) C7.row (.slice v7a n7 v7c)
      rw [this]
      simp
     ·exact (o7.off (p:=⟨r,0,none⟩) (o7.range (.inl hrw2)) (.slice v7a n7 v7c)).low hw2.out
    clear C7 BW o7 B7 FIN
    repeat (refine Sz.lit ?_;quiet_step (fail);refine wpQuiet_nil ?_)
    refine Sz.done ?_;go_simp;clear c7 f7;generalize (w7.setCell ⟨r,0,none⟩ (.slice v7a n7 v7c))=w8 at *;refine NoPanic.normal ?_;go_wp2
    go_ret
    exact RES.out
  ·obtain rfl:k=N:=by omega
   have P2:Hid (∀ x,L[k]? = some x→n < x.n):=fun x hx=>by
    have:=(List.getElem?_eq_some_iff.1 hx).1;have:=HN.out
    omega
   clear RL;go_wp2_with fail;clear c0;have X4:=Lib.hid ((B.out.block _ (lt_of_block X2.out)).trans X2.out);have hw2:Hid (w.heap.size≤w2.heap.size):=B2.out.size;have BR:=Lib.hid (B2.out.trans (B.out.mono B2.out.size));have Row4:=Lib.hid ((BR.out.block r hrl).trans RR.out.row);have C0:AC r (.slice va k vcap) d w.heap.size p (.slice a q cap) wr.drew:=⟨Row4.out,X4.out⟩;have c0:=Sc.cell_in (C:=AC r (.slice va k vcap) d w.heap.size p (.slice a q cap)) (a:=⟨r,0,none⟩) (fun W' h=>row_cell h.row 0);have r0:=Sc.cell_in (C:=AC r (.slice va k vcap) d w.heap.size p (.slice a q cap)) (a:=⟨w.heap.size,0,none⟩) (fun W' h=>row_cell h.box 0);have r1:=Sc.cell_in (C:=AC r (.slice va k vcap) d w.heap.size p (.slice a q cap)) (a:=⟨w.heap.size,1,none⟩) (fun W' h=>row_cell h.box 1);have ne:Nonempty (Sc.In (AC r (.slice va k vcap) d w.heap.size p (.slice a q cap))):=⟨⟨_,C0⟩⟩;obtain ⟨ta,tc,htl,TR⟩:=run_tail RR.out.list.rd k (by have:=HN.out;omega);have TRD:=Lib.hid TR;rw [HN.out] at htl TRD;generalize k - k=mt at htl TRD;have OWR:Hid (Ow E3 wr.drew w2.heap.size 67 (.slice va' k vc') (L.take k)):=OW.out;have BRD:Hid (Below w2.heap.size w2 wr.drew):=B.out.drew;clear TR OW B BR Row4 X4 X2;refine Sz.start (AC r (.slice va k vcap) d w.heap.size p (.slice a q cap)) [(false,0),(false,1),(false,2),(false,3),(false,4),(false,7),(false,8),(false,9),(false,10),(false,11),(false,12),(true,5),(true,6),(true,13),(false,14),(false,15)] 16 (by kernel_rfl) (by kernel_rfl) (by kernel_rfl) rfl rfl C0 ?_;dsimp only [Sd.picks,List.getElem?_cons_succ,List.getElem?_cons_zero]
   repeat (refine Sz.lit ?_;quiet_step (fail);refine wpQuiet_nil ?_)
   clear c0 r0 r1 htl;have C1:=Lib.hid C0;clear C0;generalize wr.drew=w4 at *;refine Sz.call (by rfl) (fun K hK=>?_);go_simp;have ba:=Below.heap_alloc w4 (.cells #[.int .i64 n,.int .i64 p,.slice a q cap] 67);have B5:=Lib.hid (BRD.out.alloc BRD.out.size (.cells #[.int .i64 n,.int .i64 p,.slice a q cap] 67));have C5:AC r (.slice va k vcap) d w.heap.size p (.slice a q cap) (w4.alloc (.cells #[.int .i64 n,.int .i64 p,.slice a q cap] 67)):=⟨(ba r (lt_of_block C1.out.row)).trans C1.out.row,(ba _ (lt_of_block C1.out.box)).trans C1.out.box⟩;have O5:=Lib.hid (OWR.out.alloc (.cells #[.int .i64 n,.int .i64 p,.slice a q cap] 67));have R5:Hid (Rd E3 (w4.alloc (.cells #[.int .i64 n,.int .i64 p,.slice a q cap] 67)) (.slice (some ⟨w4.heap.size,0,none⟩) 1 1) [(⟨n,p,a,cap,l⟩:Ent)]):=by
    have:=(Rw.Ow.lit (K:=E3) w4 0 67 [(⟨n,p,a,cap,l⟩:Ent)] (Nat.zero_le _) (by unfold maxLen;simp)).rd;have e:(E3.flat [(⟨n,p,a,cap,l⟩:Ent)]).toArray=#[.int .i64 n,.int .i64 p,.slice a q cap]:=by unfold Rw.Kind.flat E3 Ent.sl;rw [← HQ.out];rfl
    rw [e] at this;exact this
   refine hK _ _ (Sc.Cl.of C5) ?_;clear hK K ba;have hz5:Hid (w2.heap.size≤(w4.alloc (.cells #[.int .i64 n,.int .i64 p,.slice a q cap] 67)).heap.size):=B5.out.size;have C5':=Lib.hid C5;clear C5 C1 OWR BRD;generalize (w4.alloc (.cells #[.int .i64 n,.int .i64 p,.slice a q cap] 67))=w5 at *;refine Sz.call (by rfl) (fun K hK=>?_);refine wp_all (Kd:=E3) Tryz.underlying38 infoE3 rfl (by omega) _ _ rfl w2.heap.size _ _ rfl O5.out _ _ rfl R5.out ?a1 hz5.out ?_
   case a1=>rw [List.length_take];simp;omega
   intro v6 w6 o6 b6
   have hrw2:r < w2.heap.size:=by have:=hw2.out;omega
   have hxw2:w.heap.size < w2.heap.size:=HX2.out;have C6:AC r (.slice va k vcap) d w.heap.size p (.slice a q cap) w6:=⟨(b6.block r hrw2).trans C5'.out.row,(b6.block _ hxw2).trans C5'.out.box⟩;have B6:=Lib.hid (B5.out.trans b6);have O6:=Lib.hid o6;obtain ⟨v6a,v6c,e6,_⟩:=o6.slice;refine hK _ _ (Sc.Cl.of C6) ?_;clear hK K o6 b6 B5 O5 R5 C5' hz5;have C6':=Lib.hid C6;clear C6;have T6:=Lib.hid (TRD.out.below (B2.out.trans (B6.out.mono B2.out.size)));refine Sz.call (by rfl) (fun K hK=>?_);refine wp_all (Kd:=E3) Tryz.underlying38 infoE3 rfl (by omega) _ _ rfl w2.heap.size _ _ rfl O6.out _ _ rfl T6.out ?a2 B6.out.size ?_
   case a2=>rw [List.length_append,List.length_take,List.length_drop];have:=HN.out;simp only [List.length_cons,List.length_nil];omega
   intro v7 w7 o7 b7
   obtain ⟨v7a,v7c,e7,_⟩:=o7.slice;obtain ⟨n7,rfl⟩:∃ n7,v7 = .slice v7a n7 v7c:=⟨_,e7⟩;clear e7;have C7:AC r (.slice va k vcap) d w.heap.size p (.slice a q cap) w7:=⟨(b7.block r hrw2).trans C6'.out.row,(b7.block _ hxw2).trans C6'.out.box⟩;have B7:=Lib.hid (B6.out.trans b7);refine hK _ _ (Sc.Cl.of C7) ?_;clear hK K b7 B6 O6 T6 C6' e6;have c7:w7.cell? ⟨r,0,none⟩=some (.slice va k vcap):=row_cell C7.row 0;have f7:=row_frozen C7.row 0;have BW:Below w.heap.size w w7:=B2.out.trans (B7.out.mono B2.out.size);have RES:Hid (RAPost w r F d 0 (put key (n,p,l) (L.map Ent.abs)) (.returned (.int .i64 0)) (w7.setCell ⟨r,0,none⟩ (.slice v7a n7 v7c))):=by
    refine FIN.out k (.slice v7a n7 v7c) _ P1.out P2.out ((Only.of_below BW).trans (Only.set (fun k=>k=r) w7 (a:=⟨r,0,none⟩) rfl _) fun _ _ g=>g) ?_ ?_
    ·have:=Rw.heap_setCell_same (j:=0) C7.row (.slice v7a n7 v7c)
     rw [this]
     simp
    ·exact (o7.off (p:=⟨r,0,none⟩) (o7.range (.inl hrw2)) (.slice v7a n7 v7c)).low hw2.out
   clear C7 BW o7 B7 FIN
   repeat (refine Sz.lit ?_;quiet_step (fail);refine wpQuiet_nil ?_)
   refine Sz.done ?_;go_simp;clear c7 f7;generalize (w7.setCell ⟨r,0,none⟩ (.slice v7a n7 v7c))=w8 at *;refine NoPanic.normal ?_;go_wp2
   go_ret
   exact RES.out
theorem radd_any {w:World} {r:Nat} {F:Nat→Prop} {A:Abs} {d:Int} (RS:Rs w r F A d) (hF:∀ k,F k→k < w.heap.size) (n p:Int) (v:Value) (l:List R4) (R:Rd K4 w v l) (ho:0 < l.length→∀ k,v.ownBlock=some k→¬ (F k∨k=r)) (hl:okL l) :
 Calls Tryz.prog 55 #[.pointer (some ⟨r,0,none⟩),.int .i64 n,file p v] w (RAPost w r F d (addE A n p l) (addA A n p l)):=by
 obtain ⟨u,L,h,rfl⟩:=RS;obtain ⟨a,cap,rfl,_⟩:=R.slice;have no:∀ z e w',addE (L.map Ent.abs) n p l=z→z≠0→(e = .returned (.int .i64 z)∧Below w.heap.size w w')→RAPost w r F d (addE (L.map Ent.abs) n p l) (addA (L.map Ent.abs) n p l) e w':=fun z e w' hz h0 ⟨he,b⟩=>by
  unfold RAPost addA;rw [hz,if_neg h0];exact ⟨he,⟨u,L,h.below b,rfl⟩,Only.of_below b⟩
 by_cases hn:0≤n∧n≤63
 ·by_cases hg:goodF p l
  ·cases hc:look Ent.n n L with
   | some c =>
     obtain ⟨i,_,hq⟩:=ix_some (srtL h.ok) hc;exact (radd_10 h n p a _ cap l R hn hg hq).mono fun e w'=>no 10 e w' (by unfold addE;rw [if_pos hn,if_pos hg,abs_look,hc];rfl) (by decide)
   | none =>
     have e0:addE (L.map Ent.abs) n p l=0:=by unfold addE;rw [if_pos hn,if_pos hg,abs_look,hc];rfl
     unfold addA;rw [e0,if_pos rfl];exact radd_0 h hF n p a _ cap l R ho hn hg hl hc
  ·exact (radd_2 w r n p a _ cap l R hn hg).mono fun e w'=>no 2 e w' (by unfold addE;rw [if_pos hn,if_neg hg]) (by decide)
 ·exact (radd_1 w r n p a _ cap hn).mono fun e w'=>no 1 e w' (by unfold addE;rw [if_neg hn]) (by decide)
end Go.Proofs.YtpkipilggkbkeaaGreatDoor.Fs
namespace Go.Proofs.YtpkipilggkbkeaaGreatDoor.Fl
open Go.RowKit
open Rw (Rd Ow At)
attribute [local irreducible] Sd.wpSd wpQuiet Sf.wpSf
structure StartR (w:World) (p:Int) (v:Value) (x:R4) (W:World):Prop where
 st:Start w p v x W
 no:W.heap[w.heap.size+4]? = some (.cells #[.int .i64 0,.slice none 0 0] 65 (0,0))
theorem StartR.of (w:World) (p:Int) (v:Value) (x:R4):StartR w p v x (((((w.alloc (.cells #[.int .i64 p,v] 65)).alloc (.cells (arr4 x) 96)).alloc (.cells #[.int .i64 0,.slice none 0 0] 65)).alloc (.cells (arr4 z4) 96)).alloc (.cells #[.int .i64 0,.slice none 0 0] 65)):=by
 have z4':∀ a b c d,((((w.alloc a).alloc b).alloc c).alloc d).heap.size=w.heap.size+4:=fun a b c d=>by simp
 refine ⟨(Start.of w p v x).mono ((Below.refl _ _).alloc (Nat.le_refl _) _),?_⟩;have:=heap_alloc_new ((((w.alloc (.cells #[.int .i64 p,v] 65)).alloc (.cells (arr4 x) 96)).alloc (.cells #[.int .i64 0,.slice none 0 0] 65)).alloc (.cells (arr4 z4) 96)) (.cells #[.int .i64 0,.slice none 0 0] 65);rw [z4'] at this;exact this
theorem StartR.mono {w W W':World} {p:Int} {v:Value} {x:R4} (h:StartR w p v x W) (b:Below W.heap.size W W'):StartR w p v x W':=⟨h.st.mono b,(b.block _ (lt_of_block h.no)).trans h.no⟩
set_option maxHeartbeats 400000 in
theorem rdo_2 (w:World) (p:Int) (a:Option Addr) (n cap:Nat) (l:List R4) (R:Rd K4 w (.slice a n cap) l) (op rec:Int) (x:R4) (hg:¬ goodF p l):Calls Tryz.prog 113 #[file p (.slice a n cap),.int .i64 op,.int .i64 rec,rec4 x] w (DoPost w p l op rec x):=by
 have S0:Hid (StartR w p (.slice a n cap) x (((((w.alloc (.cells #[.int .i64 p,.slice a n cap] 65)).alloc (.cells #[.int .u8 x.1,.int .u8 x.2.1,.int .u8 x.2.2.1,.int .u8 x.2.2.2] 96)).alloc (.cells #[.int .i64 0,.slice none 0 0] 65)).alloc (.cells #[.int .u8 0,.int .u8 0,.int .u8 0,.int .u8 0] 96)).alloc (.cells #[.int .i64 0,.slice none 0 0] 65))):=Lib.hid (StartR.of w p _ x);have GR:=Lib.hid (at_bool (show goodFB p l=false from decide_eq_false hg) (rgood_any _ p _ l (R.below S0.out.st.bel)));have E:Hid (∀ w',Below w.heap.size w w'→DoPost w p l op rec x (.returned (.tuple #[file 0 (.slice none 0 0),rec4 z4,.int .i64 2])) w'):=by
  have he:doE p l op rec=2:=doE_2 hg;exact fun w' h=>⟨.slice none 0 0,by rw [he];rfl,by rw [he];exact Ow.nil _ _ _,h⟩
 have hn:n=l.length:=by
  obtain ⟨a',cap',e,_⟩:=R;injection e
 clear R hg hn;unfold file rec4 at *
 go_enter Tryz.func113,Tryz.ntmps113
 go_wp2_with fail;generalize ((((w.alloc (.cells #[.int .i64 p,.slice a n cap] 65)).alloc (.cells #[.int .u8 x.1,.int .u8 x.2.1,.int .u8 x.2.2.1,.int .u8 x.2.2.2] 96)).alloc (.cells #[.int .i64 0,.slice none 0 0] 65)).alloc (.cells #[.int .u8 0,.int .u8 0,.int .u8 0,.int .u8 0] 96)).alloc (.cells #[.int .i64 0,.slice none 0 0] 65)=W at *;refine GR.out.mono ?_;rintro e w1 ⟨rfl,b1⟩;have S1:=Lib.hid (S0.out.mono b1);clear b1 S0 GR;have c0:w1.cell? ⟨w.heap.size+2,0,none⟩=some (.int .i64 0):=row_cell S1.out.st.res1 0;have c1:w1.cell? ⟨w.heap.size+2,1,none⟩=some (.slice none 0 0):=row_cell S1.out.st.res1 1;have d0:w1.cell? ⟨w.heap.size+3,0,none⟩=some (.int .u8 0):=row_cell S1.out.st.res2 0;have d1:w1.cell? ⟨w.heap.size+3,1,none⟩=some (.int .u8 0):=row_cell S1.out.st.res2 1;have d2:w1.cell? ⟨w.heap.size+3,2,none⟩=some (.int .u8 0):=row_cell S1.out.st.res2 2;have d3:w1.cell? ⟨w.heap.size+3,3,none⟩=some (.int .u8 0):=row_cell S1.out.st.res2 3;have n0:w1.cell? ⟨w.heap.size+4,0,none⟩=some (.int .i64 0):=row_cell S1.out.no 0;have n1:w1.cell? ⟨w.heap.size+4,1,none⟩=some (.slice none 0 0):=row_cell S1.out.no 1;have f0:=row_frozen S1.out.st.res1 0;have f1:=row_frozen S1.out.st.res1 1;have k0:=row_frozen S1.out.st.res2 0;have k1:=row_frozen S1.out.st.res2 1;have k2:=row_frozen S1.out.st.res2 2;have k3:=row_frozen S1.out.st.res2 3;have R1:=Lib.hid (sto4_other (g:=w.heap.size+3) (o:=0) (r:=z4) (sto2_row S1.out.st.res1 0 (.slice none 0 0)) (by omega));have R2:=Lib.hid (sto4_row (sto2_other (g:=w.heap.size+2) (p:=0) (v:=.slice none 0 0) S1.out.st.res2 (by omega)) z4);have B2:=Lib.hid (sto4_below (o:=0) (r:=z4) (sto2_below (p:=0) (v:=.slice none 0 0) S1.out.st.bel (show w.heap.size≤w.heap.size+2 by omega)) (show w.heap.size≤w.heap.size+3 by omega));have b0:w1.cell? ⟨w.heap.size,0,none⟩=some (.int .i64 p):=row_cell S1.out.st.box 0;have b1':w1.cell? ⟨w.heap.size,1,none⟩=some (.slice a n cap):=row_cell S1.out.st.box 1;clear S1;go_wp2
 (try simp only [Exit.inBlock,Exit.then])
 exact bodyPost_ret (results_do (p:=8) (q:=9) (r:=10) rfl _ _ (w.heap.size+2) (w.heap.size+3) 0 (.slice none 0 0) z4 2 rfl rfl rfl R1.out R2.out) rfl (E.out _ B2.out)
set_option maxHeartbeats 400000 in
theorem rdo_1 (w:World) (p:Int) (a:Option Addr) (n cap:Nat) (l:List R4) (R:Rd K4 w (.slice a n cap) l) (op rec:Int) (x:R4) (hg:goodF p l) (ho:¬ (0≤op∧op≤2)):Calls Tryz.prog 113 #[file p (.slice a n cap),.int .i64 op,.int .i64 rec,rec4 x] w (DoPost w p l op rec x):=by
 have S0:Hid (StartR w p (.slice a n cap) x (((((w.alloc (.cells #[.int .i64 p,.slice a n cap] 65)).alloc (.cells #[.int .u8 x.1,.int .u8 x.2.1,.int .u8 x.2.2.1,.int .u8 x.2.2.2] 96)).alloc (.cells #[.int .i64 0,.slice none 0 0] 65)).alloc (.cells #[.int .u8 0,.int .u8 0,.int .u8 0,.int .u8 0] 96)).alloc (.cells #[.int .i64 0,.slice none 0 0] 65))):=Lib.hid (StartR.of w p _ x);have GR:=Lib.hid (at_bool (show goodFB p l=true from decide_eq_true hg) (rgood_any _ p _ l (R.below S0.out.st.bel)));have E:Hid (∀ w',Below w.heap.size w w'→DoPost w p l op rec x (.returned (.tuple #[file 0 (.slice none 0 0),rec4 z4,.int .i64 1])) w'):=by
  have he:doE p l op rec=1:=doE_1 hg ho;exact fun w' h=>⟨.slice none 0 0,by rw [he];rfl,by rw [he];exact Ow.nil _ _ _,h⟩
 have hn:n=l.length:=by
  obtain ⟨a',cap',e,_⟩:=R;injection e
 clear R hg hn;unfold file rec4 at *;have ho2:op < 0∨(0≤op∧2 < op):=by omega
 clear ho
 rcases ho2 with ho | ⟨ho,ho2⟩
 all_goals
  go_enter Tryz.func113,Tryz.ntmps113
  go_wp2_with fail;generalize ((((w.alloc (.cells #[.int .i64 p,.slice a n cap] 65)).alloc (.cells #[.int .u8 x.1,.int .u8 x.2.1,.int .u8 x.2.2.1,.int .u8 x.2.2.2] 96)).alloc (.cells #[.int .i64 0,.slice none 0 0] 65)).alloc (.cells #[.int .u8 0,.int .u8 0,.int .u8 0,.int .u8 0] 96)).alloc (.cells #[.int .i64 0,.slice none 0 0] 65)=W at *;refine GR.out.mono ?_;rintro e w1 ⟨rfl,b1⟩;have S1:=Lib.hid (S0.out.mono b1);clear b1 S0 GR;have c0:w1.cell? ⟨w.heap.size+2,0,none⟩=some (.int .i64 0):=row_cell S1.out.st.res1 0;have c1:w1.cell? ⟨w.heap.size+2,1,none⟩=some (.slice none 0 0):=row_cell S1.out.st.res1 1;have d0:w1.cell? ⟨w.heap.size+3,0,none⟩=some (.int .u8 0):=row_cell S1.out.st.res2 0;have d1:w1.cell? ⟨w.heap.size+3,1,none⟩=some (.int .u8 0):=row_cell S1.out.st.res2 1;have d2:w1.cell? ⟨w.heap.size+3,2,none⟩=some (.int .u8 0):=row_cell S1.out.st.res2 2;have d3:w1.cell? ⟨w.heap.size+3,3,none⟩=some (.int .u8 0):=row_cell S1.out.st.res2 3;have n0:w1.cell? ⟨w.heap.size+4,0,none⟩=some (.int .i64 0):=row_cell S1.out.no 0;have n1:w1.cell? ⟨w.heap.size+4,1,none⟩=some (.slice none 0 0):=row_cell S1.out.no 1;have f0:=row_frozen S1.out.st.res1 0;have f1:=row_frozen S1.out.st.res1 1;have k0:=row_frozen S1.out.st.res2 0;have k1:=row_frozen S1.out.st.res2 1;have k2:=row_frozen S1.out.st.res2 2;have k3:=row_frozen S1.out.st.res2 3;have R1:=Lib.hid (sto4_other (g:=w.heap.size+3) (o:=0) (r:=z4) (sto2_row S1.out.st.res1 0 (.slice none 0 0)) (by omega));have R2:=Lib.hid (sto4_row (sto2_other (g:=w.heap.size+2) (p:=0) (v:=.slice none 0 0) S1.out.st.res2 (by omega)) z4);have B2:=Lib.hid (sto4_below (o:=0) (r:=z4) (sto2_below (p:=0) (v:=.slice none 0 0) S1.out.st.bel (show w.heap.size≤w.heap.size+2 by omega)) (show w.heap.size≤w.heap.size+3 by omega));have b0:w1.cell? ⟨w.heap.size,0,none⟩=some (.int .i64 p):=row_cell S1.out.st.box 0;have b1':w1.cell? ⟨w.heap.size,1,none⟩=some (.slice a n cap):=row_cell S1.out.st.box 1;clear S1;go_wp2
  (try simp only [Exit.inBlock,Exit.then])
  exact bodyPost_ret (results_do (p:=8) (q:=9) (r:=10) rfl _ _ (w.heap.size+2) (w.heap.size+3) 0 (.slice none 0 0) z4 1 rfl rfl rfl R1.out R2.out) rfl (E.out _ B2.out)
set_option maxHeartbeats 400000 in
theorem rdo_4 (w:World) (p:Int) (a:Option Addr) (n cap:Nat) (l:List R4) (R:Rd K4 w (.slice a n cap) l) (op rec:Int) (x:R4) (hg:goodF p l) (ho:0≤op∧op≤2) (hr:¬ (0≤rec∧rec < l.length)):Calls Tryz.prog 113 #[file p (.slice a n cap),.int .i64 op,.int .i64 rec,rec4 x] w (DoPost w p l op rec x):=by
 have S0:Hid (StartR w p (.slice a n cap) x (((((w.alloc (.cells #[.int .i64 p,.slice a n cap] 65)).alloc (.cells #[.int .u8 x.1,.int .u8 x.2.1,.int .u8 x.2.2.1,.int .u8 x.2.2.2] 96)).alloc (.cells #[.int .i64 0,.slice none 0 0] 65)).alloc (.cells #[.int .u8 0,.int .u8 0,.int .u8 0,.int .u8 0] 96)).alloc (.cells #[.int .i64 0,.slice none 0 0] 65))):=Lib.hid (StartR.of w p _ x);have GR:=Lib.hid (at_bool (show goodFB p l=true from decide_eq_true hg) (rgood_any _ p _ l (R.below S0.out.st.bel)));have E:Hid (∀ w',Below w.heap.size w w'→DoPost w p l op rec x (.returned (.tuple #[file 0 (.slice none 0 0),rec4 z4,.int .i64 4])) w'):=by
  have he:doE p l op rec=4:=doE_4 hg ho hr;exact fun w' h=>⟨.slice none 0 0,by rw [he];rfl,by rw [he];exact Ow.nil _ _ _,h⟩
 have hn:n=l.length:=by
  obtain ⟨a',cap',e,_⟩:=R;injection e
 clear R hg;unfold file rec4 at *;have hr2:rec < 0∨(0≤rec∧(n:Int)≤rec):=by omega
 clear hr hn;obtain ⟨ho0,ho1⟩:=ho;have hop:op=0∨op=1∨op=2:=by omega
 clear ho0 ho1
 rcases hr2 with hr | ⟨hr,hr2⟩ <;> rcases hop with rfl | rfl | rfl
 all_goals
  go_enter Tryz.func113,Tryz.ntmps113
  go_wp2_with fail;generalize ((((w.alloc (.cells #[.int .i64 p,.slice a n cap] 65)).alloc (.cells #[.int .u8 x.1,.int .u8 x.2.1,.int .u8 x.2.2.1,.int .u8 x.2.2.2] 96)).alloc (.cells #[.int .i64 0,.slice none 0 0] 65)).alloc (.cells #[.int .u8 0,.int .u8 0,.int .u8 0,.int .u8 0] 96)).alloc (.cells #[.int .i64 0,.slice none 0 0] 65)=W at *;refine GR.out.mono ?_;rintro e w1 ⟨rfl,b1⟩;have S1:=Lib.hid (S0.out.mono b1);clear b1 S0 GR;have c0:w1.cell? ⟨w.heap.size+2,0,none⟩=some (.int .i64 0):=row_cell S1.out.st.res1 0;have c1:w1.cell? ⟨w.heap.size+2,1,none⟩=some (.slice none 0 0):=row_cell S1.out.st.res1 1;have d0:w1.cell? ⟨w.heap.size+3,0,none⟩=some (.int .u8 0):=row_cell S1.out.st.res2 0;have d1:w1.cell? ⟨w.heap.size+3,1,none⟩=some (.int .u8 0):=row_cell S1.out.st.res2 1;have d2:w1.cell? ⟨w.heap.size+3,2,none⟩=some (.int .u8 0):=row_cell S1.out.st.res2 2;have d3:w1.cell? ⟨w.heap.size+3,3,none⟩=some (.int .u8 0):=row_cell S1.out.st.res2 3;have n0:w1.cell? ⟨w.heap.size+4,0,none⟩=some (.int .i64 0):=row_cell S1.out.no 0;have n1:w1.cell? ⟨w.heap.size+4,1,none⟩=some (.slice none 0 0):=row_cell S1.out.no 1;have f0:=row_frozen S1.out.st.res1 0;have f1:=row_frozen S1.out.st.res1 1;have k0:=row_frozen S1.out.st.res2 0;have k1:=row_frozen S1.out.st.res2 1;have k2:=row_frozen S1.out.st.res2 2;have k3:=row_frozen S1.out.st.res2 3;have R1:=Lib.hid (sto4_other (g:=w.heap.size+3) (o:=0) (r:=z4) (sto2_row S1.out.st.res1 0 (.slice none 0 0)) (by omega));have R2:=Lib.hid (sto4_row (sto2_other (g:=w.heap.size+2) (p:=0) (v:=.slice none 0 0) S1.out.st.res2 (by omega)) z4);have B2:=Lib.hid (sto4_below (o:=0) (r:=z4) (sto2_below (p:=0) (v:=.slice none 0 0) S1.out.st.bel (show w.heap.size≤w.heap.size+2 by omega)) (show w.heap.size≤w.heap.size+3 by omega));have b0:w1.cell? ⟨w.heap.size,0,none⟩=some (.int .i64 p):=row_cell S1.out.st.box 0;have b1':w1.cell? ⟨w.heap.size,1,none⟩=some (.slice a n cap):=row_cell S1.out.st.box 1;clear S1;go_wp2
  (try simp only [Exit.inBlock,Exit.then])
  exact bodyPost_ret (results_do (p:=8) (q:=9) (r:=10) rfl _ _ (w.heap.size+2) (w.heap.size+3) 0 (.slice none 0 0) z4 4 rfl rfl rfl R1.out R2.out) rfl (E.out _ B2.out)
theorem five {p op rec:Int} (ho:0≤op∧op≤2) (hr:0≤rec) (hk:¬ (rec=0∧op=0∨0 < rec∧p / need op % 2=1)):op=0∧0 < rec∧p / 1 % 2=0∨op=1∧rec=0∨op=1∧0 < rec∧p / 2 % 2=0∨op=2∧rec=0∨op=2∧0 < rec∧p / 4 % 2=0:=by
 rcases (by omega:op=0∨op=1∨op=2) with rfl | rfl | rfl
 ·rw [show need 0=1 from rfl] at hk;omega
 ·rw [show need 1=2 from rfl] at hk;omega
 ·rw [show need 2=4 from rfl] at hk;omega
set_option maxHeartbeats 400000 in
theorem rdo_5 (w:World) (p:Int) (a:Option Addr) (n cap:Nat) (l:List R4) (R:Rd K4 w (.slice a n cap) l) (op rec:Int) (x:R4) (hg:goodF p l) (ho:0≤op∧op≤2) (hr:0≤rec∧rec < l.length) (hk:¬ (rec=0∧op=0∨0 < rec∧p / need op % 2=1)):Calls Tryz.prog 113 #[file p (.slice a n cap),.int .i64 op,.int .i64 rec,rec4 x] w (DoPost w p l op rec x):=by
 have S0:Hid (StartR w p (.slice a n cap) x (((((w.alloc (.cells #[.int .i64 p,.slice a n cap] 65)).alloc (.cells #[.int .u8 x.1,.int .u8 x.2.1,.int .u8 x.2.2.1,.int .u8 x.2.2.2] 96)).alloc (.cells #[.int .i64 0,.slice none 0 0] 65)).alloc (.cells #[.int .u8 0,.int .u8 0,.int .u8 0,.int .u8 0] 96)).alloc (.cells #[.int .i64 0,.slice none 0 0] 65))):=Lib.hid (StartR.of w p _ x);have GR:=Lib.hid (at_bool (show goodFB p l=true from decide_eq_true hg) (rgood_any _ p _ l (R.below S0.out.st.bel)));have E:Hid (∀ w',Below w.heap.size w w'→DoPost w p l op rec x (.returned (.tuple #[file 0 (.slice none 0 0),rec4 z4,.int .i64 5])) w'):=by
  have he:doE p l op rec=5:=doE_5 hg ho hr hk;exact fun w' h=>⟨.slice none 0 0,by rw [he];rfl,by rw [he];exact Ow.nil _ _ _,h⟩
 have hn:n=l.length:=by
  obtain ⟨a',cap',e,_⟩:=R;injection e
 have p0:0≤p:=hg.1;have p1:p≤7:=hg.2.1;clear R hg;unfold file rec4 at *;obtain ⟨ho0,ho1⟩:=ho;obtain ⟨hr0,hr1⟩:=hr;rw [← hn] at hr1;have hop:op=0∧0 < rec∧p / 1 % 2=0∨op=1∧rec=0∨op=1∧0 < rec∧p / 2 % 2=0∨op=2∧rec=0∨op=2∧0 < rec∧p / 4 % 2=0:=five ⟨ho0,ho1⟩ hr0 hk;clear ho0 ho1 hk hn
 rcases hop with ⟨rfl,hr2,hq⟩ | ⟨rfl,rfl⟩ | ⟨rfl,hr2,hq⟩ | ⟨rfl,rfl⟩ | ⟨rfl,hr2,hq⟩
 ·have hq1:IntKind.i64.wrap p=p:=IntWalk.i64_in _ (by omega)
  have hq2:Int.tmod p 2=0:=by rw [Int.tmod_eq_emod_of_nonneg p0];omega
  clear hq;have hz:¬ rec=0:=by omega
  have hz2:(rec == 0)=false:=by simpa using hz
  go_enter Tryz.func113,Tryz.ntmps113
  go_wp2_with fail;generalize ((((w.alloc (.cells #[.int .i64 p,.slice a n cap] 65)).alloc (.cells #[.int .u8 x.1,.int .u8 x.2.1,.int .u8 x.2.2.1,.int .u8 x.2.2.2] 96)).alloc (.cells #[.int .i64 0,.slice none 0 0] 65)).alloc (.cells #[.int .u8 0,.int .u8 0,.int .u8 0,.int .u8 0] 96)).alloc (.cells #[.int .i64 0,.slice none 0 0] 65)=W at *;refine GR.out.mono ?_;rintro e w1 ⟨rfl,b1⟩;have S1:=Lib.hid (S0.out.mono b1);clear b1 S0 GR;have b0:w1.cell? ⟨w.heap.size,0,none⟩=some (.int .i64 p):=row_cell S1.out.st.box 0;have b1':w1.cell? ⟨w.heap.size,1,none⟩=some (.slice a n cap):=row_cell S1.out.st.box 1;go_upto_region 9 with fail;have S2:Hid (StartR w p (.slice a n cap) x (w1.alloc (.cells #[.int .i64 1,.int .i64 2,.int .i64 4] 3))):=Lib.hid (S1.out.mono ((Below.refl _ _).alloc (Nat.le_refl _) _));clear b0 b1' S1;generalize w1.alloc (.cells #[.int .i64 1,.int .i64 2,.int .i64 4] 3)=w2 at *;have S1:=S2;clear S2;have c0:w2.cell? ⟨w.heap.size+2,0,none⟩=some (.int .i64 0):=row_cell S1.out.st.res1 0;have c1:w2.cell? ⟨w.heap.size+2,1,none⟩=some (.slice none 0 0):=row_cell S1.out.st.res1 1;have d0:w2.cell? ⟨w.heap.size+3,0,none⟩=some (.int .u8 0):=row_cell S1.out.st.res2 0;have d1:w2.cell? ⟨w.heap.size+3,1,none⟩=some (.int .u8 0):=row_cell S1.out.st.res2 1;have d2:w2.cell? ⟨w.heap.size+3,2,none⟩=some (.int .u8 0):=row_cell S1.out.st.res2 2;have d3:w2.cell? ⟨w.heap.size+3,3,none⟩=some (.int .u8 0):=row_cell S1.out.st.res2 3;have n0:w2.cell? ⟨w.heap.size+4,0,none⟩=some (.int .i64 0):=row_cell S1.out.no 0;have n1:w2.cell? ⟨w.heap.size+4,1,none⟩=some (.slice none 0 0):=row_cell S1.out.no 1;have f0:=row_frozen S1.out.st.res1 0;have f1:=row_frozen S1.out.st.res1 1;have k0:=row_frozen S1.out.st.res2 0;have k1:=row_frozen S1.out.st.res2 1;have k2:=row_frozen S1.out.st.res2 2;have k3:=row_frozen S1.out.st.res2 3;have R1:=Lib.hid (sto4_other (g:=w.heap.size+3) (o:=0) (r:=z4) (sto2_row S1.out.st.res1 0 (.slice none 0 0)) (by omega));have R2:=Lib.hid (sto4_row (sto2_other (g:=w.heap.size+2) (p:=0) (v:=.slice none 0 0) S1.out.st.res2 (by omega)) z4);have B2:=Lib.hid (sto4_below (o:=0) (r:=z4) (sto2_below (p:=0) (v:=.slice none 0 0) S1.out.st.bel (show w.heap.size≤w.heap.size+2 by omega)) (show w.heap.size≤w.heap.size+3 by omega));have b0:w2.cell? ⟨w.heap.size,0,none⟩=some (.int .i64 p):=row_cell S1.out.st.box 0;have b1':w2.cell? ⟨w.heap.size,1,none⟩=some (.slice a n cap):=row_cell S1.out.st.box 1;clear S1;go_wp2
  (try simp only [Exit.inBlock,Exit.then])
  exact bodyPost_ret (results_do (p:=8) (q:=9) (r:=10) rfl _ _ (w.heap.size+2) (w.heap.size+3) 0 (.slice none 0 0) z4 5 rfl rfl rfl R1.out R2.out) rfl (E.out _ B2.out)
 ·go_enter Tryz.func113,Tryz.ntmps113
  go_wp2_with fail;generalize ((((w.alloc (.cells #[.int .i64 p,.slice a n cap] 65)).alloc (.cells #[.int .u8 x.1,.int .u8 x.2.1,.int .u8 x.2.2.1,.int .u8 x.2.2.2] 96)).alloc (.cells #[.int .i64 0,.slice none 0 0] 65)).alloc (.cells #[.int .u8 0,.int .u8 0,.int .u8 0,.int .u8 0] 96)).alloc (.cells #[.int .i64 0,.slice none 0 0] 65)=W at *;refine GR.out.mono ?_;rintro e w1 ⟨rfl,b1⟩;have S1:=Lib.hid (S0.out.mono b1);clear b1 S0 GR;have b0:w1.cell? ⟨w.heap.size,0,none⟩=some (.int .i64 p):=row_cell S1.out.st.box 0;have b1':w1.cell? ⟨w.heap.size,1,none⟩=some (.slice a n cap):=row_cell S1.out.st.box 1;go_upto_region 9 with fail;have S2:Hid (StartR w p (.slice a n cap) x (w1.alloc (.cells #[.int .i64 1,.int .i64 2,.int .i64 4] 3))):=Lib.hid (S1.out.mono ((Below.refl _ _).alloc (Nat.le_refl _) _));clear b0 b1' S1;generalize w1.alloc (.cells #[.int .i64 1,.int .i64 2,.int .i64 4] 3)=w2 at *;have S1:=S2;clear S2;have c0:w2.cell? ⟨w.heap.size+2,0,none⟩=some (.int .i64 0):=row_cell S1.out.st.res1 0;have c1:w2.cell? ⟨w.heap.size+2,1,none⟩=some (.slice none 0 0):=row_cell S1.out.st.res1 1;have d0:w2.cell? ⟨w.heap.size+3,0,none⟩=some (.int .u8 0):=row_cell S1.out.st.res2 0;have d1:w2.cell? ⟨w.heap.size+3,1,none⟩=some (.int .u8 0):=row_cell S1.out.st.res2 1;have d2:w2.cell? ⟨w.heap.size+3,2,none⟩=some (.int .u8 0):=row_cell S1.out.st.res2 2;have d3:w2.cell? ⟨w.heap.size+3,3,none⟩=some (.int .u8 0):=row_cell S1.out.st.res2 3;have n0:w2.cell? ⟨w.heap.size+4,0,none⟩=some (.int .i64 0):=row_cell S1.out.no 0;have n1:w2.cell? ⟨w.heap.size+4,1,none⟩=some (.slice none 0 0):=row_cell S1.out.no 1;have f0:=row_frozen S1.out.st.res1 0;have f1:=row_frozen S1.out.st.res1 1;have k0:=row_frozen S1.out.st.res2 0;have k1:=row_frozen S1.out.st.res2 1;have k2:=row_frozen S1.out.st.res2 2;have k3:=row_frozen S1.out.st.res2 3;have R1:=Lib.hid (sto4_other (g:=w.heap.size+3) (o:=0) (r:=z4) (sto2_row S1.out.st.res1 0 (.slice none 0 0)) (by omega));have R2:=Lib.hid (sto4_row (sto2_other (g:=w.heap.size+2) (p:=0) (v:=.slice none 0 0) S1.out.st.res2 (by omega)) z4);have B2:=Lib.hid (sto4_below (o:=0) (r:=z4) (sto2_below (p:=0) (v:=.slice none 0 0) S1.out.st.bel (show w.heap.size≤w.heap.size+2 by omega)) (show w.heap.size≤w.heap.size+3 by omega));have b0:w2.cell? ⟨w.heap.size,0,none⟩=some (.int .i64 p):=row_cell S1.out.st.box 0;have b1':w2.cell? ⟨w.heap.size,1,none⟩=some (.slice a n cap):=row_cell S1.out.st.box 1;clear S1;go_wp2
  (try simp only [Exit.inBlock,Exit.then])
  exact bodyPost_ret (results_do (p:=8) (q:=9) (r:=10) rfl _ _ (w.heap.size+2) (w.heap.size+3) 0 (.slice none 0 0) z4 5 rfl rfl rfl R1.out R2.out) rfl (E.out _ B2.out)
 ·have hq1:IntKind.i64.wrap (Int.tdiv p 2)=p / 2:=by rw [Int.tdiv_eq_ediv_of_nonneg p0];exact IntWalk.i64_in _ (by omega)
  have hq2:Int.tmod (p / 2) 2=0:=by rw [Int.tmod_eq_emod_of_nonneg (by omega)];exact hq
  clear hq;have hz:¬ rec=0:=by omega
  have hz2:(rec == 0)=false:=by simpa using hz
  go_enter Tryz.func113,Tryz.ntmps113
  go_wp2_with fail;generalize ((((w.alloc (.cells #[.int .i64 p,.slice a n cap] 65)).alloc (.cells #[.int .u8 x.1,.int .u8 x.2.1,.int .u8 x.2.2.1,.int .u8 x.2.2.2] 96)).alloc (.cells #[.int .i64 0,.slice none 0 0] 65)).alloc (.cells #[.int .u8 0,.int .u8 0,.int .u8 0,.int .u8 0] 96)).alloc (.cells #[.int .i64 0,.slice none 0 0] 65)=W at *;refine GR.out.mono ?_;rintro e w1 ⟨rfl,b1⟩;have S1:=Lib.hid (S0.out.mono b1);clear b1 S0 GR;have b0:w1.cell? ⟨w.heap.size,0,none⟩=some (.int .i64 p):=row_cell S1.out.st.box 0;have b1':w1.cell? ⟨w.heap.size,1,none⟩=some (.slice a n cap):=row_cell S1.out.st.box 1;go_upto_region 9 with fail;have S2:Hid (StartR w p (.slice a n cap) x (w1.alloc (.cells #[.int .i64 1,.int .i64 2,.int .i64 4] 3))):=Lib.hid (S1.out.mono ((Below.refl _ _).alloc (Nat.le_refl _) _));clear b0 b1' S1;generalize w1.alloc (.cells #[.int .i64 1,.int .i64 2,.int .i64 4] 3)=w2 at *;have S1:=S2;clear S2;have c0:w2.cell? ⟨w.heap.size+2,0,none⟩=some (.int .i64 0):=row_cell S1.out.st.res1 0;have c1:w2.cell? ⟨w.heap.size+2,1,none⟩=some (.slice none 0 0):=row_cell S1.out.st.res1 1;have d0:w2.cell? ⟨w.heap.size+3,0,none⟩=some (.int .u8 0):=row_cell S1.out.st.res2 0;have d1:w2.cell? ⟨w.heap.size+3,1,none⟩=some (.int .u8 0):=row_cell S1.out.st.res2 1;have d2:w2.cell? ⟨w.heap.size+3,2,none⟩=some (.int .u8 0):=row_cell S1.out.st.res2 2;have d3:w2.cell? ⟨w.heap.size+3,3,none⟩=some (.int .u8 0):=row_cell S1.out.st.res2 3;have n0:w2.cell? ⟨w.heap.size+4,0,none⟩=some (.int .i64 0):=row_cell S1.out.no 0;have n1:w2.cell? ⟨w.heap.size+4,1,none⟩=some (.slice none 0 0):=row_cell S1.out.no 1;have f0:=row_frozen S1.out.st.res1 0;have f1:=row_frozen S1.out.st.res1 1;have k0:=row_frozen S1.out.st.res2 0;have k1:=row_frozen S1.out.st.res2 1;have k2:=row_frozen S1.out.st.res2 2;have k3:=row_frozen S1.out.st.res2 3;have R1:=Lib.hid (sto4_other (g:=w.heap.size+3) (o:=0) (r:=z4) (sto2_row S1.out.st.res1 0 (.slice none 0 0)) (by omega));have R2:=Lib.hid (sto4_row (sto2_other (g:=w.heap.size+2) (p:=0) (v:=.slice none 0 0) S1.out.st.res2 (by omega)) z4);have B2:=Lib.hid (sto4_below (o:=0) (r:=z4) (sto2_below (p:=0) (v:=.slice none 0 0) S1.out.st.bel (show w.heap.size≤w.heap.size+2 by omega)) (show w.heap.size≤w.heap.size+3 by omega));have b0:w2.cell? ⟨w.heap.size,0,none⟩=some (.int .i64 p):=row_cell S1.out.st.box 0;have b1':w2.cell? ⟨w.heap.size,1,none⟩=some (.slice a n cap):=row_cell S1.out.st.box 1;clear S1;go_wp2
  (try simp only [Exit.inBlock,Exit.then])
  exact bodyPost_ret (results_do (p:=8) (q:=9) (r:=10) rfl _ _ (w.heap.size+2) (w.heap.size+3) 0 (.slice none 0 0) z4 5 rfl rfl rfl R1.out R2.out) rfl (E.out _ B2.out)
 ·go_enter Tryz.func113,Tryz.ntmps113
  go_wp2_with fail;generalize ((((w.alloc (.cells #[.int .i64 p,.slice a n cap] 65)).alloc (.cells #[.int .u8 x.1,.int .u8 x.2.1,.int .u8 x.2.2.1,.int .u8 x.2.2.2] 96)).alloc (.cells #[.int .i64 0,.slice none 0 0] 65)).alloc (.cells #[.int .u8 0,.int .u8 0,.int .u8 0,.int .u8 0] 96)).alloc (.cells #[.int .i64 0,.slice none 0 0] 65)=W at *;refine GR.out.mono ?_;rintro e w1 ⟨rfl,b1⟩;have S1:=Lib.hid (S0.out.mono b1);clear b1 S0 GR;have b0:w1.cell? ⟨w.heap.size,0,none⟩=some (.int .i64 p):=row_cell S1.out.st.box 0;have b1':w1.cell? ⟨w.heap.size,1,none⟩=some (.slice a n cap):=row_cell S1.out.st.box 1;go_upto_region 9 with fail;have S2:Hid (StartR w p (.slice a n cap) x (w1.alloc (.cells #[.int .i64 1,.int .i64 2,.int .i64 4] 3))):=Lib.hid (S1.out.mono ((Below.refl _ _).alloc (Nat.le_refl _) _));clear b0 b1' S1;generalize w1.alloc (.cells #[.int .i64 1,.int .i64 2,.int .i64 4] 3)=w2 at *;have S1:=S2;clear S2;have c0:w2.cell? ⟨w.heap.size+2,0,none⟩=some (.int .i64 0):=row_cell S1.out.st.res1 0;have c1:w2.cell? ⟨w.heap.size+2,1,none⟩=some (.slice none 0 0):=row_cell S1.out.st.res1 1;have d0:w2.cell? ⟨w.heap.size+3,0,none⟩=some (.int .u8 0):=row_cell S1.out.st.res2 0;have d1:w2.cell? ⟨w.heap.size+3,1,none⟩=some (.int .u8 0):=row_cell S1.out.st.res2 1;have d2:w2.cell? ⟨w.heap.size+3,2,none⟩=some (.int .u8 0):=row_cell S1.out.st.res2 2;have d3:w2.cell? ⟨w.heap.size+3,3,none⟩=some (.int .u8 0):=row_cell S1.out.st.res2 3;have n0:w2.cell? ⟨w.heap.size+4,0,none⟩=some (.int .i64 0):=row_cell S1.out.no 0;have n1:w2.cell? ⟨w.heap.size+4,1,none⟩=some (.slice none 0 0):=row_cell S1.out.no 1;have f0:=row_frozen S1.out.st.res1 0;have f1:=row_frozen S1.out.st.res1 1;have k0:=row_frozen S1.out.st.res2 0;have k1:=row_frozen S1.out.st.res2 1;have k2:=row_frozen S1.out.st.res2 2;have k3:=row_frozen S1.out.st.res2 3;have R1:=Lib.hid (sto4_other (g:=w.heap.size+3) (o:=0) (r:=z4) (sto2_row S1.out.st.res1 0 (.slice none 0 0)) (by omega));have R2:=Lib.hid (sto4_row (sto2_other (g:=w.heap.size+2) (p:=0) (v:=.slice none 0 0) S1.out.st.res2 (by omega)) z4);have B2:=Lib.hid (sto4_below (o:=0) (r:=z4) (sto2_below (p:=0) (v:=.slice none 0 0) S1.out.st.bel (show w.heap.size≤w.heap.size+2 by omega)) (show w.heap.size≤w.heap.size+3 by omega));have b0:w2.cell? ⟨w.heap.size,0,none⟩=some (.int .i64 p):=row_cell S1.out.st.box 0;have b1':w2.cell? ⟨w.heap.size,1,none⟩=some (.slice a n cap):=row_cell S1.out.st.box 1;clear S1;go_wp2
  (try simp only [Exit.inBlock,Exit.then])
  exact bodyPost_ret (results_do (p:=8) (q:=9) (r:=10) rfl _ _ (w.heap.size+2) (w.heap.size+3) 0 (.slice none 0 0) z4 5 rfl rfl rfl R1.out R2.out) rfl (E.out _ B2.out)
 ·have hq1:IntKind.i64.wrap (Int.tdiv p 4)=p / 4:=by rw [Int.tdiv_eq_ediv_of_nonneg p0];exact IntWalk.i64_in _ (by omega)
  have hq2:Int.tmod (p / 4) 2=0:=by rw [Int.tmod_eq_emod_of_nonneg (by omega)];exact hq
  clear hq;have hz:¬ rec=0:=by omega
  have hz2:(rec == 0)=false:=by simpa using hz
  go_enter Tryz.func113,Tryz.ntmps113
  go_wp2_with fail;generalize ((((w.alloc (.cells #[.int .i64 p,.slice a n cap] 65)).alloc (.cells #[.int .u8 x.1,.int .u8 x.2.1,.int .u8 x.2.2.1,.int .u8 x.2.2.2] 96)).alloc (.cells #[.int .i64 0,.slice none 0 0] 65)).alloc (.cells #[.int .u8 0,.int .u8 0,.int .u8 0,.int .u8 0] 96)).alloc (.cells #[.int .i64 0,.slice none 0 0] 65)=W at *;refine GR.out.mono ?_;rintro e w1 ⟨rfl,b1⟩;have S1:=Lib.hid (S0.out.mono b1);clear b1 S0 GR;have b0:w1.cell? ⟨w.heap.size,0,none⟩=some (.int .i64 p):=row_cell S1.out.st.box 0;have b1':w1.cell? ⟨w.heap.size,1,none⟩=some (.slice a n cap):=row_cell S1.out.st.box 1;go_upto_region 9 with fail;have S2:Hid (StartR w p (.slice a n cap) x (w1.alloc (.cells #[.int .i64 1,.int .i64 2,.int .i64 4] 3))):=Lib.hid (S1.out.mono ((Below.refl _ _).alloc (Nat.le_refl _) _));clear b0 b1' S1;generalize w1.alloc (.cells #[.int .i64 1,.int .i64 2,.int .i64 4] 3)=w2 at *;have S1:=S2;clear S2;have c0:w2.cell? ⟨w.heap.size+2,0,none⟩=some (.int .i64 0):=row_cell S1.out.st.res1 0;have c1:w2.cell? ⟨w.heap.size+2,1,none⟩=some (.slice none 0 0):=row_cell S1.out.st.res1 1;have d0:w2.cell? ⟨w.heap.size+3,0,none⟩=some (.int .u8 0):=row_cell S1.out.st.res2 0;have d1:w2.cell? ⟨w.heap.size+3,1,none⟩=some (.int .u8 0):=row_cell S1.out.st.res2 1;have d2:w2.cell? ⟨w.heap.size+3,2,none⟩=some (.int .u8 0):=row_cell S1.out.st.res2 2;have d3:w2.cell? ⟨w.heap.size+3,3,none⟩=some (.int .u8 0):=row_cell S1.out.st.res2 3;have n0:w2.cell? ⟨w.heap.size+4,0,none⟩=some (.int .i64 0):=row_cell S1.out.no 0;have n1:w2.cell? ⟨w.heap.size+4,1,none⟩=some (.slice none 0 0):=row_cell S1.out.no 1;have f0:=row_frozen S1.out.st.res1 0;have f1:=row_frozen S1.out.st.res1 1;have k0:=row_frozen S1.out.st.res2 0;have k1:=row_frozen S1.out.st.res2 1;have k2:=row_frozen S1.out.st.res2 2;have k3:=row_frozen S1.out.st.res2 3;have R1:=Lib.hid (sto4_other (g:=w.heap.size+3) (o:=0) (r:=z4) (sto2_row S1.out.st.res1 0 (.slice none 0 0)) (by omega));have R2:=Lib.hid (sto4_row (sto2_other (g:=w.heap.size+2) (p:=0) (v:=.slice none 0 0) S1.out.st.res2 (by omega)) z4);have B2:=Lib.hid (sto4_below (o:=0) (r:=z4) (sto2_below (p:=0) (v:=.slice none 0 0) S1.out.st.bel (show w.heap.size≤w.heap.size+2 by omega)) (show w.heap.size≤w.heap.size+3 by omega));have b0:w2.cell? ⟨w.heap.size,0,none⟩=some (.int .i64 p):=row_cell S1.out.st.box 0;have b1':w2.cell? ⟨w.heap.size,1,none⟩=some (.slice a n cap):=row_cell S1.out.st.box 1;clear S1;go_wp2
  (try simp only [Exit.inBlock,Exit.then])
  exact bodyPost_ret (results_do (p:=8) (q:=9) (r:=10) rfl _ _ (w.heap.size+2) (w.heap.size+3) 0 (.slice none 0 0) z4 5 rfl rfl rfl R1.out R2.out) rfl (E.out _ B2.out)
end Go.Proofs.YtpkipilggkbkeaaGreatDoor.Fl
