import Derived.Test.YtljnkaodhfnbbaaGreatDoorPi10
import Derived.Deep.Cut
import Derived.Test.YtljnkaodhfnbbaaGreatDoorPi5
import Derived.Test.YtljnkaodhfnbbaaGreatDoorPi6
import Derived.Test.YtljnkaodhfnbbaaGreatDoorPi4
import Derived.Test.YtljnkaodhfnbbaaGreatDoorPi2
import Derived.ArgAppend
import Derived.Test.YtljnkaodhfnbbaaGreatDoorPi7
import Derived.Test.YtljnkaodhfnbbaaGreatDoorPi1
import Derived.Deep.CutRange
import Derived.Great.BuildSlice
set_option maxRecDepth 100000
namespace Go.Proofs.YtljnkaodhfnbbaaGreatDoor.Cu
open Go.RowKit
open Rw (Rd Ow At)
open Fl (R4 K4 okL row_cell row_frozen)
open Fs (Ent E3 at3 Abs Fil Only ow_only)
open Pa (Fls eatF push_at only_grown cut_any)
open Ck (Hd sl zh)
attribute [local irreducible] Sd.wpSd wpQuiet
def cutE (e:Ent):Ent:={ e with l:=e.l.take 260 }
def cutP (p:Pl):Pl:=((p.1.take 12).map fun e=>(e.1,e.2.1,e.2.2.take 260),p.2)
def fewP (l:List Pl):List Pl:=(l.take 6).map cutP
theorem infoE3n:(Tryz.prog.info? 72).map (fun i=>(i.zero,i.size,i.bytes))=some (some (.agg #[.int .i64 0,.int .i64 0,.slice none 0 0]),3,40):=by kernel_rfl
theorem infoPl:(Tryz.prog.info? 60).map (fun i=>(i.zero,i.size,i.bytes))=some (some (.agg #[.slice none 0 0,.int .i64 0]),2,32):=by kernel_rfl
def FwPost (w:World) (B:Nat) (L:List PlD) (e:Ending) (w':World):Prop:=∃ v L',e = .returned v∧Pls w' v L' B∧pls L'=fewP (pls L)∧Below w.heap.size w w'
theorem rd_cut {w:World} {a:Option Addr} {cap:Nat} {l:List R4} (h:Rd K4 w (.slice a l.length cap) l):Rd K4 w (.slice a (l.take 260).length cap) (l.take 260):=by
 by_cases h1:260≤l.length
 ·have e:(l.take 260).length=260:=by rw [List.length_take];omega
  rw [e];exact cut_any h rfl h1 (by decide)
 ·rw [List.take_of_length_le (by omega)]
  exact h
structure FQI (wo:World) (c:PlD) (m g5 g6:Nat) (fa:Option Addr) (fc:Nat) (j:Nat) (o:Value) (wr:World):Prop where
 row5:wr.heap[g5]? = some (.cells #[.slice fa m fc,.int .i64 c.rate] 60 (0,0))
 row6:wr.heap[g6]? = some (.cells #[o,.int .i64 c.rate] 60 (0,0))
 own:Ow E3 wr wo.heap.size 72 o ((c.F.take j).map cutE)
 bel:Below wo.heap.size wo wr
 lo:wo.heap.size≤g5∧wo.heap.size≤g6∧g5≠g6
section
variable {wo wr w2:World} {c:PlD} {m g5 g6 fc j:Nat} {fa:Option Addr} {o o':Value}
theorem FQI.below (h:FQI wo c m g5 g6 fa fc j o wr) (b:Below wr.heap.size wr w2):FQI wo c m g5 g6 fa fc j o w2:=⟨(b.block _ (lt_of_block h.row5)).trans h.row5,(b.block _ (lt_of_block h.row6)).trans h.row6,h.own.keep b,h.bel.trans (b.mono h.bel.size),h.lo⟩
theorem FQI.off (h:FQI wo c m g5 g6 fa fc j o wr) {gx:Nat} (h0:wo.heap.size≤gx) (h5:gx≠g5) (h6:gx≠g6) (ho:o.ownBlock≠some gx) (k:Nat) (u:Value):FQI wo c m g5 g6 fa fc j o (wr.setCell ⟨gx,k,none⟩ u) :=
 ⟨(Below.heap_setCell wr ⟨gx,k,none⟩ u g5 (fun e=>h5 e.symm)).trans h.row5,(Below.heap_setCell wr ⟨gx,k,none⟩ u g6 (fun e=>h6 e.symm)).trans h.row6,h.own.off (p:=⟨gx,k,none⟩) ho u,h.bel.setCell h0 u,h.lo⟩
theorem FQI.push (h:FQI wo c m g5 g6 fa fc j o wr) {x:Ent} (hx:c.F[j]? = some x) (own:Ow E3 w2 wo.heap.size 72 o' ((c.F.take j).map cutE ++ [cutE x])) (gr:wr.grownBy w2 o.ownBlock):w2.heap[g6]? = some (.cells #[o,.int .i64 c.rate] 60 (0,0))∧FQI wo c m g5 g6 fa fc (j+1) o' (w2.setCell ⟨g6,0,none⟩ o'):=by
 have r5:w2.heap[g5]? = some (.cells #[.slice fa m fc,.int .i64 c.rate] 60 (0,0)):=(gr.block g5 (lt_of_block h.row5) (fun e=>h.own.apart h.row5 (by decide) e.symm)).trans h.row5;have r6:w2.heap[g6]? = some (.cells #[o,.int .i64 c.rate] 60 (0,0)):=(gr.block g6 (lt_of_block h.row6) (fun e=>h.own.apart h.row6 (by decide) e.symm)).trans h.row6;have b2:Below wo.heap.size wo w2:=h.bel.grown gr h.bel.size fun j e=>(World.ownsRow.lt h.own j e).1;have e:(c.F.take (j+1)).map cutE=(c.F.take j).map cutE ++ [cutE x]:=by rw [List.take_add_one,hx,List.map_append];rfl
 refine ⟨r6,(Below.heap_setCell w2 ⟨g6,0,none⟩ o' g5 h.lo.2.2).trans r5,Rw.heap_setCell_same (j:=0) r6 o',?_,b2.setCell h.lo.2.1 _,h.lo⟩;rw [e];exact own.far (p:=⟨g6,0,none⟩) r6 (by decide) _
end
theorem cutE_own (x:Ent):(cutE x).sl.ownBlock=x.sl.ownBlock:=by
 obtain ⟨n,p,a,cap,l⟩:=x;unfold cutE Ent.sl
 cases a <;> rfl
def ROk (w:World) (B:Nat) (e:Ent):Prop:=(Rd K4 w e.sl e.l∧okL e.l)∧(0 < e.l.length→∀ k,e.sl.ownBlock=some k→k < B)
theorem fls_ofB {w:World} {v:Value} {L:List Ent} {B:Nat} (rd:Rd E3 w v L) (each:∀ c∈L,ROk w B c):Fls w v L B:=by
 have at_:∀ i,i < L.length→eatF L i∈L:=fun i hi=>by
  unfold eatF;rw [List.getD_eq_getElem?_getD,List.getElem?_eq_getElem hi];exact List.getElem_mem hi
 exact ⟨rd,fun i hi=>(each _ (at_ i hi)).1,fun i hi h0 k hk=>(each _ (at_ i hi)).2 h0 k hk⟩
theorem pls_ofB {w:World} {v:Value} {L:List PlD} {B:Nat} (rd:Rd KP w v L) (each:∀ c∈L,Fls w (sl c.files) c.F B):Pls w v L B:=by
 refine ⟨rd,fun i hi=>each _ ?_⟩;unfold pld;rw [List.getD_eq_getElem?_getD,List.getElem?_eq_getElem hi];exact List.getElem_mem hi
structure FWI (w:World) (B:Nat) (L:List PlD) (k:Nat) (o:Value) (LD:List PlD) (wr:World):Prop where
 own:Ow KP wr w.heap.size 60 o LD
 len:LD.length=k
 fil:∀ c∈LD,Ow E3 wr w.heap.size 72 (sl c.files) c.F
 rec_:∀ c∈LD,∀ e∈c.F,ROk w B e
 abs:pls LD=((pls L).take k).map cutP
 bel:Below w.heap.size w wr
section
variable {w wr w2:World} {B:Nat} {L LD:List PlD} {k:Nat} {o o':Value} {x:PlD}
theorem FWI.below (h:FWI w B L k o LD wr) (b:Below wr.heap.size wr w2):FWI w B L k o LD w2:=⟨h.own.keep b,h.len,fun c hc=>(h.fil c hc).keep b,h.rec_,h.abs,h.bel.trans (b.mono h.bel.size)⟩
theorem FWI.push (h:FWI w B L k o LD wr) (hk:k < L.length) (own:Ow KP w2 w.heap.size 60 o' (LD ++ [x])) (gr:wr.grownBy w2 o.ownBlock) (fx:Ow E3 wr w.heap.size 72 (sl x.files) x.F) (rx:∀ e∈x.F,ROk w B e) (ax:x.abs=cutP (pld L k).abs):FWI w B L (k+1) o' (LD ++ [x]) w2:=by
 have oq:=only_grown gr;refine ⟨own,by rw [List.length_append,h.len];rfl,fun c hc=>?_,fun c hc=>?_,?_,h.bel.grown gr h.bel.size fun j e=>(World.ownsRow.lt h.own j e).1⟩
 ·rcases List.mem_append.1 hc with hc | hc
  ·exact ow_only (h.fil c hc) (fun k e=>Pa.ow_apart (h.fil c hc) h.own (by decide) k e) oq
  ·rw [List.mem_singleton.1 hc]
   exact ow_only fx (fun k e=>Pa.ow_apart fx h.own (by decide) k e) oq
 ·rcases List.mem_append.1 hc with hc | hc
  ·exact h.rec_ c hc
  ·rw [List.mem_singleton.1 hc]
   exact rx
 ·have e1:pls (LD ++ [x])=pls LD ++ [x.abs]:=by unfold pls;rw [List.map_append];rfl
  have e2:(pls L).take (k+1)=(pls L).take k ++ [(pld L k).abs]:=by
   rw [List.take_add_one];have:(pls L)[k]? = some (pld L k).abs:=by
    unfold pls pld;rw [List.getElem?_map,List.getElem?_eq_getElem hk,List.getD_eq_getElem?_getD,List.getElem?_eq_getElem hk]
    rfl
   rw [this]
   rfl
  rw [e1,e2,List.map_append,h.abs,ax]
  rfl
theorem FWI.fin (h:FWI w B L k o LD wr) (hk:k=L.length∨k=6) (h6:k≤6):FwPost w B L (.returned o) wr:=by
 refine ⟨o,LD,rfl,pls_ofB h.own.rd fun c hc=>fls_ofB (h.fil c hc).rd fun e he=>⟨⟨(h.rec_ c hc e he).1.1.below h.bel,(h.rec_ c hc e he).1.2⟩,(h.rec_ c hc e he).2⟩,?_,h.bel⟩;rw [h.abs];unfold fewP
 congr 1
 rcases hk with e | e
 ·rw [List.take_of_length_le (by rw [pls_len];omega),List.take_of_length_le (by rw [pls_len];omega)]
 ·rw [e]
end
theorem cut_abs (c:PlD) (h:Hd):(⟨h,c.rate,(c.F.take 12).map cutE⟩:PlD).abs=cutP c.abs:=by
 show (((c.F.take 12).map cutE).map Ent.abs,c.rate)=(((c.F.map Ent.abs).take 12).map _,c.rate)
 rw [← List.map_take,List.map_map,List.map_map]
 rfl
set_option maxHeartbeats 8000000 in
theorem few20_any {w:World} {v:Value} {L:List PlD} {B:Nat} (H:Pls w v L B):Calls Tryz.prog 13 #[v] w (FwPost w B L):=by
 have HF:=Lib.hid H.file;obtain ⟨a,cap,rfl,_,hm,h3⟩:=H.rd;have H3:=Lib.hid h3;clear h3 H;unfold maxLen at hm;have FIN:Hid (∀ k o LD wr,FWI w B L k o LD wr→k=L.length∨k=6→k≤6→FwPost w B L (.returned o) wr):=Lib.hid (fun k o LD wr I h1 h2=>I.fin h1 h2);have I0:Hid (FWI w B L 0 (.slice (some ⟨w.heap.size,0,none⟩) 0 0) [] (w.alloc (.cells #[] 60))):=Lib.hid ⟨Rw.Ow.made _ _ _ (Nat.le_refl _),rfl,fun c hc=>(List.not_mem_nil hc).elim,fun c hc=>(List.not_mem_nil hc).elim,rfl,(Below.refl _ _).alloc (Nat.le_refl _) _⟩;generalize hn:L.length=n at *;have HN:=Lib.hid hn;clear hn
 go_enter Tryz.func13,Tryz.ntmps13
 go_wp2
 go_loopw [4,3] (fun i o wr=>∃ (k:Nat) (LD:List PlD) (p1:Value),k≤n∧k≤6∧i = .int .i64 k∧p1=o∧Hid (FWI w B L k o LD wr)) (fun i _ _=>6 - (intOf i).toNat)
 case atStart=>exact ⟨0,[],_,Nat.zero_le _,Nat.zero_le _,rfl,rfl,by simpa using I0⟩
 case round =>
  clear I0;obtain ⟨k,LD,o,hk,hk6,rfl,rfl,I⟩:=hrel
  by_cases hlt:k < n∧k < 6
  ·obtain ⟨hlt,h6⟩:=hlt
   have hkL:k < L.length:=by have:=HN.out;omega
   obtain ⟨b,off,rfl,hA⟩:=H3.out (by omega);obtain ⟨x0,x1⟩:=at_pl (hA.below I.out.bel) hkL;have HAA:=Lib.hid hA;have FK:=Lib.hid (HF.out k hlt);have KL:=Lib.hid hkL;have LDL:=Lib.hid I.out.len;clear hA hkL;obtain ⟨ao,co,eo,-,-⟩:=I.out.own.slice;generalize LD.length=ln at eo;subst eo;generalize hc:pld L k=c at *;have HC:=Lib.hid hc;clear hc;obtain ⟨fa0,fc0,es,hmf⟩:=FK.out.rd.slice;have ES:=Lib.hid es;rw [es] at x0;clear es;have Y0:=Lib.hid (heap_alloc_new wr (.cells #[.slice fa0 c.F.length fc0,.int .i64 c.rate] 60));have BN:=Lib.hid ((Below.refl wr.heap.size wr).alloc (Nat.le_refl _) (.cells #[.slice fa0 c.F.length fc0,.int .i64 c.rate] 60))
   have FCAP:Hid (c.F.length≤fc0):=Lib.hid (by
    obtain ⟨_,_,e,q,_⟩:=FK.out.rd;rw [ES.out] at e;injection e with _ _ e
    omega)
   unfold maxLen at hmf
   go_upto_if 27 with fail
   clear x0 x1;generalize (wr.alloc (.cells #[.slice fa0 c.F.length fc0,.int .i64 c.rate] 60))=W5 at *;have z0:W5.cell? ⟨wr.heap.size,0,none⟩=some (.slice fa0 c.F.length fc0):=row_cell Y0.out 0;have f0:=row_frozen Y0.out 0
   go_cut [4] from 10 to 67 (fun z wx=>Value.int .i64 k=z∧Hid (Below wr.heap.size wr wx∧wx.heap[wr.heap.size]? = some (.cells #[.slice fa0 (c.F.take 12).length fc0,.int .i64 c.rate] 60 (0,0))))
   case first =>
    by_cases hl:12 < c.F.length
    ·have e12:(c.F.take 12).length=12:=by rw [List.length_take];omega
     have q1:decide (12 < (c.F.length:Int))=true:=decide_eq_true (by omega);have fcap:=FCAP.out
     have P:Hid (Below wr.heap.size wr (W5.setCell ⟨wr.heap.size,0,none⟩ (.slice fa0 12 fc0))∧(W5.setCell ⟨wr.heap.size,0,none⟩ (.slice fa0 12 fc0)).heap[wr.heap.size]? = some (.cells #[.slice fa0 (c.F.take 12).length fc0,.int .i64 c.rate] 60 (0,0))):=Lib.hid (by
      rw [e12]
      exact ⟨BN.out.setCell (Nat.le_refl _) (.slice fa0 12 fc0),Rw.heap_setCell_same (j:=0) Y0.out (.slice fa0 12 fc0)⟩)
     clear e12 Y0 BN;generalize (c.F.take 12).length=fm at *;generalize c.F.length=fl at *;go_wp2
     go_meet
     exact ⟨rfl,P.out.1,P.out.2⟩
    ·have e12:c.F.take 12=c.F:=List.take_of_length_le (by omega)
     have q1:decide (12 < (c.F.length:Int))=false:=decide_eq_false (by omega);have q2:decide (12 < c.F.length)=false:=decide_eq_false (by omega)
     have P:Hid (Below wr.heap.size wr W5∧W5.heap[wr.heap.size]? = some (.cells #[.slice fa0 (c.F.take 12).length fc0,.int .i64 c.rate] 60 (0,0))):=Lib.hid (by
      rw [e12]
      exact ⟨BN.out,Y0.out⟩)
     clear e12 Y0 BN;generalize (c.F.take 12).length=fm at *;generalize c.F.length=fl at *;go_wp2
     go_meet
     exact ⟨rfl,P.out.1,P.out.2⟩
   case rest =>
    obtain ⟨e1,P⟩:=hcut;subst e1;clear z0 f0 Y0 BN
    have FR:=Lib.hid (fun e (he:e∈c.F)=>(by
     obtain ⟨i,hi⟩:=List.getElem?_of_mem he;have hl:=(List.getElem?_eq_some_iff.1 hi).1;have q:=FK.out.file i hl;have q2:=FK.out.low i hl;unfold eatF at q q2;rw [List.getD_eq_getElem?_getD,hi] at q q2
     exact ⟨q,q2⟩:ROk w B e))
    have FH:Hid (0 < c.F.length→∃ b off,fa0=some ⟨b,off,none⟩∧At E3 w b off c.F):=Lib.hid (by
     obtain ⟨a',cap',e',_,_,h3⟩:=FK.out.rd;rw [ES.out] at e';injection e' with e1 _ _;subst e1
     exact h3)
    have MF:Hid ((c.F.take 12).length≤c.F.length∧(c.F.take 12).length≤12):=Lib.hid (by rw [List.length_take];omega)
    have TT:Hid ((c.F.take 12).map cutE=(c.F.take (c.F.take 12).length).map cutE):=Lib.hid (by
     congr 1
     rw [List.length_take]
     by_cases h:12≤c.F.length
     ·rw [Nat.min_eq_left h]
     ·rw [Nat.min_eq_right (by omega),List.take_of_length_le (by omega),List.take_length])
    generalize (c.F.take 12).length=m at *;obtain ⟨wo,hwo⟩:∃ x,x=wr:=⟨_,rfl⟩;have IW:Hid (FWI w B L k (.slice ao ln co) LD wo):=Lib.hid (by rw [hwo];exact I.out);rw [← hwo] at P;rw [← hwo];clear I hwo
    rename_i W5x
    have x5r:wc.cell? ⟨wo.heap.size,1,none⟩=some (.int .i64 c.rate):=row_cell P.out.2 1
    have Q0:Hid (FQI wo c m wo.heap.size wc.heap.size fa0 fc0 0 (.slice none 0 0) (wc.alloc (.cells #[.slice none 0 0,.int .i64 c.rate] 60))):=Lib.hid (by
     have b6:=(Below.refl wc.heap.size wc).alloc (Nat.le_refl _) (.cells #[.slice none 0 0,.int .i64 c.rate] 60);have zz:=P.out.1.size;have zl:=lt_of_block P.out.2
     exact ⟨(b6.block _ zl).trans P.out.2,heap_alloc_new wc _,Rw.Ow.nil _ _ _,P.out.1.trans (b6.mono zz),Nat.le_refl _,zz,by omega⟩)
    go_upto_region 9 with fail;clear x5r P;generalize (wc.alloc (.cells #[.slice none 0 0,.int .i64 c.rate] 60))=w6 at *;generalize wc.heap.size=g6 at *;generalize wo.heap.size=g5 at Q0 ⊢;go_wp2
    go_loopw [7] (fun i wr2=>∃ (j:Nat) (o2:Value),j≤m∧i = .int .i64 j∧Hid (FQI wo c m g5 g6 fa0 fc0 j o2 wr2)) (fun i _=>m - (intOf i).toNat)
    case atStart=>exact ⟨0,_,Nat.zero_le _,rfl,Q0⟩
    case round =>
     clear Q0;obtain ⟨j,o2,hj,rfl,Q⟩:=hrel;have p0:wr.cell? ⟨g5,0,none⟩=some (.slice fa0 m fc0):=row_cell Q.out.row5 0
     by_cases hjm:j < m
     ·have hjF:j < c.F.length:=by have:=MF.out;omega
      have hc:c.F[j]? = some (eatF c.F j):=by
       unfold eatF;rw [List.getElem?_eq_getElem hjF,List.getD_eq_getElem?_getD,List.getElem?_eq_getElem hjF]
       rfl
      obtain ⟨b2,off2,rfl,hA⟩:=FH.out (by omega);obtain ⟨y0,y1,y2⟩:=at3 (hA.below (IW.out.bel.trans (Q.out.bel.mono IW.out.bel.size))) hc;have HAA2:=Lib.hid hA;have RR:=Lib.hid (FR.out _ (List.mem_of_getElem? hc)).1;have HCJ:=Lib.hid hc;clear hA hc hjF;generalize eatF c.F j=x at *;obtain ⟨cn,cp,ca,ccap,cl⟩:=x;unfold Ent.sl at y2;simp only at y0 y1 y2;have Y1:=Lib.hid (heap_alloc_new wr (.cells #[.int .i64 cn,.int .i64 cp,.slice ca cl.length ccap] 72));have BN2:=Lib.hid ((Below.refl wr.heap.size wr).alloc (Nat.le_refl _) (.cells #[.int .i64 cn,.int .i64 cp,.slice ca cl.length ccap] 72))
      have CAPC:Hid (cl.length≤ccap):=Lib.hid (by
       obtain ⟨_,_,e,q,_⟩:=RR.out.1;unfold Ent.sl at e;simp only at e q;injection e with _ _ e;rw [e]
       exact q.1)
      have CLM:Hid (ccap≤maxLen):=Lib.hid (by
       obtain ⟨_,_,e,_,q,_⟩:=RR.out.1;unfold Ent.sl at e;simp only at e;injection e with _ _ e;rw [e]
       exact q)
      have R26:=Lib.hid (rd_cut (l:=cl) (a:=ca) (cap:=ccap) RR.out.1);have Q7:=Lib.hid (Q.out.below BN2.out);have GX:Hid (wo.heap.size≤wr.heap.size∧wr.heap.size≠g6∧wr.heap.size≠g5∧o2.ownBlock≠some wr.heap.size):=Lib.hid ⟨Q.out.bel.size,fun e=>by have:=lt_of_block Q.out.row6;omega,fun e=>by have:=lt_of_block Q.out.row5;omega,fun e=>by have:=(World.ownsRow.lt Q.out.own _ e).2;omega⟩
      go_upto_if 51 with fail
      clear y0 y1 y2 p0;generalize (wr.alloc (.cells #[.int .i64 cn,.int .i64 cp,.slice ca cl.length ccap] 72))=W7 at *;clear Q BN2;generalize wr.heap.size=gx at *;have z2:W7.cell? ⟨gx,2,none⟩=some (.slice ca cl.length ccap):=row_cell Y1.out 2;have f2:=row_frozen Y1.out 2
      go_cut [7] from 35 to 63 (fun z wx=>Value.int .i64 j=z∧Hid (wx.heap[gx]? = some (.cells #[.int .i64 cn,.int .i64 cp,.slice ca (cl.take 260).length ccap] 72 (0,0))∧FQI wo c m g5 g6 (some ⟨b2,off2,none⟩) fc0 j o2 wx))
      case first =>
       by_cases hl:260 < cl.length
       ·have e12:(cl.take 260).length=260:=by rw [List.length_take];omega
        have q1:decide (260 < (cl.length:Int))=true:=decide_eq_true (by omega);have capc:=CAPC.out;have clm:=CLM.out;unfold maxLen at clm
        have P:Hid ((W7.setCell ⟨gx,2,none⟩ (.slice ca 260 ccap)).heap[gx]? = some (.cells #[.int .i64 cn,.int .i64 cp,.slice ca (cl.take 260).length ccap] 72 (0,0))∧FQI wo c m g5 g6 (some ⟨b2,off2,none⟩) fc0 j o2 (W7.setCell ⟨gx,2,none⟩ (.slice ca 260 ccap))):=Lib.hid (by
         rw [e12]
         exact ⟨Rw.heap_setCell_same (j:=2) Y1.out _,Q7.out.off GX.out.1 GX.out.2.2.1 GX.out.2.1 GX.out.2.2.2 2 _⟩)
        clear e12 Y1 Q7 RR R26 HCJ;generalize (cl.take 260).length=fm at *;generalize cl.length=fl at *;go_wp2
        go_meet
        exact ⟨rfl,P⟩
       ·have e12:cl.take 260=cl:=List.take_of_length_le (by omega)
        have q1:decide (260 < (cl.length:Int))=false:=decide_eq_false (by omega);have q2:decide (260 < cl.length)=false:=decide_eq_false (by omega)
        have P:Hid (W7.heap[gx]? = some (.cells #[.int .i64 cn,.int .i64 cp,.slice ca (cl.take 260).length ccap] 72 (0,0))∧FQI wo c m g5 g6 (some ⟨b2,off2,none⟩) fc0 j o2 W7):=Lib.hid (by
         rw [e12]
         exact ⟨Y1.out,Q7.out⟩)
        clear e12 Y1 Q7 RR R26 HCJ;generalize (cl.take 260).length=fm at *;generalize cl.length=fl at *;go_wp2
        go_meet
        exact ⟨rfl,P⟩
      case rest =>
       obtain ⟨e1,P⟩:=hcut;subst e1;clear z2 f2 Y1 Q7;have X8:=Lib.hid P.out.1;have Q8:=Lib.hid P.out.2;clear P;obtain ⟨oa,oc,eo,-,-⟩:=Q8.out.own.slice;have FLN:Hid (((c.F.take j).map cutE).length≤12):=Lib.hid (by rw [List.length_map,List.length_take];have:=MF.out;omega);generalize ((c.F.take j).map cutE).length=fln at eo;subst eo;have c6:wc.cell? ⟨g6,0,none⟩=some (.slice oa fln oc):=row_cell Q8.out.row6 0;have z0:wc.cell? ⟨gx,0,none⟩=some (.int .i64 cn):=row_cell X8.out 0;have z1:wc.cell? ⟨gx,1,none⟩=some (.int .i64 cp):=row_cell X8.out 1;have z2:wc.cell? ⟨gx,2,none⟩=some (.slice ca (cl.take 260).length ccap):=row_cell X8.out 2;have LE:=Lib.hid (heap_alloc_new wc (.cells #[.int .i64 cn,.int .i64 cp,.slice ca (cl.take 260).length ccap] 72));have QE:=Lib.hid (Q8.out.below ((Below.refl wc.heap.size wc).alloc (Nat.le_refl _) (.cells #[.int .i64 cn,.int .i64 cp,.slice ca (cl.take 260).length ccap] 72)));have CE:Hid (cutE ⟨cn,cp,ca,ccap,cl⟩=⟨cn,cp,ca,ccap,cl.take 260⟩):=Lib.hid rfl;clear Q8 X8;generalize hcr:cl.take 260=cr26 at *;generalize hrl:cr26.length=rl at *;have RLH:=Lib.hid hrl;clear hcr hrl
       go_wp2_with (at_builtin;refine push_at (K:=E3) Tryz.underlying47 infoE3n rfl (by omega) rfl _ _ rfl wo.heap.size _ _ rfl QE.out.own _ (⟨cn,cp,ca,ccap,cr26⟩:Ent) rfl ?d1 ?d2 ?d3 ?_)
       case d1 =>
        intro jj u hu
        have c:=row_cell LE.out jj
        match jj,hu with
        | 0,hu=>simp [E3] at hu;subst hu;first | exact c | rfl | go_simp
        | 1,hu=>simp [E3] at hu;subst hu;first | exact c | rfl | go_simp
        | 2,hu=>simp [E3,Ent.sl,RLH.out] at hu;subst hu;first | exact c | rfl | go_simp
        | jj+3,hu=>simp [E3] at hu
       case d2=>first | (have:=FLN.out;omega) | (have:=FLN.out;simp only [List.length_map] at this ⊢;omega) | (have:=FLN.out;simp at this ⊢;omega)
       case d3=>have:=QE.out.bel.size;simpa using this
       intro v9 w9 o9 g9 _
       rw [← CE.out] at o9
       (try rw [← List.map_take] at o9)
       obtain ⟨r9,q9⟩:=QE.out.push HCJ.out o9 (by simpa using g9);have Q9:=Lib.hid q9;have c6':=row_cell r9 0;have f6':=row_frozen r9 0;obtain ⟨v9a,v9c,n9,rfl⟩:∃ a c n,v9 = .slice a n c:=by obtain ⟨a,c,e,_⟩:=o9.slice;exact ⟨a,c,_,e⟩
       have m12:=MF.out.2;clear o9 g9 r9 q9 QE LE z0 z1 z2 c6 RR R26 HCJ CE;go_wp2
       go_roundw
       case rel=>exact ⟨j+1,_,by omega,by go_num,Q9⟩
       case measure=>simp [intOf];omega
     ·obtain rfl:j=m:=by omega
      obtain ⟨oa,oc,eo,-,-⟩:=Q.out.own.slice;have HO:=Lib.hid eo;generalize ((c.F.take j).map cutE).length=fln at eo HO;subst eo;have c60:wr.cell? ⟨g6,0,none⟩=some (.slice oa fln oc):=row_cell Q.out.row6 0;have c61:wr.cell? ⟨g6,1,none⟩=some (.int .i64 c.rate):=row_cell Q.out.row6 1;have IR:=Lib.hid (IW.out.below (Q.out.bel.mono (Nat.le_refl _)));have LE:=Lib.hid (heap_alloc_new wr (.cells #[.slice oa fln oc,.int .i64 c.rate] 60));have BE:=Lib.hid ((Below.refl wr.heap.size wr).alloc (Nat.le_refl _) (.cells #[.slice oa fln oc,.int .i64 c.rate] 60));have IE:=Lib.hid (IR.out.below BE.out);have FX:Hid (Ow E3 (wr.alloc (.cells #[.slice oa fln oc,.int .i64 c.rate] 60)) w.heap.size 72 (sl (oa,fln,oc)) ((c.F.take 12).map cutE)):=Lib.hid (by rw [TT.out];exact (Q.out.own.keep BE.out).low IW.out.bel.size)
      have RX:Hid (∀ e∈(c.F.take 12).map cutE,ROk w B e):=Lib.hid (fun e he=>by
       obtain ⟨x,hx,rfl⟩:=List.mem_map.1 he;have q:=FR.out x (List.mem_of_mem_take hx)
       exact ⟨⟨rd_cut (l:=x.l) q.1.1,fun r hr=>q.1.2 r (List.mem_of_mem_take hr)⟩,fun h0 k hk=>q.2 (by have h1:0 < (x.l.take 260).length:=h0;rw [List.length_take] at h1;omega) k (by rw [← cutE_own x];exact hk)⟩)
      have AX:Hid ((⟨(oa,fln,oc),c.rate,(c.F.take 12).map cutE⟩:PlD).abs=cutP (pld L k).abs):=Lib.hid (by rw [HC.out];exact cut_abs c _);clear Q IR BE
      go_wp2_with (at_builtin;refine push_at (K:=KP) Tryz.underlying22 infoPl rfl (by omega) rfl _ _ rfl w.heap.size _ _ rfl IE.out.own _ (⟨(oa,fln,oc),c.rate,(c.F.take 12).map cutE⟩:PlD) rfl ?d1 ?d2 ?d3 ?_)
      case d1 =>
       intro jj u hu
       have c:=row_cell LE.out jj
       match jj,hu with
       | 0,hu=>simp [KP,sl] at hu;subst hu;first | exact c | rfl | go_simp
       | 1,hu=>simp [KP] at hu;subst hu;first | exact c | rfl | go_simp
       | jj+2,hu=>simp [KP] at hu
      case d2=>rw [LDL.out];omega
      case d3=>have:=IE.out.bel.size;simpa using this
      intro v9 w9 o9 g9 _
      (try rw [← List.map_take] at o9)
      have NEW:=Lib.hid (IE.out.push KL.out o9 (by simpa using g9) FX.out RX.out AX.out);obtain ⟨v9a,v9c,n9,rfl⟩:∃ a c n,v9 = .slice a n c:=by obtain ⟨a,c,e,_⟩:=o9.slice;exact ⟨a,c,_,e⟩
      clear o9 g9 IE FX RX AX LE c60 c61;go_wp2
      go_roundw
      case rel=>exact ⟨k+1,_,_,by omega,by omega,by go_num,rfl,NEW⟩
      case measure=>simp [intOf];omega
  ·have E:=Lib.hid (FIN.out k _ LD wr I.out (by omega) hk6)
   clear FIN I
   by_cases hkn:k < n
   ·have q1:¬ ((k:Int) < 6):=by omega
    go_wp2
    go_ret
    exact E.out
   ·go_wp2
    go_ret
    exact E.out
end Go.Proofs.YtljnkaodhfnbbaaGreatDoor.Cu
namespace Go.Proofs.YtljnkaodhfnbbaaGreatDoor.Pa
open Go.RowKit Go.Maps
open Rw (Rd Ow At)
open Fl (row_cell row_frozen)
open Ck (LL lat sN sE tE RdL)
open Ua (arr Row frm tb tp te upd info_of arr_one below_setRow load_frame store_frame store_new)
attribute [local irreducible] Sd.wpSd wpQuiet Sf.wpSf
def bys (b:Nat→Int) (q:Nat→Bool):Array Value:=#[.int .u8 (b 0),.int .u8 (b 1),.int .u8 (b 2),.int .u8 (b 3),.int .u8 (b 4),.int .u8 (b 5),.int .u8 (b 6),.int .u8 (b 7),.int .u8 (b 8),.int .u8 (b 9),.int .u8 (b 10),.int .u8 (b 11),.int .u8 (b 12),.int .u8 (b 13),.int .u8 (b 14),.int .u8 (b 15),.int .u8 (b 16),.bool (q 0),.bool (q 1),.bool (q 2),.bool (q 3),.bool (q 4),.bool (q 5),.bool (q 6),.bool (q 7),.bool (q 8),.bool (q 9),.bool (q 10),.bool (q 11),.bool (q 12),.bool (q 13),.bool (q 14),.bool (q 15),.bool (q 16)]
theorem lt17' {k:Nat} (h:k < 17):k=0∨k=1∨k=2∨k=3∨k=4∨k=5∨k=6∨k=7∨k=8∨k=9∨k=10∨k=11∨k=12∨k=13∨k=14∨k=15∨k=16:=by omega
theorem bys_b (b:Nat→Int) (q:Nat→Bool) {k:Nat} (h:k < 17):(bys b q)[k]? = some (.int .u8 (b k)):=by
 rcases lt17' h with rfl | rfl | rfl | rfl | rfl | rfl | rfl | rfl | rfl | rfl | rfl | rfl | rfl | rfl | rfl | rfl | rfl <;> rfl
theorem bys_congr {b b':Nat→Int} {q q':Nat→Bool} (hb:∀ i,i < 17→b i=b' i) (hq:∀ i,i < 17→q i=q' i):bys b q=bys b' q':=by
 unfold bys;rw [hb 0 (by omega),hq 0 (by omega)];rw [hb 1 (by omega),hq 1 (by omega)];rw [hb 2 (by omega),hq 2 (by omega)];rw [hb 3 (by omega),hq 3 (by omega)];rw [hb 4 (by omega),hq 4 (by omega)];rw [hb 5 (by omega),hq 5 (by omega)];rw [hb 6 (by omega),hq 6 (by omega)];rw [hb 7 (by omega),hq 7 (by omega)];rw [hb 8 (by omega),hq 8 (by omega)];rw [hb 9 (by omega),hq 9 (by omega)];rw [hb 10 (by omega),hq 10 (by omega)];rw [hb 11 (by omega),hq 11 (by omega)];rw [hb 12 (by omega),hq 12 (by omega)];rw [hb 13 (by omega),hq 13 (by omega)];rw [hb 14 (by omega),hq 14 (by omega)];rw [hb 15 (by omega),hq 15 (by omega)];rw [hb 16 (by omega),hq 16 (by omega)]
def RowY (w:World) (g:Nat) (b:Nat→Int) (q:Nat→Bool):Prop:=w.heap[g]? = some (.cells (bys b q) 284 (0,0))
section
variable {w w':World} {g:Nat} {b b':Nat→Int} {q q':Nat→Bool}
theorem RowY.lt (h:RowY w g b q):g < w.heap.size:=lt_of_block h
theorem RowY.new (w:World) (b:Nat→Int) (q:Nat→Bool):RowY (w.alloc (.cells (bys b q) 284)) w.heap.size b q:=heap_alloc_new w _
theorem RowY.below {B:Nat} (h:RowY w g b q) (hb:Below B w w') (hg:g < B):RowY w' g b q:=(hb.block g hg).trans h
theorem RowY.far (h:RowY w g b q) {p:Addr} (hp:g≠p.block) (u:Value):RowY (w.setCell p u) g b q:=(Below.heap_setCell w p u g hp).trans h
theorem RowY.row (h:RowY w g b q) (b':Nat→Int) (q':Nat→Bool):RowY (w.setRow g (bys b' q')) g b' q':=setRow_heap w g _ _ _ _ h
theorem RowY.to (h:RowY w g b q) (hb:∀ i,i < 17→b i=b' i) (hq:∀ i,i < 17→q i=q' i):RowY w g b' q':=by unfold RowY at *;rw [h,bys_congr hb hq]
theorem RowY.cb (h:RowY w g b q) {k:Nat} (hk:k < 17):w.cell? ⟨g,k,none⟩=some (.int .u8 (b k)):=(row_cell h k).trans (bys_b b q hk)
end
def hb (h:Hr) (k:Nat):Int:=(h k).getD 0
def hq (h:Hr) (k:Nat):Bool:=(h k).isSome
end Go.Proofs.YtljnkaodhfnbbaaGreatDoor.Pa
namespace Go.Proofs.YtljnkaodhfnbbaaGreatDoor.Pa
open Go.RowKit Go.Maps
open Fs (Abs Rs Only Fx Wf gB gV sA sB dA dD dE OkA GetPost)
open Rw (Rd Ow At)
open Ro (E5 z5 eat K5 at5 okE ent okE_bounds)
open Fl (R4 z4 rec4 okR arr4 row_cell row_frozen)
attribute [local irreducible] Sd.wpSd wpQuiet
structure RA (w:World) (r:Nat) (F:Nat→Prop) (x:Abs×Int) (h g:Hr) (wr:World):Prop where
 rs:Rs wr r F x.1 x.2
 box:RowY wr w.heap.size (hb g) (hq h)
 gt:w.heap.size < r
 bel:Below w.heap.size w wr
theorem RA.below {w wr wr':World} {r:Nat} {F:Nat→Prop} {x:Abs×Int} {h g:Hr} (H:RA w r F x h g wr) (b:Below wr.heap.size wr wr'):RA w r F x h g wr':=⟨Fs.Rs.below H.rs b,H.box.below b H.box.lt,H.gt,H.bel.trans (b.mono H.bel.size)⟩
theorem RA.step {w wr wr':World} {r:Nat} {F:Nat→Prop} {x x':Abs×Int} {h g:Hr} (H:RA w r F x h g wr) (rs:Rs wr' r F x'.1 x'.2) (o:Only (fun k=>k=r) wr wr'):RA w r F x' h g wr' :=
 ⟨rs,(o.block _ H.box.lt (by have:=H.gt;omega)).trans H.box,H.gt,H.bel.trans (o.below H.bel.size fun k e=>by have:=H.gt;omega)⟩
structure BI (w1:World) (gx gv:Nat) (x:E5) (v:R4) (wr:World):Prop where
 cel:wr.heap[gv]? = some (.cells (arr4 v) 42 (0,0))
 ge:w1.heap.size≤gv
 bel:Below w1.heap.size w1 wr
theorem BI.below {w1 wr wr':World} {gx gv:Nat} {x:E5} {v:R4} (H:BI w1 gx gv x v wr) (b:Below wr.heap.size wr wr'):BI w1 gx gv x v wr':=⟨(b.block _ (lt_of_block H.cel)).trans H.cel,H.ge,H.bel.trans (b.mono H.bel.size)⟩
theorem BI.put {w1 wr:World} {gx gv:Nat} {x:E5} {v:R4} (H:BI w1 gx gv x v wr) {j:Nat} (hj:j < 4) (y:Int):BI w1 gx gv x (rs v j y) (wr.setCell ⟨gv,j,none⟩ (.int .u8 y)) :=
 ⟨by rw [Rw.heap_setCell_same H.cel,arr4_set v y hj],H.ge,H.bel.setCell (by exact H.ge) _⟩
end Go.Proofs.YtljnkaodhfnbbaaGreatDoor.Pa
namespace Go.Proofs.YtljnkaodhfnbbaaGreatDoor.Cu
open Go.RowKit Go.Maps
open Fs (Abs Rs Only Fx)
open Rw (Rd Ow At)
open Ro (E5 z5 eat K5 okE may_len)
open Fl (row_cell row_frozen)
open Ck (LL lat sN sE tE tN RdL may_all TabPost)
open Pa (Sts S2 sat vat rdE rdL rdS rdS_at rdS_len hr hr_ok KN KB K2 ptr atN atB RowY bys hb hq push_at wp_push_at rs_mono only_grown tab_each not_bad)
attribute [local irreducible] Sd.wpSd wpQuiet
def AV (F:Nat→Prop) (q:Option Nat) (ps:List Nat) (i j:Nat):Prop:=F j∨q=some j∨∃ m,m < ps.length∧m≠i∧ps.getD m 0=j
def AN (F:Nat→Prop) (q:Option Nat) (ps:List Nat) (j:Nat):Prop:=F j∨q=some j∨∃ m,m < ps.length∧ps.getD m 0=j
section
variable {E:TypeId} {w wr w1 w2:World} {F:Nat→Prop} {S:Sts} {k:Nat} {o o':Value} {ps:List Nat} {g:Nat}
structure PR (E:TypeId) (w:World) (F:Nat→Prop) (S:Sts) (k:Nat) (o:Value) (ps:List Nat) (wr:World):Prop where
 own:Ow KN wr w.heap.size E o ps
 len:ps.length=k
 each:∀ i,i < k→Rs wr (ps.getD i 0) (AV F o.ownBlock ps i) (sat S i).1 (sat S i).2
 lo:∀ i,i < k→w.heap.size≤ps.getD i 0
 lt:∀ i,i < k→ps.getD i 0 < wr.heap.size
 bel:Below w.heap.size w wr
structure PN (E:TypeId) (w:World) (F:Nat→Prop) (S:Sts) (k:Nat) (o:Value) (ps:List Nat) (g:Nat) (wr:World):Prop where
 own:Ow KN wr w.heap.size E o ps
 len:ps.length=k
 each:∀ i,i < k→Rs wr (ps.getD i 0) (fun j=>AV F o.ownBlock ps i j∨j=g) (sat S i).1 (sat S i).2
 lo:∀ i,i < k→w.heap.size≤ps.getD i 0
 lt:∀ i,i < k→ps.getD i 0 < wr.heap.size
 bel:Below w.heap.size w wr
 new:Rs wr g (AN F o.ownBlock ps) (sat S k).1 (sat S k).2
 ng:w.heap.size≤g
 lg:g < wr.heap.size
theorem rs_lt {w:World} {r:Nat} {F:Nat→Prop} {A:Abs} {d:Int} (h:Rs w r F A d):r < w.heap.size:=by obtain ⟨_,_,h,_⟩:=h;exact lt_of_block h.row
theorem PR.made (hb:Below w.heap.size w wr):PR E w F S 0 (.slice (some ⟨wr.heap.size,0,none⟩) 0 0) [] (wr.alloc (.cells #[] E)):=⟨Rw.Ow.made _ _ _ hb.size,rfl,fun i hi=>by omega,fun i hi=>by omega,fun i hi=>by omega,hb.alloc hb.size _⟩
theorem PR.below (h:PR E w F S k o ps wr) (b:Below wr.heap.size wr w1):PR E w F S k o ps w1:=⟨h.own.keep b,h.len,fun i hi=>Fs.Rs.below (h.each i hi) b,h.lo,fun i hi=>Nat.lt_of_lt_of_le (h.lt i hi) b.size,h.bel.trans (b.mono h.bel.size)⟩
theorem PR.list_lt (h:PR E w F S k o ps wr):∀ k,o.ownBlock=some k→k < wr.heap.size:=fun k e=>(World.ownsRow.lt h.own k e).2
theorem PR.an (hF:∀ j,F j→j < w.heap.size) (h:PR E w F S k o ps wr):∀ j,AN F o.ownBlock ps j→j < wr.heap.size:=fun j g=>by
 rcases g with g | g | ⟨m,hm,rfl⟩
 ·exact Nat.lt_of_lt_of_le (hF j g) h.bel.size
 ·exact h.list_lt j g
 ·exact h.lt m (by rw [← h.len];exact hm)
theorem PR.src {A:Abs} {d:Int} {r:Nat} (h:PR E w F S k o ps wr) {w0:World} (h0:Rs w0 r F A d) (b0:Below w0.heap.size w0 wr) (hz:w0.heap.size≤w.heap.size):Rs wr r (AN F o.ownBlock ps) A d:=by
 refine rs_mono (Fs.Rs.only h0 (Only.of_below b0)) fun j hj g=>?_
 rcases g with g | g | ⟨m,hm,rfl⟩
 ·exact .inl g
 ·have:=(World.ownsRow.lt h.own j g).1
  exact .inr ⟨by omega,hj⟩
 ·have:=h.lo m (by rw [← h.len];exact hm)
  exact .inr ⟨by omega,hj⟩
theorem PR.pend (h:PR E w F S k o ps wr) (b:Below wr.heap.size wr w1) (r:Rs w1 g (AN F o.ownBlock ps) (sat S k).1 (sat S k).2) (hg:wr.heap.size≤g):PN E w F S k o ps g w1:=by
 have hl:=rs_lt r;have hz:=h.bel.size;refine ⟨h.own.keep b,h.len,fun i hi=>?_,h.lo,fun i hi=>Nat.lt_of_lt_of_le (h.lt i hi) b.size,h.bel.trans (b.mono hz),r,by omega,hl⟩;refine rs_mono (Fs.Rs.only (h.each i hi) (Only.of_below b)) fun j hj q=>?_
 rcases q with q | q
 ·exact .inl q
 ·subst q;exact .inr ⟨hg,hj⟩
theorem PN.below (h:PN E w F S k o ps g wr) (b:Below wr.heap.size wr w1):PN E w F S k o ps g w1:=⟨h.own.keep b,h.len,fun i hi=>Fs.Rs.below (h.each i hi) b,h.lo,fun i hi=>Nat.lt_of_lt_of_le (h.lt i hi) b.size,h.bel.trans (b.mono h.bel.size),Fs.Rs.below h.new b,h.ng,Nat.lt_of_lt_of_le h.lg b.size⟩
theorem PN.push (h:PN E w F S k o ps g wr) (own:Ow KN w1 w.heap.size E o' (ps ++ [g])) (gr:wr.grownBy w1 o.ownBlock) (hq:o'.ownBlock=o.ownBlock∨∃ g,o'.ownBlock=some g∧wr.heap.size≤g):PR E w F S (k+1) o' (ps ++ [g]) w1:=by
 have hl:∀ j,o'.ownBlock=some j→j < w1.heap.size:=fun j e=>(World.ownsRow.lt own j e).2;have oq:=only_grown gr;have at_old:∀ i,i < k→(ps ++ [g]).getD i 0=ps.getD i 0:=fun i hi=>by rw [List.getD_eq_getElem?_getD,List.getElem?_append_left (by rw [h.len];exact hi),List.getD_eq_getElem?_getD]
 have at_new:(ps ++ [g]).getD k 0=g:=by rw [List.getD_eq_getElem?_getD,List.getElem?_append_right (by rw [h.len];exact Nat.le_refl _),h.len];simp
 have list:∀ (G:Nat→Prop) j,(∀ j,o.ownBlock=some j→G j)→o'.ownBlock=some j→Fx G wr w1 j:=fun G j hG e=>by
  rcases hq with q | ⟨x,q,hx⟩
  ·exact .inl (hG j (by rw [← q];exact e))
  ·rw [q] at e
   injection e with e;subst e;exact .inr ⟨hx,hl _ q⟩
 refine ⟨own,by rw [List.length_append,h.len];rfl,fun i hi=>?_,fun i hi=>?_,fun i hi=>?_,h.bel.grown gr h.bel.size fun j e=>(World.ownsRow.lt h.own j e).1⟩
 ·by_cases e:i=k
  ·subst e
   rw [at_new];refine rs_mono (Fs.Rs.only h.new (oq.mono fun j _ e=>.inr (.inl e))) fun j hj q=>?_
   rcases q with q | q | ⟨m,hm,hne,rfl⟩
   ·exact .inl (.inl q)
   ·exact list _ j (fun j e=>.inr (.inl e)) q
   ·rw [List.length_append,h.len] at hm
    simp only [List.length_cons,List.length_nil] at hm;rw [at_old m (by omega)];exact .inl (.inr (.inr ⟨m,by rw [h.len];omega,rfl⟩))
  ·rw [at_old i (by omega)]
   refine rs_mono (Fs.Rs.only (h.each i (by omega)) (oq.mono fun j _ e=>.inl (.inr (.inl e)))) fun j hj q=>?_
   rcases q with q | q | ⟨m,hm,hne,rfl⟩
   ·exact .inl (.inl (.inl q))
   ·exact list _ j (fun j e=>.inl (.inr (.inl e))) q
   ·rw [List.length_append,h.len] at hm
    simp only [List.length_cons,List.length_nil] at hm
    by_cases em:m=k
    ·subst em;rw [at_new];exact .inl (.inr rfl)
    ·rw [at_old m (by omega)]
     exact .inl (.inl (.inr (.inr ⟨m,by rw [h.len];omega,hne,rfl⟩)))
 ·by_cases e:i=k
  ·subst e;rw [at_new];exact h.ng
  ·rw [at_old i (by omega)];exact h.lo i (by omega)
 ·by_cases e:i=k
  ·subst e;rw [at_new];exact Nat.lt_of_lt_of_le h.lg gr.size
  ·rw [at_old i (by omega)];exact Nat.lt_of_lt_of_le (h.lt i (by omega)) gr.size
end
theorem PR.low {E:TypeId} {w w0 wr:World} {F:Nat→Prop} {S:Sts} {k:Nat} {o:Value} {ps:List Nat} (h:PR E w F S k o ps wr) (hz:w0.heap.size≤w.heap.size) (b:Below w0.heap.size w0 wr):PR E w0 F S k o ps wr:=⟨h.own.low hz,h.len,h.each,fun i hi=>Nat.le_trans hz (h.lo i hi),h.lt,b⟩
end Go.Proofs.YtljnkaodhfnbbaaGreatDoor.Cu
namespace Go.Proofs.YtljnkaodhfnbbaaGreatDoor.Cu
open Go.RowKit Go.Maps
open Rw (Rd Ow At)
open Fl (R4 K4 okL file row_cell row_frozen)
open Fs (Abs Rs OkA Only Fx ow_only)
open Pa (Sts S2 sat vat KN KB K2 ptr rs_mono)
open Wt (Pf)
def Gz (F:Nat→Prop) (r p:Nat) (vl:Value) (j:Nat):Prop:=F j∨j=r∨j=p∨vl.ownBlock=some j
structure Rz (B:Nat) (F:Nat→Prop) (r:Nat) (c:Cs) (t:Nat) (vs:Value) (ps:List Nat) (vl:Value) (p:Nat) (vq:Value) (w:World):Prop where
 row:w.heap[r]? = some (.cells #[vs,vl,.pointer (some ⟨p,0,none⟩),.int .i64 c.pl,vq] 39 (0,0))
 so:Ow KN w B 51 vs ps
 sl:ps.length=c.S.length
 st:∀ i,i < ps.length→Rs w (ps.getD i 0) (AV (Gz F r p vl) vs.ownBlock ps i) (sat c.S i).1 (sat c.S i).2
 slo:∀ i,i < ps.length→B≤ps.getD i 0
 lv:Ow KB w B 4 vl c.V
 pr:Pf w p c.P t
 sp:Ow K2 w B 155 vq c.Q
 lo:B≤r∧B≤p
 nr:¬ F r
 np:¬ F p
 nv:∀ k,vs.ownBlock=some k∨vl.ownBlock=some k∨vq.ownBlock=some k→¬ F k
 low:∀ k,F k→k < w.heap.size
section
variable {B r t p:Nat} {F G:Nat→Prop} {c:Cs} {vs vl vq:Value} {ps:List Nat} {w w':World}
theorem Rz.rlt (h:Rz B F r c t vs ps vl p vq w):r < w.heap.size:=lt_of_block h.row
theorem Rz.plt (h:Rz B F r c t vs ps vl p vq w):p < w.heap.size:=h.pr.lt
theorem Rz.vlt (h:Rz B F r c t vs ps vl p vq w):∀ k,vs.ownBlock=some k∨vl.ownBlock=some k∨vq.ownBlock=some k→B≤k∧k < w.heap.size:=fun k g=>by
 rcases g with g | g | g
 ·exact World.ownsRow.lt h.so k g
 ·exact World.ownsRow.lt h.lv k g
 ·exact World.ownsRow.lt h.sp k g
theorem pf_row {a:Wt.A} (h:Pf w p a t):∃ cs,w.heap[p]? = some (.cells cs 56 (0,0)):=by obtain ⟨_,_,_,_,h,_⟩:=h;exact ⟨_,h⟩
theorem Rz.rp (h:Rz B F r c t vs ps vl p vq w):r≠p:=fun e=>by
 obtain ⟨cs,hp⟩:=pf_row h.pr;have:=h.row;rw [e,hp] at this;injection this with this;injection this with _ h2 _;exact absurd h2 (by decide)
theorem Rz.vr (h:Rz B F r c t vs ps vl p vq w):vs.ownBlock≠some r∧vl.ownBlock≠some r∧vq.ownBlock≠some r:=⟨h.so.apart h.row (by decide),h.lv.apart h.row (by decide),h.sp.apart h.row (by decide)⟩
theorem Rz.vp (h:Rz B F r c t vs ps vl p vq w):vs.ownBlock≠some p∧vl.ownBlock≠some p∧vq.ownBlock≠some p:=by
 obtain ⟨cs,hp⟩:=pf_row h.pr;exact ⟨h.so.apart hp (by decide),h.lv.apart hp (by decide),h.sp.apart hp (by decide)⟩
theorem Rz.only (h:Rz B F r c t vs ps vl p vq w) (o:Only F w w'):Rz B (Fx F w w') r c t vs ps vl p vq w':=by
 refine ⟨(o.block r h.rlt h.nr).trans h.row,ow_only h.so (fun k e=>h.nv k (.inl e)) o,h.sl,fun i hi=>?_,h.slo,ow_only h.lv (fun k e=>h.nv k (.inr (.inl e))) o,h.pr.only o h.np,ow_only h.sp (fun k e=>h.nv k (.inr (.inr e))) o,h.lo,Fx.not h.nr h.rlt,Fx.not h.np h.plt,fun k e=>Fx.not (h.nv k e) (h.vlt k e).2,Fx.low h.low o.size⟩;refine rs_mono (Fs.Rs.only (h.st i hi) (o.mono fun k _ g=>.inl (.inl g))) fun k hk g=>?_
 rcases g with (g | g) | g
 ·rcases g with g | g
  ·exact .inl (.inl (.inl g))
  ·exact .inr g
 ·exact .inl (.inl (.inr g))
 ·exact .inl (.inr g)
theorem Rz.below (h:Rz B F r c t vs ps vl p vq w) (b:Below w.heap.size w w'):Rz B F r c t vs ps vl p vq w' :=
 ⟨(b.block r h.rlt).trans h.row,h.so.keep b,h.sl,fun i hi=>Fs.Rs.below (h.st i hi) b,h.slo,h.lv.keep b,h.pr.below b,h.sp.keep b,h.lo,h.nr,h.np,h.nv,fun k g=>Nat.lt_of_lt_of_le (h.low k g) b.size⟩
theorem Rz.rs_only (h:Rz B F r c t vs ps vl p vq w) {i:Nat} (hi:i < ps.length) (o:Only G w w') (hG:∀ k,G k→AV (Gz F r p vl) vs.ownBlock ps i k):Rs w' (ps.getD i 0) (AV (Gz F r p vl) vs.ownBlock ps i) (sat c.S i).1 (sat c.S i).2 :=
 rs_mono (Fs.Rs.only (h.st i hi) (o.mono fun k _ g=>hG k g)) fun _ _ g=>.inl g
theorem Rz.st_off (h:Rz B F r c t vs ps vl p vq w) {i:Nat} (hi:i < ps.length):¬ AV (Gz F r p vl) vs.ownBlock ps i (ps.getD i 0):=by obtain ⟨_,_,hh,_⟩:=h.st i hi;exact hh.off
theorem Rz.pair (h:Rz B F r c t vs ps vl p vq w) {P:Wt.A} {t':Nat} (o:Only (fun k=>k=p) w w') (hp:Pf w' p P t'):Rz B F r { c with P:=P } t' vs ps vl p vq w' :=
 ⟨(o.block r h.rlt h.rp).trans h.row,ow_only h.so (fun k e g=>h.vp.1 (by rw [e,g])) o,h.sl,fun i hi=>h.rs_only hi o (fun k g=>.inl (.inr (.inr (.inl g)))),h.slo,ow_only h.lv (fun k e g=>h.vp.2.1 (by rw [e,g])) o,hp,ow_only h.sp (fun k e g=>h.vp.2.2 (by rw [e,g])) o,h.lo,h.nr,h.np,h.nv,fun k g=>Nat.lt_of_lt_of_le (h.low k g) o.size⟩
theorem Rz.cell (h:Rz B F r c t vs ps vl p vq w) (k:Nat) (u:Value) {c':Cs} {vq':Value} (hrow:(#[vs,vl,.pointer (some ⟨p,0,none⟩),.int .i64 c.pl,vq]:Array Value).setIfInBounds k u=#[vs,vl,.pointer (some ⟨p,0,none⟩),.int .i64 c'.pl,vq']) (hS:c'.S=c.S) (hV:c'.V=c.V) (hP:c'.P=c.P) (hq:Ow K2 w B 155 vq' c'.Q) (hn:∀ k,vq'.ownBlock=some k→¬ F k):Rz B F r c' t vs ps vl p vq' (w.setCell ⟨r,k,none⟩ u):=by
 have o:Only (fun k=>k=r) w (w.setCell ⟨r,k,none⟩ u):=Only.set (fun k=>k=r) w (a:=⟨r,k,none⟩) rfl u;have rw_:=Rw.heap_setCell_same (j:=k) h.row u;rw [hrow] at rw_;refine ⟨rw_,ow_only h.so (fun k e g=>h.vr.1 (by rw [e,g])) o,by rw [hS];exact h.sl,fun i hi=>by rw [hS];exact h.rs_only hi o (fun k g=>.inl (.inr (.inl g))),h.slo,by rw [hV];exact ow_only h.lv (fun k e g=>h.vr.2.1 (by rw [e,g])) o,by rw [hP];exact h.pr.only o h.rp.symm,ow_only hq (fun k e g=>hq.apart h.row (by decide) (by rw [e,g])) o,h.lo,h.nr,h.np,fun k g=>?_,fun k g=>Nat.lt_of_lt_of_le (h.low k g) o.size⟩
 rcases g with g | g | g
 ·exact h.nv k (.inl g)
 ·exact h.nv k (.inr (.inl g))
 ·exact hn k g
theorem Rz.store (h:Rz B F r c t vs ps vl p vq w) {i:Nat} (hi:i < ps.length) {x:Abs×Int} (o:Only (fun k=>k=ps.getD i 0) w w') (hs:Rs w' (ps.getD i 0) (AV (Gz F r p vl) vs.ownBlock ps i) x.1 x.2):Rz B F r { c with S:=setS c.S i x } t vs ps vl p vq w':=by
 have off:=h.st_off hi;have hl:i < c.S.length:=by rw [← h.sl];exact hi
 have ne:∀ k,AV (Gz F r p vl) vs.ownBlock ps i k→k≠ps.getD i 0:=fun k g e=>off (e ▸ g);have nq:vq.ownBlock≠some (ps.getD i 0):=by
  obtain ⟨_,_,hh,_⟩:=h.st i hi;exact h.sp.apart hh.row (by decide)
 refine ⟨(o.block r h.rlt (ne r (.inl (.inr (.inl rfl))))).trans h.row,ow_only h.so (fun k e g=>ne k (.inr (.inl e)) g) o,by show ps.length=(setS c.S i x).length;rw [h.sl];exact List.length_set.symm,fun j hj=>?_,h.slo,ow_only h.lv (fun k e g=>ne k (.inl (.inr (.inr (.inr e)))) g) o,h.pr.only o (fun g=>ne p (.inl (.inr (.inr (.inl rfl)))) g),ow_only h.sp (fun k e g=>nq (by rw [e,g])) o,h.lo,h.nr,h.np,h.nv,fun k g=>Nat.lt_of_lt_of_le (h.low k g) o.size⟩
 show Rs w' _ _ (sat (setS c.S i x) j).1 (sat (setS c.S i x) j).2
 rw [sat_set (by omega) (by omega)]
 by_cases e:j=i
 ·subst e
  rw [if_pos rfl];exact hs
 ·rw [if_neg (by omega)]
  exact h.rs_only hj o fun k g=>.inr (.inr ⟨i,hi,fun q=>e q.symm,g.symm⟩)
theorem Rz.stores (h:Rz B F r c t vs ps vl p vq w) {S':Sts} {v':Value} {ps':List Nat} {w0:World} (hB:B≤w0.heap.size) (hn:PR 51 w0 (Gz F r p vl) S' S'.length v' ps' w) (hF:∀ k,F k→k < w0.heap.size):Rz B F r { c with S:=S' } t v' ps' vl p vq (w.setCell ⟨r,0,none⟩ v'):=by
 have o:Only (fun k=>k=r) w (w.setCell ⟨r,0,none⟩ v'):=Only.set (fun k=>k=r) w (a:=⟨r,0,none⟩) rfl v';have rw_:(w.setCell ⟨r,0,none⟩ v').heap[r]? = some (.cells #[v',vl,.pointer (some ⟨p,0,none⟩),.int .i64 c.pl,vq] 39 (0,0)):=Rw.heap_setCell_same (j:=0) h.row v';have ap:=hn.own.apart h.row (by decide);refine ⟨rw_,(ow_only hn.own (fun k e g=>ap (by rw [e,g])) o).low hB,hn.len,fun i hi=>?_,fun i hi=>Nat.le_trans hB (hn.lo i (by rw [← hn.len];exact hi)),ow_only h.lv (fun k e g=>h.vr.2.1 (by rw [e,g])) o,h.pr.only o h.rp.symm,ow_only h.sp (fun k e g=>h.vr.2.2 (by rw [e,g])) o,h.lo,h.nr,h.np,fun k g=>?_,fun k g=>Nat.lt_of_lt_of_le (h.low k g) o.size⟩
 ·exact rs_mono (Fs.Rs.only (hn.each i (by rw [← hn.len];exact hi)) (o.mono fun k _ g=>.inl (.inr (.inl g)))) fun _ _ g=>.inl g
 ·rcases g with g | g | g
  ·intro q
   have:=(World.ownsRow.lt hn.own k g).1;have:=hF k q
   omega
  ·exact h.nv k (.inr (.inl g))
  ·exact h.nv k (.inr (.inr g))
theorem Rz.cells (h:Rz B F r c t vs ps vl p vq w):w.cell? ⟨r,0,none⟩=some vs∧w.cell? ⟨r,1,none⟩=some vl∧w.cell? ⟨r,2,none⟩=some (.pointer (some ⟨p,0,none⟩))∧w.cell? ⟨r,3,none⟩=some (.int .i64 c.pl)∧w.cell? ⟨r,4,none⟩=some vq:=⟨row_cell h.row 0,row_cell h.row 1,row_cell h.row 2,row_cell h.row 3,row_cell h.row 4⟩
theorem Rz.frz (h:Rz B F r c t vs ps vl p vq w) (k:Nat):w.frozen? ⟨r,k,none⟩=false:=row_frozen h.row k
def Mine (B:Nat) (F:Nat→Prop) (k:Nat):Prop:=B≤k∧¬ F k
theorem Rz.mine (h:Rz B F r c t vs ps vl p vq w):Mine B F r∧Mine B F p∧(∀ i,i < ps.length→Mine B F (ps.getD i 0))∧∀ k,vl.ownBlock=some k→Mine B F k :=
 ⟨⟨h.lo.1,h.nr⟩,⟨h.lo.2,h.np⟩,fun i hi=>⟨h.slo i hi,fun g=>h.st_off hi (.inl (.inl g))⟩,fun k e=>⟨(h.vlt k (.inr (.inl e))).1,h.nv k (.inr (.inl e))⟩⟩
end
end Go.Proofs.YtljnkaodhfnbbaaGreatDoor.Cu
namespace Go.Proofs.YtljnkaodhfnbbaaGreatDoor.Cu
open Go.RowKit Go.Maps
open Rw (Rd Ow At)
open Fl (R4 K4 okL file row_cell row_frozen)
open Fs (Abs Rs OkA Only Fx ow_only)
open Pa (Sts S2 sat vat KN KB K2 ptr rs_mono atN only_grown rdE rdL push_at)
open Wt (Pf opn rnd)
open Ro (E5 K5 tabL tabN TabPostO)
open Ck (LL lat KS Hd sl zh RdL rdl_of infoS)
open Re (KI iat seqP)
attribute [local irreducible] Sd.wpSd wpQuiet
theorem ow_far {α β:Type} {K:Rw.Kind α} {J:Rw.Kind β} {w:World} {B B' E E':Nat} {v v':Value} {l:List α} {l':List β} (h:Ow K w B E v l) (h':Ow J w B' E' v' l') (hE:E≠E'):∀ k,v.ownBlock=some k→v'.ownBlock≠some k:=fun k hk=>by
 obtain ⟨_,h⟩:=h
 rcases h with ⟨rfl,_⟩ | ⟨g,cap,cur,rfl,_,hh,_⟩
 ·simp [Value.ownBlock] at hk
 ·simp only [Value.ownBlock,Option.some.injEq] at hk
  subst hk;exact h'.apart hh hE
section
end
theorem Only.more {G G':Nat→Prop} {w w':World} (h:Only G w w') (hg:∀ k,G k→G' k):Only G' w w':=h.mono fun k _ g=>hg k g
end Go.Proofs.YtljnkaodhfnbbaaGreatDoor.Cu
namespace Go.Proofs.YtljnkaodhfnbbaaGreatDoor.Cu
open Go.RowKit Go.Maps
open Rw (Rd Ow At)
open Fl (R4 z4 K4 okL okR rec4 file row_cell row_frozen)
open Fs (Abs Rs OkA Only Fx ow_only)
open Pa (Sts S2 sat vat KN KB K2 ptr)
attribute [local irreducible] Sd.wpSd wpQuiet
theorem pf_late {w:World} {p t:Nat} {a:Wt.A} (h:Wt.Pf w p a t):Wt.Pf w p a (t+1):=by
 obtain ⟨s0,s1,n,la,hr,hv⟩:=h;exact ⟨s0,s1,n,la,hr,⟨hv.b0,hv.b1,hv.bl,by have:=hv.bn;omega,hv.e0,hv.e1⟩⟩
theorem Rz.late {B r t p:Nat} {F:Nat→Prop} {c:Cs} {vs vl vq:Value} {ps:List Nat} {w:World} (h:Rz B F r c t vs ps vl p vq w):Rz B F r c (t+1) vs ps vl p vq w:=⟨h.row,h.so,h.sl,h.st,h.slo,h.lv,pf_late h.pr,h.sp,h.lo,h.nr,h.np,h.nv,h.low⟩
end Go.Proofs.YtljnkaodhfnbbaaGreatDoor.Cu
namespace Go.Proofs.YtljnkaodhfnbbaaGreatDoor.Cu
open Go.RowKit Go.Maps
open Rw (Rd Ow At Kind)
open Fl (R4 K4 okL file row_cell row_frozen goodF)
open Fs (Ent Abs Rs OkA Only Fx ow_only)
open Pa (Sts S2 sat vat KN KB K2 ptr rs_mono Fls eatF)
open Wt (Pf)
def Fw (w:World) (B:Nat) (k:Nat):Prop:=B≤k∧k < w.heap.size
theorem sat_more {S:Sts} {x:Abs×Int} (i:Nat):sat (S ++ [x]) i=if i < S.length then sat S i else if i=S.length then x else ([],0):=by
 unfold sat;rw [Int.toNat_natCast,List.getD_eq_getElem?_getD,List.getElem?_append]
 split
 ·rw [List.getD_eq_getElem?_getD]
 ·split
  ·rename_i h h2
   subst h2
   simp
  ·rename_i h h2
   rw [List.getElem?_eq_none (by simp;omega)]
   rfl
theorem gd_more {l:List Nat} {x i:Nat} (hi:i < l.length+1):(l ++ [x]).getD i 0=if i < l.length then l.getD i 0 else x:=by
 rw [List.getD_eq_getElem?_getD,List.getElem?_append]
 split
 ·rw [List.getD_eq_getElem?_getD]
 ·obtain rfl:i=l.length:=by omega
  simp
def Wn (r:Nat) (vs vl:Value) (k:Nat):Prop:=k=r∨vs.ownBlock=some k∨vl.ownBlock=some k
theorem Rz.push {w wr wm wf:World} {B0 r p s:Nat} {c:Cs} {vs vl vs' vl':Value} {ps:List Nat} {A:Abs} (h:Rz w.heap.size (Fw w B0) r c 0 vs ps vl p (.slice none 0 0) wr) (hB0:B0≤w.heap.size) (hw:w.heap.size≤wr.heap.size) (hq:c.Q = []) (b:Below wr.heap.size wr wm) (hs0:wr.heap.size≤s) (hs1:s < wm.heap.size)
 (hs:Rs wm s (fun k=>B0≤k∧k < wr.heap.size) A 0) (o:Only (Wn r vs vl) wm wf)
 (row:wf.heap[r]? = some (.cells #[vs',vl',.pointer (some ⟨p,0,none⟩),.int .i64 c.pl,.slice none 0 0] 39 (0,0)))
 (so:Ow KN wf w.heap.size 51 vs' (ps ++ [s])) (so':vs'.ownBlock=vs.ownBlock∨∃ g,vs'.ownBlock=some g∧wm.heap.size≤g)
 (lv:Ow KB wf w.heap.size 4 vl' (c.V ++ [true])) (lv':vl'.ownBlock=vl.ownBlock∨∃ g,vl'.ownBlock=some g∧wm.heap.size≤g) :
 Rz w.heap.size (Fw w B0) r { c with S:=c.S ++ [(A,0)],V:=c.V ++ [true] } 0 vs' (ps ++ [s]) vl' p (.slice none 0 0) wf:=by
 have hsl:=h.sl;have hm:=b.size;have nb:∀ {v' v:Value},(v'.ownBlock=v.ownBlock∨∃ g,v'.ownBlock=some g∧wm.heap.size≤g)→∀ k,v'.ownBlock=some k→v.ownBlock=some k∨wm.heap.size≤k:=fun hv k e=>by
  rcases hv with q | ⟨g,q,hg⟩
  ·exact .inl (q ▸ e)
  ·rw [q] at e
   injection e with e;exact .inr (e ▸ hg)
 have vb:∀ k,vs.ownBlock=some k∨vl.ownBlock=some k→w.heap.size≤k∧k < wr.heap.size:=fun k g=>h.vlt k (by rcases g with g | g;exact .inl g;exact .inr (.inl g));refine ⟨row,so,by simp [hsl],fun i hi=>?_,fun i hi=>?_,lv,?_,by show Ow K2 wf _ _ _ c.Q;rw [hq];exact Rw.Ow.nil _ _ _,h.lo,h.nr,h.np,fun k g q=>?_,fun k g=>by have:=h.low k g;have:=o.size;omega⟩
 ·rw [List.length_append,List.length_singleton] at hi
  rw [gd_more hi,sat_more]
  by_cases hil:i < ps.length
  ·rw [if_pos hil,if_pos (by omega)]
   have r1:=Fs.Rs.only (h.st i hil) (Only.of_below b)
   have r2:=Fs.Rs.only r1 (o.mono fun k _ g=>by
    rcases g with g | g | g
    ·exact .inl (.inl (.inr (.inl g)))
    ·exact .inl (.inr (.inl g))
    ·exact .inl (.inl (.inr (.inr (.inr g)))))
   refine rs_mono r2 fun k hk g=>?_
   rcases g with g | g | ⟨m,hmm,hmi,rfl⟩
   ·rcases g with g | g | g | g
    ·exact .inl (.inl (.inl (.inl g)))
    ·exact .inl (.inl (.inl (.inr (.inl g))))
    ·exact .inl (.inl (.inl (.inr (.inr (.inl g)))))
    ·rcases nb lv' k g with g | g
     ·exact .inl (.inl (.inl (.inr (.inr (.inr g)))))
     ·exact .inr ⟨g,hk⟩
   ·rcases nb so' k g with g | g
    ·exact .inl (.inl (.inr (.inl g)))
    ·exact .inr ⟨g,hk⟩
   ·rw [List.length_append,List.length_singleton] at hmm
    rw [gd_more hmm]
    by_cases hml:m < ps.length
    ·rw [if_pos hml]
     exact .inl (.inl (.inr (.inr ⟨m,hml,hmi,rfl⟩)))
    ·rw [if_neg hml]
     exact .inl (.inr ⟨hs0,hs1⟩)
  ·rw [if_neg hil,if_neg (by omega),if_pos (by omega)]
   have r2:=Fs.Rs.only hs (o.mono fun k _ g=>by
    rcases g with g | g
    ·subst g;exact ⟨by have:=h.lo.1;omega,h.rlt⟩
    ·have:=vb k g;exact ⟨by omega,this.2⟩)
   refine rs_mono r2 fun k hk g=>?_
   rcases g with g | g | ⟨m,hmm,hmi,rfl⟩
   ·rcases g with g | g | g | g
    ·exact .inl ⟨g.1,h.low k g⟩
    ·subst g;exact .inl ⟨by have:=h.lo.1;omega,h.rlt⟩
    ·subst g;exact .inl ⟨by have:=h.lo.2;omega,h.plt⟩
    ·rcases nb lv' k g with g | g
     ·have:=vb k (.inr g);exact .inl ⟨by omega,this.2⟩
     ·exact .inr ⟨g,hk⟩
   ·rcases nb so' k g with g | g
    ·have:=vb k (.inl g);exact .inl ⟨by omega,this.2⟩
    ·exact .inr ⟨g,hk⟩
   ·rw [List.length_append,List.length_singleton] at hmm
    rw [gd_more hmm,if_pos (by omega)];have:=h.slo m (by omega);have:=rs_lt (h.st m (by omega));exact .inl ⟨by omega,by omega⟩
 ·rw [List.length_append,List.length_singleton] at hi
  rw [gd_more hi]
  split
  ·exact h.slo i (by assumption)
  ·omega
 ·refine (h.pr.below b).only o ?_
  rintro (g | g | g)
  ·exact h.rp g.symm
  ·exact h.vp.1 g
  ·exact h.vp.2.1 g
 ·have fl:=q.2
  rcases g with g | g | g
  ·rcases nb so' k g with g | g
   ·exact h.nv k (.inl g) q
   ·omega
  ·rcases nb lv' k g with g | g
   ·exact h.nv k (.inr (.inl g)) q
   ·omega
  ·simp [Value.ownBlock] at g
structure IN (wr:World) (B0 s:Nat) (A:Abs) (k:Nat) (wk:World):Prop where
 rs:Rs wk s (fun k=>B0≤k∧k < wr.heap.size) (A.take k) 0
 bel:Below wr.heap.size wr wk
 inn:Inn A k
end Go.Proofs.YtljnkaodhfnbbaaGreatDoor.Cu
namespace Go.Proofs.YtljnkaodhfnbbaaGreatDoor.Cu
open Go.RowKit Go.Maps
open Rw (Rd Ow At)
open Fl (row_cell row_frozen)
open Fs (Abs Rs OkA Only Fx ow_only)
open Pa (Sts S2 sat vat KN KB K2 ptr)
theorem Rz.live {B r t p gl cap i:Nat} {F:Nat→Prop} {c:Cs} {vs vq:Value} {ps:List Nat} {w:World} (h:Rz B F r c t vs ps (.slice (some ⟨gl,0,none⟩) c.V.length cap) p vq w) (hi:i < c.V.length) (b:Bool):Rz B F r { c with V:=c.V.set i b } t vs ps (.slice (some ⟨gl,0,none⟩) (c.V.set i b).length cap) p vq (w.setCell ⟨gl,i,none⟩ (.bool b)):=by
 have o:Only (fun k=>k=gl) w (w.setCell ⟨gl,i,none⟩ (.bool b)):=Only.set (fun k=>k=gl) w (a:=⟨gl,i,none⟩) rfl _;have own:=Rw.Ow.set h.lv i 0 hi (by decide) (.bool b) b rfl;rw [show i * KB.n+0=i from Nat.mul_one i] at own;have hgl:(Value.slice (some ⟨gl,0,none⟩) c.V.length cap).ownBlock=some gl:=rfl;have nr:r≠gl:=fun e=>h.vr.2.1 (by rw [hgl,e]);have np:p≠gl:=fun e=>h.vp.2.1 (by rw [hgl,e]);have ns:vs.ownBlock≠some gl:=fun e=>ow_far h.so h.lv (by decide) gl e hgl;have nq:vq.ownBlock≠some gl:=fun e=>ow_far h.sp h.lv (by decide) gl e hgl;rw [List.length_set];exact ⟨(o.block r h.rlt nr).trans h.row,ow_only h.so (fun k e g=>ns (by rw [e,g])) o,h.sl,fun j hj=>h.rs_only hj o (fun k g=>.inl (.inr (.inr (.inr (by rw [hgl,g]))))),h.slo,own,h.pr.only o np,ow_only h.sp (fun k e g=>nq (by rw [e,g])) o,h.lo,h.nr,h.np,h.nv,fun k g=>Nat.lt_of_lt_of_le (h.low k g) o.size⟩
end Go.Proofs.YtljnkaodhfnbbaaGreatDoor.Cu
namespace Go.Proofs.YtljnkaodhfnbbaaGreatDoor.Cu
open Go.RowKit
open Rw (Rd Ow At)
open Fl (R4 K4 okL okR z4 rec4 row_cell row_frozen)
open Fs (Ent Abs St Rs OkA Only Fx E3 Glob Wf FilesPost Ls)
open Pa (ptr sat vat Fls eatF KN KB)
open Ck (Hd sl zh)
def CD (w0:World) (s r:Nat) (c:Cs) (t:Nat) (c':Cs) (t':Nat) (W:World):Prop:=∃ B F vs ps vl p vq,ClE W s F c t∧Rz B F r c' t' vs ps vl p vq W∧(∀ k,F k→w0.heap.size≤k)∧w0.heap.size≤B∧B≤W.heap.size∧Below w0.heap.size w0 W
section
variable {w0 W w':World} {s r t t':Nat} {c c':Cs}
theorem CD.bel (h:CD w0 s r c t c' t' W):Below w0.heap.size w0 W:=by obtain ⟨_,_,_,_,_,_,_,_,_,_,_,_,h⟩:=h;exact h
theorem CD.below (h:CD w0 s r c t c' t' W) (b:Below W.heap.size W w'):CD w0 s r c t c' t' w':=by
 obtain ⟨B,F,vs,ps,vl,p,vq,⟨vn,L,q,v2,Fs,h1⟩,h2,h3,h4,h5,h6⟩:=h;exact ⟨B,F,vs,ps,vl,p,vq,⟨vn,L,q,v2,Fs,h1.below b⟩,h2.below b,h3,h4,Nat.le_trans h5 b.size,h6.trans (b.mono h6.size)⟩
theorem CD.ch (h:CD w0 s r c t c' t' W):CH w0 s c t W:=by
 obtain ⟨B,F,vs,ps,vl,p,vq,h1,h2,h3,h4,h5,h6⟩:=h;exact ⟨F,h1,h3,h6⟩
theorem CD.place (h:CD w0 s r c t c' t' W):W.cell? ⟨r,3,none⟩=some (.int .i64 c'.pl):=by
 obtain ⟨B,F,vs,ps,vl,p,vq,h1,h2,h3,h4,h5,h6⟩:=h;exact h2.cells.2.2.2.1
theorem CD.stores (h:CD w0 s r c t c' t' W):∃ a cap,W.cell? ⟨r,0,none⟩=some (.slice a c'.S.length cap):=by
 obtain ⟨B,F,vs,ps,vl,p,vq,h1,h2,h3,h4,h5,h6⟩:=h;obtain ⟨a,cap,e,_⟩:=h2.so.slice;exact ⟨a,cap,by rw [← h2.sl,← e];exact h2.cells.1⟩
theorem CD.store (h:CD w0 s r c t c' t' W) {n:Nat} (hn:n < c'.S.length):∃ b off cap u v,W.cell? ⟨r,0,none⟩=some (.slice (some ⟨b,off,none⟩) c'.S.length cap)∧W.cell? ⟨b,off+n,none⟩=some (.pointer (some ⟨u,0,none⟩))∧W.cell? ⟨u,0,none⟩=some v∧Ls (fun _=>False) W v (sat c'.S n).1:=by
 obtain ⟨B,F,vs,ps,vl,p,vq,h1,h2,h3,h4,h5,h6⟩:=h;have hn':n < ps.length:=by rw [h2.sl];exact hn
 obtain ⟨a,cap,e,_,_,hA⟩:=h2.so.rd;obtain ⟨b,off,rfl,h9⟩:=hA (by omega);obtain ⟨v,L,hh,ha⟩:=h2.st n hn';refine ⟨b,off,cap,ps.getD n 0,v,by rw [← h2.sl,← e];exact h2.cells.1,?_,row_cell hh.row 0,L,hh.list.mono fun k _ g=>g.elim,ha⟩;have:=h9 n hn' 0 _ rfl
 simpa [KN,ptr] using this
theorem CD.live (h:CD w0 s r c t c' t' W) {n:Nat} (hn:n < c'.V.length):∃ b off cap m,W.cell? ⟨r,1,none⟩=some (.slice (some ⟨b,off,none⟩) m cap)∧n < m∧W.cell? ⟨b,off+n,none⟩=some (.bool (vat c'.V n)):=by
 obtain ⟨B,F,vs,ps,vl,p,vq,h1,h2,h3,h4,h5,h6⟩:=h;obtain ⟨a,cap,e,_,_,hA⟩:=h2.lv.rd;obtain ⟨b,off,rfl,h9⟩:=hA (by omega);refine ⟨b,off,cap,c'.V.length,by rw [← e];exact h2.cells.2.1,hn,?_⟩;have:=h9 n hn 0 _ rfl
 simpa [KB,vat] using this
end
end Go.Proofs.YtljnkaodhfnbbaaGreatDoor.Cu
namespace Go.Proofs.YtljnkaodhfnbbaaGreatDoor.Cu
open Fl (R4 z4 okR okL goodF hdr rat newL)
open Fs (Fil Abs OkA key look_none sB sA gB)
open Pa (Sts S2 sat vat rdE rdL rdS rdS_len rdS_at apS hr recA recV rec_none rec_congr)
open Ro (E5 tabL)
open Ck (LL lat tE)
open Re (iat sL sN seqP fileL)
theorem fP_none {A:Abs} {n:Int} (h:fB A n=false):fP A n=0∧fR A n = []:=by
 unfold fB at h;unfold fP fR
 cases e:Fs.look key n A with
 | none=>exact ⟨rfl,rfl⟩
 | some x=>rw [e] at h;cases h
theorem tab_none:tabL 0 [] = []:=by
 unfold tabL Ro.tabO;rw [if_neg (by unfold goodF;simp)]
 rfl
theorem tbs_blank {S:Sts} {n:Int} (h:∀ x∈S,fB x.1 (32+n)=false):tbs S n=List.replicate S.length []:=by
 unfold tbs;rw [List.eq_replicate_iff];refine ⟨List.length_map _,fun y hy=>?_⟩;obtain ⟨x,hx,rfl⟩:=List.mem_map.1 hy;obtain ⟨e1,e2⟩:=fP_none (h x hx);rw [e1,e2,tab_none]
theorem scn_blank (p:Nat→E5→Bool):∀ k n,Ck.scn p n (List.replicate k [])=none
 | 0,_=>rfl
 | k+1,n=>by rw [List.replicate_succ];exact scn_blank p k (n+1)
theorem idx_blank:∀ k n,Ck.idx Ck.bad n (List.replicate k []) = -1
 | 0,_=>rfl
 | k+1,n=>by
   rw [List.replicate_succ,Ck.idx,if_neg (by decide)];exact idx_blank k (n+1)
theorem tE_blank (k:Nat):tE (List.replicate k [])=0:=by
 unfold tE Ck.bI Ck.clN Ck.gaN Ck.whoN;rw [idx_blank,scn_blank,scn_blank]
 decide
theorem lat_blank (k i:Nat):lat (List.replicate k []) i = []:=by
 unfold lat;rw [List.getD_eq_getElem?_getD,List.getElem?_replicate]
 split <;> rfl
theorem ap_blank (h:Pa.Hr) (s:Abs×Int):apS h [] s=s:=by
 have e:recA h [] s.1=s.1:=by
  show recV h [] (fun _ _=>true) s.1=s.1
  rw [rec_congr (V':=fun _ _=>false) (fun n k g=>absurd rfl g),rec_none fun _ _=>rfl]
 unfold apS;rw [e]
 rfl
theorem rd_blank {S:Sts} {V:List Bool} {Q:List S2} (hl:1≤S.length∧S.length≤32) (hv:V.length=S.length):rdE S (List.replicate S.length []) V=0∧rdL S (List.replicate S.length []) V Q=S:=by
 have e0:rdE S (List.replicate S.length []) V=0:=by
  unfold rdE;rw [if_pos ⟨hl.1,hl.2,List.length_replicate,hv⟩,tE_blank]
 refine ⟨e0,?_⟩;have er:rdL S (List.replicate S.length []) V Q=rdS S (List.replicate S.length []) V (hr S (List.replicate S.length []) V Q):=if_pos e0;rw [er];refine List.ext_getElem? fun i=>?_
 by_cases hi:i < S.length
 ·have a:=rdS_at S (List.replicate S.length []) V (hr S (List.replicate S.length []) V Q) hi
  rw [lat_blank,ap_blank] at a;have a:sat (rdS S (List.replicate S.length []) V (hr S (List.replicate S.length []) V Q)) i=sat S i:=by rw [a];split <;> rfl
  unfold sat at a;rw [Int.toNat_natCast,List.getD_eq_getElem?_getD,List.getD_eq_getElem?_getD,List.getElem?_eq_getElem hi,List.getElem?_eq_getElem (by rw [rdS_len];exact hi)] at a;rw [List.getElem?_eq_getElem hi,List.getElem?_eq_getElem (by rw [rdS_len];exact hi)];exact congrArg some a
 ·rw [List.getElem?_eq_none (show S.length≤i by omega),List.getElem?_eq_none (show (rdS S (List.replicate S.length []) V (hr S (List.replicate S.length []) V Q)).length≤i by rw [rdS_len];omega)]
structure Blk (A:Abs) (l:List Int):Prop where
 has:fB A 40=true
 p:fP A 40=3
 r:fR A 40=fileL l
 seq:seqP l
theorem Blk.sq {A:Abs} {l:List Int} (h:Blk A l):sqB A=true∧sqL A=l:=by
 obtain ⟨e1,e2⟩:=Re.seq_file h.seq;unfold sqB sqL;rw [h.has,h.p,h.r,e1,e2];exact ⟨rfl,rfl⟩
theorem blank_round {c:Cs} {l:List Int} (ho:0≤Wt.opn c.P) (hb:Blk (own c) l) (hn:∀ x∈c.S,∀ n∈l,fB x.1 (32+n)=false) (hl:1≤c.S.length∧c.S.length≤32) (hv:c.V.length=c.S.length) :
 rE c=0∧rC c=⟨c.S,c.V,Wt.rnd c.P,at1 c l,[]⟩:=by
 obtain ⟨q1,q2⟩:=hb.sq;have hs:=hb.seq.1;have hi:at0 c l < l.length:=by
  unfold at0
  split <;> omega
 have hm:iat l (at0 c l)∈l:=by
  unfold iat;rw [List.getD_eq_getElem?_getD,List.getElem?_eq_getElem hi];exact List.getElem_mem hi
 have ht:rT c=List.replicate c.S.length []:=by
  unfold rT;rw [q2];exact tbs_blank fun x hx=>hn x hx _ hm
 obtain ⟨r1,r2⟩:=rd_blank (S:=c.S) (V:=c.V) (Q:=c.Q) hl hv;unfold rE rC;rw [if_neg (by omega),if_pos q1,if_neg (by omega),if_pos q1,ht,r1,q2,if_pos rfl,r2];exact ⟨rfl,rfl⟩
theorem silent_round {c:Cs} (ho:Wt.opn c.P < 0):rE c=0∧rC c=⟨c.S,c.V,Wt.rnd c.P,c.pl,[]⟩:=by
 unfold rE rC;rw [if_pos ho,if_pos ho];exact ⟨rfl,rfl⟩
def acR:Ac:=⟨1,0,0,0,z4,0,0,0⟩
theorem act_round (c:Cs):actE acR c=rE c∧actC acR c=rC c:=⟨if_pos rfl,if_pos rfl⟩
def A0:Abs:=[(40,3,fileL [0,1])]
def S0:Sts:=[(A0,0),(A0,0)]
def L0:List Pl:=[(A0,100),(A0,100)]
theorem seq01:seqP [0,1]:=by decide
theorem blk0:Blk A0 [0,1]:=⟨rfl,rfl,rfl,seq01⟩
theorem gd0:gdP (A0,100):=⟨⟨List.pairwise_singleton _ _,fun e he=>by
 rw [List.mem_singleton.1 he]
 exact ⟨⟨by decide,by decide⟩,Re.file_good seq01⟩⟩,by decide,by decide⟩
theorem new0:newE L0=0:=by
 unfold newE;rw [if_neg (by decide),if_pos,if_pos]
 ·refine ⟨blk0.sq.1,rfl,rfl,rfl⟩
 ·intro p hp
  have:p=(A0,100):=by
   rcases List.mem_cons.1 hp with h | h
   ·exact h
   ·exact List.mem_singleton.1 h
  rw [this];exact gd0
theorem no0:∀ x∈S0,∀ n∈([0,1]:List Int),fB x.1 (32+n)=false:=fun x hx n hn=>by
 have hx:x=(A0,0):=by
  rcases List.mem_cons.1 hx with h | h
  ·exact h
  ·exact List.mem_singleton.1 h
 rw [hx]
 rcases List.mem_cons.1 hn with h | h
 ·rw [h];rfl
 ·rw [List.mem_singleton.1 h];rfl
def ak (k:Int):Wt.A:=⟨4,k,2,k⟩
theorem ak_next {k:Int} (h:k < 4):Wt.opn (ak k) = -1∧Wt.rnd (ak k)=ak (k+1):=by
 unfold Wt.opn Wt.rnd Wt.tk Wt.t1 Wt.t2 Wt.op Wt.hd ak;have:¬ 4≤k:=by omega
 simp [this]
theorem ak_end:Wt.opn (ak 4)=1∧Wt.rnd (ak 4)=⟨4,0,1,0⟩:=⟨by decide,rfl⟩
def c1:Cs:=⟨S0,[true,true],Wt.new,1,[]⟩
def ck (k:Int):Cs:=⟨S0,[false,true],ak k,1,[]⟩
def c9:Cs:=⟨S0,[false,true],⟨4,0,1,0⟩,0,[]⟩
def acC:Ac:=⟨4,0,0,0,z4,0,0,0⟩
theorem f_first:actE acR (newC L0)=0∧actC acR (newC L0)=c1:=by
 obtain ⟨a,b⟩:=blank_round (c:=newC L0) (l:=[0,1]) (by decide) blk0 no0 (by decide) rfl;obtain ⟨x,y⟩:=act_round (newC L0);rw [x,y,a,b];exact ⟨rfl,rfl⟩
theorem f_crash:actE acC c1=0∧actC acC c1=ck 0:=⟨by decide,rfl⟩
theorem f_silent {k:Int} (h:k < 4):actE acR (ck k)=0∧actC acR (ck k)=ck (k+1):=by
 obtain ⟨e1,e2⟩:=ak_next h;obtain ⟨a,b⟩:=silent_round (c:=ck k) (by show Wt.opn (ak k) < 0;rw [e1];decide);obtain ⟨x,y⟩:=act_round (ck k);rw [x,y,a,b];refine ⟨rfl,?_⟩
 show (⟨S0,[false,true],Wt.rnd (ak k),1,[]⟩:Cs)=_
 rw [e2]
 rfl
theorem f_last:actE acR (ck 4)=0∧actC acR (ck 4)=c9:=by
 obtain ⟨a,b⟩:=blank_round (c:=ck 4) (l:=[0,1]) (by show 0≤Wt.opn (ak 4);rw [ak_end.1];decide) (by
  show Blk (sat S0 (Wt.opn (ak 4))).1 _
  rw [ak_end.1]
  exact blk0) no0 (by show 1≤S0.length∧_;decide) rfl
 obtain ⟨x,y⟩:=act_round (ck 4);rw [x,y,a,b];refine ⟨rfl,?_⟩
 show (⟨S0,[false,true],Wt.rnd (ak 4),_,[]⟩:Cs)=_
 rw [ak_end.2]
 rfl
theorem f_one:newE [(A0,100)]=1:=new_shortL (by decide)
where
 new_shortL {L:List Pl} (h:L.length < 2∨32 < L.length):newE L=1:=by unfold newE;rw [if_pos h]
theorem f_state:newE [(A0,100),([],0)]=10:=by
 unfold newE;rw [if_neg (by decide),if_pos,if_neg]
 ·rintro ⟨_,h,_⟩
  exact absurd h (by decide)
 ·intro p hp
  rcases List.mem_cons.1 hp with h | h
  ·rw [h];exact gd0
  ·rw [List.mem_singleton.1 h]
   exact ⟨⟨List.Pairwise.nil,nofun⟩,by decide,by decide⟩
def A1:Abs:=[(1,7,newL 7 1),(40,3,fileL [0])]
def r7:R4:=(7,0,0,0)
def A2:Abs:=[(1,7,[hdr 7 1,r7]),(40,3,fileL [0])]
def L1:List Pl:=[(A1,2000),(A1,2000)]
def d1:Cs:=⟨[(A1,0),(A2,0)],[true,true],Wt.new,0,[]⟩
end Go.Proofs.YtljnkaodhfnbbaaGreatDoor.Cu
namespace Go.Proofs.YtljnkaodhfnbbaaGreatDoor.Cu
open Go.RowKit
open Rw (Rd Ow At)
open Fl (R4 K4 okL okR z4 row_cell row_frozen)
open Fs (Glob Ent Abs E3 Ls FilesPost Wf)
open Re (KI fileL FilePost rfile_any)
open Pa (ptr sat vat Fls)
open Ck (Hd sl zh)
attribute [local irreducible] Sd.wpSd wpQuiet
theorem lit_plans {w:World} (l:List PlD) (h:∀ c∈l,Fls w (sl c.files) c.F w.heap.size) (hl:l.length≤maxLen):Pls (w.alloc (.cells (KP.flat l).toArray 60)) (.slice (some ⟨w.heap.size,0,none⟩) l.length l.length) l (w.alloc (.cells (KP.flat l).toArray 60)).heap.size:=by
 have rd:=(Rw.Ow.lit (K:=KP) w w.heap.size 60 l (Nat.le_refl _) hl).rd;have b:=(Below.refl w.heap.size w).alloc (Nat.le_refl _) (.cells (KP.flat l).toArray 60);refine pls_of rd fun x hx=>?_;have f:=(h x hx).below b;exact fls_of f.rd fun y hy=>by
  obtain ⟨i,hi⟩:=List.getElem?_of_mem hy;have hl:=(List.getElem?_eq_some_iff.1 hi).1;have:=f.file i hl;unfold Pa.eatF at this;rw [List.getD_eq_getElem?_getD,hi] at this;exact this
theorem fls_nil (w:World):Fls w (.slice none 0 0) [] w.heap.size:=fls_of (Rw.Rd.nil w) nofun
theorem ok0:OkC (newC L0) 0:=new_ok new0 fun p hp e he=>by
 have:p=(A0,100):=by
  rcases List.mem_cons.1 hp with h | h
  ·exact h
  ·exact List.mem_singleton.1 h
 subst this;rw [List.mem_singleton.1 he];exact Re.ok_file seq01
theorem sy0:Syn (newC L0):=syn_new _ (by decide)
def cAt (k:Nat):Cs:=if k=5 then c9 else ck k
theorem hold1:OkC c1 1∧Syn c1:=by
 have a:=ok0.act acR Fl.okR_z;have b:=sy0.act ok0 acR;rw [f_first.2] at a b;exact ⟨a,b⟩
theorem hold2:OkC (cAt 0) 2∧Syn (cAt 0):=by
 have a:=hold1.1.act acC Fl.okR_z;have b:=hold1.2.act hold1.1 acC;rw [f_crash.2] at a b;exact ⟨a,b⟩
theorem at_next {k:Nat} (hk:k < 5):actE acR (cAt k)=0∧actC acR (cAt k)=cAt (k+1):=by
 unfold cAt
 by_cases h:k < 4
 ·rw [if_neg (by omega),if_neg (by omega)]
  exact f_silent (k:=(k:Int)) (by omega)
 ·obtain rfl:k=4:=by omega
  exact f_last
theorem hold3:∀ k:Nat,k≤5→OkC (cAt k) (2+k)∧Syn (cAt k)
 | 0,_=>hold2
 | k+1,h=>by
   obtain ⟨a,b⟩:=hold3 k (by omega);have a':=a.act acR Fl.okR_z;have b':=b.act a acR;rw [(at_next (by omega)).2] at a' b';exact ⟨a',b'⟩
set_option maxHeartbeats 4000000 in
theorem awake20_any {w:World} (h:Glob w):Calls Tryz.prog 15 #[] w fun e w'=>e = .returned (.bool true)∧Below w.heap.size w w':=by
 have HG:=Lib.hid h;clear h;have LI:Hid (Rd KI (w.alloc (.cells #[.int .i64 0,.int .i64 1] 3)) (.slice (some ⟨w.heap.size,0,none⟩) 2 2) [0,1]):=Lib.hid (Rw.Ow.lit (K:=KI) w w.heap.size 3 [0,1] (Nat.le_refl _) (by unfold maxLen;simp)).rd;have B1:=Lib.hid ((Below.refl w.heap.size w).alloc (Nat.le_refl _) (.cells #[.int .i64 0,.int .i64 1] 3))
 have C1:Hid (Calls Tryz.prog 58 #[.slice (some ⟨w.heap.size,0,none⟩) 2 2] (w.alloc (.cells #[.int .i64 0,.int .i64 1] 3)) fun e w'=>∃ a cap,e = .returned (.tuple #[.agg #[.int .i64 3,.slice a 3 cap],.int .i64 0])∧Rd K4 w' (.slice a 3 cap) (fileL [0,1])∧Below (w.alloc (.cells #[.int .i64 0,.int .i64 1] 3)).heap.size (w.alloc (.cells #[.int .i64 0,.int .i64 1] 3)) w'):=Lib.hid ((rfile_any _ _ [0,1] LI.out).mono fun e w' ⟨u,he,hu,hb⟩=>by
  have e1:Re.fL [0,1]=fileL [0,1]:=if_pos seq01;rw [e1] at hu;obtain ⟨a,cap,rfl,_⟩:=hu.slice
  exact ⟨a,cap,by rw [he];unfold Re.fP Re.fN;rw [if_pos seq01,if_pos seq01];rfl,hu,hb⟩)
 go_enter Tryz.func15,Tryz.ntmps15
 go_wp2_with fail;refine C1.out.mono ?_;rintro e w2 ⟨fa,fc,rfl,r2,b2⟩;have X2:=Lib.hid (heap_alloc_new w2 (.cells #[.int .i64 3,.slice fa 3 fc] 70));have N2:=Lib.hid ((Below.refl w2.heap.size w2).alloc (Nat.le_refl _) (.cells #[.int .i64 3,.slice fa 3 fc] 70));have R2:=Lib.hid (r2.below N2.out);have B5:=Lib.hid ((B1.out.trans (b2.mono B1.out.size)).trans (N2.out.mono (Nat.le_trans B1.out.size b2.size)));clear C1 LI B1 r2 b2 N2;go_upto_region 2 with fail;generalize (w2.alloc (.cells #[.int .i64 3,.slice fa 3 fc] 70))=w5 at *;generalize w2.heap.size=g1 at *;have y0:w5.cell? ⟨g1,0,none⟩=some (.int .i64 3):=row_cell X2.out 0;have y1:w5.cell? ⟨g1,1,none⟩=some (.slice fa 3 fc):=row_cell X2.out 1;have hBN:=Fs.run_buildN;have RE:Hid (Rd E3 (w5.alloc (.cells #[.int .i64 40,.int .i64 3,.slice fa 3 fc] 72)) (.slice (some ⟨w5.heap.size,0,none⟩) 1 1) [⟨40,3,fa,fc,fileL [0,1]⟩]):=Lib.hid (Rw.Ow.lit (K:=E3) w5 w5.heap.size 72 [⟨40,3,fa,fc,fileL [0,1]⟩] (Nat.le_refl _) (by unfold maxLen;simp)).rd;have B6:=Lib.hid ((Below.refl w5.heap.size w5).alloc (Nat.le_refl _) (.cells #[.int .i64 40,.int .i64 3,.slice fa 3 fc] 72));have Z6:Hid ((w5.alloc (.cells #[.int .i64 40,.int .i64 3,.slice fa 3 fc] 72)).heap.size=w5.heap.size+1):=Lib.hid (by simp);have B7:=Lib.hid (B6.out.alloc B6.out.size (.cells #[.slice (some ⟨w5.heap.size,0,none⟩) 1 1,.int .i64 100] 60));have X7:Hid (((w5.alloc (.cells #[.int .i64 40,.int .i64 3,.slice fa 3 fc] 72)).alloc (.cells #[.slice (some ⟨w5.heap.size,0,none⟩) 1 1,.int .i64 100] 60)).heap[w5.heap.size+1]? = some (.cells #[.slice (some ⟨w5.heap.size,0,none⟩) 1 1,.int .i64 100] 60 (0,0))):=Lib.hid (by rw [← Z6.out];exact heap_alloc_new _ _)
 have FL:Hid (Pa.Fls ((w5.alloc (.cells #[.int .i64 40,.int .i64 3,.slice fa 3 fc] 72)).alloc (.cells #[.slice (some ⟨w5.heap.size,0,none⟩) 1 1,.int .i64 100] 60)) (.slice (some ⟨w5.heap.size,0,none⟩) 1 1) [⟨40,3,fa,fc,fileL [0,1]⟩] ((w5.alloc (.cells #[.int .i64 40,.int .i64 3,.slice fa 3 fc] 72)).alloc (.cells #[.slice (some ⟨w5.heap.size,0,none⟩) 1 1,.int .i64 100] 60)).heap.size):=Lib.hid (fls_of (RE.out.below ((Below.refl _ _).alloc (Nat.le_refl _) _)) fun c hc=>by
  rw [List.mem_singleton.1 hc]
  exact ⟨R2.out.below B7.out,Re.ok_file seq01⟩)
 have BB:=Lib.hid (B5.out.trans (B7.out.mono B5.out.size));clear RE B6 Z6 B7 R2 B5 X2;go_upto_region 3 with fail;clear y0 y1 hBN;generalize ((w5.alloc (.cells #[.int .i64 40,.int .i64 3,.slice fa 3 fc] 72)).alloc (.cells #[.slice (some ⟨w5.heap.size,0,none⟩) 1 1,.int .i64 100] 60))=w7 at *;generalize w5.heap.size=g5 at *;have x0:w7.cell? ⟨g5+1,0,none⟩=some (.slice (some ⟨g5,0,none⟩) 1 1):=row_cell X7.out 0;have x1:w7.cell? ⟨g5+1,1,none⟩=some (.int .i64 100):=row_cell X7.out 1;have G7:=Lib.hid (HG.out.below BB.out)
 have PL:=Lib.hid (lit_plans (w:=w7) [⟨(some ⟨g5,0,none⟩,1,1),100,[⟨40,3,fa,fc,fileL [0,1]⟩]⟩,⟨(some ⟨g5,0,none⟩,1,1),100,[⟨40,3,fa,fc,fileL [0,1]⟩]⟩] (fun c hc=>by
  rcases List.mem_cons.1 hc with h | h
  ·rw [h];exact FL.out
  ·rw [List.mem_singleton.1 h];exact FL.out) (by unfold maxLen;simp))
 have NW:Hid (Calls Tryz.prog 12 #[.slice (some ⟨w7.heap.size,0,none⟩) 2 2] (w7.alloc (.cells #[.slice (some ⟨g5,0,none⟩) 1 1,.int .i64 100,.slice (some ⟨g5,0,none⟩) 1 1,.int .i64 100] 60)) fun e w'=>∃ s,e = .returned (.tuple #[.pointer (some ⟨s,0,none⟩),.int .i64 0])∧CH w7 s (newC L0) 0 w'):=Lib.hid (ch_new PL.out (w0:=w7) new0 ((Below.refl _ _).alloc (Nat.le_refl _) _));clear PL;go_wp2_with fail;refine NW.out.mono ?_;rintro e w8 ⟨s,rfl,ch8⟩;have H8:=Lib.hid ch8
 have RND:Hid (∀ c t c' W,CH w7 s c t W→OkC c t→Syn c→t≤100→actE acR c=0→actC acR c=c'→Calls Tryz.prog 17 #[.pointer (some ⟨s,0,none⟩),.agg #[.int .i64 1,.int .i64 0,.int .i64 0,.int .i64 0,.int .u8 0,.int .u8 0,.int .u8 0,.int .u8 0,.int .i64 0,.int .i64 0,.int .i64 0]] W fun e w'=>e = .returned (.int .i64 0)∧CH w7 s c' (t+1) w'):=Lib.hid (fun c t c' W hc ok sy ht e1 e2=>by
  have:=ch_do hc G7.out ok sy (by omega) acR Fl.okR_z (WalkArith.wf_i64 (by decide));rw [e1,e2] at this
  exact this)
 have DR:=Lib.hid (RND.out _ _ _ w8 H8.out ok0 sy0 (by decide) f_first.1 f_first.2);have hB:=run_buildB;clear NW ch8 x0 x1;go_wp2_with fail;refine DR.out.mono ?_;rintro e w9 ⟨rfl,ch9⟩;have H9:=Lib.hid ch9;have PLC:=Lib.hid (ch_place H9.out);unfold ptr at PLC;clear DR H8 ch9;go_wp2_with fail;refine PLC.out.mono ?_;rintro e w10 ⟨rfl,b10⟩;have H10:=Lib.hid (H9.out.below b10)
 have DC:Hid (Calls Tryz.prog 17 #[.pointer (some ⟨s,0,none⟩),.agg #[.int .i64 4,.int .i64 0,.int .i64 0,.int .i64 0,.int .u8 0,.int .u8 0,.int .u8 0,.int .u8 0,.int .i64 0,.int .i64 0,.int .i64 0]] w10 fun e w'=>e = .returned (.int .i64 0)∧CH w7 s (cAt 0) 2 w'):=Lib.hid (by
  have:=ch_do H10.out G7.out hold1.1 hold1.2 (by decide) acC Fl.okR_z (WalkArith.wf_i64 (by decide));rw [f_crash.1,f_crash.2] at this
  exact this)
 clear PLC b10 H9;rw [show ((c1.pl:Nat):Int)=1 from rfl];go_wp2_with fail;refine DC.out.mono ?_;rintro e w11 ⟨rfl,ch11⟩;have H11:=Lib.hid ch11;clear DC ch11 H10;have FIN:Hid (∀ W,Below w7.heap.size w7 W→Below w.heap.size w W):=Lib.hid (fun W b=>BB.out.trans (b.mono BB.out.size));have lx:g5+1 < w7.heap.size:=lt_of_block X7.out;have HB:=Lib.hid hB;clear BB;go_upto_region 10 with fail
 go_loopw [9] (fun i wr=>∃ k:Nat,k≤5∧i = .int .i64 k∧Hid (CH w7 s (cAt k) (2+k) wr)) (fun i _=>5 - (intOf i).toNat)
 case atStart=>exact ⟨0,by decide,rfl,H11⟩
 case round =>
  clear H11;obtain ⟨k,hk,rfl,H⟩:=hrel;have hB:=HB.out
  by_cases hlt:k < 5
  ·have DR:=Lib.hid (RND.out _ _ _ wr H.out (hold3 k hk).1 (hold3 k hk).2 (by omega) (at_next hlt).1 (at_next hlt).2)
   go_wp2_with fail;refine DR.out.mono ?_;rintro e w12 ⟨rfl,ch12⟩;have H12:=Lib.hid ch12;clear DR ch12 H;go_wp2
   go_roundw
   case rel=>exact ⟨k+1,by omega,by go_num,H12⟩
   case measure=>simp [intOf];omega
  ·obtain rfl:k=5:=by omega
   have H5:Hid (CH w7 s c9 7 wr):=H;clear H;have x0:wr.cell? ⟨g5+1,0,none⟩=some (.slice (some ⟨g5,0,none⟩) 1 1):=(H5.out.bel.cell lx).trans (row_cell X7.out 0);have x1:wr.cell? ⟨g5+1,1,none⟩=some (.int .i64 100):=(H5.out.bel.cell lx).trans (row_cell X7.out 1)
   have FLr:Hid (Pa.Fls wr (sl (some ⟨g5,0,none⟩,1,1)) [⟨40,3,fa,fc,fileL [0,1]⟩] wr.heap.size):=Lib.hid (by
    have f:=FL.out.below H5.out.bel;exact fls_of f.rd fun y hy=>by
     rw [List.mem_singleton.1 hy]
     exact f.file 0 (by simp))
   have PL1:=Lib.hid (lit_plans (w:=wr) [⟨(some ⟨g5,0,none⟩,1,1),100,[⟨40,3,fa,fc,fileL [0,1]⟩]⟩] (fun c hc=>by rw [List.mem_singleton.1 hc];exact FLr.out) (by unfold maxLen;simp));have N1:Hid (Calls Tryz.prog 12 #[.slice (some ⟨wr.heap.size,0,none⟩) 1 1] (wr.alloc (.cells #[.slice (some ⟨g5,0,none⟩) 1 1,.int .i64 100] 60)) fun e w'=>e = .returned (.tuple #[.pointer none,.int .i64 1])∧Below (wr.alloc (.cells #[.slice (some ⟨g5,0,none⟩) 1 1,.int .i64 100] 60)).heap.size (wr.alloc (.cells #[.slice (some ⟨g5,0,none⟩) 1 1,.int .i64 100] 60)) w'):=Lib.hid (new_no PL1.out f_one (by decide));have BA:=Lib.hid ((Below.refl wr.heap.size wr).alloc (Nat.le_refl _) (.cells #[.slice (some ⟨g5,0,none⟩) 1 1,.int .i64 100] 60));clear PL1 FLr RND HB hB hlt;go_wp2_with fail;refine N1.out.mono ?_;rintro e w12 ⟨rfl,b12⟩;have H12:=Lib.hid ((H5.out.below BA.out).below b12);clear N1 BA b12 H5 x0 x1;have x0:w12.cell? ⟨g5+1,0,none⟩=some (.slice (some ⟨g5,0,none⟩) 1 1):=(H12.out.bel.cell lx).trans (row_cell X7.out 0);have x1:w12.cell? ⟨g5+1,1,none⟩=some (.int .i64 100):=(H12.out.bel.cell lx).trans (row_cell X7.out 1)
   have FLr:Hid (Pa.Fls w12 (sl (some ⟨g5,0,none⟩,1,1)) [⟨40,3,fa,fc,fileL [0,1]⟩] w12.heap.size):=Lib.hid (by
    have f:=FL.out.below H12.out.bel;exact fls_of f.rd fun y hy=>by
     rw [List.mem_singleton.1 hy]
     exact f.file 0 (by simp))
   have PL2:=Lib.hid (lit_plans (w:=w12) [⟨(some ⟨g5,0,none⟩,1,1),100,[⟨40,3,fa,fc,fileL [0,1]⟩]⟩,⟨zh,0,[]⟩] (fun c hc=>by
    rcases List.mem_cons.1 hc with h | h
    ·rw [h];exact FLr.out
    ·rw [List.mem_singleton.1 h];exact fls_nil w12) (by unfold maxLen;simp))
   have N2:Hid (Calls Tryz.prog 12 #[.slice (some ⟨w12.heap.size,0,none⟩) 2 2] (w12.alloc (.cells #[.slice (some ⟨g5,0,none⟩) 1 1,.int .i64 100,.slice none 0 0,.int .i64 0] 60)) fun e w'=>e = .returned (.tuple #[.pointer none,.int .i64 10])∧Below (w12.alloc (.cells #[.slice (some ⟨g5,0,none⟩) 1 1,.int .i64 100,.slice none 0 0,.int .i64 0] 60)).heap.size (w12.alloc (.cells #[.slice (some ⟨g5,0,none⟩) 1 1,.int .i64 100,.slice none 0 0,.int .i64 0] 60)) w'):=Lib.hid (new_no PL2.out f_state (by decide));have BA:=Lib.hid ((Below.refl w12.heap.size w12).alloc (Nat.le_refl _) (.cells #[.slice (some ⟨g5,0,none⟩) 1 1,.int .i64 100,.slice none 0 0,.int .i64 0] 60));clear PL2 FLr FL;go_wp2_with fail;refine N2.out.mono ?_;rintro e w13 ⟨rfl,b13⟩;have H13:=Lib.hid ((H12.out.below BA.out).below b13);clear N2 BA b13 H12 x0 x1 X7;have C1:Hid (Calls Tryz.prog 19 #[.pointer (some ⟨s,0,none⟩)] w13 fun e w'=>e = .returned (.int .i64 0)∧Below w13.heap.size w13 w'):=Lib.hid (ch_place H13.out);go_wp2_with fail;refine C1.out.mono ?_;rintro e w14 ⟨rfl,b14⟩;have H14:=Lib.hid (H13.out.below b14);clear C1 b14 H13;have C1:Hid (Calls Tryz.prog 23 #[.pointer (some ⟨s,0,none⟩),.int .i64 1] w14 fun e w'=>e = .returned (.int .i64 1)∧Below w14.heap.size w14 w'):=Lib.hid (ch_role H14.out 1);go_wp2_with fail;refine C1.out.mono ?_;rintro e w15 ⟨rfl,b15⟩;have H15:=Lib.hid (H14.out.below b15);clear C1 b15 H14;have C1:Hid (Calls Tryz.prog 22 #[.pointer (some ⟨s,0,none⟩),.int .i64 0] w15 fun e w'=>e = .returned (.bool false)∧Below w15.heap.size w15 w'):=Lib.hid (ch_live H15.out (n:=0) (by decide));go_wp2_with fail;refine C1.out.mono ?_;rintro e w16 ⟨rfl,b16⟩;have H16:=Lib.hid (H15.out.below b16);clear C1 b16 H15;have C1:Hid (Calls Tryz.prog 16 #[.pointer (some ⟨s,0,none⟩)] w16 fun e w'=>e = .returned (.int .i64 2)∧Below w16.heap.size w16 w'):=Lib.hid (ch_nodes H16.out);go_wp2_with fail;refine C1.out.mono ?_;rintro e w17 ⟨rfl,b17⟩;have H17:=Lib.hid (H16.out.below b17);clear C1 b17 H16;have C1:Hid (Calls Tryz.prog 21 #[.pointer (some ⟨s,0,none⟩),.int .i64 1] w17 (FilesPost w17 A0)):=Lib.hid (ch_files H17.out (n:=1) (by decide));unfold FilesPost at C1;go_wp2_with fail;refine C1.out.mono ?_;rintro e w18 ⟨v,rfl,hv,b18⟩;obtain ⟨L,hL,eL⟩:=hv (fun _=>False) nofun;have hl:L.length=1:=by
    have:=congrArg List.length eL;rw [List.length_map] at this;exact this
   obtain ⟨a,cap,rfl,_⟩:=hL.rd.slice;rw [hl];have E:=Lib.hid (FIN.out w18 (H17.out.bel.trans (b18.mono H17.out.bel.size)));clear C1 hv hL eL hl b18 H17 FIN;go_wp2
   go_ret
   exact ⟨rfl,E.out⟩
end Go.Proofs.YtljnkaodhfnbbaaGreatDoor.Cu
namespace Go.Proofs.YtljnkaodhfnbbaaGreatDoor.Sn
open Go.RowKit
open Sd (light light_value picks good)
open Sc (In Cl)
def wpSn (P:Program) (ops:Array Oper) (Q:Exit→Act→World→Prop):List (Bool×Oper)→(World→Prop)→Act→World→Prop
 | [],_,a,w=>Q .normal a w
 | (false,o) :: r,C,a,w=>wpQuiet P ops C (fun a'=>wpSn P ops Q r C a' w) [o] a
 | (true,o) :: r,C,a,w=>if Region.wanted o (yielded ops a.tmps) then o.wp P a w (fun a' w'=>∃ C':World→Prop,(∀ x,C' x→C x)∧C' w'∧wpSn P ops Q r C' a' w') Q else wpSn P ops Q r C (a.put o.dst undef) w
section
end
end Go.Proofs.YtljnkaodhfnbbaaGreatDoor.Sn
namespace Go.Proofs.YtljnkaodhfnbbaaGreatDoor.Cu
open Go.RowKit
open Rw (Rd Ow At)
open Fl (R4 K4 okL okR z4 rec4 row_cell row_frozen)
open Fs (Ent Abs St Rs OkA Only Fx E3 Glob Wf FilesPost Ls)
open Pa (ptr sat vat Fls eatF KN KB)
open Ck (Hd sl zh)
theorem at_ac {w:World} {b off:Nat} {l:List Ac} (h:At KA w b off l) {i:Nat} (hi:i < l.length) :
 w.cell? ⟨b,off+i * 11,none⟩=some (.int .i64 (aat l i).k)∧w.cell? ⟨b,off+i * 11+1,none⟩=some (.int .i64 (aat l i).n)∧w.cell? ⟨b,off+i * 11+2,none⟩=some (.int .i64 (aat l i).f)∧w.cell? ⟨b,off+i * 11+3,none⟩=some (.int .i64 (aat l i).r)∧w.cell? ⟨b,off+i * 11+4,none⟩=some (.int .u8 (aat l i).v.1)∧w.cell? ⟨b,off+i * 11+5,none⟩=some (.int .u8 (aat l i).v.2.1)∧w.cell? ⟨b,off+i * 11+6,none⟩=some (.int .u8 (aat l i).v.2.2.1)∧w.cell? ⟨b,off+i * 11+7,none⟩=some (.int .u8 (aat l i).v.2.2.2)∧w.cell? ⟨b,off+i * 11+8,none⟩=some (.int .i64 (aat l i).s)∧w.cell? ⟨b,off+i * 11+9,none⟩=some (.int .i64 (aat l i).m)∧w.cell? ⟨b,off+i * 11+10,none⟩=some (.int .i64 (aat l i).t) :=
 ⟨h i hi 0 _ rfl,h i hi 1 _ rfl,h i hi 2 _ rfl,h i hi 3 _ rfl,h i hi 4 _ rfl,h i hi 5 _ rfl,h i hi 6 _ rfl,h i hi 7 _ rfl,h i hi 8 _ rfl,h i hi 9 _ rfl,h i hi 10 _ rfl⟩
theorem aat_mem {l:List Ac} {i:Nat} (hi:i < l.length):aat l i∈l:=by
 unfold aat;rw [List.getD_eq_getElem?_getD,List.getElem?_eq_getElem hi];exact List.getElem_mem hi
theorem pls_okl {w:World} {v:Value} {L:List PlD} {B:Nat} (H:Pls w v L B):∀ p∈pls L,∀ e∈p.1,okL e.2.2:=fun p hp e he=>by
 obtain ⟨c,hc,rfl⟩:=List.mem_map.1 hp;obtain ⟨x,hx,rfl⟩:=List.mem_map.1 he;obtain ⟨i,hi⟩:=List.getElem?_of_mem hc;have hl:=(List.getElem?_eq_some_iff.1 hi).1;have f:=H.file i hl;unfold pld at f;rw [List.getD_eq_getElem?_getD,hi] at f;obtain ⟨j,hj⟩:=List.getElem?_of_mem hx;have hjl:=(List.getElem?_eq_some_iff.1 hj).1;have g:=(f.file j hjl).2;unfold eatF at g;rw [List.getD_eq_getElem?_getD] at g;have e2:((some c:Option PlD).getD plD).F[j]? = some x:=hj;rw [e2] at g;exact g
structure Oc (c:Cs) (t:Nat):Prop where
 ok:OkC c t
 sy:Syn c
theorem Oc.act {c:Cs} {t:Nat} (h:Oc c t) {x:Ac} (hx:okR x.v):Oc (actC x c) (t+1):=⟨h.ok.act x hx,h.sy.act h.ok x⟩
theorem oc_new {w:World} {v:Value} {L:List PlD} {B:Nat} (H:Pls w v L B) (h:newE (pls L)=0):Oc (newC (pls L)) 0:=by
 have o:=new_ok h (pls_okl H);refine ⟨o,syn_new _ ?_⟩;have:=o.len.1;have e:(newC (pls L)).S.length=(pls L).length:=List.length_map _
 omega
section
end
section
end
end Go.Proofs.YtljnkaodhfnbbaaGreatDoor.Cu
namespace Go.Proofs.YtljnkaodhfnbbaaGreatDoor.Cu
open Go.RowKit
open Rw (Rd Ow At)
open Fl (R4 K4 okL okR z4 rec4 goodF goodFB row_cell row_frozen)
open Fs (Ent Abs Glob Wf FilesPost Ls Only Fx same_is E3 at3)
open Pa (ptr sat vat rdE rdL)
open Ck (Hd sl zh)
attribute [local irreducible] Sd.wpSd Sn.wpSn wpQuiet
theorem rC_len2 (c:Cs):(rC c).S.length=c.S.length:=by
 unfold rC
 split
 ·rfl
 ·split
  ·show (if rdE c.S (rT c) c.V=0 then rdL c.S (rT c) c.V c.Q else c.S).length=_
   split
   ·rename_i e
    have er:rdL c.S (rT c) c.V c.Q=Pa.rdS c.S (rT c) c.V (Pa.hr c.S (rT c) c.V c.Q):=if_pos e;rw [er,Pa.rdS_len]
   ·rfl
  ·rfl
theorem act_len2 (x:Ac) (c:Cs):(actC x c).S.length=c.S.length:=by
 unfold actC
 split
 ·exact rC_len2 c
 ·split
  ·rfl
  ·split
   ·rfl
   ·split
    ·exact List.length_set
    ·split
     ·rfl
     ·split <;> rfl
def CW (w0:World) (s:Nat) (c:Cs) (t:Nat) (v:Value) (A:Abs) (W:World):Prop:=∃ F,ClE W s F c t∧(∀ k,F k→w0.heap.size≤k)∧Below w0.heap.size w0 W∧Ls F W v A
section
variable {w0 W w':World} {s t:Nat} {c:Cs} {v:Value} {A:Abs}
theorem CH.late (h:CH w0 s c t W):CH w0 s c (t+1) W:=by
 obtain ⟨F,⟨vn,L,q,v2,Fz,h1⟩,h2,h3⟩:=h;exact ⟨F,⟨vn,L,q,v2,Fz,h1.late⟩,h2,h3⟩
theorem CW.ch (h:CW w0 s c t v A W):CH w0 s c t W:=by
 obtain ⟨F,h1,h2,h3,_⟩:=h;exact ⟨F,h1,h2,h3⟩
theorem CW.bel (h:CW w0 s c t v A W):Below w0.heap.size w0 W:=h.ch.bel
theorem CW.ls (h:CW w0 s c t v A W):∃ F,Ls F W v A:=by
 obtain ⟨F,h1,h2,h3,h4⟩:=h;exact ⟨F,h4⟩
theorem CW.late (h:CW w0 s c t v A W):CW w0 s c (t+1) v A W:=by
 obtain ⟨F,⟨vn,L,q,v2,Fz,h1⟩,h2,h3,h4⟩:=h;exact ⟨F,⟨vn,L,q,v2,Fz,h1.late⟩,h2,h3,h4⟩
theorem CW.below (h:CW w0 s c t v A W) (b:Below W.heap.size W w'):CW w0 s c t v A w':=by
 obtain ⟨F,⟨vn,L,q,v2,Fz,h1⟩,h2,h3,h4⟩:=h;exact ⟨F,⟨vn,L,q,v2,Fz,h1.below b⟩,h2,h3.trans (b.mono h3.size),h4.below b⟩
theorem cw_of (h:CH w0 s c t W) (hl:∀ F:Nat→Prop,(∀ k,F k→k < W.heap.size)→Ls F w' v A) (b:Below W.heap.size W w'):CW w0 s c t v A w':=by
 obtain ⟨F,⟨vn,L,q,v2,Fz,h1⟩,h2,h3⟩:=h;exact ⟨F,⟨vn,L,q,v2,Fz,h1.below b⟩,h2,h3.trans (b.mono h3.size),hl F h1.low⟩
theorem cw_do (h:CW w0 s c t v A W) (hg:Glob w0) (ok:OkC c t) (sy:Syn c) (ht:t≤1000) (x:Ac) (hx:okR x.v) (hf:Wf x.f):Calls Tryz.prog 17 #[ptr s,actV x] W fun e w'=>e = .returned (.int .i64 (actE x c))∧CW w0 s (actC x c) (t+1) v A w':=by
 obtain ⟨F,⟨vn,L,q,v2,Fz,h1⟩,h2,h3,h4⟩:=h;have gl:=World.block_lt_of_cell? _ _ hg;refine (cdo_any h1 ok sy ht (hg.below h3) (fun g=>by have:=h2 _ g;exact absurd gl (by show ¬ 1 < _;omega)) x hx hf).mono fun e w' d=>⟨d.1,Fx F W w',d.2.1,fun k g=>?_,h3.trans (d.2.2.below h3.size h2),h4.only d.2.2⟩;have:=h3.size
 rcases g with g | g
 ·exact h2 k g
 ·omega
theorem cw_serve (h:CW w0 s c t v A W) (hg:Glob w0) (ok:OkC c t) (ht:t≤1000) (n o f r:Int) (x:R4) (hx:okR x):Calls Tryz.prog 24 #[ptr s,.int .i64 n,Ad.addr o f r,rec4 x] W fun e w'=>e = .returned (.tuple #[rec4 (srV c n o f r x),.int .i64 (srE c n o f r)])∧CW w0 s (srC c n o f r x) (t+1) v A w':=by
 obtain ⟨F,⟨vn,L,q,v2,Fz,h1⟩,h2,h3,h4⟩:=h;have gl:=World.block_lt_of_cell? _ _ hg;refine (cserve_any h1 ok ht (hg.below h3) (fun g=>by have:=h2 _ g;exact absurd gl (by show ¬ 1 < _;omega)) n o f r x hx).mono fun e w' d=>⟨d.1,Fx F W w',d.2.1,fun k g=>?_,h3.trans (d.2.2.below h3.size h2),h4.only d.2.2⟩;have:=h3.size
 rcases g with g | g
 ·exact h2 k g
 ·omega
end
theorem Oc.next2 {c:Cs} {t:Nat} (h:Oc c t):Oc c (t+1):=⟨h.ok.next,h.sy⟩
theorem run_buildK (k n:Int) (w:World):(Instr.build 44 #[(0,.int .i64 k),(1,.int .i64 n)]).run Tryz.prog w = .ok (.agg #[.int .i64 k,.int .i64 n,.int .i64 0,.int .i64 0,.int .u8 0,.int .u8 0,.int .u8 0,.int .u8 0,.int .i64 0,.int .i64 0,.int .i64 0]) w:=by kernel_rfl
theorem run_buildZ (w:World):(Instr.build 66 #[]).run Tryz.prog w = .ok (.agg #[.int .i64 0,.int .i64 0,.int .i64 0]) w:=by kernel_rfl
theorem run_buildY (w:World):(Instr.build 42 #[]).run Tryz.prog w = .ok (.agg #[.int .u8 0,.int .u8 0,.int .u8 0,.int .u8 0]) w:=by kernel_rfl
set_option maxHeartbeats 16000000 in
theorem down_law {w:World} (hg:Glob w) {v u y:Value} {L:List PlD} {l r:List Ac} (H:Pls w v L w.heap.size) (R:Rd KA w u l) (ok:∀ x∈l,okR x.v∧Wf x.f) (S:Rd KA w y r) (ok2:∀ x∈r,okR x.v∧Wf x.f) (nn:Int) (hn8:0≤nn∧nn≤255):Calls Tryz.prog 5 #[v,u,y,.int .u8 nn] w fun e w'=>e = .returned (.bool true)∧Below w.heap.size w w':=by
 have HG:=Lib.hid hg;have OX:Hid (∀ k,k < l.length→okR (aat l k).v∧Wf (aat l k).f):=Lib.hid (fun k hk=>ok _ (aat_mem hk));have OY:Hid (∀ k,k < r.length→okR (aat r k).v∧Wf (aat r k).f):=Lib.hid (fun k hk=>ok2 _ (aat_mem hk));have F1:=Lib.hid (few20_any H);have AW:=Lib.hid (fun W (b:Below w.heap.size w W)=>awake20_any (hg.below b));obtain ⟨N0,rfl⟩:=Int.eq_ofNat_of_zero_le hn8.1;obtain ⟨a,cap,rfl,_,hm,hA⟩:=R;obtain ⟨a',cap',rfl,_,hm',hA'⟩:=S;have HA:=Lib.hid hA;have OK:=Lib.hid hm;have HA':=Lib.hid hA';have OK':=Lib.hid hm';clear hA hm ok hg H hA' hm' ok2;unfold FwPost at F1;have LP6:Hid ((fewP (pls L)).length≤6):=Lib.hid (by unfold fewP;rw [List.length_map,List.length_take];omega);generalize fewP (pls L)=lp at *;generalize hn:l.length=n at *;have HN:=Lib.hid hn;clear hn;generalize hn:r.length=nr at *;have HR:=Lib.hid hn;clear hn;unfold maxLen at OK OK';have hm:=OK.out;have hm':=OK'.out;clear OK OK'
 go_enter Tryz.func5,Tryz.ntmps5
 go_wp2_with fail;refine F1.out.mono ?_;rintro e w1 ⟨v1,L1,rfl,h1,e1,b1⟩;clear F1;obtain ⟨va,vc,rfl,vcap,vm,-⟩:=h1.rd;have H1:=Lib.hid h1;have B1:=Lib.hid b1;have E1:=Lib.hid e1;have VM:=Lib.hid vm;unfold maxLen at VM;have vm':=VM.out;clear VM vm h1 b1 e1;have FIN:=Lib.hid (fun W (b:Below w1.heap.size w1 W)=>B1.out.trans (b.mono B1.out.size));have G1:=Lib.hid (HG.out.below B1.out);generalize hq:L1.length=q at *;have HQ:=Lib.hid hq;clear hq
 by_cases e0:newE lp=0
 ·have N1:=ch_new (w0:=w1) H1.out (by rw [E1.out];exact e0) (Below.refl _ _)
  have K0:=oc_new H1.out (by rw [E1.out];exact e0);rw [E1.out] at N1 K0;have NN:=Lib.hid N1;have KK:=Lib.hid K0;clear N1 K0
  have HL2:Hid (2≤q∧q≤32∧(newC lp).S.length=q):=Lib.hid (by
   have l1:=KK.out.ok.len;have l2:(newC lp).S.length=lp.length:=List.length_map _;have l3:lp.length=q:=by rw [← E1.out,pls_len,HQ.out]
   omega)
  have kk2:=HL2.out.1;have kk32:=HL2.out.2.1;go_wp2_with fail;refine NN.out.mono ?_;rintro e w2 ⟨s,rfl,c2⟩;have C2:=Lib.hid c2;clear c2 NN e0 H1 E1 HQ LP6;generalize newC lp=c0 at *;go_upto_region 5 with fail;go_wp2
  go_loopw [12] (fun i wr=>∃ (k:Nat) (c:Cs),k≤n∧k≤12∧i = .int .i64 k∧Hid (CH w1 s c k wr)∧Hid (Oc c k)∧Hid (c.S.length=q)) (fun i _=>12 - (intOf i).toNat)
  case atStart=>exact ⟨0,c0,Nat.zero_le _,Nat.zero_le _,rfl,C2,KK,Lib.hid HL2.out.2.2⟩
  case round =>
   clear C2 KK;obtain ⟨k,c,hk,hk12,rfl,D,KC,SL⟩:=hrel
   by_cases hlt:k < n∧k < 12
   ·obtain ⟨hkn,hk3⟩:=hlt
    obtain ⟨b,off,rfl,hA⟩:=HA.out (by omega);have XO:=Lib.hid (OX.out k hkn);obtain ⟨a0,a1,a2,a3,a4,a5,a6,a7,a8,a9,a10⟩:=at_ac (hA.below (B1.out.trans (D.out.bel.mono B1.out.size))) (i:=k) (by rw [HN.out];exact hkn);clear hA;generalize aat l k=x at *;have CD1:=Lib.hid (ch_do D.out G1.out KC.out.ok KC.out.sy (by omega) x XO.out.1 XO.out.2);have K1:=Lib.hid (KC.out.act XO.out.1);have SL1:Hid ((actC x c).S.length=q):=Lib.hid ((act_len2 x c).trans SL.out);clear D KC SL;unfold actV actA ptr at CD1;generalize actC x c=c1 at *;generalize actE x c=z at *;go_wp2_with fail;refine CD1.out.mono ?_;rintro e w5 ⟨rfl,d5⟩;have D5:=Lib.hid d5;clear d5 CD1 a0 a1 a2 a3 a4 a5 a6 a7 a8 a9 a10;go_wp2
    go_roundw
    case rel=>exact ⟨k+1,c1,by omega,by omega,by go_num,D5,K1,SL1⟩
    case measure=>simp [intOf];omega
   ·have EX:¬ ((k:Int) < n)∨((k:Int) < n∧¬ ((k:Int) < 12)):=by omega
    clear hlt HA OX HN;have hb8:=hn8.2;have wn:IntKind.i64.wrap (N0:Int)=N0:=IntWalk.i64_in _ (by omega);have hmd:Int.tmod (N0:Int) (q:Int)=((N0 % q:Nat):Int):=by rw [Int.tmod_eq_emod_of_nonneg (by omega)];rfl
    have hml:N0 % q < q:=Nat.mod_lt _ (by omega);generalize hmm:N0 % q=kk at *;clear hmm;have wm:IntKind.i64.wrap (kk:Int)=kk:=IntWalk.i64_in _ (by omega);have hq0:¬ (q=0):=by omega
    have HK:=Lib.hid hml;have HB:=Lib.hid run_buildK;have hB:=run_buildK;have LV:=ch_live D.out (n:=kk) (by rw [SL.out];exact hml);unfold ptr at LV;have L0:=Lib.hid LV;clear LV
    rcases EX with h1 | ⟨h1,h2⟩
    all_goals
     cases hv:vat c.V kk with
     | true =>
       have CR:=ch_do (W:=wr) D.out G1.out KC.out.ok KC.out.sy (by omega) ⟨4,kk,0,0,z4,0,0,0⟩ Fl.okR_z (show Wf 0 from WalkArith.wf_i64 (by decide));have CRD:=Lib.hid (fun W (e:CH w1 s c k W)=>ch_do (W:=W) e G1.out KC.out.ok KC.out.sy (by omega) ⟨4,kk,0,0,z4,0,0,0⟩ Fl.okR_z (show Wf 0 from WalkArith.wf_i64 (by decide)));clear CR;have K1:Hid (Oc (actC ⟨4,kk,0,0,z4,0,0,0⟩ c) (k+1)):=Lib.hid (KC.out.act Fl.okR_z);have SL1:Hid ((actC ⟨4,kk,0,0,z4,0,0,0⟩ c).S.length=q):=Lib.hid ((act_len2 _ c).trans SL.out);have VD1:Hid (vat (actC ⟨4,kk,0,0,z4,0,0,0⟩ c).V kk=false):=Lib.hid (crash_down KC.out.ok (by rw [SL.out];exact hml) hv _ rfl rfl);have E0:Hid (actE ⟨4,kk,0,0,z4,0,0,0⟩ c=0):=Lib.hid (crash_live (by rw [SL.out];exact hml) hv _ rfl rfl);rw [E0.out] at CRD;rw [hv] at L0;clear hv E0 KC SL;unfold actV actA ptr at CRD;generalize actC ⟨4,kk,0,0,z4,0,0,0⟩ c=c1 at *;go_wp2_with fail;refine L0.out.mono ?_;rintro e w3 ⟨rfl,b3⟩;have CX:=Lib.hid (CRD.out w3 (D.out.below b3));clear b3 L0 D CRD wn hmd wm;go_wp2_with fail;refine CX.out.mono ?_;rintro e w4 ⟨rfl,d4⟩;have D4:=Lib.hid d4;clear d4 CX hB hq0;have CF:=Lib.hid (ch_files D4.out (n:=kk) (by rw [SL1.out];exact HK.out));have AA:Hid ((sat c1.S kk).1=(sat c1.S kk).1):=Lib.hid rfl;have SA:Hid ((sat c1.S kk).1.length≤64):=Lib.hid ((K1.out.ok.st kk (by rw [SL1.out];exact HK.out)).1.len);generalize hA0:(sat c1.S kk).1=A at CF SA;have HA0:=Lib.hid hA0;clear hA0 AA;unfold FilesPost ptr at CF;have ht0:k+1≤13:=by omega
       generalize k+1=t0 at *;go_wp2_with fail;refine CF.out.mono ?_;rintro e w5 ⟨fv,rfl,hf,b5⟩;have C5:=Lib.hid (cw_of D4.out hf b5);clear hf b5 CF D4;go_upto_region 13 with fail;go_wp2
       go_loopw [15] (fun i wr=>∃ (m:Nat) (c:Cs),m≤nr∧m≤12∧i = .int .i64 m∧Hid (CW w1 s c (t0+(m+m)) fv A wr)∧Hid (Oc c (t0+(m+m)))∧Hid (c.S.length=q∧vat c.V kk=false∧(sat c.S kk).1=A)) (fun i _=>12 - (intOf i).toNat)
       case atStart=>exact ⟨0,c1,Nat.zero_le _,Nat.zero_le _,rfl,C5,K1,Lib.hid ⟨SL1.out,VD1.out,HA0.out⟩⟩
       case round =>
        clear C5 K1 SL1 VD1 HA0;obtain ⟨m,c,hm,hm12,rfl,D,KC,SV⟩:=hrel
        by_cases hlt:m < nr∧m < 12
        ·obtain ⟨hmn,hm3⟩:=hlt
         obtain ⟨b',off',rfl,hA⟩:=HA'.out (by omega);have XO:=Lib.hid (OY.out m hmn);obtain ⟨a0,a1,a2,a3,a4,a5,a6,a7,a8,a9,a10⟩:=at_ac (hA.below (B1.out.trans (D.out.bel.mono B1.out.size))) (i:=m) (by rw [HR.out];exact hmn);clear hA;generalize aat r m=x at *;obtain ⟨xk,xn,xf,xr,⟨xv1,xv2,xv3,xv4⟩,xs,xm,xt⟩:=x;simp only at a0 a1 a2 a3 a4 a5 a6 a7 a8 a9 a10;have hkk:=HK.out
         by_cases hh:xk=5∧xn=kk
         ·obtain ⟨rfl,rfl⟩:=hh
          have D2:Hid (CW w1 s c (t0+(m+1+(m+1))) fv A wr):=Lib.hid (by rw [show t0+(m+1+(m+1))=t0+(m+m)+1+1 by omega];exact D.out.late.late);have K2:Hid (Oc c (t0+(m+1+(m+1)))):=Lib.hid (by rw [show t0+(m+1+(m+1))=t0+(m+m)+1+1 by omega];exact KC.out.next2.next2);clear D KC a2 a3 a4 a5 a6 a7 a8 a9 a10;go_wp2
          go_roundw
          case rel=>exact ⟨m+1,c,by omega,by omega,by go_num,D2,K2,SV⟩
          case measure=>simp [intOf];omega
         ·have HX:(¬ xk=5)∨(xk=5∧¬ xn=kk):=by omega
          have AD:=act_down KC.out.ok (k:=kk) (by rw [SV.out.1];exact hkk) SV.out.2.1 ⟨xk,xn,xf,xr,(xv1,xv2,xv3,xv4),xs,xm,xt⟩ hh;have CD1:=Lib.hid (cw_do D.out G1.out KC.out.ok KC.out.sy (by omega) ⟨xk,xn,xf,xr,(xv1,xv2,xv3,xv4),xs,xm,xt⟩ XO.out.1 XO.out.2);have K1:Hid (Oc (actC ⟨xk,xn,xf,xr,(xv1,xv2,xv3,xv4),xs,xm,xt⟩ c) (t0+(m+m)+1)):=Lib.hid (KC.out.act XO.out.1);have SV1:Hid ((actC ⟨xk,xn,xf,xr,(xv1,xv2,xv3,xv4),xs,xm,xt⟩ c).S.length=q∧vat (actC ⟨xk,xn,xf,xr,(xv1,xv2,xv3,xv4),xs,xm,xt⟩ c).V kk=false∧(sat (actC ⟨xk,xn,xf,xr,(xv1,xv2,xv3,xv4),xs,xm,xt⟩ c).S kk).1=A):=Lib.hid ⟨(act_len2 _ c).trans SV.out.1,AD.1,AD.2.1.trans SV.out.2.2⟩;clear D KC SV AD hh;unfold actV actA ptr at CD1;simp only at CD1;generalize actC ⟨xk,xn,xf,xr,(xv1,xv2,xv3,xv4),xs,xm,xt⟩ c=c2 at *;generalize actE ⟨xk,xn,xf,xr,(xv1,xv2,xv3,xv4),xs,xm,xt⟩ c=z at *;have SD:=serve_down (c:=c2) (k:=kk) (by rw [SV1.out.1];exact hkk) SV1.out.2.1 0 0 0 z4;have SE:=Lib.hid (fun W (e:CW w1 s c2 (t0+(m+m)+1) fv A W)=>cw_serve e G1.out K1.out.ok (by omega) kk 0 0 0 z4 Fl.okR_z);rw [SD.1,SD.2] at SE;generalize srV c2 kk 0 0 0 z4=yy at *;unfold ptr Ad.addr rec4 at SE;have LVE:=Lib.hid (fun W (e:CW w1 s c2 (t0+(m+m)+1+1) fv A W)=>ch_live e.ch (n:=kk) (by rw [SV1.out.1];exact hkk));have FIE:=Lib.hid (fun W (e:CW w1 s c2 (t0+(m+m)+1+1) fv A W)=>ch_files e.ch (n:=kk) (by rw [SV1.out.1];exact hkk));rw [SV1.out.2.1] at LVE;rw [SV1.out.2.2] at FIE;unfold ptr at LVE FIE;unfold FilesPost at FIE;have K2:Hid (Oc c2 (t0+(m+1+(m+1)))):=Lib.hid (by rw [show t0+(m+1+(m+1))=t0+(m+m)+1+1 by omega];exact K1.out.next2);clear SD K1;have hZ:=run_buildZ;have hY:=run_buildY
          rcases HX with h5 | ⟨rfl,hn5⟩
          all_goals
           go_wp2_with fail;refine CD1.out.mono ?_;rintro e w6 ⟨rfl,d6⟩;have CX:=Lib.hid (SE.out w6 d6);clear CD1 SE d6 a0 a1 a2 a3 a4 a5 a6 a7 a8 a9 a10;go_wp2_with fail;refine CX.out.mono ?_;rintro e w7 ⟨rfl,d7⟩;have bh:=(Below.refl w7.heap.size w7).alloc (Nat.le_refl _) (.cells #[.int .u8 yy.1,.int .u8 yy.2.1,.int .u8 yy.2.2.1,.int .u8 yy.2.2.2] 42);have D8:=Lib.hid (d7.below bh);clear CX bh d7;go_upto_region 19 with fail;generalize (w7.alloc (.cells #[.int .u8 yy.1,.int .u8 yy.2.1,.int .u8 yy.2.2.1,.int .u8 yy.2.2.2] 42))=w8 at *;have CX:=Lib.hid (LVE.out w8 D8.out);clear LVE;go_wp2_with fail;refine CX.out.mono ?_;rintro e w9 ⟨rfl,b9⟩;have D9:=Lib.hid (D8.out.below b9);have CX:=Lib.hid (FIE.out w9 D9.out);clear FIE b9 D8;go_wp2_with fail;refine CX.out.mono ?_;rintro e wa ⟨f2,rfl,hf2,ba⟩;have DA:=Lib.hid (D9.out.below ba);obtain ⟨F',LS⟩:=DA.out.ls;have CX:=Lib.hid (same_is (hf2 (fun _=>False) nofun) LS SA.out);clear hf2 LS ba D9;go_wp2_with fail;refine CX.out.mono ?_;rintro e wb ⟨rfl,bb⟩;have DB:Hid (CW w1 s c2 (t0+(m+1+(m+1))) fv A wb):=Lib.hid (by rw [show t0+(m+1+(m+1))=t0+(m+m)+1+1 by omega];exact DA.out.below bb);clear CX bb DA hZ hY;go_wp2
           go_roundw
           case rel=>exact ⟨m+1,c2,by omega,by omega,by go_num,DB,K2,SV1⟩
           case measure=>simp [intOf];omega
        ·have EX:¬ ((m:Int) < nr)∨((m:Int) < nr∧¬ ((m:Int) < 12)):=by omega
         clear hlt HA' OY HR SA;have DH:=Lib.hid D.out.ch;have htt:t0+(m+m)≤100:=by omega
         clear D;generalize t0+(m+m)=tt at *
         rcases EX with h3 | ⟨h3,h4⟩
         all_goals
          go_upto_region 21 with fail;go_wp2
          go_loopw [18] (fun i wr=>∃ j:Nat,j≤q∧i = .int .i64 j∧Hid (CH w1 s c tt wr)) (fun i _=>q - (intOf i).toNat)
          case atStart=>exact ⟨0,Nat.zero_le _,rfl,DH⟩
          case round =>
           clear DH;obtain ⟨j,hj,rfl,D⟩:=hrel;have CN:=ch_nodes D.out;rw [SV.out.1] at CN;unfold ptr at CN;have CX:=Lib.hid CN;clear CN
           by_cases hjq:j < q
           ·have CF:=Lib.hid (fun W (e:CH w1 s c tt W)=>ch_files e (n:=j) (by rw [SV.out.1];exact hjq))
            have OA:=Lib.hid (KC.out.ok.st j (by rw [SV.out.1];exact hjq)).1;generalize (sat c.S j).1=A2 at *;unfold FilesPost ptr at CF;go_wp2_with fail;refine CX.out.mono ?_;rintro e w6 ⟨rfl,b6⟩;have D6:=Lib.hid (D.out.below b6);have CY:=Lib.hid (CF.out w6 D6.out);clear CX CF b6 D;go_wp2_with fail;refine CY.out.mono ?_;rintro e w7 ⟨f2,rfl,hf2,b7⟩;have D7:=Lib.hid (D6.out.below b7);obtain ⟨LL,hL,eL⟩:=hf2 (fun _=>False) nofun;have EL:=Lib.hid eL;have LF:=Lib.hid hL.file;obtain ⟨fa,fc,rfl,_,_,hP⟩:=hL.rd;have HP:=Lib.hid hP;clear CY hf2 b7 D6 eL hL hP;have l64:LL.length≤64:=by
             have:=OA.out.len;rw [← EL.out,List.length_map] at this;exact this
            generalize hll:LL.length=ll at *;have HLL:=Lib.hid hll;clear hll;go_upto_region 25 with fail;go_wp2
            go_loopw [20] (fun i wx=>∃ i2:Nat,i2≤ll∧i = .int .i64 i2∧Hid (Below w7.heap.size w7 wx)) (fun i _=>ll - (intOf i).toNat)
            case atStart=>exact ⟨0,Nat.zero_le _,rfl,Lib.hid (Below.refl _ _)⟩
            case round =>
             rename_i wo _
             obtain ⟨i2,hi2,rfl,BB⟩:=hrel
             by_cases hil:i2 < ll
             ·obtain ⟨b2,off2,rfl,hA⟩:=HP.out (by omega)
              have hil2:i2 < LL.length:=by have:=HLL.out;omega
              obtain ⟨⟨en,ep,ea,ec,el⟩,he⟩:∃ c:Ent,LL[i2]? = some c:=⟨_,List.getElem?_eq_getElem hil2⟩;obtain ⟨y0,y1,y2⟩:=at3 (hA.below BB.out) he;have mem:=List.mem_of_getElem? he;have hgood:goodF ep el:=OA.out.good (en,ep,el) (by rw [← EL.out];exact List.mem_map_of_mem mem);have GD:=Fl.rgood_any wr ep _ el ((LF.out _ mem).below BB.out);rw [show goodFB ep el=true from decide_eq_true hgood] at GD;unfold Fl.file at GD;have CX:=Lib.hid GD;unfold Ent.sl at y2 CX;simp only at y1 y2 CX;clear GD hgood mem he hA hil2 y0;generalize el.length=eln at *;go_wp2_with fail;refine CX.out.mono ?_;rintro e w8 ⟨rfl,b8⟩;have B8:=Lib.hid (BB.out.trans (b8.mono BB.out.size));clear CX b8 y1 y2 BB;go_wp2
              go_roundw
              case rel=>exact ⟨i2+1,by omega,by go_num,B8⟩
              case measure=>simp [intOf];omega
             ·have D8:=Lib.hid (D7.out.below BB.out)
              clear HP LF EL BB D7;go_wp2
              go_roundw
              case rel=>exact ⟨j+1,by omega,by go_num,D8⟩
              case measure=>simp [intOf];omega
           ·have CR:=Lib.hid (fun W (e:CH w1 s c tt W)=>ch_do (W:=W) e G1.out (KC.out.ok) KC.out.sy (by omega) ⟨5,kk,0,0,z4,0,0,0⟩ Fl.okR_z (show Wf 0 from WalkArith.wf_i64 (by decide)))
            have E0:Hid (actE ⟨5,kk,0,0,z4,0,0,0⟩ c=0):=Lib.hid (restart_down (by rw [SV.out.1];exact HK.out) SV.out.2.1 _ rfl rfl);rw [E0.out] at CR;unfold actV actA ptr at CR;clear E0;have hB:=HB.out;go_wp2_with fail;refine CX.out.mono ?_;rintro e w6 ⟨rfl,b6⟩;have D6:=Lib.hid (D.out.below b6);have AWK:=Lib.hid (AW.out w6 (FIN.out _ D6.out.bel));clear CX b6 D AW;go_wp2_with fail;refine AWK.out.mono ?_;rintro e w7 ⟨rfl,b7⟩;have CY:=Lib.hid (CR.out w7 (D6.out.below b7));clear CR b7 AWK D6;go_wp2_with fail;refine CY.out.mono ?_;rintro e w8 ⟨rfl,d8⟩;have E:=Lib.hid (FIN.out _ d8.bel);clear d8 CY;go_wp2
            go_ret
            exact ⟨rfl,E.out⟩
     | false =>
       have K1:Hid (Oc c (k+1)):=Lib.hid KC.out.next2;have SL1:Hid (c.S.length=q):=Lib.hid SL.out;have VD1:Hid (vat c.V kk=false):=Lib.hid hv;rw [hv] at L0;clear hv KC SL;generalize c=c1 at *;go_wp2_with fail;refine L0.out.mono ?_;rintro e w4 ⟨rfl,b4⟩;have D4:=Lib.hid (D.out.below b4).late;clear b4 L0 D wn hmd wm hB hq0;have CF:=Lib.hid (ch_files D4.out (n:=kk) (by rw [SL1.out];exact HK.out));have AA:Hid ((sat c1.S kk).1=(sat c1.S kk).1):=Lib.hid rfl;have SA:Hid ((sat c1.S kk).1.length≤64):=Lib.hid ((K1.out.ok.st kk (by rw [SL1.out];exact HK.out)).1.len);generalize hA0:(sat c1.S kk).1=A at CF SA;have HA0:=Lib.hid hA0;clear hA0 AA;unfold FilesPost ptr at CF;have ht0:k+1≤13:=by omega
       generalize k+1=t0 at *;go_wp2_with fail;refine CF.out.mono ?_;rintro e w5 ⟨fv,rfl,hf,b5⟩;have C5:=Lib.hid (cw_of D4.out hf b5);clear hf b5 CF D4;go_upto_region 13 with fail;go_wp2
       go_loopw [15] (fun i wr=>∃ (m:Nat) (c:Cs),m≤nr∧m≤12∧i = .int .i64 m∧Hid (CW w1 s c (t0+(m+m)) fv A wr)∧Hid (Oc c (t0+(m+m)))∧Hid (c.S.length=q∧vat c.V kk=false∧(sat c.S kk).1=A)) (fun i _=>12 - (intOf i).toNat)
       case atStart=>exact ⟨0,c1,Nat.zero_le _,Nat.zero_le _,rfl,C5,K1,Lib.hid ⟨SL1.out,VD1.out,HA0.out⟩⟩
       case round =>
        clear C5 K1 SL1 VD1 HA0;obtain ⟨m,c,hm,hm12,rfl,D,KC,SV⟩:=hrel
        by_cases hlt:m < nr∧m < 12
        ·obtain ⟨hmn,hm3⟩:=hlt
         obtain ⟨b',off',rfl,hA⟩:=HA'.out (by omega);have XO:=Lib.hid (OY.out m hmn);obtain ⟨a0,a1,a2,a3,a4,a5,a6,a7,a8,a9,a10⟩:=at_ac (hA.below (B1.out.trans (D.out.bel.mono B1.out.size))) (i:=m) (by rw [HR.out];exact hmn);clear hA;generalize aat r m=x at *;obtain ⟨xk,xn,xf,xr,⟨xv1,xv2,xv3,xv4⟩,xs,xm,xt⟩:=x;simp only at a0 a1 a2 a3 a4 a5 a6 a7 a8 a9 a10;have hkk:=HK.out
         by_cases hh:xk=5∧xn=kk
         ·obtain ⟨rfl,rfl⟩:=hh
          have D2:Hid (CW w1 s c (t0+(m+1+(m+1))) fv A wr):=Lib.hid (by rw [show t0+(m+1+(m+1))=t0+(m+m)+1+1 by omega];exact D.out.late.late);have K2:Hid (Oc c (t0+(m+1+(m+1)))):=Lib.hid (by rw [show t0+(m+1+(m+1))=t0+(m+m)+1+1 by omega];exact KC.out.next2.next2);clear D KC a2 a3 a4 a5 a6 a7 a8 a9 a10;go_wp2
          go_roundw
          case rel=>exact ⟨m+1,c,by omega,by omega,by go_num,D2,K2,SV⟩
          case measure=>simp [intOf];omega
         ·have HX:(¬ xk=5)∨(xk=5∧¬ xn=kk):=by omega
          have AD:=act_down KC.out.ok (k:=kk) (by rw [SV.out.1];exact hkk) SV.out.2.1 ⟨xk,xn,xf,xr,(xv1,xv2,xv3,xv4),xs,xm,xt⟩ hh;have CD1:=Lib.hid (cw_do D.out G1.out KC.out.ok KC.out.sy (by omega) ⟨xk,xn,xf,xr,(xv1,xv2,xv3,xv4),xs,xm,xt⟩ XO.out.1 XO.out.2);have K1:Hid (Oc (actC ⟨xk,xn,xf,xr,(xv1,xv2,xv3,xv4),xs,xm,xt⟩ c) (t0+(m+m)+1)):=Lib.hid (KC.out.act XO.out.1);have SV1:Hid ((actC ⟨xk,xn,xf,xr,(xv1,xv2,xv3,xv4),xs,xm,xt⟩ c).S.length=q∧vat (actC ⟨xk,xn,xf,xr,(xv1,xv2,xv3,xv4),xs,xm,xt⟩ c).V kk=false∧(sat (actC ⟨xk,xn,xf,xr,(xv1,xv2,xv3,xv4),xs,xm,xt⟩ c).S kk).1=A):=Lib.hid ⟨(act_len2 _ c).trans SV.out.1,AD.1,AD.2.1.trans SV.out.2.2⟩;clear D KC SV AD hh;unfold actV actA ptr at CD1;simp only at CD1;generalize actC ⟨xk,xn,xf,xr,(xv1,xv2,xv3,xv4),xs,xm,xt⟩ c=c2 at *;generalize actE ⟨xk,xn,xf,xr,(xv1,xv2,xv3,xv4),xs,xm,xt⟩ c=z at *;have SD:=serve_down (c:=c2) (k:=kk) (by rw [SV1.out.1];exact hkk) SV1.out.2.1 0 0 0 z4;have SE:=Lib.hid (fun W (e:CW w1 s c2 (t0+(m+m)+1) fv A W)=>cw_serve e G1.out K1.out.ok (by omega) kk 0 0 0 z4 Fl.okR_z);rw [SD.1,SD.2] at SE;generalize srV c2 kk 0 0 0 z4=yy at *;unfold ptr Ad.addr rec4 at SE;have LVE:=Lib.hid (fun W (e:CW w1 s c2 (t0+(m+m)+1+1) fv A W)=>ch_live e.ch (n:=kk) (by rw [SV1.out.1];exact hkk));have FIE:=Lib.hid (fun W (e:CW w1 s c2 (t0+(m+m)+1+1) fv A W)=>ch_files e.ch (n:=kk) (by rw [SV1.out.1];exact hkk));rw [SV1.out.2.1] at LVE;rw [SV1.out.2.2] at FIE;unfold ptr at LVE FIE;unfold FilesPost at FIE;have K2:Hid (Oc c2 (t0+(m+1+(m+1)))):=Lib.hid (by rw [show t0+(m+1+(m+1))=t0+(m+m)+1+1 by omega];exact K1.out.next2);clear SD K1;have hZ:=run_buildZ;have hY:=run_buildY
          rcases HX with h5 | ⟨rfl,hn5⟩
          all_goals
           go_wp2_with fail;refine CD1.out.mono ?_;rintro e w6 ⟨rfl,d6⟩;have CX:=Lib.hid (SE.out w6 d6);clear CD1 SE d6 a0 a1 a2 a3 a4 a5 a6 a7 a8 a9 a10;go_wp2_with fail;refine CX.out.mono ?_;rintro e w7 ⟨rfl,d7⟩;have bh:=(Below.refl w7.heap.size w7).alloc (Nat.le_refl _) (.cells #[.int .u8 yy.1,.int .u8 yy.2.1,.int .u8 yy.2.2.1,.int .u8 yy.2.2.2] 42);have D8:=Lib.hid (d7.below bh);clear CX bh d7;go_upto_region 19 with fail;generalize (w7.alloc (.cells #[.int .u8 yy.1,.int .u8 yy.2.1,.int .u8 yy.2.2.1,.int .u8 yy.2.2.2] 42))=w8 at *;have CX:=Lib.hid (LVE.out w8 D8.out);clear LVE;go_wp2_with fail;refine CX.out.mono ?_;rintro e w9 ⟨rfl,b9⟩;have D9:=Lib.hid (D8.out.below b9);have CX:=Lib.hid (FIE.out w9 D9.out);clear FIE b9 D8;go_wp2_with fail;refine CX.out.mono ?_;rintro e wa ⟨f2,rfl,hf2,ba⟩;have DA:=Lib.hid (D9.out.below ba);obtain ⟨F',LS⟩:=DA.out.ls;have CX:=Lib.hid (same_is (hf2 (fun _=>False) nofun) LS SA.out);clear hf2 LS ba D9;go_wp2_with fail;refine CX.out.mono ?_;rintro e wb ⟨rfl,bb⟩;have DB:Hid (CW w1 s c2 (t0+(m+1+(m+1))) fv A wb):=Lib.hid (by rw [show t0+(m+1+(m+1))=t0+(m+m)+1+1 by omega];exact DA.out.below bb);clear CX bb DA hZ hY;go_wp2
           go_roundw
           case rel=>exact ⟨m+1,c2,by omega,by omega,by go_num,DB,K2,SV1⟩
           case measure=>simp [intOf];omega
        ·have EX:¬ ((m:Int) < nr)∨((m:Int) < nr∧¬ ((m:Int) < 12)):=by omega
         clear hlt HA' OY HR SA;have DH:=Lib.hid D.out.ch;have htt:t0+(m+m)≤100:=by omega
         clear D;generalize t0+(m+m)=tt at *
         rcases EX with h3 | ⟨h3,h4⟩
         all_goals
          go_upto_region 21 with fail;go_wp2
          go_loopw [18] (fun i wr=>∃ j:Nat,j≤q∧i = .int .i64 j∧Hid (CH w1 s c tt wr)) (fun i _=>q - (intOf i).toNat)
          case atStart=>exact ⟨0,Nat.zero_le _,rfl,DH⟩
          case round =>
           clear DH;obtain ⟨j,hj,rfl,D⟩:=hrel;have CN:=ch_nodes D.out;rw [SV.out.1] at CN;unfold ptr at CN;have CX:=Lib.hid CN;clear CN
           by_cases hjq:j < q
           ·have CF:=Lib.hid (fun W (e:CH w1 s c tt W)=>ch_files e (n:=j) (by rw [SV.out.1];exact hjq))
            have OA:=Lib.hid (KC.out.ok.st j (by rw [SV.out.1];exact hjq)).1;generalize (sat c.S j).1=A2 at *;unfold FilesPost ptr at CF;go_wp2_with fail;refine CX.out.mono ?_;rintro e w6 ⟨rfl,b6⟩;have D6:=Lib.hid (D.out.below b6);have CY:=Lib.hid (CF.out w6 D6.out);clear CX CF b6 D;go_wp2_with fail;refine CY.out.mono ?_;rintro e w7 ⟨f2,rfl,hf2,b7⟩;have D7:=Lib.hid (D6.out.below b7);obtain ⟨LL,hL,eL⟩:=hf2 (fun _=>False) nofun;have EL:=Lib.hid eL;have LF:=Lib.hid hL.file;obtain ⟨fa,fc,rfl,_,_,hP⟩:=hL.rd;have HP:=Lib.hid hP;clear CY hf2 b7 D6 eL hL hP;have l64:LL.length≤64:=by
             have:=OA.out.len;rw [← EL.out,List.length_map] at this;exact this
            generalize hll:LL.length=ll at *;have HLL:=Lib.hid hll;clear hll;go_upto_region 25 with fail;go_wp2
            go_loopw [20] (fun i wx=>∃ i2:Nat,i2≤ll∧i = .int .i64 i2∧Hid (Below w7.heap.size w7 wx)) (fun i _=>ll - (intOf i).toNat)
            case atStart=>exact ⟨0,Nat.zero_le _,rfl,Lib.hid (Below.refl _ _)⟩
            case round =>
             rename_i wo _
             obtain ⟨i2,hi2,rfl,BB⟩:=hrel
             by_cases hil:i2 < ll
             ·obtain ⟨b2,off2,rfl,hA⟩:=HP.out (by omega)
              have hil2:i2 < LL.length:=by have:=HLL.out;omega
              obtain ⟨⟨en,ep,ea,ec,el⟩,he⟩:∃ c:Ent,LL[i2]? = some c:=⟨_,List.getElem?_eq_getElem hil2⟩;obtain ⟨y0,y1,y2⟩:=at3 (hA.below BB.out) he;have mem:=List.mem_of_getElem? he;have hgood:goodF ep el:=OA.out.good (en,ep,el) (by rw [← EL.out];exact List.mem_map_of_mem mem);have GD:=Fl.rgood_any wr ep _ el ((LF.out _ mem).below BB.out);rw [show goodFB ep el=true from decide_eq_true hgood] at GD;unfold Fl.file at GD;have CX:=Lib.hid GD;unfold Ent.sl at y2 CX;simp only at y1 y2 CX;clear GD hgood mem he hA hil2 y0;generalize el.length=eln at *;go_wp2_with fail;refine CX.out.mono ?_;rintro e w8 ⟨rfl,b8⟩;have B8:=Lib.hid (BB.out.trans (b8.mono BB.out.size));clear CX b8 y1 y2 BB;go_wp2
              go_roundw
              case rel=>exact ⟨i2+1,by omega,by go_num,B8⟩
              case measure=>simp [intOf];omega
             ·have D8:=Lib.hid (D7.out.below BB.out)
              clear HP LF EL BB D7;go_wp2
              go_roundw
              case rel=>exact ⟨j+1,by omega,by go_num,D8⟩
              case measure=>simp [intOf];omega
           ·have CR:=Lib.hid (fun W (e:CH w1 s c tt W)=>ch_do (W:=W) e G1.out (KC.out.ok) KC.out.sy (by omega) ⟨5,kk,0,0,z4,0,0,0⟩ Fl.okR_z (show Wf 0 from WalkArith.wf_i64 (by decide)))
            have E0:Hid (actE ⟨5,kk,0,0,z4,0,0,0⟩ c=0):=Lib.hid (restart_down (by rw [SV.out.1];exact HK.out) SV.out.2.1 _ rfl rfl);rw [E0.out] at CR;unfold actV actA ptr at CR;clear E0;have hB:=HB.out;go_wp2_with fail;refine CX.out.mono ?_;rintro e w6 ⟨rfl,b6⟩;have D6:=Lib.hid (D.out.below b6);have AWK:=Lib.hid (AW.out w6 (FIN.out _ D6.out.bel));clear CX b6 D AW;go_wp2_with fail;refine AWK.out.mono ?_;rintro e w7 ⟨rfl,b7⟩;have CY:=Lib.hid (CR.out w7 (D6.out.below b7));clear CR b7 AWK D6;go_wp2_with fail;refine CY.out.mono ?_;rintro e w8 ⟨rfl,d8⟩;have E:=Lib.hid (FIN.out _ d8.bel);clear d8 CY;go_wp2
            go_ret
            exact ⟨rfl,E.out⟩
 ·generalize hz:newE lp=z at *
  have N1:=new_no H1.out (z:=z) (by rw [E1.out];exact hz) e0;have NN:=Lib.hid N1;clear N1 hz H1;go_wp2_with fail;refine NN.out.mono ?_;rintro e w2 ⟨rfl,b2⟩;have AWK:=Lib.hid (AW.out w2 (FIN.out _ b2));have B2:=Lib.hid b2;clear b2 NN AW;go_wp2_with fail;refine AWK.out.mono ?_;rintro e w4 ⟨rfl,b4⟩;have E:=Lib.hid (FIN.out _ (B2.out.trans (b4.mono B2.out.size)));go_wp2
  go_ret
  exact ⟨rfl,E.out⟩
end Go.Proofs.YtljnkaodhfnbbaaGreatDoor.Cu
