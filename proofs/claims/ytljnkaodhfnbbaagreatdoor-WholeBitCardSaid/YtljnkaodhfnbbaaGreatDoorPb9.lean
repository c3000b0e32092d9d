import Derived.Test.YtljnkaodhfnbbaaGreatDoorPb7
import Derived.Test.YtljnkaodhfnbbaaGreatDoorPb8
import Derived.Test.YtljnkaodhfnbbaaGreatDoorPb5
import Derived.Deep.Cut
import Derived.Test.YtljnkaodhfnbbaaGreatDoorPb3
import Derived.Test.YtljnkaodhfnbbaaGreatDoorPb1
import Derived.Test.YtljnkaodhfnbbaaGreatDoorPb4
import Derived.Shelf.Abstract
import Derived.Test.YtljnkaodhfnbbaaGreatDoorPb6
set_option maxRecDepth 100000
namespace Go.Proofs.YtljnkaodhfnbbaaGreatDoor.Cu
open Go.RowKit
open Rw (Rd Ow At)
open Fl (R4 K4 okL row_cell row_frozen)
open Fs (Ent Fil Abs St OkA Only Fx ow_only)
open Pa (S2 Sts sat vat KN KB K2 ptr Fls wp_push_at only_grown)
open Ck (Hd sl zh)
attribute [local irreducible] Sd.wpSd wpQuiet Sz.wpSz
def NwF (w wr:World) (k:Nat):Prop:=w.heap.size≤k∧k < wr.heap.size
theorem sat_push {S:Sts} {x:Abs×Int} {i:Nat} (hi:i < S.length+1):sat (S ++ [x]) i=if i < S.length then sat S i else x:=by
 unfold sat;rw [Int.toNat_natCast];exact gd_push x ([],0) rfl hi
theorem vat_push {V:List Bool} {b:Bool} {i:Nat} (hi:i < V.length+1):vat (V ++ [b]) i=if i < V.length then vat V i else b:=by
 unfold vat;rw [Int.toNat_natCast];exact gd_push b false rfl hi
theorem nda_push {L:List Nd} {x:Nd} {i:Nat} (hi:i < L.length+1):nda (L ++ [x]) i=if i < L.length then nda L i else x:=gd_push x ndD rfl hi
section
variable {s t p m q:Nat} {F G:Nat→Prop} {c:Cs} {vn vq v':Value} {L:List Nd} {Fs:Nat→Nat→Prop} {w w5 w6:World} {A:Abs} {rate:Int}
theorem Cl.push (h:Cl w5 s F c t vn L p vq Fs) (hF:∀ k,F k→w.heap.size≤k∧k < m) (hv:c.V.length=c.S.length) (st:St w5 q G A 0) (hG:∀ k,G k→m≤k) (hm:w.heap.size≤m) (hr : -2000≤rate∧rate≤2000) (ow:Ow KD w6 0 139 v' (L ++ [⟨q,true,rate⟩])) (gr:w5.grownBy w6 vn.ownBlock) (hw:w.heap.size≤w5.heap.size) (hq:v'.ownBlock=vn.ownBlock∨∃ g,v'.ownBlock=some g∧w5.heap.size≤g) :
 Cl (w6.setCell ⟨s,0,none⟩ v') s (NwF w (w6.setCell ⟨s,0,none⟩ v')) { c with S:=c.S ++ [(A,0)],V:=c.V ++ [true] } t v' (L ++ [⟨q,true,rate⟩]) p vq (fun i=>if i < L.length then Fs i else G):=by
 have oq:=only_grown gr;have hl:=h.len;have zz:=gr.size;have hzz:(w6.setCell ⟨s,0,none⟩ v').heap.size=w6.heap.size:=by simp [World.setCell]
 have lv:∀ k,v'.ownBlock=some k→k < w6.heap.size:=fun k e=>(World.ownsRow.lt ow k e).2;have sne:vn.ownBlock≠some s:=h.vs.1;have row1:w6.heap[s]? = some (.cells #[vn,ptr p,.int .i64 c.pl,vq] 137 (0,0)):=(oq.block s h.slt (fun e=>sne e)).trans h.row;have row2:(w6.setCell ⟨s,0,none⟩ v').heap[s]? = some (.cells #[v',ptr p,.int .i64 c.pl,vq] 137 (0,0)):=Rw.heap_setCell_same (j:=0) row1 _;have o3:Only (fun k=>k=s) w6 (w6.setCell ⟨s,0,none⟩ v'):=Only.set (fun k=>k=s) w6 (a:=⟨s,0,none⟩) rfl _;have inN:∀ k,F k→NwF w (w6.setCell ⟨s,0,none⟩ v') k:=fun k g=>⟨(hF k g).1,by rw [hzz];have:=h.low k g;omega⟩;have offG:∀ k,G k→k≠s∧k≠p∧v'.ownBlock≠some k∧vq.ownBlock≠some k∧vn.ownBlock≠some k:=fun k g=>by
  have g0:=hG k g;have gl:=st.low k g;have a1:=(hF s h.fs).2;have a2:=(hF p h.fp).2;have a3:∀ j,vn.ownBlock=some j→j < m:=fun j e=>(hF j (h.fv j (.inl e))).2;have a4:∀ j,vq.ownBlock=some j→j < m:=fun j e=>(hF j (h.fv j (.inr e))).2;refine ⟨by omega,by omega,fun e=>?_,fun e=>by have:=a4 k e;omega,fun e=>by have:=a3 k e;omega⟩
  rcases hq with q | ⟨j,q,hj⟩
  ·have:=a3 k (by rw [← q];exact e);omega
  ·rw [q] at e;injection e with e;omega
 have offF:∀ i,i < L.length→∀ k,Fs i k→k≠s∧k≠p∧v'.ownBlock≠some k∧vq.ownBlock≠some k∧vn.ownBlock≠some k:=fun i hi k g=>by
  have q0:=h.off i hi k g;refine ⟨q0.1,q0.2.1,fun e=>?_,q0.2.2.2,q0.2.2.1⟩
  rcases hq with q | ⟨j,q,hj⟩
  ·exact q0.2.2.1 (by rw [← q];exact e)
  ·rw [q] at e;injection e with e
   have:=h.low k (h.ff i hi k g);omega
 have hlen:(L ++ [(⟨q,true,rate⟩:Nd)]).length=L.length+1:=by simp
 refine ⟨row2,ow_only ow (fun k e q=>ow.apart row1 (by decide) (by rw [e,q])) o3,by rw [hlen];simp;omega,fun i hi=>?_,fun i hi=>?_,fun i hi=>?_,(h.pr.only oq (fun e=>h.vp.1 e)).only o3 (fun e=>h.sp_ne e.symm),ow_only (ow_only h.sp (fun k e q=>h.vv k q e) oq) (fun k e q=>h.vs.2 (by rw [e,q])) o3,inN s h.fs,inN p h.fp,fun k g=>?_,fun i hi k g=>?_,fun i j hi hj hij k g=>?_,fun i hi k g=>?_,fun k g=>g.2⟩
 ·rw [hlen] at hi
  show St _ _ _ (sat (c.S ++ [(A,0)]) i).1 (sat (c.S ++ [(A,0)]) i).2
  rw [nda_push hi,sat_push (by omega)]
  by_cases e:i < L.length
  ·rw [if_pos e,if_pos e,if_pos (by omega)]
   exact ((h.st i e).only (fun k g q=>(offF i e k g).2.2.2.2 q) oq).only (fun k g q=>(offF i e k g).1 q) o3
  ·rw [if_neg e,if_neg e,if_neg (by omega)]
   exact (st.only (fun k g q=>(offG k g).2.2.2.2 q) oq).only (fun k g q=>(offG k g).1 q) o3
 ·rw [hlen] at hi
  show _=vat (c.V ++ [true]) i
  rw [nda_push hi,vat_push (by omega)]
  by_cases e:i < L.length
  ·rw [if_pos e,if_pos (by omega)];exact h.lv i e
  ·rw [if_neg e,if_neg (by omega)]
 ·rw [hlen] at hi
  rw [nda_push hi]
  by_cases e:i < L.length
  ·rw [if_pos e];exact h.rt i e
  ·rw [if_neg e];exact hr
 ·rcases g with g | g
  ·refine ⟨?_,by rw [hzz];exact lv k g⟩
   rcases hq with q | ⟨j,q,hj⟩
   ·exact (hF k (h.fv k (.inl (by rw [← q];exact g)))).1
   ·rw [q] at g;injection g with g;omega
  ·exact inN k (h.fv k (.inr g))
 ·rw [hlen] at hi
  by_cases e:i < L.length
  ·rw [if_pos e] at g;exact inN k (h.ff i e k g)
  ·rw [if_neg e] at g
   refine ⟨by have:=hG k g;omega,by rw [hzz];have:=st.low k g;omega⟩
 ·rw [hlen] at hi hj
  have sep:∀ i,i < L.length→∀ k,Fs i k→G k→False:=fun i e k g g'=>by have:=(hF k (h.ff i e k g)).2;have:=hG k g';omega
  by_cases e:i < L.length
  ·rw [if_pos e] at g
   by_cases e':j < L.length
   ·rw [if_pos e'];exact h.dis i j e e' hij k g
   ·rw [if_neg e'];exact fun g'=>sep i e k g g'
  ·rw [if_neg e] at g
   by_cases e':j < L.length
   ·rw [if_pos e'];exact fun g'=>sep j e' k g' g
   ·omega
 ·rw [hlen] at hi
  by_cases e:i < L.length
  ·rw [if_pos e] at g
   have:=offF i e k g;exact ⟨this.1,this.2.1,this.2.2.1,this.2.2.2.1⟩
  ·rw [if_neg e] at g
   have:=offG k g;exact ⟨this.1,this.2.1,this.2.2.1,this.2.2.2.1⟩
end
def NwC (w:World) (L:List Pl) (e:Ending) (w':World):Prop:=Below w.heap.size w w'∧((newE L=0∧∃ s F,e = .returned (.tuple #[ptr s,.int .i64 0])∧ClE w' s F (newC L) 0∧∀ j,F j→w.heap.size≤j)∨(newE L≠0∧e = .returned (.tuple #[.pointer none,.int .i64 (newE L)])))
structure NwI (w:World) (L:List Pl) (s p k:Nat) (vn:Value) (LN:List Nd) (Fs:Nat→Nat→Prop) (wr:World):Prop where
 cl:Cl wr s (NwF w wr) (newC (L.take k)) 0 vn LN p (.slice none 0 0) Fs
 bel:Below w.heap.size w wr
 gd:Gds L k
theorem NwI.below {w wr w':World} {L:List Pl} {s p k:Nat} {vn:Value} {LN:List Nd} {Fs:Nat→Nat→Prop} (h:NwI w L s p k vn LN Fs wr) (b:Below wr.heap.size wr w'):NwI w L s p k vn LN Fs w' :=
 ⟨(h.cl.below b).wide (fun _ g=>⟨g.1,Nat.lt_of_lt_of_le g.2 b.size⟩) (fun _ g=>g.2),h.bel.trans (b.mono h.bel.size),h.gd⟩
theorem newC_more {L:List Pl} {i:Nat} (h:i < L.length):newC (L.take (i+1)) = { newC (L.take i) with S:=(newC (L.take i)).S ++ [((plat L i).1,0)],V:=(newC (L.take i)).V ++ [true] }:=by
 have e:=newC_next h;have q:newC (L.take (i+1))=⟨(newC (L.take (i+1))).S,(newC (L.take (i+1))).V,Wt.new,0,[]⟩:=rfl;rw [q,e.1,e.2]
 rfl
theorem NwI.step {w W w5 w6:World} {L:List Pl} {s p k q:Nat} {vn v':Value} {LN:List Nd} {Fs:Nat→Nat→Prop} {G:Nat→Prop} (h:NwI w L s p k vn LN Fs W) (b:Below W.heap.size W w5) (hk:k < L.length) (g:gdP (plat L k)) (st:St w5 q G (plat L k).1 0) (lo:∀ j,G j→W.heap.size≤j)
 (ow:Ow KD w6 0 139 v' (LN ++ [⟨q,true,(plat L k).2⟩])) (gr:w5.grownBy w6 vn.ownBlock) (hq:v'.ownBlock=vn.ownBlock∨∃ g,v'.ownBlock=some g∧w5.heap.size≤g):NwI w L s p (k+1) v' (LN ++ [⟨q,true,(plat L k).2⟩]) (fun i=>if i < LN.length then Fs i else G) (w6.setCell ⟨s,0,none⟩ v'):=by
 have hz:=b.size;have hw:=h.bel.size;have hv:(newC (L.take k)).V.length=(newC (L.take k)).S.length:=by
  show (List.map _ _).length=(List.map _ _).length
  rw [List.length_map,List.length_map]
 have cl5:=h.cl.below b;have z:=cl5.push (w:=w) (m:=W.heap.size) (fun k g=>g) hv st lo hw g.2 ow gr (Nat.le_trans hw hz) hq;refine ⟨?_,?_,gds_next h.gd g⟩
 ·rw [newC_more hk]
  exact z
 ·have b5:=h.bel.trans (b.mono hw)
  have b6:Below w.heap.size w w6:=b5.grown gr (Nat.le_trans hw hz) fun j e=>(h.cl.fv j (.inl e)).1;exact b6.setCell (h.cl.fs).1 _
theorem NwI.start {w w1:World} {L:List Pl} {p:Nat} (b:Below w.heap.size w w1) (pr:Wt.Pr w1 p Wt.new 0) (hp:w.heap.size≤p):NwI w L w1.heap.size p 0 (.slice none 0 0) [] (fun _ _=>False) (w1.alloc (.cells #[.slice none 0 0,ptr p,.int .i64 0,.slice none 0 0] 137)):=by
 have b2:=b.alloc b.size (.cells #[.slice none 0 0,ptr p,.int .i64 0,.slice none 0 0] 137);have bn:=(Below.refl w1.heap.size w1).alloc (Nat.le_refl _) (.cells #[.slice none 0 0,ptr p,.int .i64 0,.slice none 0 0] 137);have z:(w1.alloc (.cells #[.slice none 0 0,ptr p,.int .i64 0,.slice none 0 0] 137)).heap.size=w1.heap.size+1:=by simp
 have hb:=b.size;have pl:=pr.lt;have no0:∀ {P:Prop} {i:Nat},i < ([]:List Nd).length→P:=fun h=>absurd h (Nat.not_lt_zero _);refine ⟨⟨heap_alloc_new w1 _,Rw.Ow.nil _ _ _,rfl,fun i hi=>no0 hi,fun i hi=>no0 hi,fun i hi=>no0 hi,?_,Rw.Ow.nil _ _ _,⟨hb,by omega⟩,⟨hp,by omega⟩,fun k g=>?_,fun i hi=>no0 hi,fun i j hi=>no0 hi,fun i hi=>no0 hi,fun k g=>g.2⟩,b2,gds_zero L⟩
 ·exact pr.only (G:=fun _=>False) (Only.of_below bn) (fun g=>g)
 ·rcases g with g | g <;> simp [Value.ownBlock] at g
set_option maxHeartbeats 4000000 in
theorem cnew_any {w:World} {v:Value} {L:List PlD} {B:Nat} (H:Pls w v L B):Calls Tryz.prog 12 #[v] w (NwC w (pls L)):=by
 have HH:=Lib.hid H;obtain ⟨a,cap,rfl,_,hm,h3⟩:=H.rd;have H3:=Lib.hid h3;have PLN:=Lib.hid (pls_len L);clear h3 H;unfold maxLen at hm
 by_cases hs:L.length < 2∨32 < L.length
 ·have e1:newE (pls L)=1:=new_short (by rw [pls_len];exact hs)
  have E:Hid (∀ w',Below w.heap.size w w'→NwC w (pls L) (.returned (.tuple #[.pointer none,.int .i64 1])) w'):=Lib.hid (fun w' b=>⟨b,.inr ⟨by rw [e1];decide,by rw [e1]⟩⟩);clear HH H3 e1 PLN;generalize pls L=LL at *;generalize L.length=n at *
  by_cases h1:n < 2
  ·have p1:decide ((n:Int) < 2)=true:=decide_eq_true (by omega)
   clear hs
   go_enter Tryz.func12,Tryz.ntmps12
   go_wp2
   go_ret2
   exact E.out _ (Below.refl _ _)
  ·have p1:decide ((n:Int) < 2)=false:=decide_eq_false (by omega)
   have p2:decide (32 < (n:Int))=true:=decide_eq_true (by omega);clear hs
   go_enter Tryz.func12,Tryz.ntmps12
   go_wp2
   go_ret2
   exact E.out _ (Below.refl _ _)
 ·have hs':¬ ((pls L).length < 2∨32 < (pls L).length):=by rw [pls_len];exact hs
  have BAD:Hid (∀ k,k < L.length→¬ gdP (plat (pls L) k)→∀ w',Below w.heap.size w w'→NwC w (pls L) (.returned (.tuple #[.pointer none,.int .i64 2])) w'):=Lib.hid (fun k hk g w' b=>by
   have e:=new_bad hs' (by rw [pls_len];exact hk) g
   exact ⟨b,.inr ⟨by rw [e];decide,by rw [e]⟩⟩)
  have END:Hid (∀ (s p:Nat) (vn:Value) (LN:List Nd) (Fs:Nat→Nat→Prop) (wr w':World),NwI w (pls L) s p L.length vn LN Fs wr→Below wr.heap.size wr w' →
   (agB (sat (newC (pls L)).S 0).1 (sat (newC (pls L)).S 1).1=true→NwC w (pls L) (.returned (.tuple #[.pointer (some ⟨s,0,none⟩),.int .i64 0])) w')∧(agB (sat (newC (pls L)).S 0).1 (sat (newC (pls L)).S 1).1=false→NwC w (pls L) (.returned (.tuple #[.pointer none,.int .i64 10])) w')):=Lib.hid (fun s p vn LN Fs wr w' I b=>by
   have h2:2≤(pls L).length:=by omega
   have ga:=gds_all (L:=pls L) (by rw [pls_len];exact I.gd);obtain ⟨n0,n1⟩:=new_end hs' ga;have ag:=ag_agree (pls L) h2;have bb:=I.bel.trans (b.mono I.bel.size);refine ⟨fun h=>⟨bb,.inl ⟨n0 (ag.1 h),s,NwF w wr,rfl,⟨vn,LN,p,.slice none 0 0,Fs,?_⟩,fun j g=>g.1⟩⟩,fun h=>?_⟩
   ·have c:=I.cl.below b
    have e:(pls L).take L.length=pls L:=by rw [← pls_len L];exact List.take_length
    rw [e] at c;exact c
   ·have e:=n1 (fun g=>by rw [ag.2 g] at h;cases h)
    exact ⟨bb,.inr ⟨by rw [e];decide,by rw [e]⟩⟩)
  have NEW:=Lib.hid (Wt.new_any w);have LB:Hid (2≤L.length∧L.length≤32):=Lib.hid (by omega);have p1:decide ((L.length:Int) < 2)=false:=decide_eq_false (by omega);have p2:decide (32 < (L.length:Int))=false:=decide_eq_false (by omega);clear hs hs';unfold Wt.CnewPost at NEW;generalize hn:L.length=n at *;have HN:=Lib.hid hn;clear hn
  go_enter Tryz.func12,Tryz.ntmps12
  go_wp2_with fail;refine NEW.out.mono ?_;rintro e w1 ⟨p,rfl,pr,hp,b1⟩;have I0:=Lib.hid (NwI.start (L:=pls L) b1 pr hp);clear NEW pr hp b1 p1 p2;unfold ptr at I0;go_upto_region 4 with fail;generalize (w1.alloc (.cells #[.slice none 0 0,.pointer (some ⟨p,0,none⟩),.int .i64 0,.slice none 0 0] 137))=wa at *;generalize w1.heap.size=s at *;go_wp2
  go_loopw [22] (fun i wr=>∃ (k:Nat) (vn:Value) (LN:List Nd) (Fs:Nat→Nat→Prop),k≤n∧i = .int .i64 k∧Hid (NwI w (pls L) s p k vn LN Fs wr)) (fun i _=>n - (intOf i).toNat)
  case atStart=>exact ⟨0,_,_,_,Nat.zero_le _,rfl,I0⟩
  case round =>
   clear I0;obtain ⟨k,vn,LN,Fs,hk,rfl,I⟩:=hrel
   by_cases hlt:k < n
   ·have hkL:k < L.length:=by have:=HN.out;omega
    obtain ⟨b,off,rfl,hA⟩:=H3.out (by omega);obtain ⟨x0,x1⟩:=at_pl (hA.below I.out.bel) hkL;have HAA:=Lib.hid hA;have PF:=Lib.hid ((HH.out.file k hkL).below I.out.bel);have AT:Hid (plat (pls L) k=(pld L k).abs):=Lib.hid (pls_at hkL);have KL:Hid (k < (pls L).length):=Lib.hid (by rw [pls_len];exact hkL);have BADk:=Lib.hid (fun g=>BAD.out k hlt g);clear hA hkL;generalize pld L k=c at *;obtain ⟨cf,cr,cF⟩:=c;unfold sl at *;simp only at x0 x1 PF;obtain ⟨fa,fl,fc,hfa⟩:∃ a b c,Hid (a=cf.1∧b=cf.2.1∧c=cf.2.2):=⟨_,_,_,rfl,rfl,rfl⟩;rw [← hfa.out.1,← hfa.out.2.1,← hfa.out.2.2] at x0 PF;have Y0:=Lib.hid (heap_alloc_new wr (.cells #[.slice fa fl fc,.int .i64 cr] 60));have BN:=Lib.hid ((Below.refl wr.heap.size wr).alloc (Nat.le_refl _) (.cells #[.slice fa fl fc,.int .i64 cr] 60));go_upto_region 7 with fail;clear x0 x1;generalize wr.alloc (.cells #[.slice fa fl fc,.int .i64 cr] 60)=W at *;have I2:=Lib.hid (I.out.below BN.out);have C:=Lib.hid (cplanned_any ⟨cf,cr,cF⟩ (w:=W) (B:=B) (by unfold sl;rw [← hfa.out.1,← hfa.out.2.1,← hfa.out.2.2];exact PF.out.below BN.out));unfold PlC sl at C;rw [← hfa.out.1,← hfa.out.2.1,← hfa.out.2.2] at C;have y0:W.cell? ⟨wr.heap.size,0,none⟩=some (.slice fa fl fc):=row_cell Y0.out 0;have y1:W.cell? ⟨wr.heap.size,1,none⟩=some (.int .i64 cr):=row_cell Y0.out 1;clear PF BN I Y0;generalize wr.heap.size=gx at *;rw [← AT.out] at C;go_wp2_with fail;refine C.out.mono ?_;rintro e w5 ⟨b5,hc⟩;have B5:=Lib.hid b5;clear C b5 y0 y1
    rcases hc with ⟨g,q,G,rfl,st,lo⟩ | ⟨ng,rfl⟩
    ·have CR:Hid ((plat (pls L) k).2=cr):=Lib.hid (by rw [AT.out];rfl)
     rw [CR.out];have GG:=Lib.hid g;have LO:=Lib.hid lo;have N0:=Lib.hid (heap_alloc_new w5 (.cells #[.pointer (some ⟨q,0,none⟩),.bool true,.int .i64 cr] 139));have BA:=Lib.hid ((Below.refl w5.heap.size w5).alloc (Nat.le_refl _) (.cells #[.pointer (some ⟨q,0,none⟩),.bool true,.int .i64 cr] 139));have ST:=Lib.hid (st.below BA.out);have B6:=Lib.hid (B5.out.trans (BA.out.mono B5.out.size));have GN:Hid (W.heap.size≤w5.heap.size):=Lib.hid B5.out.size;obtain ⟨av,cv,ev,-,-⟩:=I2.out.cl.slice;subst ev;have K0:=Lib.hid ((I2.out.cl.below B6.out).cells.1);have NQ:Hid (∀ j,(Value.slice av (newC ((pls L).take k)).S.length cv).ownBlock=some j→j≠w5.heap.size∧j≠s):=Lib.hid (fun j e=>⟨by have:=(I2.out.cl.fv j (.inl e)).2;have:=GN.out;omega,fun x=>I2.out.cl.vs.1 (by rw [e,x])⟩)
     have LL:Hid (LN.length≤32):=Lib.hid (by
      have:=I2.out.cl.len;have q:(newC ((pls L).take k)).S.length=((pls L).take k).length:=List.length_map _;rw [q,List.length_take] at this;have:=LB.out
      omega)
     unfold ptr at *;go_upto_region 10 with fail;clear g lo st BA;generalize (w5.alloc (.cells #[.pointer (some ⟨q,0,none⟩),.bool true,.int .i64 cr] 139))=W6 at *;generalize w5.heap.size=gn at *;generalize hsl:(newC ((pls L).take k)).S.length=nl at *;clear hsl;have BD:=Lib.hid (Below.refl W6.heap.size W6).drew;have OD:Hid (Only (fun j=>(Value.slice av nl cv).ownBlock=some j) W6 W6.drew):=Lib.hid (Only.of_below BD.out);have s0:=Sc.cell_in (C:=fun W'=>Only (fun j=>(Value.slice av nl cv).ownBlock=some j) W6 W') (a:=⟨s,0,none⟩) (fun W' oo=>oo.cell K0.out (fun e=>(NQ.out _ e).2 rfl));have x0:=Sc.cell_in (C:=fun W'=>Only (fun j=>(Value.slice av nl cv).ownBlock=some j) W6 W') (a:=⟨gn,0,none⟩) (fun W' oo=>oo.cell (row_cell N0.out 0) (fun e=>(NQ.out _ e).1 rfl));have x1:=Sc.cell_in (C:=fun W'=>Only (fun j=>(Value.slice av nl cv).ownBlock=some j) W6 W') (a:=⟨gn,1,none⟩) (fun W' oo=>oo.cell (row_cell N0.out 1) (fun e=>(NQ.out _ e).1 rfl));have x2:=Sc.cell_in (C:=fun W'=>Only (fun j=>(Value.slice av nl cv).ownBlock=some j) W6 W') (a:=⟨gn,2,none⟩) (fun W' oo=>oo.cell (row_cell N0.out 2) (fun e=>(NQ.out _ e).1 rfl));have ne:Nonempty (Sc.In (fun W'=>Only (fun j=>(Value.slice av nl cv).ownBlock=some j) W6 W')):=⟨⟨_,OD.out⟩⟩;refine Sz.start (fun W'=>Only (fun j=>(Value.slice av nl cv).ownBlock=some j) W6 W') [(false,0),(false,1),(false,2),(false,3),(false,4),(false,5),(true,6),(true,7),(false,8),(false,9)] 10 (by kernel_rfl) (by kernel_rfl) (by kernel_rfl) rfl rfl OD.out ?_;dsimp only [Sd.picks,List.getElem?_cons_succ,List.getElem?_cons_zero]
     repeat (refine Sz.lit ?_;quiet_step (fail);refine wpQuiet_nil ?_)
     clear s0 x0 x1 x2;have B7:=Lib.hid (B6.out.trans (BD.out.mono (B6.out.size)));have ST7:=Lib.hid (ST.out.below BD.out);generalize W6.drew=w7 at *;refine Sz.call (by rfl) (fun K hK=>?_);go_simp;have B8:=Lib.hid (Below.alloc (Below.refl w7.heap.size w7) (Nat.le_refl _) (.cells #[.pointer (some ⟨q,0,none⟩),.bool true,.int .i64 cr] 139));have Y8:=Lib.hid (heap_alloc_new w7 (.cells #[.pointer (some ⟨q,0,none⟩),.bool true,.int .i64 cr] 139));have BW:=Lib.hid (B7.out.trans (B8.out.mono B7.out.size));have ST8:=Lib.hid (ST7.out.below B8.out);have O8:=Lib.hid (OD.out.trans (Only.of_below (G:=fun j=>(Value.slice av nl cv).ownBlock=some j) B8.out) fun _ _ g=>g);refine hK _ _ (Sc.Cl.of O8.out) ?_;clear hK K B7 B8 ST7;generalize (w7.alloc (.cells #[.pointer (some ⟨q,0,none⟩),.bool true,.int .i64 cr] 139))=w8 at *;generalize w7.heap.size=g7 at *;have CL8:=Lib.hid (I2.out.cl.below BW.out);refine Sz.call (by rfl) (fun K hK=>?_);refine wp_push_at (K:=KD) Tryz.underlying135 infoD rfl (by omega) _ _ rfl 0 _ _ rfl CL8.out.no ⟨g7,0,none⟩ (⟨q,true,cr⟩:Nd) rfl ?a1 ?a2 (Nat.zero_le _) ?_
     case a1 =>
      intro j u hu
      have c:=row_cell Y8.out j
      match j,hu with
      | 0,hu=>simp [KD,ptr] at hu;subst hu;exact c
      | 1,hu=>simp [KD] at hu;subst hu;exact c
      | 2,hu=>simp [KD] at hu;subst hu;exact c
      | j+3,hu=>simp [KD] at hu
     case a2=>have:=LL.out;omega
     intro v9 w9 o9 g9 h9
     have NEW:Hid (NwI w (pls L) s p (k+1) v9 (LN ++ [⟨q,true,cr⟩]) (fun i=>if i < LN.length then Fs i else G) (w9.setCell ⟨s,0,none⟩ v9)):=Lib.hid (by
      have z:=I2.out.step BW.out KL.out GG.out ST8.out LO.out (by rw [CR.out];exact o9) g9 h9;rw [CR.out] at z
      exact z)
     have O9:=O8.out.trans (only_grown g9) fun _ _ g=>g;have c6:w9.cell? ⟨s,0,none⟩=some (.slice av nl cv):=O9.cell K0.out (fun e=>(NQ.out _ e).2 rfl);have e6:w9.frozen? ⟨s,0,none⟩=false:=row_frozen (((only_grown g9).block s CL8.out.slt (fun e=>(NQ.out _ e).2 rfl)).trans CL8.out.row) 0;obtain ⟨v9a,v9c,n9,rfl⟩:∃ a c n,v9 = .slice a n c:=by obtain ⟨a,c,e,_⟩:=o9.slice;exact ⟨a,c,_,e⟩
     refine hK _ _ (Sc.Cl.of O9) ?_;clear hK K o9 g9 h9 O9 Y8 O8 BW ST8 CL8 I2 B5 B6 ST
     repeat (refine Sz.lit ?_;quiet_step (fail);refine wpQuiet_nil ?_)
     refine Sz.done ?_;go_simp;clear c6 e6;generalize (w9.setCell ⟨s,0,none⟩ (.slice v9a n9 v9c))=wz at *;refine NoPanic.normal ?_;have n32:=LB.out.2;go_wp2
     go_roundw
     case rel=>exact ⟨k+1,_,_,_,by omega,by go_num,NEW⟩
     case measure=>simp [intOf];omega
    ·have E:=Lib.hid (fun w' (b:Below w5.heap.size w5 w')=>BADk.out ng w' ((I2.out.bel.trans (B5.out.mono I2.out.bel.size)).trans (b.mono (Nat.le_trans I2.out.bel.size B5.out.size))))
     have E2:=Lib.hid (E.out _ ((Below.refl w5.heap.size w5).alloc (Nat.le_refl _) (.cells #[.pointer none,.bool false,.int .i64 0] 139)));clear E ng I2 BADk BAD END;go_wp2
     go_ret2
     exact E2.out
   ·obtain rfl:k=n:=by omega
    have LC:Hid ((newC ((pls L).take k)).S.length=k):=Lib.hid (by
     show (List.map _ _).length=k
     rw [List.length_map,List.length_take,pls_len,HN.out,Nat.min_self])
    have AG:=Lib.hid (cagreed_any I.out.cl (by rw [LC.out];exact LB.out.1));have EE:=Lib.hid (END.out s p vn LN Fs wr);have TK:Hid ((pls L).take k=pls L):=Lib.hid (by rw [← HN.out,← pls_len L];exact List.take_length);rw [TK.out] at AG;clear BAD END;generalize agB (sat (newC (pls L)).S 0).1 (sat (newC (pls L)).S 1).1=ag at *;unfold ptr at AG;go_wp2_with fail;refine AG.out.mono ?_;rintro e w2 ⟨rfl,b2⟩;have E2:=Lib.hid (EE.out w2 I.out b2);clear AG EE I b2
    cases ag with
    | true =>
      have E:=Lib.hid (E2.out.1 rfl);clear E2;go_wp2
      go_ret2
      exact E.out
    | false =>
      have E:=Lib.hid (E2.out.2 rfl);clear E2;go_wp2
      go_ret2
      exact E.out
end Go.Proofs.YtljnkaodhfnbbaaGreatDoor.Cu
namespace Go.Proofs.YtljnkaodhfnbbaaGreatDoor.Cu
open Go.RowKit Go.Maps
open Rw (Rd Ow At)
open Fl (R4 K4 okL okR row_cell row_frozen)
open Fs (Abs St OkA Only Fx ow_only)
open Pa (Sts S2 sat vat KN KB K2 ptr)
attribute [local irreducible] Sd.wpSd wpQuiet
section
variable {s t p:Nat} {F G:Nat→Prop} {c:Cs} {vn vq:Value} {L:List Nd} {Fs:Nat→Nat→Prop} {w w1 w':World}
theorem act_no {x:Ac} (h1:x.k≠1) (h3:x.k≠3) (h:x.k < 2∨6 < x.k∨no c x.n):actE x c=1∧actC x c=c:=by
 have he:actE x c=1:=by
  unfold actE;rw [if_neg h1,if_neg h3,if_pos h]
 refine ⟨he,?_⟩;unfold actC;rw [if_neg h1,if_pos (by rw [he];decide)]
theorem cdo_none (h:Cl w s F c t vn L p vq Fs) (x:Ac) (h1:x.k≠1) (h3:x.k≠3) (hn:no c x.n):Calls Tryz.prog 17 #[ptr s,actV x] w (DoC w s F (actC x c) (t+1) (actE x c)):=by
 obtain ⟨e1,e2⟩:=act_no h1 h3 (.inr (.inr hn));rw [e1,e2];have B0:=Lib.hid ((Below.refl w.heap.size w).alloc (Nat.le_refl _) (.cells (actA x) 44));have C1:=Lib.hid (chas_out (h.below B0.out) hn);have E:=Lib.hid (fun w' b=>(doc_below h (w':=w') b 1).late);clear h hn e1 e2;unfold actV actA at *;unfold ptr at *;obtain ⟨k,n,f,rr,v,s',m,tt⟩:=x;simp only at h1 h3 B0 C1 E ⊢;have q1:(k == 1)=false:=beq_eq_false_iff_ne.2 h1;have q3:(k == 3)=false:=beq_eq_false_iff_ne.2 h3
 go_enter Tryz.func17,Tryz.ntmps17
 go_wp2_with fail;refine C1.out.mono ?_;rintro e w1 ⟨rfl,b1⟩;have F:=Lib.hid (E.out w1 (B0.out.trans (b1.mono B0.out.size)));clear E C1 b1;go_wp2
 go_ret
 exact F.out
theorem cdo_kind (h:Cl w s F c t vn L p vq Fs) (x:Ac) (h1:x.k≠1) (h3:x.k≠3) (hk:x.k < 2∨6 < x.k) (hn:¬ no c x.n):Calls Tryz.prog 17 #[ptr s,actV x] w (DoC w s F (actC x c) (t+1) (actE x c)):=by
 obtain ⟨e1,e2⟩:=act_no h1 h3 (show x.k < 2∨6 < x.k∨no c x.n by rcases hk with g | g;exact .inl g;exact .inr (.inl g));rw [e1,e2];have B0:=Lib.hid ((Below.refl w.heap.size w).alloc (Nat.le_refl _) (.cells (actA x) 44));have hn':0≤x.n∧x.n < c.S.length:=by unfold no at hn;omega
 have C1:=Lib.hid (chas_in (h.below B0.out) (n:=x.n.toNat) (by omega));rw [Int.toNat_of_nonneg hn'.1] at C1;have E:=Lib.hid (fun w' b=>(doc_below h (w':=w') b 1).late);have X0:=Lib.hid (heap_alloc_new w (.cells (actA x) 44));clear h hn e1 e2 hn';unfold actV actA at *;unfold ptr at *;obtain ⟨k,n,f,rr,v,s',m,tt⟩:=x;simp only at h1 h3 hk B0 C1 E X0 ⊢;have q1:(k == 1)=false:=beq_eq_false_iff_ne.2 h1;have q2:(k == 2)=false:=beq_eq_false_iff_ne.2 (by omega);have q3:(k == 3)=false:=beq_eq_false_iff_ne.2 h3;have q4:(k == 4)=false:=beq_eq_false_iff_ne.2 (by omega);have q5:(k == 5)=false:=beq_eq_false_iff_ne.2 (by omega);have q6:(k == 6)=false:=beq_eq_false_iff_ne.2 (by omega);have r2:¬ k=2:=by omega
 have r4:¬ k=4:=by omega
 have r5:¬ k=5:=by omega
 have r6:¬ k=6:=by omega
 clear hk
 go_enter Tryz.func17,Tryz.ntmps17
 go_wp2_with fail;refine C1.out.mono ?_;rintro e w1 ⟨rfl,b1⟩;have y0:w1.cell? ⟨w.heap.size,0,none⟩=some (.int .i64 k):=(b1.cell (lt_of_block X0.out)).trans (row_cell X0.out 0);have F:=Lib.hid (E.out w1 (B0.out.trans (b1.mono B0.out.size)));clear E C1 b1 X0 B0;go_wp2
 go_ret
 exact F.out
theorem act_crash {x:Ac} (hk:x.k=4) (hn:¬ no c x.n):(vat c.V x.n=true→actE x c=0∧actC x c = { c with V:=c.V.set x.n.toNat false,P:=Wt.crA c.P x.n })∧(vat c.V x.n=false→actE x c=10∧actC x c=c):=by
 have he:actE x c=if vat c.V x.n=true then 0 else 10:=by
  unfold actE;rw [if_neg (by omega),if_neg (by omega),if_neg (by rintro (g | g | g);omega;omega;exact hn g),if_neg (by omega),if_pos hk]
 refine ⟨fun hv=>?_,fun hv=>?_⟩
 ·rw [hv] at he
  refine ⟨he,?_⟩;unfold actC;rw [if_neg (by omega),if_neg (by rw [he];simp),if_neg (by omega),if_neg (by omega),if_pos hk]
 ·rw [hv] at he
  refine ⟨he,?_⟩;unfold actC;rw [if_neg (by omega),if_pos (by rw [he];decide)]
theorem cdo_crash (h:Cl w s F c t vn L p vq Fs) (ok:OkC c t) (sy:Syn c) (x:Ac) (hk:x.k=4) (hn:¬ no c x.n):Calls Tryz.prog 17 #[ptr s,actV x] w (DoC w s F (actC x c) (t+1) (actE x c)):=by
 have B0:=Lib.hid ((Below.refl w.heap.size w).alloc (Nat.le_refl _) (.cells (actA x) 44));have hn':0≤x.n∧x.n < c.S.length:=by unfold no at hn;omega
 have hnn:=Int.toNat_of_nonneg hn'.1;have C1:=Lib.hid (chas_in (h.below B0.out) (n:=x.n.toNat) (by omega));rw [hnn] at C1
 have C2:Hid (∀ w1,Below (w.alloc (.cells (actA x) 44)).heap.size (w.alloc (.cells (actA x) 44)) w1→Calls Tryz.prog 63 #[ptr s,.int .i64 x.n] w1 (DoC w1 s F (actC x c) t (actE x c))):=Lib.hid (fun w1 b1=>by
  obtain ⟨a1,a2⟩:=act_crash hk hn
  cases hv:vat c.V x.n with
  | true =>
    have q:=ccrash_any ((h.below B0.out).below b1) ok sy (n:=x.n.toNat) (by omega) (by rw [hnn];exact hv);rw [hnn] at q;rw [(a1 hv).1,(a1 hv).2];exact q
  | false =>
    have q:=ccrash_no ((h.below B0.out).below b1) (n:=x.n.toNat) (by omega) (by rw [hnn];exact hv);rw [hnn] at q;rw [(a2 hv).1,(a2 hv).2]
    exact q)
 have E:=Lib.hid (fun w1 (b:Below w.heap.size w w1) e w' (d:DoC w1 s F (actC x c) t (actE x c) e w')=>(d.pre b h.low).late);have X0:=Lib.hid (heap_alloc_new w (.cells (actA x) 44));clear h hn ok sy hn' hnn;generalize actC x c=c' at *;generalize actE x c=ae at *;unfold actV actA at *;unfold ptr at *;obtain ⟨k,n,f,rr,v,s',m,tt⟩:=x;simp only at hk B0 C1 C2 E X0 ⊢;subst hk
 go_enter Tryz.func17,Tryz.ntmps17
 go_wp2_with fail;refine C1.out.mono ?_;rintro e w1 ⟨rfl,b1⟩;have y0:w1.cell? ⟨w.heap.size,0,none⟩=some (.int .i64 4):=(b1.cell (lt_of_block X0.out)).trans (row_cell X0.out 0);have y1:w1.cell? ⟨w.heap.size,1,none⟩=some (.int .i64 n):=(b1.cell (lt_of_block X0.out)).trans (row_cell X0.out 1);have D:=Lib.hid (C2.out w1 b1);have B1:=Lib.hid (B0.out.trans (b1.mono B0.out.size));clear C1 C2 b1 X0 B0;go_wp2_with fail;refine D.out.mono ?_;rintro e w2 d;have G:=Lib.hid (E.out w1 B1.out e w2 d);obtain ⟨rfl,_,_⟩:=d;clear E D y0 y1;go_wp2
 go_ret
 exact G.out
theorem act_restart {x:Ac} (hk:x.k=5) (hn:¬ no c x.n):(vat c.V x.n=false→actE x c=0∧actC x c = { c with V:=c.V.set x.n.toNat true,P:=Wt.rsA c.P x.n })∧(vat c.V x.n=true→actE x c=10∧actC x c=c):=by
 have he:actE x c=if vat c.V x.n=true then 10 else 0:=by
  unfold actE;rw [if_neg (by omega),if_neg (by omega),if_neg (by rintro (g | g | g);omega;omega;exact hn g),if_neg (by omega),if_neg (by omega),if_pos hk]
 refine ⟨fun hv=>?_,fun hv=>?_⟩
 ·rw [hv] at he
  refine ⟨he,?_⟩;unfold actC;rw [if_neg (by omega),if_neg (by rw [he];simp),if_neg (by omega),if_neg (by omega),if_neg (by omega),if_pos hk]
 ·rw [hv] at he
  refine ⟨he,?_⟩;unfold actC;rw [if_neg (by omega),if_pos (by rw [he];decide)]
theorem cdo_restart (h:Cl w s F c t vn L p vq Fs) (ok:OkC c t) (sy:Syn c) (x:Ac) (hk:x.k=5) (hn:¬ no c x.n):Calls Tryz.prog 17 #[ptr s,actV x] w (DoC w s F (actC x c) (t+1) (actE x c)):=by
 have B0:=Lib.hid ((Below.refl w.heap.size w).alloc (Nat.le_refl _) (.cells (actA x) 44));have hn':0≤x.n∧x.n < c.S.length:=by unfold no at hn;omega
 have hnn:=Int.toNat_of_nonneg hn'.1;have C1:=Lib.hid (chas_in (h.below B0.out) (n:=x.n.toNat) (by omega));rw [hnn] at C1
 have C2:Hid (∀ w1,Below (w.alloc (.cells (actA x) 44)).heap.size (w.alloc (.cells (actA x) 44)) w1→Calls Tryz.prog 64 #[ptr s,.int .i64 x.n] w1 (DoC w1 s F (actC x c) t (actE x c))):=Lib.hid (fun w1 b1=>by
  obtain ⟨a1,a2⟩:=act_restart hk hn
  cases hv:vat c.V x.n with
  | false =>
    have q:=crestart_any ((h.below B0.out).below b1) ok sy (n:=x.n.toNat) (by omega) (by rw [hnn];exact hv);rw [hnn] at q;rw [(a1 hv).1,(a1 hv).2];exact q
  | true =>
    have q:=crestart_no ((h.below B0.out).below b1) (n:=x.n.toNat) (by omega) (by rw [hnn];exact hv);rw [hnn] at q;rw [(a2 hv).1,(a2 hv).2]
    exact q)
 have E:=Lib.hid (fun w1 (b:Below w.heap.size w w1) e w' (d:DoC w1 s F (actC x c) t (actE x c) e w')=>(d.pre b h.low).late);have X0:=Lib.hid (heap_alloc_new w (.cells (actA x) 44));clear h hn ok sy hn' hnn;generalize actC x c=c' at *;generalize actE x c=ae at *;unfold actV actA at *;unfold ptr at *;obtain ⟨k,n,f,rr,v,s',m,tt⟩:=x;simp only at hk B0 C1 C2 E X0 ⊢;subst hk
 go_enter Tryz.func17,Tryz.ntmps17
 go_wp2_with fail;refine C1.out.mono ?_;rintro e w1 ⟨rfl,b1⟩;have y0:w1.cell? ⟨w.heap.size,0,none⟩=some (.int .i64 5):=(b1.cell (lt_of_block X0.out)).trans (row_cell X0.out 0);have y1:w1.cell? ⟨w.heap.size,1,none⟩=some (.int .i64 n):=(b1.cell (lt_of_block X0.out)).trans (row_cell X0.out 1);have D:=Lib.hid (C2.out w1 b1);have B1:=Lib.hid (B0.out.trans (b1.mono B0.out.size));clear C1 C2 b1 X0 B0;go_wp2_with fail;refine D.out.mono ?_;rintro e w2 d;have G:=Lib.hid (E.out w1 B1.out e w2 d);obtain ⟨rfl,_,_⟩:=d;clear E D y0 y1;go_wp2
 go_ret
 exact G.out
end
end Go.Proofs.YtljnkaodhfnbbaaGreatDoor.Cu
namespace Go.Proofs.YtljnkaodhfnbbaaGreatDoor.Cu
open Go.RowKit Go.Maps
open Rw (Rd Ow At)
open Fl (R4 K4 okL okR z4 rec4 arr4 row_cell row_frozen)
open Fs (Abs St OkA Only Fx ow_only Wf Glob sA sB dA dE dV dD SetPost set_any DoSPost dos_any)
open Pa (Sts S2 sat vat KN KB K2 ptr wp_push_at)
attribute [local irreducible] Sd.wpSd wpQuiet Sz.wpSz
section
variable {s t p:Nat} {F G:Nat→Prop} {c:Cs} {vn vq:Value} {L:List Nd} {Fs:Nat→Nat→Prop} {w w1 w':World}
theorem cwrite_no (w:World) (g o:Nat) (f r:Int) (x:R4) (c1:w.cell? ⟨g,o+1,none⟩=some (.bool false)):Calls Tryz.prog 62 #[.pointer (some ⟨g,o,none⟩),.int .i64 f,.int .i64 r,rec4 x] w fun e w'=>e = .returned (.int .i64 10)∧Below w.heap.size w w':=by
 have B0:=Lib.hid ((Below.refl w.heap.size w).alloc (Nat.le_refl _) (.cells (arr4 x) 42));have k1:=(B0.out.cell (World.block_lt_of_cell? _ _ c1)).trans c1;clear c1;unfold rec4;unfold arr4 at *
 go_enter Tryz.func62,Tryz.ntmps62
 go_wp2
 go_ret
 exact ⟨rfl,B0.out⟩
def WrC (w:World) (q:Nat) (H:Nat→Prop) (A:Abs) (d:Int) (f r:Int) (x:R4) (e:Ending) (w':World):Prop:=e = .returned (.int .i64 (if sB A f r=true then 0 else 3))∧St w' q (Fx H w w') (sA A f r x) d∧Only H w w'
theorem st_pre {q:Nat} {H:Nat→Prop} {A:Abs} {d:Int} (h:St w' q (Fx H w1 w') A d) (z1:w.heap.size≤w1.heap.size) (z2:w1.heap.size≤w'.heap.size) (low:∀ k,H k→k < w.heap.size):St w' q (Fx H w w') A d:=h.wide (fun k g=>by
 rcases g with g | g
 ·exact .inl g
 ·exact .inr ⟨by omega,g.2⟩) (Fx.low low (Nat.le_trans z1 z2))
set_option maxHeartbeats 1000000 in
theorem cwrite_yes {q:Nat} {H:Nat→Prop} {A:Abs} {d:Int} (S:St w q H A d) (g o:Nat) (c0:w.cell? ⟨g,o,none⟩=some (ptr q)) (c1:w.cell? ⟨g,o+1,none⟩=some (.bool true)) (hg:¬ H g) {f:Int} (hf:Wf f) (r:Int) (x:R4) (hx:okR x):Calls Tryz.prog 62 #[.pointer (some ⟨g,o,none⟩),.int .i64 f,.int .i64 r,rec4 x] w (WrC w q H A d f r x):=by
 have B0:=Lib.hid ((Below.refl w.heap.size w).alloc (Nat.le_refl _) (.cells (arr4 x) 42));have X0:=Lib.hid (heap_alloc_new w (.cells (arr4 x) 42));have k0:=Lib.hid ((B0.out.cell (World.block_lt_of_cell? _ _ c0)).trans c0);have k1:=(B0.out.cell (World.block_lt_of_cell? _ _ c1)).trans c1;have LOW:=Lib.hid S.low;have S0:=Lib.hid (S.below B0.out);have HG:=Lib.hid hg;have HX:Hid (¬ H w.heap.size):=Lib.hid (fun e=>by have:=S.low _ e;omega);have FIN:Hid (∀ w1 w',Below w.heap.size w w1→SetPost w1 q H d (sB A f r) (sA A f r x) (.returned (.bool (sB A f r))) w'→WrC w q H A d f r x (.returned (.int .i64 (if sB A f r=true then 0 else 3))) w'):=Lib.hid (fun w1 w' b h=>⟨rfl,st_pre h.2.1 b.size h.2.2.size LOW.out,(Only.of_below b).trans h.2.2 fun _ _ g=>g⟩);clear c0 c1 S hg;unfold rec4 ptr at *;unfold arr4 at *
 go_enter Tryz.func62,Tryz.ntmps62
 go_upto_region 3 with fail;clear k1;generalize (w.alloc (.cells #[.int .u8 x.1,.int .u8 x.2.1,.int .u8 x.2.2.1,.int .u8 x.2.2.2] 42))=W at *;have BD:=Lib.hid (B0.out.trans ((Below.refl W.heap.size W).drew.mono B0.out.size));have OD:Hid (Only H W W.drew):=Lib.hid (Only.of_below (Below.refl W.heap.size W).drew);have CS:=Lib.hid (set_any (S0.out.below ((Below.refl W.heap.size W).drew)) hf r x hx);unfold SetPost rec4 at CS;generalize w.heap.size=gx at *;have lx:=lt_of_block X0.out;have s0:=Sc.cell_in (C:=fun W'=>Only H W W') (a:=⟨g,o,none⟩) (fun W' oo=>oo.cell k0.out (fun e=>HG.out e));have x0:=Sc.cell_in (C:=fun W'=>Only H W W') (a:=⟨gx,0,none⟩) (fun W' oo=>oo.cell (row_cell X0.out 0) (fun e=>HX.out e));have x1:=Sc.cell_in (C:=fun W'=>Only H W W') (a:=⟨gx,1,none⟩) (fun W' oo=>oo.cell (row_cell X0.out 1) (fun e=>HX.out e));have x2:=Sc.cell_in (C:=fun W'=>Only H W W') (a:=⟨gx,2,none⟩) (fun W' oo=>oo.cell (row_cell X0.out 2) (fun e=>HX.out e));have x3:=Sc.cell_in (C:=fun W'=>Only H W W') (a:=⟨gx,3,none⟩) (fun W' oo=>oo.cell (row_cell X0.out 3) (fun e=>HX.out e));have ne:Nonempty (Sc.In (fun W'=>Only H W W')):=⟨⟨_,OD.out⟩⟩;clear k0 S0;refine Sc.start (fun W'=>Only H W W') [(false,0),(false,1),(false,2),(false,3),(false,4),(false,5),(false,6),(true,7),(false,8)] (by kernel_rfl) (by kernel_rfl) (by kernel_rfl) OD.out ?_;dsimp only [Sd.picks,List.getElem?_cons_succ,List.getElem?_cons_zero]
 iterate 7 (refine Sd.lit ?_;quiet_step (fail);refine wpQuiet_nil ?_)
 clear s0 x0 x1 x2 x3;refine Sd.call (by rfl) (fun K hK=>?_);go_simp;refine CS.out.mono ?_;rintro e w5 ⟨rfl,s5,o5⟩;have E:=Lib.hid (FIN.out W.drew w5 BD.out ⟨rfl,s5,o5⟩);refine hK _ _ (Sc.Cl.of (OD.out.trans o5 fun k _ g=>g)) ?_;clear hK K s5 o5 CS FIN;generalize sB A f r=bq at *
 iterate 1 (refine Sd.lit ?_;quiet_step (fail);refine wpQuiet_nil ?_)
 refine Sd.done ?_
 cases bq with
 | true =>
   go_wp2
   go_ret
   exact E.out
 | false =>
   go_wp2
   go_ret
   exact E.out
theorem infoS2:(Tryz.prog.info? 155).map (fun i=>(i.zero,i.size,i.bytes))=some (some (.agg #[.int .i64 0,.int .i64 0]),2,16):=by kernel_rfl
theorem cspoil_full (h:Cl w s F c t vn L p vq Fs) (x:S2) (hq:c.Q.length=32):Calls Tryz.prog 60 #[ptr s,.agg #[.int .i64 x.1,.int .i64 x.2]] w (DoC w s F c t 11):=by
 have B0:=Lib.hid ((Below.refl w.heap.size w).alloc (Nat.le_refl _) (.cells #[.int .i64 x.1,.int .i64 x.2] 155));have k3:=(h.below B0.out).cells.2.2.2;have E:=Lib.hid (doc_below h B0.out 11);obtain ⟨qa,qc,rfl,_⟩:=h.sp.slice;rw [hq] at k3;clear h hq;unfold ptr at *
 go_enter Tryz.func60,Tryz.ntmps60
 go_wp2
 go_ret
 exact E.out
set_option maxHeartbeats 1000000 in
theorem cspoil_any (h:Cl w s F c t vn L p vq Fs) (x:S2) (hq:c.Q.length < 32):Calls Tryz.prog 60 #[ptr s,.agg #[.int .i64 x.1,.int .i64 x.2]] w (DoC w s F { c with Q:=c.Q ++ [x] } t 0):=by
 have B0:=Lib.hid ((Below.refl w.heap.size w).alloc (Nat.le_refl _) (.cells #[.int .i64 x.1,.int .i64 x.2] 155));have X0:=Lib.hid (heap_alloc_new w (.cells #[.int .i64 x.1,.int .i64 x.2] 155));have H:=Lib.hid (h.below B0.out)
 have FIN:Hid (∀ w1 w' v,Below w.heap.size w w1→Ow K2 w' 0 155 v (c.Q ++ [x])→w1.grownBy w' vq.ownBlock→(v.ownBlock=vq.ownBlock∨∃ g,v.ownBlock=some g∧w1.heap.size≤g)→DoC w s F { c with Q:=c.Q ++ [x] } t 0 (.returned (.int .i64 0)) (w'.setCell ⟨s,3,none⟩ v)):=Lib.hid (fun w1 w' v b ow gr hv=>by
  have h1:=h.below b;have o1:Only F w1 w':=(Pa.only_grown gr).mono fun k _ e=>h.fv k (.inr e);have oq:=Pa.only_grown gr;have lv:∀ k,v.ownBlock=some k→k < w'.heap.size:=fun k e=>(World.ownsRow.lt ow k e).2;have z1:=b.size;have z2:=gr.size;have h2:Cl w' s (Fx F w w') { c with Q:=c.Q } t vn L p vq Fs∨True:=.inr trivial;have sp_old:∀ i,i < L.length→St w' (nda L i).s (Fs i) (sat c.S i).1 (sat c.S i).2:=fun i hi=>(h1.st i hi).only (fun k g e=>(h1.off i hi k g).2.2.2 e) oq;have vF:∀ k,v.ownBlock=some k→Fx F w w' k:=fun k e=>by
   rcases hv with q | ⟨g,q,hg⟩
   ·exact .inl (h.fv k (.inr (by rw [← q];exact e)))
   ·rw [q] at e
    injection e with e;subst e;exact .inr ⟨by omega,lv _ q⟩
  have nF:∀ i,i < L.length→∀ k,Fs i k→v.ownBlock≠some k:=fun i hi k g e=>by
   rcases hv with q | ⟨j,q,hj⟩
   ·exact (h.off i hi k g).2.2.2 (by rw [← q];exact e)
   ·rw [q] at e
    injection e with e;have:=h.low k (h.ff i hi k g)
    omega
  have o3:Only (fun k=>k=s) w' (w'.setCell ⟨s,3,none⟩ v):=Only.set (fun k=>k=s) w' (a:=⟨s,3,none⟩) rfl _;have ow3:Only F w (w'.setCell ⟨s,3,none⟩ v):=((Only.of_below b).trans o1 fun _ _ g=>g).trans o3 fun k _ e=>by rw [e];exact h.fs
  have sne:vq.ownBlock≠some s:=h.vs.2;have row1:w'.heap[s]? = some (.cells #[vn,ptr p,.int .i64 c.pl,vq] 137 (0,0)):=(oq.block s h1.slt (fun e=>sne e)).trans h1.row;have row2:(w'.setCell ⟨s,3,none⟩ v).heap[s]? = some (.cells #[vn,ptr p,.int .i64 c.pl,v] 137 (0,0)):=Rw.heap_setCell_same (j:=3) row1 _;have hzz:(w'.setCell ⟨s,3,none⟩ v).heap.size=w'.heap.size:=by simp [World.setCell]
  refine ⟨rfl,⟨vn,L,p,v,Fs,?_⟩,ow3⟩;refine ⟨row2,ow_only (ow_only h1.no (fun k e q=>h1.vv k e q) oq) (fun k e q=>h1.vs.1 (by rw [e,q])) o3,h.len,fun i hi=>(sp_old i hi).only (fun k g e=>(h.off i hi k g).1 e) o3,h.lv,h.rt,?_,ow_only ow (fun k e q=>ow.apart row1 (by decide) (by rw [e,q])) o3,.inl h.fs,.inl h.fp,fun k q=>?_,fun i hi k g=>.inl (h.ff i hi k g),h.dis,fun i hi k g=>?_,Fx.low h.low ow3.size⟩
  ·exact (h1.pr.only oq (fun e=>h1.vp.2 e)).only o3 (fun e=>h1.sp_ne e.symm)
  ·rcases q with q | q
   ·exact .inl (h.fv k (.inl q))
   ·rcases vF k q with g | g
    ·exact .inl g
    ·exact .inr ⟨g.1,by rw [hzz];exact g.2⟩
  ·have:=h.off i hi k g
   exact ⟨this.1,this.2.1,this.2.2.1,nF i hi k g⟩)
 obtain ⟨qa,qc,rfl,_⟩:=h.sp.slice;have HQ:=Lib.hid hq;have QL:Hid (∀ k,(Value.slice qa c.Q.length qc).ownBlock=some k→k≠w.heap.size):=Lib.hid (fun k e=>by have:=h.low k (h.fv k (.inr e));omega);have k3:=H.out.cells.2.2.2;have p6:decide ((32:Int)≤(c.Q.length:Int))=false:=decide_eq_false (by omega);have p7:decide (32≤c.Q.length)=false:=decide_eq_false (by omega);clear h hq;generalize hln:c.Q.length=ln at *;have HLN:=Lib.hid hln;clear hln;unfold ptr at *
 go_enter Tryz.func60,Tryz.ntmps60
 go_upto_region 3 with fail;clear k3 p6 p7;generalize (w.alloc (.cells #[.int .i64 x.1,.int .i64 x.2] 155))=W at *;generalize w.heap.size=gx at X0 QL ⊢;have BD:=Lib.hid (Below.refl W.heap.size W).drew;have NQ:Hid (∀ k,(Value.slice qa ln qc).ownBlock=some k→k≠gx∧k≠s):=Lib.hid (fun k e=>⟨QL.out k e,fun g=>H.out.vs.2 (by rw [e,g])⟩);have OD:Hid (Only (fun k=>(Value.slice qa ln qc).ownBlock=some k) W W.drew):=Lib.hid (Only.of_below BD.out);have x0:=Sc.cell_in (C:=fun W'=>Only (fun k=>(Value.slice qa ln qc).ownBlock=some k) W W') (a:=⟨gx,0,none⟩) (fun W' oo=>oo.cell (row_cell X0.out 0) (fun e=>(NQ.out _ e).1 rfl));have x1:=Sc.cell_in (C:=fun W'=>Only (fun k=>(Value.slice qa ln qc).ownBlock=some k) W W') (a:=⟨gx,1,none⟩) (fun W' oo=>oo.cell (row_cell X0.out 1) (fun e=>(NQ.out _ e).1 rfl));have s3:=Sc.cell_in (C:=fun W'=>Only (fun k=>(Value.slice qa ln qc).ownBlock=some k) W W') (a:=⟨s,3,none⟩) (fun W' oo=>oo.cell H.out.cells.2.2.2 (fun e=>(NQ.out _ e).2 rfl));have ne:Nonempty (Sc.In (fun W'=>Only (fun k=>(Value.slice qa ln qc).ownBlock=some k) W W')):=⟨⟨_,OD.out⟩⟩;refine Sz.start (fun W'=>Only (fun k=>(Value.slice qa ln qc).ownBlock=some k) W W') [(false,0),(false,1),(false,2),(false,3),(false,4),(false,5),(true,6),(true,7),(false,8),(false,9)] 10 (by kernel_rfl) (by kernel_rfl) (by kernel_rfl) rfl rfl OD.out ?_;dsimp only [Sd.picks,List.getElem?_cons_succ,List.getElem?_cons_zero]
 repeat (refine Sz.lit ?_;quiet_step (fail);refine wpQuiet_nil ?_)
 clear x0 x1 s3;have HD:=Lib.hid (H.out.below BD.out);generalize W.drew=w4 at *;refine Sz.call (by rfl) (fun K hK=>?_);go_simp;have B5:=Lib.hid (Below.alloc (Below.refl w4.heap.size w4) (Nat.le_refl _) (.cells #[.int .i64 x.1,.int .i64 x.2] 155));have Y5:=Lib.hid (heap_alloc_new w4 (.cells #[.int .i64 x.1,.int .i64 x.2] 155));have H5:=Lib.hid (HD.out.below B5.out);have BW:=Lib.hid ((B0.out.trans (BD.out.mono B0.out.size)).trans (B5.out.mono (Nat.le_trans B0.out.size BD.out.size)));have O5:=Lib.hid (OD.out.trans (Only.of_below (G:=fun k=>(Value.slice qa ln qc).ownBlock=some k) B5.out) fun _ _ g=>g);refine hK _ _ (Sc.Cl.of O5.out) ?_;clear hK K HD B5;generalize (w4.alloc (.cells #[.int .i64 x.1,.int .i64 x.2] 155))=w5 at *;generalize w4.heap.size=g4 at *;refine Sz.call (by rfl) (fun K hK=>?_);refine wp_push_at (K:=K2) Tryz.underlying37 infoS2 rfl (by omega) _ _ rfl 0 _ _ rfl H5.out.sp ⟨g4,0,none⟩ x rfl ?a1 ?a2 (Nat.zero_le _) ?_
 case a1 =>
  intro j u hu
  have c:=row_cell Y5.out j
  match j,hu with
  | 0,hu=>simp [K2] at hu;subst hu;exact c
  | 1,hu=>simp [K2] at hu;subst hu;exact c
  | j+2,hu=>simp [K2] at hu
 case a2=>have:=HLN.out;have:=HQ.out;omega
 intro v6 w6 o6 g6 h6
 have O6:=O5.out.trans (Pa.only_grown g6) fun _ _ g=>g;have c6:w6.cell? ⟨s,3,none⟩=some (.slice qa ln qc):=O6.cell H.out.cells.2.2.2 (fun e=>(NQ.out _ e).2 rfl);have e6:w6.frozen? ⟨s,3,none⟩=false:=row_frozen (((Pa.only_grown g6).block s H5.out.slt (fun e=>(NQ.out _ e).2 rfl)).trans H5.out.row) 3;have E:=Lib.hid (FIN.out w5 w6 v6 BW.out o6 g6 h6);obtain ⟨v6a,v6c,n6,rfl⟩:∃ a c n,v6 = .slice a n c:=by obtain ⟨a,c,e,_⟩:=o6.slice;exact ⟨a,c,_,e⟩
 refine hK _ _ (Sc.Cl.of O6) ?_;clear hK K o6 g6 h6 FIN O6 H5 Y5 O5 BW
 repeat (refine Sz.lit ?_;quiet_step (fail);refine wpQuiet_nil ?_)
 refine Sz.done ?_;go_simp;clear c6 e6;generalize (w6.setCell ⟨s,3,none⟩ (.slice v6a n6 v6c))=w8 at *;refine NoPanic.normal ?_;go_wp2
 go_ret
 exact E.out
theorem act_spoil {x:Ac} (hk:x.k=3):(c.Q.length=32→actE x c=11∧actC x c=c)∧(c.Q.length≠32→actE x c=0∧actC x c = { c with Q:=c.Q ++ [(x.s,x.m)] }):=by
 have he:actE x c=if c.Q.length=32 then 11 else 0:=by
  unfold actE;rw [if_neg (by omega),if_pos hk]
 refine ⟨fun hq=>?_,fun hq=>?_⟩
 ·rw [if_pos hq] at he
  refine ⟨he,?_⟩;unfold actC;rw [if_neg (by omega),if_pos (by rw [he];decide)]
 ·rw [if_neg hq] at he
  refine ⟨he,?_⟩;unfold actC;rw [if_neg (by omega),if_neg (by rw [he];simp),if_pos hk]
theorem cdo_spoil (h:Cl w s F c t vn L p vq Fs) (ok:OkC c t) (x:Ac) (hk:x.k=3):Calls Tryz.prog 17 #[ptr s,actV x] w (DoC w s F (actC x c) (t+1) (actE x c)):=by
 have B0:=Lib.hid ((Below.refl w.heap.size w).alloc (Nat.le_refl _) (.cells (actA x) 44));have C2:Hid (Calls Tryz.prog 60 #[ptr s,.agg #[.int .i64 x.s,.int .i64 x.m]] (w.alloc (.cells (actA x) 44)) (DoC (w.alloc (.cells (actA x) 44)) s F (actC x c) t (actE x c))):=by
  obtain ⟨a1,a2⟩:=act_spoil (c:=c) hk
  by_cases hq:c.Q.length=32
  ·rw [(a1 hq).1,(a1 hq).2]
   exact cspoil_full (h.below B0.out) (x.s,x.m) hq
  ·rw [(a2 hq).1,(a2 hq).2]
   exact cspoil_any (h.below B0.out) (x.s,x.m) (by have:=ok.few;omega)
 have E:=Lib.hid (fun e w' (d:DoC (w.alloc (.cells (actA x) 44)) s F (actC x c) t (actE x c) e w')=>(d.pre B0.out h.low).late);clear h ok;generalize actC x c=c' at *;generalize actE x c=ae at *;unfold actV actA at *;unfold ptr at *;obtain ⟨k,n,f,rr,v,s',m,tt⟩:=x;simp only at hk B0 C2 E ⊢;subst hk
 go_enter Tryz.func17,Tryz.ntmps17
 go_wp2_with fail;refine C2.out.mono ?_;rintro e w2 d;have G:=Lib.hid (E.out e w2 d);obtain ⟨rfl,_,_⟩:=d;clear E C2;go_wp2
 go_ret
 exact G.out
end
end Go.Proofs.YtljnkaodhfnbbaaGreatDoor.Cu
namespace Go.Proofs.YtljnkaodhfnbbaaGreatDoor.Bu
open Go.RowKit
open Tk (GoodP goodB goodB_true goodB_no good_any)
def anyN (p:Nat→Bool) (n:Nat):Bool:=(List.range n).any p
theorem anyN_yes {p:Nat→Bool} {n k:Nat} (hk:k < n) (h:p k=true):anyN p n=true:=List.any_eq_true.2 ⟨k,List.mem_range.2 hk,h⟩
theorem anyN_no {p:Nat→Bool} {n:Nat} (h:∀ j,j < n→p j=false):anyN p n=false:=List.any_eq_false.2 fun j hj=>by rw [h j (List.mem_range.1 hj)];exact Bool.false_ne_true
def IdxPost (w:World) (b:Bool) (e:Ending) (w':World):Prop:=∃ r:Int,e = .returned (.int .i64 r)∧decide (0≤r)=b∧Below w.heap.size w w'
theorem idx_yes {w w':World} {b:Bool} {k:Nat} (h:b=true) (hb:Below w.heap.size w w'):IdxPost w b (.returned (.int .i64 k)) w':=⟨k,rfl,by rw [h];simp,hb⟩
theorem idx_no {w w':World} {b:Bool} (h:b=false) (hb:Below w.heap.size w w'):IdxPost w b (.returned (.int .i64 (-1))) w':=⟨-1,rfl,by rw [h];decide,hb⟩
set_option maxHeartbeats 1000000 in
theorem sindex_any (w:World) (v:Value) (n:Nat) (A R:Nat→Int) (S:Tk.Steps w v n A R) (g:Nat) (p:Nat→Bool) (eg:∀ args w,(callFunc g args).run Tryz.prog w = .ok (.enter g args) w)
 (hp:∀ W i,i < n→Calls Tryz.prog g #[.agg #[.int .i64 (A i),.int .i64 (R i)]] W fun e w'=>e = .returned (.bool (p i))∧Below W.heap.size W w') :
 Calls Tryz.prog 185 #[v,.func (.func g) #[] #[]] w (IdxPost w (anyN p n)):=by
 obtain ⟨a,cap,rfl,hm1,hm⟩:=steps_form S;have ST:=Lib.hid (fun hp=>(steps_at S hp).2);have HP:=Lib.hid hp;have YES:Hid (∀ k,k < n→p k=true→anyN p n=true):=Lib.hid (fun k hk h=>anyN_yes hk h);have NO:Hid ((∀ j,j < n→p j=false)→anyN p n=false):=Lib.hid (fun h=>anyN_no h);clear S hp;generalize anyN p n=q at *;unfold maxLen at hm
 go_enter Tryz.func185,Tryz.ntmps185
 go_wp2
 go_loopw [8] (fun i wr=>∃ k:Nat,k≤n∧i = .int .i64 k∧Hid (∀ j,j < k→p j=false)∧Hid (Below w.heap.size w wr)) (fun i _=>n - (intOf i).toNat)
 case atStart=>exact ⟨0,Nat.zero_le _,rfl,fun j hj=>by omega,Below.refl _ _⟩
 case round =>
  obtain ⟨k,hk,rfl,hs,hb⟩:=hrel
  by_cases hlt:k < n
  ·obtain ⟨b,off,rfl,hA⟩:=ST.out (by omega)
   obtain ⟨c1,c2⟩:=hA k hlt;have HA:=Lib.hid hA;clear hA;have d1:=(hb.out.cell (World.block_lt_of_cell? _ _ c1)).trans c1;have d2:=(hb.out.cell (World.block_lt_of_cell? _ _ c2)).trans c2;clear c1 c2;have hc:=HP.out wr k hlt
   cases hq:p k with
   | true =>
     rw [hq] at hc;have C:=Lib.hid hc;have HR:=Lib.hid (YES.out k hlt hq);clear hc hq;go_wp2_with fail;refine C.out.mono ?_;rintro e w1 ⟨rfl,b1⟩;have B1:=Lib.hid (hb.out.trans (b1.mono hb.out.size));clear b1;go_wp2
     go_ret
     exact idx_yes HR.out B1.out
   | false =>
     rw [hq] at hc;have C:=Lib.hid hc;have ST:Hid (∀ j,j < k+1→p j=false):=fun j hj=>by
      by_cases e:j=k
      ·rw [e];exact hq
      ·exact hs.out j (by omega)
     clear hc hq;go_wp2_with fail;refine C.out.mono ?_;rintro e w1 ⟨rfl,b1⟩;have B1:=Lib.hid (hb.out.trans (b1.mono hb.out.size));clear b1;go_wp2
     go_roundw
     case rel=>exact ⟨k+1,by omega,by go_num,ST,B1⟩
     case measure=>simp [intOf];omega
  ·obtain rfl:k=n:=by omega
   have HR:=Lib.hid (NO.out hs.out);go_wp2
   go_ret
   exact idx_no HR.out hb.out
theorem scontains_any (w:World) (v:Value) (n:Nat) (A R:Nat→Int) (S:Tk.Steps w v n A R) (g:Nat) (p:Nat→Bool) (eg:∀ args w,(callFunc g args).run Tryz.prog w = .ok (.enter g args) w)
 (hp:∀ W i,i < n→Calls Tryz.prog g #[.agg #[.int .i64 (A i),.int .i64 (R i)]] W fun e w'=>e = .returned (.bool (p i))∧Below W.heap.size W w') :
 Calls Tryz.prog 142 #[v,.func (.func g) #[] #[]] w fun e w'=>e = .returned (.bool (anyN p n))∧Below w.heap.size w w':=by
 have C:=Lib.hid (sindex_any w v n A R S g p eg hp);clear eg hp S;generalize anyN p n=q at *
 go_enter Tryz.func142,Tryz.ntmps142
 go_wp2_with fail;refine C.out.mono ?_;rintro e w1 ⟨r,rfl,hr,b1⟩;have HR:=Lib.hid hr;clear hr;go_wp2
 go_ret
 exact ⟨Tk.ret_bool HR.out,b1⟩
set_option maxHeartbeats 1000000 in
theorem lindex_any (w:World) (v:Value) (O:List Osc) (S:OsL w v O) (g:Nat) (lb:Array Value) (p:Nat→Bool) (eg:∀ args w,(callFunc g args).run Tryz.prog w = .ok (.enter g args) w)
 (hp:∀ W i,i < O.length→Below w.heap.size w W→∀ u,Tk.Steps W u (osc O i).n (osc O i).A (osc O i).R→Calls Tryz.prog g (#[u] ++ lb) W fun e w'=>e = .returned (.bool (p i))∧Below W.heap.size W w') :
 Calls Tryz.prog 186 #[v,.func (.func g) #[] lb] w (IdxPost w (anyN p O.length)):=by
 have S0:=Lib.hid S;obtain ⟨a,cap,rfl,hm1,hm⟩:=S.slice;have HP:=Lib.hid hp;have YES:Hid (∀ k,k < O.length→p k=true→anyN p O.length=true):=Lib.hid (fun k hk h=>anyN_yes hk h);have NO:Hid ((∀ j,j < O.length→p j=false)→anyN p O.length=false):=Lib.hid (fun h=>anyN_no h);clear S hp;generalize anyN p O.length=q at *;unfold maxLen at hm;generalize hn:O.length=n at *;have HN:=Lib.hid hn;clear hn
 go_enter Tryz.func186,Tryz.ntmps186
 go_wp2
 go_loopw [8] (fun i wr=>∃ k:Nat,k≤n∧i = .int .i64 k∧Hid (∀ j,j < k→p j=false)∧Hid (Below w.heap.size w wr)) (fun i _=>n - (intOf i).toNat)
 case atStart=>exact ⟨0,Nat.zero_le _,rfl,fun j hj=>by omega,Below.refl _ _⟩
 case round =>
  obtain ⟨k,hk,rfl,hs,hb⟩:=hrel
  by_cases hlt:k < n
  ·obtain ⟨b,off,cp,a',cap',e1,c1,_,st⟩:=S0.out.one (k:=k) (by have:=HN.out;omega)
   rw [HN.out] at e1;injection e1 with e1 _ e2;subst e1 e2;have d1:=(hb.out.cell (World.block_lt_of_cell? _ _ c1)).trans c1;have hc:=HP.out wr k hlt hb.out _ (st.below hb.out);clear c1 st;generalize (osc O k).n=m at *
   cases hq:p k with
   | true =>
     rw [hq] at hc;have C:=Lib.hid hc;have HR:=Lib.hid (YES.out k hlt hq);clear hc hq;go_wp2_with fail;refine C.out.mono ?_;rintro e w1 ⟨rfl,b1⟩;have B1:=Lib.hid (hb.out.trans (b1.mono hb.out.size));clear b1;go_wp2
     go_ret
     exact idx_yes HR.out B1.out
   | false =>
     rw [hq] at hc;have C:=Lib.hid hc;have ST:Hid (∀ j,j < k+1→p j=false):=fun j hj=>by
      by_cases e:j=k
      ·rw [e];exact hq
      ·exact hs.out j (by omega)
     clear hc hq;go_wp2_with fail;refine C.out.mono ?_;rintro e w1 ⟨rfl,b1⟩;have B1:=Lib.hid (hb.out.trans (b1.mono hb.out.size));clear b1;go_wp2
     go_roundw
     case rel=>exact ⟨k+1,by omega,by go_num,ST,B1⟩
     case measure=>simp [intOf];omega
  ·obtain rfl:k=n:=by omega
   have HR:=Lib.hid (NO.out hs.out);go_wp2
   go_ret
   exact idx_no HR.out hb.out
theorem lcontains_any (w:World) (v:Value) (O:List Osc) (S:OsL w v O) (g:Nat) (lb:Array Value) (p:Nat→Bool) (eg:∀ args w,(callFunc g args).run Tryz.prog w = .ok (.enter g args) w)
 (hp:∀ W i,i < O.length→Below w.heap.size w W→∀ u,Tk.Steps W u (osc O i).n (osc O i).A (osc O i).R→Calls Tryz.prog g (#[u] ++ lb) W fun e w'=>e = .returned (.bool (p i))∧Below W.heap.size W w') :
 Calls Tryz.prog 143 #[v,.func (.func g) #[] lb] w fun e w'=>e = .returned (.bool (anyN p O.length))∧Below w.heap.size w w':=by
 have C:=Lib.hid (lindex_any w v O S g lb p eg hp);clear eg hp S;generalize anyN p O.length=q at *
 go_enter Tryz.func143,Tryz.ntmps143
 go_wp2_with fail;refine C.out.mono ?_;rintro e w1 ⟨r,rfl,hr,b1⟩;have HR:=Lib.hid hr;clear hr;go_wp2
 go_ret
 exact ⟨Tk.ret_bool HR.out,b1⟩
def wildB (r:Int):Bool:=decide (r < -2000) || decide (2000 < r)
theorem wild_any (w:World) (a r:Int):Calls Tryz.prog 140 #[.agg #[.int .i64 a,.int .i64 r]] w fun e w'=>e = .returned (.bool (wildB r))∧Below w.heap.size w w':=by
 have HB:=Lib.hid ((Below.refl w.heap.size w).alloc (Nat.le_refl _) (.cells #[.int .i64 a,.int .i64 r] 108))
 by_cases h1:r < -2000
 ·have e:Hid (wildB r=true):=Lib.hid (by unfold wildB;rw [decide_eq_true h1];rfl)
  rw [e.out]
  go_enter Tryz.func140,Tryz.ntmps140
  go_wp2
  go_ret
  exact ⟨rfl,HB.out⟩
 ·have e:Hid (wildB r=decide (2000 < r)):=Lib.hid (by unfold wildB;rw [decide_eq_false h1];rfl)
  rw [e.out]
  go_enter Tryz.func140,Tryz.ntmps140
  go_wp2
  go_ret
  exact ⟨rfl,HB.out⟩
theorem calm_by {o:Osc} (h:goodB o.n o.A o.R=true):(!calmB o)=anyN (fun i=>wildB (o.R i)) o.n:=by
 cases c:calmB o with
 | true =>
   have g:=of_calmB c;rw [anyN_no fun j hj=>?_]
   ·rfl
   ·have:=g.bd j hj
    unfold wildB;rw [decide_eq_false (by omega),decide_eq_false (by omega)]
    rfl
 | false =>
   cases q:anyN (fun i=>wildB (o.R i)) o.n with
   | true=>rfl
   | false =>
     exfalso
     have:calmB o=true:=calmB_yes ⟨goodB_true.1 h,by omega,fun i hi=>by
      have:=List.any_eq_false.1 q i (List.mem_range.2 hi);unfold wildB at this;simp only [Bool.or_eq_true,decide_eq_true_eq,not_or] at this
      omega⟩
     rw [c] at this
     cases this
theorem calm_bad {o:Osc} (h:goodB o.n o.A o.R=false):(!calmB o)=true:=by
 rw [calmB_no fun g=>by rw [Tk.goodB_yes g.good] at h;cases h]
 rfl
set_option maxHeartbeats 1000000 in
theorem unfit_any (w:World) (B:Nat) (hc:w.cell? ⟨B,0,none⟩=some (.func (.func 140) #[] #[])) (u:Value) (o:Osc) (S:Tk.Steps w u o.n o.A o.R) :
 Calls Tryz.prog 141 #[u,.pointer (some ⟨B,0,none⟩)] w fun e w'=>e = .returned (.bool (!calmB o))∧Below w.heap.size w w':=by
 have eg:∀ args w,(callFunc 140 args).run Tryz.prog w = .ok (.enter 140 args) w:=enters_of Tryz.func140 (by kernel_rfl) rfl;have GA:=Lib.hid (good_any w u o.n o.A o.R S);have CA:=Lib.hid (fun W b=>scontains_any W u o.n o.A o.R (S.below (w':=W) b) 140 (fun i=>wildB (o.R i)) eg fun W i _=>wild_any W (o.A i) (o.R i));obtain ⟨a,cap,rfl,_⟩:=steps_form S;clear S eg;have YES:=fun h=>calm_by (o:=o) h;have NO:=fun h=>calm_bad (o:=o) h;generalize goodB o.n o.A o.R=g at *;generalize anyN (fun i=>wildB (o.R i)) o.n=q at *;generalize (!calmB o)=r at *
 cases g with
 | true =>
   have E:=Lib.hid (YES rfl);clear YES NO
   go_enter Tryz.func141,Tryz.ntmps141
   go_wp2_with fail;refine GA.out.mono ?_;rintro e w1 ⟨rfl,b1⟩;have c1:=(b1.cell (World.block_lt_of_cell? _ _ hc)).trans hc;have C1:=Lib.hid (CA.out w1 b1);have B1:=Lib.hid b1;clear b1 CA GA hc;go_wp2_with fail;refine C1.out.mono ?_;rintro e w2 ⟨rfl,b2⟩;have B2:=Lib.hid (B1.out.trans (b2.mono B1.out.size));clear b2;go_wp2
   go_ret
   exact ⟨Tk.ret_bool E.out.symm,B2.out⟩
 | false =>
   have E:=Lib.hid (NO rfl);clear YES NO
   go_enter Tryz.func141,Tryz.ntmps141
   go_wp2_with fail;refine GA.out.mono ?_;rintro e w1 ⟨rfl,b1⟩;have B1:=Lib.hid b1;clear b1 CA GA hc;go_wp2
   go_ret
   exact ⟨Tk.ret_bool E.out.symm,B1.out⟩
theorem calmLB_by (O:List Osc):(!anyN (fun i=>!calmB (osc O i)) O.length)=calmLB O:=by
 cases c:calmLB O with
 | true =>
   rw [anyN_no fun j hj=>?_]
   ·rfl
   ·rw [calmB_yes (of_calmLB c _ (osc_mem hj))];rfl
 | false =>
   obtain ⟨o,ho,hc⟩:=List.all_eq_false.1 c;obtain ⟨i,hi,rfl⟩:=List.getElem_of_mem ho;have e:osc O (i:Int)=O[i]:=by unfold osc;rw [Int.toNat_natCast,List.getD_eq_getElem?_getD,List.getElem?_eq_getElem hi];rfl
   rw [anyN_yes (k:=i) hi (by rw [e];simpa using hc)]
   rfl
theorem cell_fn (w:World) (f:Nat) (t:TypeId):(w.alloc (.cells #[.func (.func f) #[] #[]] t)).cell? ⟨w.heap.size,0,none⟩=some (.func (.func f) #[] #[]):=by go_simp
set_option maxHeartbeats 1000000 in
theorem calm_any (w:World) (v:Value) (O:List Osc) (S:OsL w v O):Calls Tryz.prog 80 #[v] w fun e w'=>e = .returned (.bool (calmLB O))∧Below w.heap.size w w':=by
 have eg:∀ args w,(callFunc 141 args).run Tryz.prog w = .ok (.enter 141 args) w:=enters_of Tryz.func141 (by kernel_rfl) rfl;have b0:=(Below.refl w.heap.size w).alloc (Nat.le_refl _) (.cells #[.func (.func 140) #[] #[]] 242);have c0:=cell_fn w 140 242;have CA:=Lib.hid (lcontains_any _ v O (S.below b0) 141 #[.pointer (some ⟨w.heap.size,0,none⟩)] (fun i=>!calmB (osc O i)) eg fun W i _ hb u hu=>unfit_any W w.heap.size ((hb.cell (World.block_lt_of_cell? _ _ c0)).trans c0) u (osc O i) hu);have B0:=Lib.hid b0;obtain ⟨a,cap,rfl,_⟩:=S.slice;have E:=Lib.hid (calmLB_by O);clear b0 c0 eg S;generalize O.length=n at *;generalize anyN (fun i=>!calmB (osc O i)) n=q at *;have hst:∀ (W:World) (p:Addr),(store p (Value.func (Fn.func 140) #[] #[])).run Tryz.prog W=stored Tryz.prog W p (Value.func (Fn.func 140) #[] #[]) .plain:=fun W p=>run_store _ W p _ _ rfl
 go_enter Tryz.func80,Tryz.ntmps80
 go_wp2_with fail;refine CA.out.mono ?_;rintro e w1 ⟨rfl,b1⟩;have B1:=Lib.hid (B0.out.trans (b1.mono B0.out.size));clear b1 CA;go_wp2
 go_ret
 exact ⟨Tk.ret_bool E.out,B1.out⟩
end Go.Proofs.YtljnkaodhfnbbaaGreatDoor.Bu
namespace Go.Proofs.YtljnkaodhfnbbaaGreatDoor.Bu
open Go.RowKit
open Sp (S2 fr tp Sp)
open Rw (Rd Ow At)
open Wi (Plain PlainOf Low low_nil low_append low_cons Rows tot JoinOf)
open Ck (Hd sl zh KS)
structure HdI (w:World) (v:Value) (hs:List Hd) (ls:List (List S2)) (Q:Int→Prop) (k:Nat) (wr:World):Prop where
 own:Ow KS wr w.heap.size 95 v hs
 el:∀ i,i < hs.length→Sp.Own wr w.heap.size 186 (sl (hs.getD i zh)) (ls.getD i [])
 ll:ls.length=hs.length
 few:∀ i,i < ls.length→(ls.getD i []).length≤4294967297
 low:∀ u,(∃ i,i < ls.length∧Low (ls.getD i []) u)↔Q u
 len:hs.length≤k
 bel:Below w.heap.size w wr
section
variable {w wr w':World} {v v':Value} {hs:List Hd} {ls:List (List S2)} {Q Q':Int→Prop} {k:Nat}
theorem HdI.start (w:World) (b:Below w.heap.size w wr) (hQ:∀ u,¬ Q u):HdI w (.slice none 0 0) [] [] Q 0 wr :=
 ⟨Ow.nil _ _ _,fun _ hi=>absurd hi (Nat.not_lt_zero _),rfl,fun _ hi=>absurd hi (Nat.not_lt_zero _),fun u=>⟨fun ⟨_,hi,_⟩=>absurd hi (Nat.not_lt_zero _),fun h=>absurd h (hQ u)⟩,Nat.le_refl _,b⟩
theorem HdI.below (h:HdI w v hs ls Q k wr) (b:Below wr.heap.size wr w'):HdI w v hs ls Q k w':=⟨h.own.keep b,fun i hi=>(h.el i hi).keep b,h.ll,h.few,h.low,h.len,h.bel.trans (b.mono h.bel.size)⟩
theorem HdI.to (h:HdI w v hs ls Q k wr) (e:∀ u,Q' u↔Q u):HdI w v hs ls Q' (k+1) wr:=⟨h.own,h.el,h.ll,h.few,fun u=>(h.low u).trans (e u).symm,Nat.le_succ_of_le h.len,h.bel⟩
theorem own_grown {B E B' E' n m:Nat} {l:List S2} {f:List Value} (h:Sp.Own wr B E v l) (h':wr.ownsRow B' E' n v' m f) (hE:E≠E') (gr:wr.grownBy w' v'.ownBlock):Sp.Own w' B E v l:=by
 obtain ⟨h1,h2⟩:=h;refine ⟨h1,?_⟩
 rcases h2 with h2 | ⟨g,cap,cur,e,hB,hh,r⟩
 ·exact .inl h2
 ·refine .inr ⟨g,cap,cur,e,hB,(gr.block g (lt_of_block hh) fun q=>?_).trans hh,r⟩
  obtain ⟨_,h'⟩:=h'
  rcases h' with ⟨rfl,_⟩ | ⟨g',cap',cur',rfl,_,hh',_⟩
  ·cases q
  ·simp only [Value.ownBlock,Option.some.injEq] at q
   subst q;rw [hh] at hh';simp only [Option.some.injEq,Obj.cells.injEq] at hh';exact hE hh'.2.1
theorem getD_snoc {α:Type} (l:List α) (x d:α) (i:Nat):(l ++ [x]).getD i d=if i < l.length then l.getD i d else if i=l.length then x else d:=by
 rw [List.getD_eq_getElem?_getD,List.getElem?_append]
 split
 ·rw [List.getD_eq_getElem?_getD]
 ·split
  ·rename_i h;subst h;simp
  ·rw [List.getElem?_eq_none (by simp;omega)];rfl
theorem HdI.push {h:Hd} {l:List S2} (I:HdI w v hs ls Q k wr) (o:Sp.Own wr w.heap.size 186 (sl h) l) (hf:l.length≤4294967297) (own:Ow KS w' w.heap.size 95 v' (hs ++ [h])) (gr:wr.grownBy w' v.ownBlock) (hQ:∀ u,Q' u↔Q u∨Low l u) :
 HdI w v' (hs ++ [h]) (ls ++ [l]) Q' (k+1) w':=by
 refine ⟨own,fun i hi=>?_,by simp [I.ll],fun i hi=>?_,fun u=>?_,by simp;exact I.len,I.bel.grown gr I.bel.size fun j e=>(World.ownsRow.lt I.own j e).1⟩
 ·rw [getD_snoc,getD_snoc,I.ll]
  simp only [List.length_append,List.length_singleton] at hi
  split
  ·rename_i q;exact own_grown (I.el i q) I.own (by decide) gr
  ·rw [if_pos (by omega),if_pos (by omega)]
   exact own_grown o I.own (by decide) gr
 ·rw [getD_snoc]
  split
  ·rename_i q;exact I.few i q
  ·split
   ·exact hf
   ·exact Nat.zero_le _
 ·rw [hQ u,← I.low u]
  constructor
  ·rintro ⟨i,hi,c⟩
   rw [getD_snoc] at c
   split at c
   ·rename_i q;exact .inl ⟨i,q,c⟩
   ·split at c
    ·exact .inr c
    ·exact absurd c low_nil
  ·rintro (⟨i,hi,c⟩ | c)
   ·exact ⟨i,by simp;omega,by rw [getD_snoc,if_pos hi];exact c⟩
   ·exact ⟨ls.length,by simp,by rw [getD_snoc,if_neg (Nat.lt_irrefl _),if_pos rfl];exact c⟩
theorem HdI.rows (I:HdI w v hs ls Q k wr):Wi.Rows wr v ls:=by
 obtain ⟨a,cap,e,h1,h2,h3⟩:=I.own.rd;rw [← I.ll] at e h1 h3;refine ⟨a,cap,e,h1.1,h2,fun hp=>?_⟩;obtain ⟨b,off,ea,hA⟩:=h3 hp;refine ⟨b,off,ea,fun i hi=>⟨_,?_,(I.el i (by rw [← I.ll];exact hi)).sp⟩⟩;have c:=hA i (by rw [← I.ll];exact hi) 0 _ rfl;simp only [KS,Nat.mul_one,Nat.add_zero] at c;exact c
theorem tot_few (ls:List (List S2)) (h:∀ i,i < ls.length→(ls.getD i []).length≤4294967297):∀ n,n≤ls.length→tot ls n≤n * 4294967297
 | 0,_=>Nat.le_refl _
 | n+1,hn=>by
   have:=tot_few ls h n (by omega);have:=h n (by omega)
   show tot ls n+_≤_
   omega
theorem HdI.tot (I:HdI w v hs ls Q k wr) (hk:k≤100):tot ls ls.length < 1099511627776:=by
 have:=tot_few ls I.few ls.length (Nat.le_refl _);have:=I.ll;have:=I.len
 omega
theorem HdI.join (I:HdI w v hs ls Q k wr) {x:List S2} (j:JoinOf ls x):Plain x∧∀ u,Low x u↔Q u:=⟨j.plain,fun u=>(j.low u).trans (I.low u)⟩
theorem HdI.slice (I:HdI w v hs ls Q k wr):∃ a cap,v = .slice a hs.length cap∧cap≤maxLen:=by
 obtain ⟨a,cap,e,_,h⟩:=I.own.slice;exact ⟨a,cap,e,h⟩
end
theorem infoP:(Tryz.prog.info? 95).map (fun i=>(i.zero,i.size,i.bytes))=some (some (.slice none 0 0),1,24):=by kernel_rfl
section
end
end Go.Proofs.YtljnkaodhfnbbaaGreatDoor.Bu
namespace Go.Proofs.YtljnkaodhfnbbaaGreatDoor.Se
open Go.RowKit Go.Proofs.YtljnkaodhfnbbaaGreatDoor.Tk
set_option maxHeartbeats 400000 in
theorem during_any (w:World) (v:Value) (n:Nat) (A R:Nat→Int) (S:Tk.Steps w v n A R) (g:GoodP n A R) (m d:Int) (m0:0≤m) (m1:m≤4294967296) (d0:0≤d) (d1:d≤4294967296) :
 Calls Tryz.prog 95 #[v,.int .i64 m,.int .i64 d] w fun e w'=>e = .returned (.agg #[.int .i64 (Glo A R n m),.int .i64 (Glo A R n (m+d))])∧Below w.heap.size w w':=by
 have hb0:Below w.heap.size w (w.alloc (.cells #[.int .i64 0,.int .i64 0] 186)):=(Below.refl _ _).alloc (Nat.le_refl _) _;have S0:=Lib.hid (S.below hb0);have G:=Lib.hid g;have HB:=Lib.hid hb0;clear S g hb0
 go_enter Tryz.func95,Tryz.ntmps95
 go_wp2_with fail;refine (global_any _ _ _ _ _ _ S0.out G.out).mono ?_;rintro e w1 ⟨rfl,b1⟩;have S1:=Lib.hid (S0.out.below b1);have c0:w1.cell? ⟨w.heap.size,0,none⟩=some (.int .i64 0):=(b1.cell (by simp)).trans (by go_simp);have c1:w1.cell? ⟨w.heap.size,1,none⟩=some (.int .i64 0):=(b1.cell (by simp)).trans (by go_simp);have f0:w1.frozen? ⟨w.heap.size,0,none⟩=false:=(b1.frozen (by simp)).trans (by go_simp);have f1:w1.frozen? ⟨w.heap.size,1,none⟩=false:=(b1.frozen (by simp)).trans (by go_simp);have z1:=b1.size
 simp at z1
 have B1:=Lib.hid (HB.out.trans (b1.mono (B':=w.heap.size) (by simp)));clear b1;have F0:=Lib.hid f0;have F1:=Lib.hid f1;have C0:=Lib.hid c0;have C1:=Lib.hid c1;clear c0 c1 f0 f1;go_wp2_with fail;refine (global_any _ _ _ _ _ _ S1.out G.out).mono ?_;rintro e w2 ⟨rfl,b2⟩;have c0:w2.cell? ⟨w.heap.size,0,none⟩=some (.int .i64 0):=(b2.cell (by show w.heap.size < w1.heap.size;omega)).trans C0.out;have c1:w2.cell? ⟨w.heap.size,1,none⟩=some (.int .i64 0):=(b2.cell (by show w.heap.size < w1.heap.size;omega)).trans C1.out;have f0:w2.frozen? ⟨w.heap.size,0,none⟩=false:=(b2.frozen (by show w.heap.size < w1.heap.size;omega)).trans F0.out;have f1:w2.frozen? ⟨w.heap.size,1,none⟩=false:=(b2.frozen (by show w.heap.size < w1.heap.size;omega)).trans F1.out;have z2:=b2.size;have B2:=Lib.hid (B1.out.trans (b2.mono (B':=w.heap.size) (by omega)));clear b2;go_wp2;refine bodyPost_ret (v:=.agg #[.int .i64 (Glo A R n m),.int .i64 (Glo A R n (m+d))]) (by simp [results,Tryz.results95,go_sem,c0,c1]) rfl ⟨rfl,?_⟩;exact (B2.out.setCell (by simp) _).setCell (by simp) _
end Go.Proofs.YtljnkaodhfnbbaaGreatDoor.Se
namespace Go.Proofs.YtljnkaodhfnbbaaGreatDoor.Ua
open Go.RowKit
theorem run_index_arr (F:Nat→Bool) (k:Nat) (h:k < 11) (w:World):(Instr.index 113 (.agg (arr F)) (.int .i64 k)).run Tryz.prog w = .ok (.bool (F k)) w:=by
 have hg:=arr_get F k h;have hk:¬ 11≤k:=by omega
 simp [Instr.index,asIntOf,run_underlying Tryz.underlying113,go_sem,part,hg,hk]
end Go.Proofs.YtljnkaodhfnbbaaGreatDoor.Ua
namespace Go.Proofs.YtljnkaodhfnbbaaGreatDoor.Se
open Go.RowKit Go.Proofs.YtljnkaodhfnbbaaGreatDoor.Tk Go.Proofs.YtljnkaodhfnbbaaGreatDoor.Sp
open Wi (PlainOf Made push_step own_low)
open Ua (arr Row load_frame)
structure LRel (w:World) (g:Int→Int) (F:Nat→Bool) (m:Int) (v:Value) (k:Nat) (wr:World):Prop where
 own:Sp.Own wr w.heap.size 186 v (lows g F m k)
 bel:Below w.heap.size w wr
theorem LRel.hi {w wr:World} {g:Int→Int} {F:Nat→Bool} {m:Int} {v:Value} {k:Nat} (h:LRel w g F m v k wr) (e:F k=true):LRel w g F m v (k+1) wr:=⟨by rw [lows_hi e];exact h.own,h.bel⟩
theorem LRel.lo {w wr:World} {g:Int→Int} {F:Nat→Bool} {m:Int} {v:Value} {k:Nat} (e:F k=false) (ho:Sp.Own wr w.heap.size 186 v (lows g F m k ++ [(g (m+16 * k),g (m+16 * k+16))])) (hb:Below w.heap.size w wr):LRel w g F m v (k+1) wr:=⟨by rw [lows_lo e];exact ho,hb⟩
end Go.Proofs.YtljnkaodhfnbbaaGreatDoor.Se
namespace Go.Proofs.YtljnkaodhfnbbaaGreatDoor.Se
open Go.RowKit Go.Proofs.YtljnkaodhfnbbaaGreatDoor.Tk Go.Proofs.YtljnkaodhfnbbaaGreatDoor.Sp
open Wi (PlainOf Made Gives JoinOf join_any rows_one plain_one_of push_step)
open Ua (arr Row load_frame)
set_option maxHeartbeats 1000000 in
theorem spans_any (w:World) (v:Value) (n:Nat) (A R:Nat→Int) (S:Tk.Steps w v n A R) (g:GoodP n A R) (m:Int) (m0:0≤m) (m1:m≤2147483648) (F:Nat→Bool) :
 Calls Tryz.prog 40 #[v,.int .i64 m,.agg (arr F)] w (Made w (PlainOf (lows (Glo A R n) F m 11))):=by
 have R0:=Lib.hid (Row.new w F);have B0:=Lib.hid ((Below.refl w.heap.size w).alloc (Nat.le_refl _) (.cells (arr F) 113));have S0:=Lib.hid S;have G:=Lib.hid g;clear S g
 go_enter Tryz.func40,Tryz.ntmps40
 go_wp2_with ((with_reducible refine load_frame (o:=⟨some 10,_,_,_,_,_⟩) rfl _ rfl _ _ ?_ R0.out ?_);(exact rfl))
 go_loopw [7,11] (fun v i wr=>∃ k:Nat,k≤11∧i = .int .i64 k∧Hid (LRel w (Glo A R n) F m v k wr)) (fun _ i _=>11 - (intOf i).toNat)
 case atStart=>exact ⟨0,by omega,rfl,Lib.hid ⟨Sp.Own.nil _ _ _,B0.out⟩⟩
 case round =>
  obtain ⟨k,hk,rfl,L⟩:=hrel
  by_cases hlt:k < 11
  ·have ri:=Ua.run_index_arr F k hlt
   cases hF:F k with
   | true =>
     have L':=Lib.hid (L.out.hi hF);rw [hF] at ri;clear hF;go_wp2
     go_roundw
     case rel=>exact ⟨k+1,by omega,by go_num,L'⟩
     case measure=>simp [intOf];omega
   | false =>
     rw [hF] at ri;have HF:=Lib.hid hF;clear hF;have s1:=S0.out.below L.out.bel;have C:=Lib.hid (during_any wr v n A R s1 G.out (m+16 * k) 16 (by omega) (by omega) (by omega) (by omega));clear s1;have hB:=L.out.bel.size;go_wp2_with fail;refine C.out.mono ?_;rintro e w1 ⟨rfl,b1⟩;have hown:=L.out.own.keep b1;have hb1:=L.out.bel.trans (b1.mono hB);have z1:=b1.size;have hll:=lows_len (g:=Glo A R n) (F:=F) (m:=m) k;have LL:=Lib.hid hll;clear b1 hll
     go_wp2_with (at_builtin;refine push_step rfl _ _ rfl w.heap.size _ _ rfl (hown.alloc _) _ (Glo A R n (m+16 * k)) (Glo A R n (m+16 * k+16)) rfl ?c1 ?c2 ?c3 ?c4 ?_)
     case c1=>go_simp
     case c2=>go_simp
     case c3=>have:=LL.out;omega
     case c4=>simp;omega
     intro v' w2 hown2 hb2
     have L2:=Lib.hid (LRel.lo (g:=Glo A R n) (m:=m) HF.out hown2 ((hb1.alloc (by omega) _).trans hb2));clear hown2 hb2 hb1 hown;go_wp2
     go_roundw
     case rel=>exact ⟨k+1,by omega,by go_num,L2⟩
     case measure=>simp [intOf];omega
  ·obtain rfl:k=11:=by omega
   have hB:=L.out.bel.size;obtain ⟨a,cap,rfl,_,_⟩:=L.out.own.slice;have hll:=lows_len (g:=Glo A R n) (F:=F) (m:=m) 11;have J:=Lib.hid (join_any _ _ _ (rows_one L.out.own.sp) (by show 0+(lows (Glo A R n) F m 11).length < _;omega));clear hll;go_wp2_with fail;refine J.out.mono ?_;rintro e w1 ⟨v1,l,rfl,hown,hj,b1⟩;have OW:=Lib.hid (Wi.own_low hown (B':=w.heap.size) (by simp;omega));have PO:=Lib.hid (plain_one_of hj);have B1:=Lib.hid ((L.out.bel.alloc hB _).trans (b1.mono (B':=w.heap.size) (by simp;omega)));clear hown hj b1;go_wp2
   go_ret
   exact ⟨_,l,rfl,OW.out,PO.out,B1.out⟩
end Go.Proofs.YtljnkaodhfnbbaaGreatDoor.Se
namespace Go.Proofs.YtljnkaodhfnbbaaGreatDoor.Bu
open Go.RowKit
open Sp (S2 fr tp Sp)
open Rw (Rd Ow At)
open Wi (Plain PlainOf Low Made join_any own_low)
open Ck (LL lat sN sE tE RdL Hd sl zh KS)
open Pa (Sts Ns K2 snB sbN frF frame_any FramePost sender_is push_at wp_push_at)
open Ua (arr Row store_new info_of)
open Se (lows spans_any)
open Fl (row_cell row_frozen)
attribute [local irreducible] Sd.wpSd wpQuiet
structure Bn (w:World) (vs vt vl vp vo:Value) (S:Sts) (T:LL) (V:List Bool) (P:List S2) (O:List Osc):Prop where
 ns:Ns w vs vt vl S T V
 sp:Rd K2 w vp P
 os:OsL w vo O
 lo:O.length=S.length
 few:S.length≤32
 calm:calmL O
theorem Bn.below {w w':World} {vs vt vl vp vo:Value} {S:Sts} {T:LL} {V:List Bool} {P:List S2} {O:List Osc} (h:Bn w vs vt vl vp vo S T V P O) (b:Below w.heap.size w w'):Bn w' vs vt vl vp vo S T V P O:=⟨h.ns.below b,h.sp.below b,h.os.below b,h.lo,h.few,h.calm⟩
set_option maxHeartbeats 2000000 in
theorem sends_any {w:World} {vs vt vl vp vo:Value} {S:Sts} {T:LL} {V:List Bool} {P:List S2} {O:List Osc} (H:Bn w vs vt vl vp vo S T V P O) (j:Int) :
 Calls Tryz.prog 33 #[vs,vt,vl,vp,vo,.int .i64 j] w (Made w (SendP S T V P O j)):=by
 have FA:=Lib.hid (fun W b s=>frame_any (H.ns.below (w':=W) b) (H.sp.below b) s);unfold FramePost at FA;have WHO:Hid (∀ k:Nat,snB S T V k=true→∃ n:Nat,sbN S T V k=n∧n < O.length∧frs S T V P O k=some (osc O n,frF S T V P k)∧(osc O n).calm):=Lib.hid (fun k h=>who_sends H.ns.ok (by rw [H.lo,H.ns.lt]) H.calm h);have YES:Hid (∀ k:Nat,1≤k→sbN S T V k=j→∀ u,LowUp S T V P O j (k+1) u↔LowUp S T V P O j k u∨LowK (frs S T V P O) k u):=Lib.hid (fun k h e u=>lowUp_yes h e);have NO:Hid (∀ k:Nat,¬ (snB S T V k=true∧sbN S T V k=j)→∀ u,LowUp S T V P O j (k+1) u↔LowUp S T V P O j k u):=Lib.hid (fun k h u=>lowUp_no h);have END:Hid (∀ u,LowUp S T V P O j 17 u↔LowJ S T V P O j u):=Lib.hid (fun u=>lowUp_end);have I0:Hid (HdI w (.slice none 0 0) [] [] (LowUp S T V P O j 1) 1 w):=Lib.hid ⟨Ow.nil _ _ _,fun _ hi=>absurd hi (Nat.not_lt_zero _),rfl,fun _ hi=>absurd hi (Nat.not_lt_zero _),fun u=>⟨fun ⟨_,hi,_⟩=>absurd hi (Nat.not_lt_zero _),fun h=>absurd h lowUp_one⟩,by simp,Below.refl _ _⟩;have OS:=Lib.hid H.os;obtain ⟨ao,co,rfl,mo1,mo⟩:=H.os.slice;unfold maxLen at mo;clear H;generalize hno:O.length=no at *;have HNO:=Lib.hid hno;clear hno;unfold SendP
 go_enter Tryz.func33,Tryz.ntmps33
 go_wp2
 go_loopw [14,13] (fun i v wr=>∃ (k:Nat) (hs:List Hd) (ls:List (List S2)),1≤k∧k≤17∧i = .int .i64 k∧Hid (HdI w v hs ls (LowUp S T V P O j k) k wr)) (fun i _ _=>17 - (intOf i).toNat)
 case atStart=>exact ⟨1,[],[],by omega,by omega,rfl,I0⟩
 case round =>
  obtain ⟨k,hs,ls,hk1,hk,rfl,I⟩:=hrel;clear I0;obtain ⟨av,cv,rfl,_⟩:=I.out.slice
  by_cases hlt:k < 17
  ·have FK:=Lib.hid (FA.out wr I.out.bel (k:Int))
   have WK:=Lib.hid (WHO.out k);have YK:=Lib.hid (YES.out k hk1);have NK:=Lib.hid (NO.out k);generalize hF:frF S T V P (k:Int)=F at *;generalize hm:sbN S T V (k:Int)=m at *;generalize hok:snB S T V (k:Int)=ok at *;clear hF hm hok;go_wp2_with fail;refine FK.out.mono ?_;rintro e w1 ⟨rfl,b1⟩;have I2:=Lib.hid ((I.out.below b1).below ((Below.refl w1.heap.size w1).alloc (Nat.le_refl _) (.cells (arr F) 113)));have R2:=Lib.hid (Row.new w1 F);clear b1 FK I
   by_cases hall:ok=true∧m=j
   ·obtain ⟨rfl,rfl⟩:=hall
    obtain ⟨n,rfl,hn,hf,hcal⟩:=WK.out rfl;have YY:=Lib.hid (YK.out rfl);have CA:=Lib.hid hcal;have HF:=Lib.hid hf;clear YK NK WK hcal hf;obtain ⟨b5,o5,c5,a5,d5,e5,x5,_,s5⟩:=OS.out.one (k:=n) (by have:=HNO.out;omega);rw [HNO.out] at e5;injection e5 with e5 _ e6;subst e5 e6;have S5:=Lib.hid s5;clear s5
    go_upto_region 7 with ((with_reducible refine store_new (o:=⟨none,_,_,_,_,_⟩) rfl _ _ rfl F ?_ ?_ ?_);(exact rfl);(exact rfl))
    generalize (w1.alloc (.cells (arr F) 113))=W1 at *;generalize w1.heap.size=g1 at *;have BD:=Lib.hid (I2.out.bel.trans ((Below.refl W1.heap.size W1).drew.mono I2.out.bel.size));have lo:=World.block_lt_of_cell? _ _ x5;have wk:IntKind.i64.wrap (224 * (k:Int))=224 * (k:Int):=IntWalk.i64_in _ (by omega);have sO:=Sc.cell_in (C:=fun W=>Below w.heap.size w W) (a:=⟨b5,o5+n,none⟩) (fun W' h=>(h.cell lo).trans x5);have ne:Nonempty (Sc.In (fun W=>Below w.heap.size w W)):=⟨⟨_,BD.out⟩⟩;have ID:=Lib.hid (I2.out.below ((Below.refl W1.heap.size W1).drew));have RD:=Lib.hid (R2.out.below ((Below.refl W1.heap.size W1).drew) R2.out.lt);refine Sc.start (fun W=>Below w.heap.size w W) [(false,0),(false,1),(false,2),(false,3),(false,4),(false,5),(false,6),(true,7),(true,8),(true,9),(true,10),(false,11)] (by kernel_rfl) (by kernel_rfl) (by kernel_rfl) BD.out ?_;dsimp only [Sd.picks,List.getElem?_cons_succ,List.getElem?_cons_zero]
    repeat (refine Sd.lit ?_;quiet_step (fail);refine wpQuiet_nil ?_)
    clear sO I2 R2;generalize W1.drew=Wd at *;refine Sd.call (by rfl) (fun K hK=>?_);refine wp_load_row 113 _ rfl g1 rfl _ _ _ _ RD.out Tryz.underlying113 rfl (info_of F) ?_;refine hK _ _ (Sc.Cl.of BD.out) ?_;clear hK K;have SA:=Lib.hid (spans_any Wd _ _ _ _ (S5.out.below BD.out) CA.out.good (224 * (k:Int)) (by omega) (by omega) F);refine Sd.call (by rfl) (fun K hK=>?_);go_simp;refine SA.out.mono ?_;rintro e w5 ⟨v5,l,rfl,own5,p5,b5'⟩;have LK:=Lib.hid (low_spans HF.out p5);have PL:=Lib.hid p5.1;have B5:=Lib.hid (BD.out.trans (b5'.mono BD.out.size));obtain ⟨la,lc,rfl,_,_⟩:=own5.slice;refine hK _ _ (Sc.Cl.of B5.out) ?_;clear hK K p5 SA;refine Sd.call (by rfl) (fun K hK=>?_);go_simp;have BL:=b5'.alloc b5'.size (.cells #[.slice la l.length lc] 95);have I5:=Lib.hid (ID.out.below BL);have O5:=Lib.hid ((own_low own5 BD.out.size).alloc (.cells #[.slice la l.length lc] 95));have N6:=Lib.hid (heap_alloc_new w5 (.cells #[.slice la l.length lc] 95));have B6:=Lib.hid (B5.out.alloc B5.out.size (.cells #[.slice la l.length lc] 95));refine hK _ _ (Sc.Cl.of B6.out) ?_;clear hK K own5 b5' BL ID BD RD B5;have FEW:=Lib.hid (made_few PL.out (fun u h=>(LK.out u).1 h) (fun u h=>lowK_at h));have hh:Hid (Value.slice la l.length lc=sl (la,l.length,lc)):=Lib.hid rfl;generalize hln:l.length=ln at *;have HLN:=Lib.hid hln;clear hln;generalize w5.heap.size=g5 at *;generalize (w5.alloc (.cells #[.slice la ln lc] 95))=W6 at *;refine Sd.call (by rfl) (fun K hK=>?_);refine wp_push_at (K:=KS) Tryz.underlying182 infoP rfl (by omega) _ _ rfl w.heap.size _ _ rfl I5.out.own _ (la,ln,lc) rfl ?d1 ?d2 ?d3 ?_
    case d1 =>
     intro j u hu
     match j,hu with
     | 0,hu=>simp [KS] at hu;subst hu;exact row_cell N6.out 0
     | j+1,hu=>simp [KS] at hu
    case d2=>have:=I5.out.len;omega
    case d3=>have:=I5.out.bel.size;exact this
    intro v' w6 o6 g6 h6
    have NEW:Hid (HdI w v' (hs ++ [(la,ln,lc)]) (ls ++ [l]) (LowUp S T V P O n (k+1)) (k+1) w6):=Lib.hid (I5.out.push (by rw [← hh.out];exact O5.out) (by rw [HLN.out];exact FEW.out) o6 g6 (fun u=>by rw [YY.out u,LK.out u]));refine hK _ _ (Sc.Cl.of NEW.out.bel) ?_;clear hK K o6 g6 h6 I5 O5 B6 N6;obtain ⟨av',cv',rfl,_⟩:=NEW.out.slice;generalize (hs ++ [(la,ln,lc)]).length=Lp' at *
    repeat (refine Sd.lit ?_;quiet_step (fail);refine wpQuiet_nil ?_)
    refine Sd.done ?_;go_wp2
    go_roundw
    case rel=>exact ⟨k+1,_,_,by omega,by omega,by go_num,NEW⟩
    case measure=>simp [intOf];omega
   ·have I3:=Lib.hid (I2.out.to (NK.out hall))
    clear YK NK WK I2 R2
    cases ok with
    | false =>
      clear hall
      go_wp2_with ((with_reducible refine store_new (o:=⟨none,_,_,_,_,_⟩) rfl _ _ rfl F ?_ ?_ ?_);(exact rfl);(exact rfl))
      go_roundw
      case rel=>exact ⟨k+1,_,_,by omega,by omega,by go_num,I3⟩
      case measure=>simp [intOf];omega
    | true =>
      have hmj:(m == j)=false:=by simpa using hall
      clear hall
      go_wp2_with ((with_reducible refine store_new (o:=⟨none,_,_,_,_,_⟩) rfl _ _ rfl F ?_ ?_ ?_);(exact rfl);(exact rfl))
      go_roundw
      case rel=>exact ⟨k+1,_,_,by omega,by omega,by go_num,I3⟩
      case measure=>simp [intOf];omega
  ·obtain rfl:k=17:=by omega
   have J:=Lib.hid (join_any wr _ ls I.out.rows (I.out.tot (by omega)));have BI:=Lib.hid I.out.bel;have IJ:=Lib.hid (fun x hx=>I.out.join (x:=x) hx);clear I;generalize hs.length=Lp at *;go_wp2_with fail;refine J.out.mono ?_;rintro e w1 ⟨v1,l,rfl,own1,hj,b1⟩;have OW:=Lib.hid (own_low own1 BI.out.size);have PO:=Lib.hid (IJ.out l hj);have B1:=Lib.hid (BI.out.trans (b1.mono BI.out.size));clear own1 hj b1 J;go_wp2
   go_ret
   exact ⟨_,l,rfl,OW.out,⟨PO.out.1,fun u=>(PO.out.2 u).trans (END.out u)⟩,B1.out⟩
set_option maxHeartbeats 1000000 in
theorem line_any {w:World} {vs vt vl vp vo:Value} {S:Sts} {T:LL} {V:List Bool} {P:List S2} {O:List Osc} (H:Bn w vs vt vl vp vo S T V P O) :
 Calls Tryz.prog 81 #[vs,vt,vl,vp,vo] w (Made w (LineP S T V P O)):=by
 have SA:=Lib.hid (fun W b j=>sends_any (H.below (w':=W) b) j);have END:Hid (∀ u,LowTo S T V P O S.length u↔LowL (frs S T V P O) u):=Lib.hid (fun u=>by rw [lowL_iff H.ns.ok,H.ns.lt];exact Iff.rfl);have NX:Hid (∀ k u,LowTo S T V P O (k+1) u↔LowTo S T V P O k u∨LowJ S T V P O k u):=Lib.hid lowTo_next;have I0:Hid (HdI w (.slice none 0 0) [] [] (LowTo S T V P O 0) 0 w):=Lib.hid (HdI.start w (Below.refl _ _) fun u h=>by obtain ⟨j,hj,_⟩:=h;omega);have few:=H.few;obtain ⟨sa,cs,rfl,ms⟩:=H.ns.st.slice;unfold maxLen at ms;clear H;generalize S.length=n at *;unfold LineP
 go_enter Tryz.func81,Tryz.ntmps81
 go_wp2
 go_loopw [15,11] (fun i v wr=>∃ (k:Nat) (hs:List Hd) (ls:List (List S2)),k≤n∧i = .int .i64 k∧Hid (HdI w v hs ls (LowTo S T V P O k) k wr)) (fun i _ _=>n - (intOf i).toNat)
 case atStart=>exact ⟨0,[],[],Nat.zero_le _,rfl,I0⟩
 case round =>
  obtain ⟨k,hs,ls,hk,rfl,I⟩:=hrel;clear I0;obtain ⟨av,cv,rfl,_⟩:=I.out.slice
  by_cases hlt:k < n
  ·have SK:=Lib.hid (SA.out wr I.out.bel (k:Int))
   have NK:=Lib.hid (NX.out k);have IL:=Lib.hid I.out.len;generalize hs.length=lh at *;go_wp2_with fail;refine SK.out.mono ?_;rintro e w5 ⟨v5,l,rfl,own5,p5,b5⟩;have PL:=Lib.hid p5.1;have LK:=Lib.hid p5.2;have B5:=Lib.hid (I.out.bel.trans (b5.mono I.out.bel.size));obtain ⟨la,lc,rfl,_,_⟩:=own5.slice;have BL:=b5.alloc b5.size (.cells #[.slice la l.length lc] 95);have I5:=Lib.hid (I.out.below BL);have O5:=Lib.hid ((own_low own5 I.out.bel.size).alloc (.cells #[.slice la l.length lc] 95));have FEW:=Lib.hid (made_few PL.out (fun u h=>(LK.out u).1 h) (fun u h=>lowJ_at h));have hh:Hid (Value.slice la l.length lc=sl (la,l.length,lc)):=Lib.hid rfl;clear own5 p5 b5 BL SK;generalize hln:l.length=ln at *;have HLN:=Lib.hid hln;clear hln
   go_wp2_with (at_builtin;refine push_at (K:=KS) Tryz.underlying182 infoP rfl (by omega) rfl _ _ rfl w.heap.size _ _ rfl I5.out.own _ (la,ln,lc) rfl ?d1 ?d2 ?d3 ?_)
   case d1 =>
    intro j u hu
    match j,hu with
    | 0,hu=>simp [KS] at hu;subst hu;unfold sl;go_simp
    | j+1,hu=>simp [KS] at hu
   case d2=>have:=I5.out.len;omega
   case d3=>have:=I5.out.bel.size;exact this
   intro v' w6 o6 g6 h6
   have NEW:Hid (HdI w v' (hs ++ [(la,ln,lc)]) (ls ++ [l]) (LowTo S T V P O (k+1)) (k+1) w6):=Lib.hid (I5.out.push (by rw [← hh.out];exact O5.out) (by rw [HLN.out];exact FEW.out) o6 g6 (fun u=>by rw [NK.out u,LK.out u]));clear o6 g6 h6 I5 O5 I;obtain ⟨av',cv',rfl,_⟩:=NEW.out.slice;generalize (hs ++ [(la,ln,lc)]).length=Lp' at *;go_wp2
   go_roundw
   case rel=>exact ⟨k+1,_,_,by omega,by go_num,NEW⟩
   case measure=>simp [intOf];omega
  ·obtain rfl:k=n:=by omega
   have J:=Lib.hid (join_any wr _ ls I.out.rows (I.out.tot (by omega)));have BI:=Lib.hid I.out.bel;have IJ:=Lib.hid (fun x hx=>I.out.join (x:=x) hx);clear I;generalize hs.length=Lp at *;go_wp2_with fail;refine J.out.mono ?_;rintro e w1 ⟨v1,l,rfl,own1,hj,b1⟩;have OW:=Lib.hid (own_low own1 BI.out.size);have PO:=Lib.hid (IJ.out l hj);have B1:=Lib.hid (BI.out.trans (b1.mono BI.out.size));clear own1 hj b1 J;go_wp2
   go_ret
   exact ⟨_,l,rfl,OW.out,⟨PO.out.1,fun u=>(PO.out.2 u).trans (END.out u)⟩,B1.out⟩
end Go.Proofs.YtljnkaodhfnbbaaGreatDoor.Bu
namespace Go.Proofs.YtljnkaodhfnbbaaGreatDoor.Bu
open Go.RowKit Go.Maps
open Sp (S2 fr tp Sp)
open Wi (Plain PlainOf Low)
open Tk (GoodP Glo global_any)
open Pa (Hr hput HBl HMap H1 hbl_new at_hput wf_of)
open Sa (hear_any HearPost)
attribute [local irreducible] Sd.wpSd wpQuiet
def HeardPost (w:World) (h:Hr) (e:Ending) (w':World):Prop:=∃ b,e = .returned (.map (some b))∧HMap w' (.map (some b)) h∧Below w.heap.size w w'
theorem hear_at {l:List S2} {r:Osc} (hp:Plain l) {W w':World} {e:Ending} {k:Nat} (h:HearPost W l r.A r.R r.n (Glo r.A r.R r.n (224 * (k:Int) - 20)) (Glo r.A r.R r.n (224 * (k:Int)+20)) e w') :
 e = .returned (.tuple #[.int .u8 (lisS l l r k).1,.bool (lisS l l r k).2.1,.int .i64 (lisS l l r k).2.2])∧Below W.heap.size W w':=by
 obtain ⟨x,hx,he,hb⟩:=h;obtain rfl:=hx.one ⟨hp,fun _=>Iff.rfl⟩;exact ⟨he,hb⟩
set_option maxHeartbeats 1000000 in
theorem heard_any {w:World} {v u:Value} {l:List S2} (P:Sp w v l) (hp:Plain l) (hl:l.length≤4294967297) {r:Osc} (S:Tk.Steps w u r.n r.A r.R) (c:r.calm):Calls Tryz.prog 83 #[v,u] w (HeardPost w (lis l l r)):=by
 have G:GoodP r.n r.A r.R:=Sa.Calm.good c;have GL:=Lib.hid (fun W b m=>global_any W u r.n r.A r.R m (S.below (w':=W) b) G);have HE:=Lib.hid (fun W b (k:Nat)=>(hear_any W v u l (P.below (w':=W) b) (by omega) r.n r.A r.R (S.below b) G (Glo r.A r.R r.n (224 * (k:Int) - 20)) (Glo r.A r.R r.n (224 * (k:Int)+20))).mono fun e w' h=>hear_at hp h);have YY:Hid (∀ k:Nat,1≤k→k≤16→(lisS l l r k).2.2=0→(lisS l l r k).2.1=false→hput (lowH (lis l l r) k) k (lisS l l r k).1=lowH (lis l l r) (k+1)):=Lib.hid (fun k h1 h2 e o=>low_yes h1 (lis_yes (by omega) (by omega) e o));have NN:Hid (∀ k:Nat,¬ ((lisS l l r k).2.2=0∧(lisS l l r k).2.1=false)→lowH (lis l l r) k=lowH (lis l l r) (k+1)):=Lib.hid (fun k h=>low_no (lis_no h));have EN:Hid (lowH (lis l l r) 17=lis l l r):=Lib.hid (low_end fun n h=>lis_out h);have M0:Hid (H1 w w.heap.size 1 (lowH (lis l l r) 1) (w.alloc (.map #[] 0))):=Lib.hid ⟨⟨0,by rw [low_one];exact hbl_new w,by omega⟩,Nat.le_refl _,(Below.refl w.heap.size w).alloc (Nat.le_refl _) _⟩;clear P hp hl S c G;generalize lis l l r=h at *;have hmm:=@run_makeMap Tryz.prog
 go_enter Tryz.func83,Tryz.ntmps83
 go_wp2;clear hmm;generalize (w.alloc (.map #[] 0))=W0 at *;generalize hb0:w.heap.size=b at M0 ⊢;have HB0:=Lib.hid hb0;clear hb0
 go_loopw [6] (fun i wr=>∃ k:Nat,1≤k∧k≤17∧i = .int .i64 k∧Hid (H1 w b k (lowH h k) wr)) (fun i _=>17 - (intOf i).toNat)
 case atStart=>exact ⟨1,by omega,by omega,rfl,M0⟩
 case round =>
  obtain ⟨k,hk1,hk,rfl,I⟩:=hrel;clear M0
  by_cases hlt:k < 17
  ·have K1:=Lib.hid (GL.out wr I.out.bel (224 * (k:Int) - 20))
   go_wp2_with fail;refine K1.out.mono ?_;rintro e w1 ⟨rfl,b1⟩;have I1:=Lib.hid (I.out.below b1);have K2:=Lib.hid (GL.out w1 I1.out.bel (224 * (k:Int)+20));clear b1 K1 I;go_wp2_with fail;refine K2.out.mono ?_;rintro e w2 ⟨rfl,b2⟩;have I2:=Lib.hid (I1.out.below b2);have K3:=Lib.hid (HE.out w2 I2.out.bel k);have YK:=Lib.hid (YY.out k hk1 (by omega));have NK:=Lib.hid (NN.out k);have WK:=Lib.hid (wf_of (n:=(k:Int)) ⟨by omega,by omega⟩);clear b2 K2 I1;generalize lisS l l r (k:Int)=q at *;obtain ⟨y,o,z⟩:=q;simp only at YK NK K3;go_wp2_with fail;refine K3.out.mono ?_;rintro e w3 ⟨rfl,b3⟩;have I3:=Lib.hid (I2.out.below b3);clear b3 K3 I2
   by_cases hz:z=0
   ·cases o with
    | false =>
      have EQ:=Lib.hid (YK.out hz rfl);clear YK NK;subst hz;obtain ⟨N,m,hN⟩:=I3.out.mp;have M2:=Lib.hid m;have LO:=Lib.hid I3.out.lo;have BE:=Lib.hid I3.out.bel;clear m I3
      go_wp2_with (first
       | (at_mapUpdate;refine at_hput rfl _ _ _ rfl rfl M2.out (by unfold maxLen;omega) (k:Int) y rfl rfl WK.out ?_;intro w4 m4 g4)
       | fail)
      have I4:Hid (H1 w b (k+1) (lowH h (k+1)) w4):=Lib.hid ⟨⟨N+1,by rw [← EQ.out];exact m4,by omega⟩,LO.out,BE.out.grown g4 BE.out.size (fun j e=>by injection e with e;have:=LO.out;omega)⟩;clear m4 g4 M2 EQ BE LO;go_wp2
      go_roundw
      case rel=>exact ⟨k+1,by omega,by omega,by go_num,I4⟩
      case measure=>simp [intOf];omega
    | true =>
      have EQ:=Lib.hid (NK.out (by simp));have I4:Hid (H1 w b (k+1) (lowH h (k+1)) w3):=Lib.hid ⟨by obtain ⟨N,m,hN⟩:=I3.out.mp;exact ⟨N,by rw [← EQ.out];exact m,by omega⟩,I3.out.lo,I3.out.bel⟩;clear YK NK EQ I3;subst hz;go_wp2
      go_roundw
      case rel=>exact ⟨k+1,by omega,by omega,by go_num,I4⟩
      case measure=>simp [intOf];omega
   ·have EQ:=Lib.hid (NK.out fun g=>hz g.1)
    have I4:Hid (H1 w b (k+1) (lowH h (k+1)) w3):=Lib.hid ⟨by obtain ⟨N,m,hN⟩:=I3.out.mp;exact ⟨N,by rw [← EQ.out];exact m,by omega⟩,I3.out.lo,I3.out.bel⟩;have d0:(z == 0)=false:=by simpa using hz
    clear YK NK EQ I3;go_wp2
    go_roundw
    case rel=>exact ⟨k+1,by omega,by omega,by go_num,I4⟩
    case measure=>simp [intOf];omega
  ·obtain rfl:k=17:=by omega
   rw [EN.out] at I;have RES:Hid (HeardPost w h (.returned (.map (some b))) wr):=Lib.hid ⟨b,rfl,by obtain ⟨⟨N,m,_⟩,_,_⟩:=I.out;exact ⟨b,N,rfl,m⟩,I.out.bel⟩;clear I;go_wp2
   go_ret
   exact RES.out
end Go.Proofs.YtljnkaodhfnbbaaGreatDoor.Bu
namespace Go.Proofs.YtljnkaodhfnbbaaGreatDoor.Cu
open Go.RowKit Go.Maps
open Sp (S2 fr tp Sp)
open Rw (Rd Ow At)
open Wi (Plain PlainOf Low Made)
open Fs (Glob CopySt)
open Ro (may_len)
open Ck (LL lat tE RdL may_all)
open Bu (Osc osc OsL buE buL buE_wild buE_ok buE_wrong rdE_zero calmLB of_calmLB calm_any Bn line_any LineP lis lis_is osc_calm plain_few lowL_at heard_any HeardPost)
open Pa (Sts Stl Ns K2 KB KN ptr sat vat hr rdE rdL rdS rdS_at rdS_len hr_ok round_any RoundPost apply_any ApPost copy_has infoN push_at wp_push_at HMap tab_each not_bad atB)
open Fl (row_cell)
attribute [local irreducible] Sd.wpSd wpQuiet
set_option maxHeartbeats 4000000 in
theorem broundF_any {w:World} {vs vt vl vp vo:Value} {S:Sts} {T:LL} {V:List Bool} {P:List S2} {O:List Osc} (HS:Stl w vs S) (HT:RdL w vt T) (HV:Rd KB w vl V) (RP:Rd K2 w vp P) (HO:OsL w vo O) (hg:Glob w) (hd:∀ i,i < S.length→0≤(sat S i).2∧(sat S i).2 < 900000) :
 Calls Tryz.prog 30 #[vs,vt,vl,vp,vo] w (BrP w (buE S T V O) (buL S T V P O)):=by
 have RO:=Lib.hid (round_any HS HT HV RP hg hd);unfold RoundPost at RO;obtain ⟨sa,cs,rfl,ms⟩:=HS.slice;obtain ⟨oa,co,rfl,mo1,mo⟩:=HO.slice;unfold maxLen at ms mo;have OS:=Lib.hid HO;have HS0:=Lib.hid HS;have HT0:=Lib.hid HT;have HV0:=Lib.hid HV;have RP0:=Lib.hid RP;have GG:=Lib.hid hg;have DD:=Lib.hid hd;clear HS HT HV RP HO hg hd
 by_cases hE:rdE S T V=0
 ·obtain ⟨f1,f2,f3,f4,f5⟩:=rdE_zero hE
  have WILD:Hid (¬ (O.length=S.length∧calmLB O=true)→∀ w',Below w.heap.size w w'→BrP w (buE S T V O) (buL S T V P O) (.returned (.tuple #[.slice none 0 0,.int .i64 1])) w'):=Lib.hid (fun h w' b=>by
   obtain ⟨e1,e2⟩:=buE_wild (P:=P) hE h;rw [e1]
   exact ⟨_,[],fun _ _=>False,rfl,fun e=>absurd e (by decide),fun _=>rfl,b⟩)
  by_cases hl:O.length=S.length
  ·have CA:=Lib.hid (fun W b=>calm_any W _ O (OS.out.below (w':=W) b))
   cases hc:calmLB O with
   | false =>
     have WL:=Lib.hid (WILD.out (by rw [hc];simp));rw [hE] at RO;rw [hc] at CA;generalize buE S T V O=be at *;generalize buL S T V P O=bl at *;generalize rdL S T V P=rl at *;rw [hl] at CA ⊢;clear WILD OS HS0;generalize S.length=n at *
     go_enter Tryz.func30,Tryz.ntmps30
     go_wp2_with fail;refine RO.out.mono ?_;rintro e w1 ⟨v1,rfl,_,b1⟩;have C1:=Lib.hid (CA.out w1 b1);have B1:=Lib.hid b1;clear b1 CA RO;go_wp2_with fail;refine C1.out.mono ?_;rintro e w2 ⟨rfl,b2⟩;have RES:=Lib.hid (WL.out w2 (B1.out.trans (b2.mono B1.out.size)));clear b2 C1 WL;go_wp2
     go_ret2
     exact RES.out
   | true =>
     obtain ⟨e1,e2⟩:=buE_ok (P:=P) hE hl hc;have cl:=of_calmLB hc;have BN:Hid (Bn w (.slice sa S.length cs) vt vl vp (.slice oa O.length co) S T V P O):=Lib.hid ⟨⟨HS0.out,HT0.out,HV0.out,f3,f4,f5⟩,RP0.out,OS.out,hl,f2,cl⟩;have LN:=Lib.hid (fun W b=>line_any (BN.out.below (w':=W) b));have LQ:Hid (∀ l,LineP S T V P O l→∀ k:Nat,k < S.length→lis l l (osc O k)=hr S T V P):=Lib.hid (fun l h k hk=>lis_is f5 (by rw [hl,f3]) cl ⟨h.1,fun _=>Iff.rfl⟩ h.2 (osc_calm cl (by omega)));have LF:Hid (∀ l,LineP S T V P O l→l.length≤4294967297):=Lib.hid (fun l h=>plain_few h.1 fun u hu=>lowL_at ((h.2 u).1 hu));have CO:Hid (∀ k:Nat,k < S.length→(osc O k).calm):=Lib.hid (fun k hk=>osc_calm cl (by omega));have OH:=Lib.hid (hr_ok S T V P);rw [hE] at RO;rw [hc] at CA;rw [e1,e2];clear WILD HT0 HV0 RP0;generalize hr S T V P=h at *;have AT:=Lib.hid (fun i hi=>rdS_at S T V h (i:=i) hi);have RL:=Lib.hid (rdS_len S T V h);generalize rdS S T V h=S' at *;generalize rdL S T V P=rl at *;have HL:=Lib.hid hl;have F3:=Lib.hid f3;have F4:=Lib.hid f4;rw [hl] at CA LN BN ⊢;clear hl f3 f4 f5 e1 e2 cl hc hE;generalize hn:S.length=n at *;have HN:=Lib.hid hn;clear hn
     go_enter Tryz.func30,Tryz.ntmps30
     go_wp2_with fail;refine RO.out.mono ?_;rintro e w1 ⟨v1,rfl,_,b1⟩;have C1:=Lib.hid (CA.out w1 b1);have B1:=Lib.hid b1;clear b1 CA RO;go_wp2_with fail;refine C1.out.mono ?_;rintro e w2 ⟨rfl,b2⟩;have B2:=Lib.hid (B1.out.trans (b2.mono B1.out.size));have L2:=Lib.hid (LN.out w2 B2.out);clear b2 C1 B1 LN;go_wp2_with fail;refine L2.out.mono ?_;rintro e w3 ⟨v3,l,rfl,own3,lp,b3⟩;have BW:=Lib.hid (B2.out.trans (b3.mono B2.out.size));have SL3:=Lib.hid own3.sp;have LP:=Lib.hid lp;obtain ⟨la,lc,rfl,_⟩:=SL3.out.slice;clear own3 lp b3 L2 B2;generalize hll:l.length=ln at *;have HLL:=Lib.hid hll;clear hll;go_wp2
     rename World=>wA
     go_loopw [47,15] (fun i o wr2=>∃ (k:Nat) (ps:List Nat) (Fs:Nat→Nat→Prop),k≤n∧i = .int .i64 k∧Hid (PJ 89 wA S' k o ps Fs wr2)) (fun i _ _=>n - (intOf i).toNat)
     case atStart=>exact ⟨0,[],fun _ _=>False,Nat.zero_le _,rfl,PJ.start (Below.refl _ _)⟩
     case round =>
      obtain ⟨k,ps,Fs,hk,rfl,I⟩:=hrel;have BI:=Lib.hid (BW.out.trans (I.out.bel.mono BW.out.size));obtain ⟨av,cv,ev,_⟩:=I.out.own.slice;have OWN:=Lib.hid I.out.own;generalize ps.length=Lp at ev;subst ev
      by_cases hlt:k < n
      ·obtain ⟨b1,o1,c1,s,e1,cS,hS⟩:=BN.out.ns.st.one (k:=k) (by have:=HN.out;omega)
       rw [HN.out] at e1;injection e1 with e1 _ e2;subst e1 e2;obtain ⟨b2,o2,c2,at',ct,e2,cT,_,_⟩:=BN.out.ns.tb.one (k:=k) (by have:=F3.out;omega);have RT:=Lib.hid (BN.out.ns.tb.rd (k:=k) (by have:=F3.out;omega) e2 cT);rw [F3.out] at e2;subst e2;obtain ⟨a3,c3,e3,_,_,h3⟩:=BN.out.ns.lv;rw [F4.out] at e3;subst e3;obtain ⟨b3,o3,rfl,A3⟩:=h3 (by have:=F4.out;omega);have cV:=atB (A3.below BI.out) (i:=k) (by have:=F4.out;omega);rw [show V.getD k false=vat V k from rfl] at cV;obtain ⟨b4,o4,c4,a4,d4,e4,cO,_,s4⟩:=BN.out.os.one (k:=k) (by have:=HL.out;omega);rw [HL.out] at e4;injection e4 with e4 _ e5;subst e4 e5;have S4:=Lib.hid s4;have EA:=Lib.hid (AT.out k (by have:=HN.out;omega));have OKT:=Lib.hid (tab_each BN.out.ns.ok (k:=k) (by have:=F3.out;omega));have ML:=Lib.hid (may_len (may_all (not_bad BN.out.ns.ok) k (by have:=F3.out;omega)));have HS2:Hid (∀ W,Below w.heap.size w W→Pa.Has W s (sat S k)):=Lib.hid (fun W b=>by obtain ⟨F,h⟩:=hS;exact ⟨F,h.below b⟩);have CT:=Lib.hid cT;have CC:=Lib.hid cO;have lT:=World.block_lt_of_cell? _ _ cT;have lO:=World.block_lt_of_cell? _ _ cO;unfold ptr at cS;have sS:=(BI.out.cell (World.block_lt_of_cell? _ _ cS)).trans cS;have LN:=Lib.hid I.out.len;clear hS h3 A3 s4 cS cT cO
       cases hv:vat V k with
       | true =>
         rw [hv] at cV;rw [hv,if_pos rfl] at EA;have EQ:=Lib.hid (LQ.out l LP.out k hlt);have CK:=Lib.hid (CO.out k hlt);generalize hlk:(lat T k).length=lk at *;go_upto_region 12 with fail;clear cV sS;have sT:=Sc.cell_in (C:=fun W=>Below w.heap.size w W) (a:=⟨b2,o2+k,none⟩) (fun W' h=>(h.cell lT).trans CT.out);have sO:=Sc.cell_in (C:=fun W=>Below w.heap.size w W) (a:=⟨b4,o4+k,none⟩) (fun W' h=>(h.cell lO).trans CC.out);have BD:=Lib.hid (BI.out.trans ((Below.refl wr.heap.size wr).drew.mono BI.out.size));have ne:Nonempty (Sc.In (fun W=>Below w.heap.size w W)):=⟨⟨_,BD.out⟩⟩;have ID:=Lib.hid (I.out.below ((Below.refl wr.heap.size wr).drew));refine Sc.start (fun W=>Below w.heap.size w W) [(false,0),(false,1),(false,2),(false,3),(false,4),(false,5),(false,6),(false,7),(false,8),(false,9),(false,10),(true,11),(true,12),(true,13),(true,14),(false,15)] (by kernel_rfl) (by kernel_rfl) (by kernel_rfl) BD.out ?_;dsimp only [Sd.picks,List.getElem?_cons_succ,List.getElem?_cons_zero]
         repeat (refine Sd.lit ?_;quiet_step (fail);refine wpQuiet_nil ?_)
         clear sT sO;generalize wr.drew=Wd at *;have HD:=Lib.hid (heard_any (l:=l) (r:=osc O k) (SL3.out.below ID.out.bel) LP.out.1 (LF.out l LP.out) (S4.out.below BD.out) CK.out);rw [EQ.out] at HD;unfold HeardPost at HD;generalize (osc O k).n=on at *;refine Sd.call (by rfl) (fun K hK=>?_);go_simp;refine HD.out.mono ?_;rintro e w4 ⟨mb,rfl,hm,b4'⟩;have HM:=Lib.hid hm;have B4:=Lib.hid (BD.out.trans (b4'.mono BD.out.size));have I4:=Lib.hid (ID.out.below b4');refine hK _ _ (Sc.Cl.of B4.out) ?_;clear hK K b4' hm HD ID;have AP:=Lib.hid (apply_any (HS2.out w4 B4.out) (GG.out.below B4.out) (DD.out k (by omega)) (RT.out.below B4.out) (fun y hy=>(OKT.out y hy).1) (by have:=ML.out;omega) HM.out OH.out);unfold ApPost at AP;refine Sd.call (by rfl) (fun K hK=>?_);go_simp;refine AP.out.mono ?_;rintro e w5 ⟨g,F5,rfl,st5,lo5,b5⟩;have B5:=Lib.hid (B4.out.trans (b5.mono B4.out.size));refine hK _ _ (Sc.Cl.of B5.out) ?_;clear hK K;unfold ptr;refine Sd.call (by rfl) (fun K hK=>?_);go_simp;have I5:=Lib.hid ((I4.out.pend b5 (by rw [EA.out];exact st5) lo5).below ((Below.refl w5.heap.size w5).alloc (Nat.le_refl _) (.cells #[.pointer (some ⟨g,0,none⟩)] 89)));have N6:=Lib.hid (heap_alloc_new w5 (.cells #[.pointer (some ⟨g,0,none⟩)] 89));have B6:=Lib.hid (B5.out.alloc B5.out.size (.cells #[.pointer (some ⟨g,0,none⟩)] 89));refine hK _ _ (Sc.Cl.of B6.out) ?_;clear hK K st5 lo5 b5 I OWN AP I4 BD;generalize w5.heap.size=g5 at *;generalize (w5.alloc (.cells #[.pointer (some ⟨g,0,none⟩)] 89))=W6 at *;refine Sd.call (by rfl) (fun K hK=>?_);refine wp_push_at (K:=KN) Tryz.underlying78 infoN rfl (by omega) _ _ rfl wA.heap.size _ _ rfl I5.out.old.own _ g rfl ?d1 ?d2 ?d3 ?_
         case d1 =>
          intro j u hu
          match j,hu with
          | 0,hu=>simp [KN] at hu;subst hu;exact row_cell N6.out 0
          | j+1,hu=>simp [KN] at hu
         case d2=>rw [LN.out];omega
         case d3=>have:=I5.out.old.bel.size;exact this
         intro v' w6 o6 g6 h6
         have NEW:=Lib.hid (I5.out.push o6 g6 h6);refine hK _ _ (Sc.Cl.of (BW.out.trans (NEW.out.bel.mono BW.out.size))) ?_;clear hK K o6 g6 h6 I5 B5 B6 N6;obtain ⟨av',cv',ev',_⟩:=NEW.out.own.slice;generalize (ps ++ [g]).length=Lp' at ev';subst ev'
         repeat (refine Sd.lit ?_;quiet_step (fail);refine wpQuiet_nil ?_)
         refine Sd.done ?_;go_wp2
         go_roundw
         case rel=>exact ⟨k+1,ps ++ [g],_,by omega,by go_num,NEW⟩
         case measure=>simp [intOf];omega
       | false =>
         rw [hv] at cV;rw [hv,if_neg Bool.false_ne_true] at EA;have AP:=Lib.hid (copy_has (HS2.out wr BI.out));unfold CopySt at AP;generalize (lat T k).length=lk at *;generalize (osc O k).n=on at *;go_wp2_with fail;refine AP.out.mono ?_;rintro e w5 ⟨g,F5,rfl,st5,lo5,b5⟩;have I5:=Lib.hid ((I.out.pend b5 (by rw [EA.out];exact st5) lo5).below ((Below.refl w5.heap.size w5).alloc (Nat.le_refl _) (.cells #[.pointer (some ⟨g,0,none⟩)] 89)));clear st5 lo5 b5 I OWN AP cV sS
         (try unfold ptr)
         go_wp2_with (at_builtin;refine push_at (K:=KN) Tryz.underlying78 infoN rfl (by omega) rfl _ _ rfl wA.heap.size _ _ rfl I5.out.old.own _ g rfl ?d1 ?d2 ?d3 ?_)
         case d1 =>
          intro j u hu
          match j,hu with
          | 0,hu=>simp [KN] at hu;subst hu;unfold ptr;go_simp
          | j+1,hu=>simp [KN] at hu
         case d2=>rw [LN.out];omega
         case d3=>have:=I5.out.old.bel.size;exact this
         intro v' w6 o6 g6 h6
         have NEW:=Lib.hid (I5.out.push o6 g6 (by simpa using h6));clear o6 g6 h6 I5;obtain ⟨av',cv',ev',_⟩:=NEW.out.own.slice;generalize (ps ++ [g]).length=Lp' at ev';subst ev';go_wp2
         go_roundw
         case rel=>exact ⟨k+1,ps ++ [g],_,by omega,by go_num,NEW⟩
         case measure=>simp [intOf];omega
      ·obtain rfl:k=n:=by omega
       have RES:Hid (BrP w 0 S' (.returned (.tuple #[.slice av Lp cv,.int .i64 0])) wr):=Lib.hid ⟨_,ps,Fs,rfl,fun _=>by rw [RL.out];exact I.out.low BW.out.size BI.out,fun e=>absurd rfl e,BI.out⟩;clear I OWN;go_wp2
       go_ret2
       exact RES.out
  ·have WL:=Lib.hid (WILD.out fun h=>hl h.1)
   rw [hE] at RO;generalize buE S T V O=be at *;generalize buL S T V P O=bl at *;generalize rdL S T V P=rl at *;clear WILD OS HS0 DD;generalize S.length=n at *;generalize O.length=no at *;have hne:((no:Int) != (n:Int))=true:=by simp;omega
   go_enter Tryz.func30,Tryz.ntmps30
   go_wp2_with fail;refine RO.out.mono ?_;rintro e w1 ⟨v1,rfl,_,b1⟩;have RES:=Lib.hid (WL.out w1 b1);clear b1 RO WL;go_wp2
   go_ret2
   exact RES.out
 ·obtain ⟨e1,e2⟩:=buE_wrong (O:=O) (P:=P) hE
  rw [e1,e2];have HEE:=Lib.hid hE;have hne:(rdE S T V != 0)=true:=by simpa using hE
  clear hE OS HS0 DD e1 e2;generalize rdE S T V=E at *;generalize rdL S T V P=rl at *;generalize S.length=n at *;generalize O.length=no at *
  go_enter Tryz.func30,Tryz.ntmps30
  go_wp2_with fail;refine RO.out.mono ?_;rintro e w1 ⟨v1,rfl,_,b1⟩;have RES:Hid (BrP w E [] (.returned (.tuple #[.slice none 0 0,.int .i64 E])) w1):=Lib.hid ⟨_,[],fun _ _=>False,rfl,fun e=>absurd e HEE.out,fun _=>rfl,b1⟩;clear b1 RO;go_wp2
  go_ret2
  exact RES.out
end Go.Proofs.YtljnkaodhfnbbaaGreatDoor.Cu
namespace Go.Proofs.YtljnkaodhfnbbaaGreatDoor.Cu
open Go.RowKit Go.Maps
open Rw (Rd Ow At)
open Fl (row_cell row_frozen)
open Fs (Abs St OkA Only Fx ow_only Glob)
open Pa (Sts S2 sat vat KN KB K2 ptr Stl rdE rdL rdS hr push_at infoN)
open Ck (LL lat RdL KS Hd sl zh infoS)
open Ro (E5 K5)
open Bu (Osc osc OsL ofS calmLB buE buL buE_ok buE_wrong)
attribute [local irreducible] Sd.wpSd wpQuiet
theorem infoB1:(Tryz.prog.info? 4).map (fun i=>(i.zero,i.size,i.bytes))=some (some (.bool false),1,1):=by kernel_rfl
theorem infoT1:(Tryz.prog.info? 103).map (fun i=>(i.zero,i.size,i.bytes))=some (some (.slice none 0 0),1,24):=by kernel_rfl
def caS (S:Sts) (T:LL) (V:List Bool) (P:List S2):Sts:=if rdE S T V=0 then rdL S T V P else S
theorem bu_calm {S:Sts} {T:LL} {V:List Bool} {P:List S2} {O:List Osc} (hl:O.length=S.length) (hc:calmLB O=true):buE S T V O=rdE S T V∧(rdE S T V=0→buL S T V P O=rdL S T V P):=by
 by_cases h:rdE S T V=0
 ·obtain ⟨a,b⟩:=buE_ok (P:=P) h hl hc
  exact ⟨a.trans h.symm,fun _=>by rw [b];exact (if_pos h).symm⟩
 ·obtain ⟨a,b⟩:=buE_wrong (O:=O) (P:=P) h
  exact ⟨a,fun g=>absurd g h⟩
theorem rdL_len {S:Sts} {T:LL} {V:List Bool} {P:List S2} (h:rdE S T V=0):(rdL S T V P).length=S.length:=by
 have e:rdL S T V P=rdS S T V (hr S T V P):=if_pos h;rw [e,Pa.rdS_len]
set_option maxHeartbeats 8000000 in
theorem ccarry_any {s t p:Nat} {F:Nat→Prop} {c:Cs} {vn vq:Value} {L:List Nd} {Fs:Nat→Nat→Prop} {w:World} (h:Cl w s F c t vn L p vq Fs) (hlen:2≤c.S.length∧c.S.length≤32) (hlv:c.V.length=c.S.length) (hst:∀ i:Nat,i < c.S.length→0≤(sat c.S i).2∧(sat c.S i).2 < 900000) (hg:Glob w) {r:Int} (hr:0≤r∧r≤5) {vp:Value} {P:List S2} (RP:Rd K2 w vp P) :
 Calls Tryz.prog 118 #[ptr s,.int .i64 r,vp] w (DoC w s F { c with S:=caS c.S (tbs c.S r) c.V P } t (rdE c.S (tbs c.S r) c.V)):=by
 obtain ⟨g,cap,rfl,-,hm,-⟩:=h.one (i:=0) (by omega);have H:=Lib.hid h;have HL:=Lib.hid h.len;have HT:=Lib.hid (tbs_len c.S r);have OK:=Lib.hid hlv;have GG:=Lib.hid hg;have R:=Lib.hid RP
 have CT:Hid (∀ wr,Below w.heap.size w wr→∀ k:Nat,k < c.S.length→Calls Tryz.prog 164 #[ptr s,.int .i64 k,.int .i64 r] wr (TbC wr (lat (tbs c.S r) k))):=Lib.hid (fun wr b k hk=>by
  have:=ctable_any (H.out.below b) hk (k:=r) ⟨hr.1,by omega⟩;rw [← tbs_at c.S r hk] at this
  exact this)
 have ND:Hid (∀ wr,Below w.heap.size w wr→∀ k:Nat,k < c.S.length→wr.cell? ⟨s,0,none⟩=some (.slice (some ⟨g,0,none⟩) c.S.length cap)∧wr.cell? ⟨g,k * 3,none⟩=some (ptr (nda L k).s)∧wr.cell? ⟨g,k * 3+1,none⟩=some (.bool (nda L k).live)∧wr.cell? ⟨g,k * 3+2,none⟩=some (.int .i64 (nda L k).rate)):=Lib.hid (fun wr b k hk=>⟨(H.out.below b).cells.1,(H.out.below b).nod hk⟩);have CC:=Lib.hid (rosc_calm h.rt);have OL:=Lib.hid ((rosc_len L).trans h.len);have DV:Hid (∀ i:Nat,i < c.S.length→0≤(sat c.S i).2∧(sat c.S i).2 < 900000):=Lib.hid hst;have BE:=Lib.hid (fun S T V P=>bu_calm (S:=S) (T:=T) (V:=V) (P:=P) (O:=rosc L));have N32:Hid (2≤c.S.length∧c.S.length≤32):=Lib.hid hlen;have d0:=h.cells.1;obtain ⟨pa,pc,rfl,_⟩:=RP.slice;have C0:=Lib.hid (CI.start w (tbs c.S r) L);clear h hlen hlv hst hg RP hr;generalize hT:tbs c.S r=T at *;generalize hPl:P.length=pl at *;generalize hn:c.S.length=n at *;have HN:=Lib.hid hn;have HPL:=Lib.hid hPl;generalize hRE:rdE c.S T c.V=re at *;generalize hCS:caS c.S T c.V P=S2 at *;have RE:=Lib.hid hRE;have CS:=Lib.hid hCS;clear hn hPl hT hRE hCS;unfold ptr at *
 go_enter Tryz.func118,Tryz.ntmps118
 go_wp2;clear d0
 go_loopw [22,7,8,9,10] (fun i o1 o2 o3 o4 wr=>∃ (k:Nat) (l1:List Nat) (l2:List Hd) (l3:List Bool) (l4:List Hd) (p1 p2 p3 p4:Value),k≤n∧i = .int .i64 k∧p1=o1∧p2=o2∧p3=o3∧p4=o4∧Hid (CI w T L k k k k o1 l1 o2 l2 o3 l3 o4 l4 wr)) (fun i _ _ _ _ _=>n - (intOf i).toNat)
 case atStart=>exact ⟨0,[],[],[],[],_,_,_,_,Nat.zero_le _,rfl,rfl,rfl,rfl,rfl,C0⟩
 case round =>
  clear C0;obtain ⟨k,l1,l2,l3,l4,p1,p2,p3,p4,hk,rfl,rfl,rfl,rfl,rfl,I⟩:=hrel;obtain ⟨a1,c1,e1,_,_⟩:=I.out.w1.slice;obtain ⟨a2,c2,e2,_,_⟩:=I.out.w2.slice;obtain ⟨a3,c3,e3,_,_⟩:=I.out.w3.slice;obtain ⟨a4,c4,e4,_,_⟩:=I.out.w4.slice;have N1:=Lib.hid I.out.n1;have N2:=Lib.hid I.out.n2;have N3:=Lib.hid I.out.n3;have N4:=Lib.hid I.out.n4;generalize l1.length=m1 at e1;generalize l2.length=m2 at e2;generalize l3.length=m3 at e3;generalize l4.length=m4 at e4;subst e1 e2 e3 e4
  by_cases hlt:k < n
  ·have HLT:=Lib.hid hlt
   obtain ⟨d0,y0,y1,y2⟩:=ND.out wr I.out.bel k hlt;generalize hx:nda L k=x at *;have HX:=Lib.hid hx;clear hx;have Z0:=Lib.hid (heap_alloc_new wr (.cells #[.pointer (some ⟨x.s,0,none⟩),.bool x.live,.int .i64 x.rate] 139));have BN:=Lib.hid ((Below.refl wr.heap.size wr).alloc (Nat.le_refl _) (.cells #[.pointer (some ⟨x.s,0,none⟩),.bool x.live,.int .i64 x.rate] 139));go_upto_region 8 with fail;clear y0 y1 y2 d0;generalize wr.alloc (.cells #[.pointer (some ⟨x.s,0,none⟩),.bool x.live,.int .i64 x.rate] 139)=W at *;have I1:=Lib.hid (I.out.below BN.out);generalize wr.heap.size=gx at *;have y0:W.cell? ⟨gx,0,none⟩=some (.pointer (some ⟨x.s,0,none⟩)):=row_cell Z0.out 0;have I2:=Lib.hid (I1.out.below ((Below.refl W.heap.size W).alloc (Nat.le_refl _) (.cells #[.pointer (some ⟨x.s,0,none⟩)] 89)));have BX:=Lib.hid I2.out.bel.size;clear I BN
   go_wp2_with (at_builtin;refine push_at (K:=KN) Tryz.underlying78 infoN rfl (by omega) rfl _ _ rfl w.heap.size _ _ rfl I2.out.w1 _ x.s rfl ?d1 ?d2 ?d3 ?_)
   case d1 =>
    intro j u hu
    match j,hu with
    | 0,hu=>simp [KN] at hu;subst hu;unfold ptr;go_simp
    | j+1,hu=>simp [KN] at hu
   case d2=>rw [N1.out];have:=N32.out;omega
   case d3=>exact BX.out
   intro v1 w1 o1 g1 h1
   have NEW1:=Lib.hid (I2.out.push1 o1 (by simpa using g1) (by rw [HX.out]));have Z1:=Lib.hid ((((Below.refl W.heap.size W).alloc (Nat.le_refl _) (.cells #[.pointer (some ⟨x.s,0,none⟩)] 89)).block gx (lt_of_block Z0.out)).trans Z0.out);have Y1:Hid (w1.heap[gx]? = some (.cells #[.pointer (some ⟨x.s,0,none⟩),.bool x.live,.int .i64 x.rate] 139 (0,0))):=Lib.hid ((g1.block gx (lt_of_block Z1.out) (fun e=>I2.out.w1.apart Z1.out (by decide) e.symm)).trans Z1.out);clear o1 g1 h1 I1 I2 BX y0 Z0 Z1;obtain ⟨av1,cv1,ev1,_⟩:=NEW1.out.w1.slice;generalize (l1 ++ [x.s]).length=Lp1 at ev1;subst ev1;have C2:=Lib.hid (CT.out w1 NEW1.out.bel k hlt);unfold TbC at C2;go_upto_region 9 with fail;go_wp2_with fail;refine C2.out.mono ?_;rintro e w2 ⟨u2,rfl,o2,b2⟩;have I3:=Lib.hid (NEW1.out.below b2);have U2:=Lib.hid (o2.low NEW1.out.bel.size);have Y2:=Lib.hid ((b2.block gx (lt_of_block Y1.out)).trans Y1.out);obtain ⟨a6,c6,e6,_,_⟩:=U2.out.slice;generalize (lat T k).length=lk at e6;subst e6;have B3:=Lib.hid ((Below.refl w2.heap.size w2).alloc (Nat.le_refl _) (.cells #[.slice a6 lk c6] 85));have I4:=Lib.hid (I3.out.below B3.out);have U3:=Lib.hid (U2.out.keep B3.out);have Y3:=Lib.hid ((B3.out.block gx (lt_of_block Y2.out)).trans Y2.out);have BX:=Lib.hid I4.out.bel.size;clear o2 b2 C2 NEW1 U2 I3 Y1 Y2 B3
   go_wp2_with (at_builtin;refine push_at (K:=KS) Tryz.underlying79 infoS rfl (by omega) rfl _ _ rfl w.heap.size _ _ rfl I4.out.w2 _ (a6,lk,c6) rfl ?d1 ?d2 ?d3 ?_)
   case d1 =>
    intro j u hu
    match j,hu with
    | 0,hu=>simp [KS] at hu;subst hu;unfold sl;go_simp
    | j+1,hu=>simp [KS] at hu
   case d2=>rw [N2.out];have:=N32.out;omega
   case d3=>exact BX.out
   intro v3 w3 o3 g3 h3
   have NEW2:=Lib.hid (I4.out.push2 (x:=(a6,lk,c6)) o3 (by simpa using g3) U3.out);have Y4:Hid (w3.heap[gx]? = some (.cells #[.pointer (some ⟨x.s,0,none⟩),.bool x.live,.int .i64 x.rate] 139 (0,0))):=Lib.hid ((g3.block gx (lt_of_block Y3.out) (fun e=>I4.out.w2.apart Y3.out (by decide) e.symm)).trans Y3.out);clear o3 g3 h3 I4 U3 BX Y3;obtain ⟨av2,cv2,ev2,_⟩:=NEW2.out.w2.slice;generalize (l2 ++ [(a6,lk,c6)]).length=Lp2 at ev2;subst ev2;go_upto_region 10 with fail;have y1:w3.cell? ⟨gx,1,none⟩=some (.bool x.live):=row_cell Y4.out 1;have B5:=Lib.hid ((Below.refl w3.heap.size w3).alloc (Nat.le_refl _) (.cells #[.bool x.live] 4));have I5:=Lib.hid (NEW2.out.below B5.out);have Y5:=Lib.hid ((B5.out.block gx (lt_of_block Y4.out)).trans Y4.out);have BX:=Lib.hid I5.out.bel.size;clear NEW2 Y4 B5
   go_wp2_with (at_builtin;refine push_at (K:=KB) Tryz.underlying35 infoB1 rfl (by omega) rfl _ _ rfl w.heap.size _ _ rfl I5.out.w3 _ x.live rfl ?d1 ?d2 ?d3 ?_)
   case d1 =>
    intro j u hu
    match j,hu with
    | 0,hu=>simp [KB] at hu;subst hu;go_simp
    | j+1,hu=>simp [KB] at hu
   case d2=>rw [N3.out];have:=N32.out;omega
   case d3=>exact BX.out
   intro v5 w5 o5 g5 h5
   have NEW3:=Lib.hid (I5.out.push3 o5 (by simpa using g5) (by rw [HX.out]));have Y6:Hid (w5.heap[gx]? = some (.cells #[.pointer (some ⟨x.s,0,none⟩),.bool x.live,.int .i64 x.rate] 139 (0,0))):=Lib.hid ((g5.block gx (lt_of_block Y5.out) (fun e=>I5.out.w3.apart Y5.out (by decide) e.symm)).trans Y5.out);clear o5 g5 h5 I5 BX Y5 y1;obtain ⟨av3,cv3,ev3,_⟩:=NEW3.out.w3.slice;generalize (l3 ++ [x.live]).length=Lp3 at ev3;subst ev3;go_upto_region 11 with fail;have y2:w5.cell? ⟨gx,2,none⟩=some (.int .i64 x.rate):=row_cell Y6.out 2;have LT:Hid (Ow K2 (w5.alloc (.cells #[.int .i64 0,.int .i64 x.rate] 108)) w.heap.size 108 (.slice (some ⟨w5.heap.size,0,none⟩) 1 1) [(0,x.rate)]):=Lib.hid (Rw.Ow.lit (K:=K2) w5 w.heap.size 108 [(0,x.rate)] NEW3.out.bel.size (by unfold maxLen;simp));have B7:=Lib.hid ((Below.refl w5.heap.size w5).alloc (Nat.le_refl _) (.cells #[.int .i64 0,.int .i64 x.rate] 108));generalize hg7:w5.heap.size=g7 at *;have B8:=Lib.hid ((Below.refl (w5.alloc (.cells #[.int .i64 0,.int .i64 x.rate] 108)).heap.size (w5.alloc (.cells #[.int .i64 0,.int .i64 x.rate] 108))).alloc (Nat.le_refl _) (.cells #[.slice (some ⟨g7,0,none⟩) 1 1] 103));have I7:=Lib.hid ((NEW3.out.below (by have:=B7.out;rw [← hg7] at this;exact this)).below B8.out);have U8:=Lib.hid (LT.out.keep B8.out);have BX:=Lib.hid I7.out.bel.size;clear NEW3 Y6 LT B7 B8
   go_wp2_with (at_builtin;refine push_at (K:=KS) Tryz.underlying80 infoT1 rfl (by omega) rfl _ _ rfl w.heap.size _ _ rfl I7.out.w4 _ (some ⟨g7,0,none⟩,1,1) rfl ?d1 ?d2 ?d3 ?_)
   case d1 =>
    intro j u hu
    match j,hu with
    | 0,hu=>simp [KS] at hu;subst hu;unfold sl;go_simp
    | j+1,hu=>simp [KS] at hu
   case d2=>rw [N4.out];have:=N32.out;omega
   case d3=>exact BX.out
   intro v7 w7 o7 g7' h7
   have NEW4:=Lib.hid (I7.out.push4 (x:=(some ⟨g7,0,none⟩,1,1)) o7 (by simpa using g7') (by rw [HX.out];exact U8.out));clear o7 g7' h7 I7 BX y2 U8;obtain ⟨av4,cv4,ev4,_⟩:=NEW4.out.w4.slice;generalize List.length _=Lp4 at ev4;subst ev4;have n32:=N32.out.2;go_wp2
   go_roundw
   case rel=>exact ⟨k+1,_,_,_,_,_,_,_,_,by have:=HLT.out;omega,by go_num,rfl,rfl,rfl,rfl,NEW4⟩
   case measure=>have:=HLT.out;simp [intOf];omega
  ·obtain rfl:k=n:=by omega
   have CR:=Lib.hid (broundF_any (w:=wr) (S:=c.S) (T:=T) (V:=c.V) (P:=P) (O:=rosc L) (CI.stl (by rw [HN.out];exact I.out) H.out) (CI.tab I.out (by rw [HT.out])) (CI.liv (by rw [HN.out];exact I.out) H.out (by rw [OK.out,HN.out])) (R.out.below I.out.bel) (CI.osl (by rw [HL.out];exact I.out)) (GG.out.below I.out.bel) (by rw [HN.out];exact DV.out));obtain ⟨q1,q2⟩:=BE.out c.S T c.V P (by rw [HN.out];exact OL.out) CC.out;rw [q1,RE.out] at CR;have Q2:=Lib.hid q2;have BW:=Lib.hid I.out.bel;have HW:=Lib.hid (H.out.below I.out.bel);have LOW:=Lib.hid H.out.low;clear q1 q2 I N1 N2 N3 N4 CT ND DV BE R;unfold BrP at CR
   by_cases hE:re=0
   ·have HS:Hid (S2=rdL c.S T c.V P):=Lib.hid (by rw [← CS.out];exact if_pos (RE.out.trans hE))
    have HR:Hid (S2.length=k):=Lib.hid (by rw [HS.out,rdL_len (RE.out.trans hE),HN.out]);rw [Q2.out (RE.out.trans hE),← HS.out] at CR;subst hE;clear Q2 HS;go_wp2_with fail;refine CR.out.mono ?_;rintro e w2 ⟨v,ps,Gs,rfl,hpj,_,b2⟩;have PJ2:=Lib.hid (hpj trivial);have H2:=Lib.hid (HW.out.below b2);have P0:Hid (PL w2 g cap k L ps 0 w2):=Lib.hid ⟨by rw [put1_zero];exact H2.out.no,Only.refl _ _⟩;have D0:=Lib.hid H2.out.cells.1;have NS:Hid (s≠g):=Lib.hid (fun e=>H2.out.vs.1 (by rw [e];rfl));have PLN:Hid (ps.length=k):=Lib.hid (by rw [PJ2.out.len,HR.out]);obtain ⟨gb,cb,ev,_,_,_,_,_,hA⟩:=PJ2.out.own.form (by have:=PLN.out;have:=N32.out;omega);rw [PLN.out] at ev
    have AT:Hid (∀ i,i < k→w2.cell? ⟨gb,i,none⟩=some (.pointer (some ⟨ps.getD i 0,0,none⟩))):=Lib.hid (fun i hi=>by
     have:=Pa.atN hA (i:=i) (by rw [PLN.out];exact hi);rw [Nat.zero_add] at this
     exact this)
    have NB:Hid (gb≠g):=Lib.hid (fun e=>by
     obtain ⟨_,q⟩:=H2.out.no
     rcases q with ⟨q,_⟩ | ⟨b,cap',cur,q,_,hh,_⟩
     ·cases q
     ·injection q with q1 _ _
      injection q1 with q1;injection q1 with q1 _ _
      exact PJ2.out.own.apart hh (by decide) (by rw [ev,e,q1];rfl))
    have FIN:Hid (∀ w',PL w2 g cap k L ps k w'→DoC w s F { c with S:=S2 } t 0 (.returned (.int .i64 0)) w'):=Lib.hid (fun w' pp=>by
     have q:=Cl.carry HW.out (g:=g) (cap:=cap) (by rw [HN.out]) PJ2.out (by rw [HR.out,HN.out]) (by rw [HN.out];exact pp)
     exact (show DoC wr s F { c with S:=S2 } t 0 (.returned (.int .i64 0)) w' from ⟨rfl,⟨_,_,_,_,_,q.1⟩,q.2⟩).pre BW.out LOW.out)
    subst ev;clear hpj b2 hA CR;obtain ⟨wo,hwo⟩:∃ x,x=wr:=⟨_,rfl⟩;subst hwo;go_wp2
    go_loopw [63] (fun i wr3=>∃ j:Nat,j≤k∧i = .int .i64 j∧Hid (PL w2 g cap k L ps j wr3)) (fun i _=>k - (intOf i).toNat)
    case atStart=>exact ⟨0,Nat.zero_le _,rfl,P0⟩
    case round =>
     clear P0;obtain ⟨j,hj,rfl,PP⟩:=hrel
     by_cases hlj:j < k
     ·have y0:=PP.out.only.cell (AT.out j hlj) NB.out
      have y1:wr.cell? ⟨s,0,none⟩=some (.slice (some ⟨g,0,none⟩) k cap):=PP.out.only.cell D0.out NS.out;have hpl:(put1 L ps j).length=k:=by rw [put1_len];exact HL.out
      have PO:=PP.out.own;obtain ⟨g',cap',e',_,_,_,_,fz,hA⟩:=PO.form (by omega);injection e' with e1 _ e3;injection e1 with e1;injection e1 with e1 _ _;subst e1 e3;have y2:=(atD hA (i:=j) (by omega)).1;have f2:=fz (j * 3);rw [Nat.zero_add] at y2;unfold ptr at y2;have P1:=Lib.hid (PP.out.step HL.out hlj);unfold ptr at P1;have HLJ:=Lib.hid hlj;clear PP hA fz PO hpl;generalize ps.getD j 0=nj at *;generalize (nda (put1 L ps j) j).s=oj at *;have n32:=N32.out.2;go_wp2
      go_roundw
      case rel=>exact ⟨j+1,by have:=HLJ.out;omega,by go_num,P1⟩
      case measure=>have:=HLJ.out;simp [intOf];omega
     ·obtain rfl:j=k:=by omega
      have E:=Lib.hid (FIN.out wr PP.out);clear FIN PP;go_wp2
      go_ret
      exact E.out
   ·have HS:Hid (S2=c.S):=Lib.hid (by rw [← CS.out];exact if_neg (fun e=>hE (RE.out.symm.trans e)))
    clear Q2;go_wp2_with fail;refine CR.out.mono ?_;rintro e w2 ⟨v,ps,Gs,rfl,_,hv,b2⟩;obtain rfl:=hv hE
    have E:Hid (DoC w s F { c with S:=S2 } t re (.returned (.int .i64 re)) w2):=Lib.hid (by
     rw [HS.out]
     exact (doc_below HW.out b2 re).pre BW.out LOW.out)
    clear b2 hv CR;obtain ⟨wo,hwo⟩:∃ x,x=wr:=⟨_,rfl⟩;subst hwo;go_wp2
    go_loopw [63] (fun i wr3=>i = .int .i64 0∧w2=wr3) (fun _ _=>0)
    case atStart=>exact ⟨rfl,rfl⟩
    case round =>
     obtain ⟨rfl,rfl⟩:=hrel;go_wp2
     go_ret
     exact E.out
end Go.Proofs.YtljnkaodhfnbbaaGreatDoor.Cu
