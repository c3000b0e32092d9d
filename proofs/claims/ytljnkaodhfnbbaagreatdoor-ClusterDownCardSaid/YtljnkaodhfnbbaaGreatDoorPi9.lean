import Derived.Test.YtljnkaodhfnbbaaGreatDoorPi7
import Derived.Test.YtljnkaodhfnbbaaGreatDoorPi8
import Derived.Test.YtljnkaodhfnbbaaGreatDoorPi6
import Derived.Test.YtljnkaodhfnbbaaGreatDoorPi4
import Derived.Deep.Cut
import Derived.Test.YtljnkaodhfnbbaaGreatDoorPi3
import Derived.Test.YtljnkaodhfnbbaaGreatDoorPi1
import Derived.Test.YtljnkaodhfnbbaaGreatDoorChecked
import Derived.LoopTactic
import Derived.Outline
import Derived.Deep.LoopGhost
import Derived.Deep.Draws
import Derived.Lib.Hide
import Derived.Shelf.Abstract
import Derived.Test.YtljnkaodhfnbbaaGreatDoorShelf
import Derived.Shelf.SlSortCmp.WholeK
import Derived.Shelf.SlSortCmp.NoneTotal
import Derived.StillTailTactics
import Derived.BigQuiet
import Derived.Deep.QuietTactic
import Derived.WalkSmall
import Derived.Deep.RegionWith
import Derived.Test.YtljnkaodhfnbbaaGreatDoorPi5
set_option maxRecDepth 100000
namespace Go.Proofs.YtljnkaodhfnbbaaGreatDoor.Cu
open Go.RowKit
open Rw (Rd Ow At)
open Fl (R4 K4 okL row_cell row_frozen)
open Fs (Ent Fil Abs St OkA Only Fx ow_only)
open Pa (S2 Sts sat vat KN KB K2 ptr Fls wp_push_at only_grown)
open Ck (Hd sl zh)
attribute [local irreducible] Sd.wpSd wpQuiet Sz.wpSz
def NwF (w wr:World) (k:Nat):Prop:=w.heap.size≤k∧k < wr.heap.size
theorem sat_push {S:Sts} {x:Abs×Int} {i:Nat} (hi:i < S.length+1):sat (S ++ [x]) i=if i < S.length then sat S i else x:=by
 unfold sat;rw [Int.toNat_natCast];exact gd_push x ([],0) rfl hi
theorem vat_push {V:List Bool} {b:Bool} {i:Nat} (hi:i < V.length+1):vat (V ++ [b]) i=if i < V.length then vat V i else b:=by
 unfold vat;rw [Int.toNat_natCast];exact gd_push b false rfl hi
theorem nda_push {L:List Nd} {x:Nd} {i:Nat} (hi:i < L.length+1):nda (L ++ [x]) i=if i < L.length then nda L i else x:=gd_push x ndD rfl hi
section
variable {s t p m q:Nat} {F G:Nat→Prop} {c:Cs} {vn vq v':Value} {L:List Nd} {Fs:Nat→Nat→Prop} {w w5 w6:World} {A:Abs} {rate:Int}
theorem Cl.push (h:Cl w5 s F c t vn L p vq Fs) (hF:∀ k,F k→w.heap.size≤k∧k < m) (hv:c.V.length=c.S.length) (st:St w5 q G A 0) (hG:∀ k,G k→m≤k) (hm:w.heap.size≤m) (hr : -2000≤rate∧rate≤2000) (ow:Ow KD w6 0 139 v' (L ++ [⟨q,true,rate⟩])) (gr:w5.grownBy w6 vn.ownBlock) (hw:w.heap.size≤w5.heap.size) (hq:v'.ownBlock=vn.ownBlock∨∃ g,v'.ownBlock=some g∧w5.heap.size≤g) :
 Cl (w6.setCell ⟨s,0,none⟩ v') s (NwF w (w6.setCell ⟨s,0,none⟩ v')) { c with S:=c.S ++ [(A,0)],V:=c.V ++ [true] } t v' (L ++ [⟨q,true,rate⟩]) p vq (fun i=>if i < L.length then Fs i else G):=by
 have oq:=only_grown gr;have hl:=h.len;have zz:=gr.size;have hzz:(w6.setCell ⟨s,0,none⟩ v').heap.size=w6.heap.size:=by simp [World.setCell]
 have lv:∀ k,v'.ownBlock=some k→k < w6.heap.size:=fun k e=>(World.ownsRow.lt ow k e).2;have sne:vn.ownBlock≠some s:=h.vs.1;have row1:w6.heap[s]? = some (.cells #[vn,ptr p,.int .i64 c.pl,vq] 137 (0,0)):=(oq.block s h.slt (fun e=>sne e)).trans h.row;have row2:(w6.setCell ⟨s,0,none⟩ v').heap[s]? = some (.cells #[v',ptr p,.int .i64 c.pl,vq] 137 (0,0)):=Rw.heap_setCell_same (j:=0) row1 _;have o3:Only (fun k=>k=s) w6 (w6.setCell ⟨s,0,none⟩ v'):=Only.set (fun k=>k=s) w6 (a:=⟨s,0,none⟩) rfl _;have inN:∀ k,F k→NwF w (w6.setCell ⟨s,0,none⟩ v') k:=fun k g=>⟨(hF k g).1,by rw [hzz];have:=h.low k g;omega⟩;have offG:∀ k,G k→k≠s∧k≠p∧v'.ownBlock≠some k∧vq.ownBlock≠some k∧vn.ownBlock≠some k:=fun k g=>by
  have g0:=hG k g;have gl:=st.low k g;have a1:=(hF s h.fs).2;have a2:=(hF p h.fp).2;have a3:∀ j,vn.ownBlock=some j→j < m:=fun j e=>(hF j (h.fv j (.inl e))).2;have a4:∀ j,vq.ownBlock=some j→j < m:=fun j e=>(hF j (h.fv j (.inr e))).2;refine ⟨by omega,by omega,fun e=>?_,fun e=>by have:=a4 k e;omega,fun e=>by have:=a3 k e;omega⟩
  rcases hq with q | ⟨j,q,hj⟩
  ·have:=a3 k (by rw [← q];exact e);omega
  ·rw [q] at e;injection e with e;omega
 have offF:∀ i,i < L.length→∀ k,Fs i k→k≠s∧k≠p∧v'.ownBlock≠some k∧vq.ownBlock≠some k∧vn.ownBlock≠some k:=fun i hi k g=>by
  have q0:=h.off i hi k g;refine ⟨q0.1,q0.2.1,fun e=>?_,q0.2.2.2,q0.2.2.1⟩
  rcases hq with q | ⟨j,q,hj⟩
  ·exact q0.2.2.1 (by rw [← q];exact e)
  ·rw [q] at e;injection e with e
   have:=h.low k (h.ff i hi k g);omega
 have hlen:(L ++ [(⟨q,true,rate⟩:Nd)]).length=L.length+1:=by simp
 refine ⟨row2,ow_only ow (fun k e q=>ow.apart row1 (by decide) (by rw [e,q])) o3,by rw [hlen];simp;omega,fun i hi=>?_,fun i hi=>?_,fun i hi=>?_,(h.pr.only oq (fun e=>h.vp.1 e)).only o3 (fun e=>h.sp_ne e.symm),ow_only (ow_only h.sp (fun k e q=>h.vv k q e) oq) (fun k e q=>h.vs.2 (by rw [e,q])) o3,inN s h.fs,inN p h.fp,fun k g=>?_,fun i hi k g=>?_,fun i j hi hj hij k g=>?_,fun i hi k g=>?_,fun k g=>g.2⟩
 ·rw [hlen] at hi
  show St _ _ _ (sat (c.S ++ [(A,0)]) i).1 (sat (c.S ++ [(A,0)]) i).2
  rw [nda_push hi,sat_push (by omega)]
  by_cases e:i < L.length
  ·rw [if_pos e,if_pos e,if_pos (by omega)]
   exact ((h.st i e).only (fun k g q=>(offF i e k g).2.2.2.2 q) oq).only (fun k g q=>(offF i e k g).1 q) o3
  ·rw [if_neg e,if_neg e,if_neg (by omega)]
   exact (st.only (fun k g q=>(offG k g).2.2.2.2 q) oq).only (fun k g q=>(offG k g).1 q) o3
 ·rw [hlen] at hi
  show _=vat (c.V ++ [true]) i
  rw [nda_push hi,vat_push (by omega)]
  by_cases e:i < L.length
  ·rw [if_pos e,if_pos (by omega)];exact h.lv i e
  ·rw [if_neg e,if_neg (by omega)]
 ·rw [hlen] at hi
  rw [nda_push hi]
  by_cases e:i < L.length
  ·rw [if_pos e];exact h.rt i e
  ·rw [if_neg e];exact hr
 ·rcases g with g | g
  ·refine ⟨?_,by rw [hzz];exact lv k g⟩
   rcases hq with q | ⟨j,q,hj⟩
   ·exact (hF k (h.fv k (.inl (by rw [← q];exact g)))).1
   ·rw [q] at g;injection g with g;omega
  ·exact inN k (h.fv k (.inr g))
 ·rw [hlen] at hi
  by_cases e:i < L.length
  ·rw [if_pos e] at g;exact inN k (h.ff i e k g)
  ·rw [if_neg e] at g
   refine ⟨by have:=hG k g;omega,by rw [hzz];have:=st.low k g;omega⟩
 ·rw [hlen] at hi hj
  have sep:∀ i,i < L.length→∀ k,Fs i k→G k→False:=fun i e k g g'=>by have:=(hF k (h.ff i e k g)).2;have:=hG k g';omega
  by_cases e:i < L.length
  ·rw [if_pos e] at g
   by_cases e':j < L.length
   ·rw [if_pos e'];exact h.dis i j e e' hij k g
   ·rw [if_neg e'];exact fun g'=>sep i e k g g'
  ·rw [if_neg e] at g
   by_cases e':j < L.length
   ·rw [if_pos e'];exact fun g'=>sep j e' k g' g
   ·omega
 ·rw [hlen] at hi
  by_cases e:i < L.length
  ·rw [if_pos e] at g
   have:=offF i e k g;exact ⟨this.1,this.2.1,this.2.2.1,this.2.2.2.1⟩
  ·rw [if_neg e] at g
   have:=offG k g;exact ⟨this.1,this.2.1,this.2.2.1,this.2.2.2.1⟩
end
def NwCc (w:World) (L:List Pl) (e:Ending) (w':World):Prop:=Below w.heap.size w w'∧((newE L=0∧∃ s F,e = .returned (.tuple #[ptr s,.int .i64 0])∧ClE w' s F (newC L) 0∧∀ j,F j→w.heap.size≤j)∨(newE L≠0∧e = .returned (.tuple #[.pointer none,.int .i64 (newE L)])))
structure NwI (w:World) (L:List Pl) (s p k:Nat) (vn:Value) (LN:List Nd) (Fs:Nat→Nat→Prop) (wr:World):Prop where
 cl:Cl wr s (NwF w wr) (newC (L.take k)) 0 vn LN p (.slice none 0 0) Fs
 bel:Below w.heap.size w wr
 gd:Gds L k
theorem NwI.below {w wr w':World} {L:List Pl} {s p k:Nat} {vn:Value} {LN:List Nd} {Fs:Nat→Nat→Prop} (h:NwI w L s p k vn LN Fs wr) (b:Below wr.heap.size wr w'):NwI w L s p k vn LN Fs w' :=
 ⟨(h.cl.below b).wide (fun _ g=>⟨g.1,Nat.lt_of_lt_of_le g.2 b.size⟩) (fun _ g=>g.2),h.bel.trans (b.mono h.bel.size),h.gd⟩
theorem newC_more {L:List Pl} {i:Nat} (h:i < L.length):newC (L.take (i+1)) = { newC (L.take i) with S:=(newC (L.take i)).S ++ [((plat L i).1,0)],V:=(newC (L.take i)).V ++ [true] }:=by
 have e:=newC_next h;have q:newC (L.take (i+1))=⟨(newC (L.take (i+1))).S,(newC (L.take (i+1))).V,Wt.new,0,[]⟩:=rfl;rw [q,e.1,e.2]
 rfl
theorem NwI.step {w W w5 w6:World} {L:List Pl} {s p k q:Nat} {vn v':Value} {LN:List Nd} {Fs:Nat→Nat→Prop} {G:Nat→Prop} (h:NwI w L s p k vn LN Fs W) (b:Below W.heap.size W w5) (hk:k < L.length) (g:gdP (plat L k)) (st:St w5 q G (plat L k).1 0) (lo:∀ j,G j→W.heap.size≤j)
 (ow:Ow KD w6 0 139 v' (LN ++ [⟨q,true,(plat L k).2⟩])) (gr:w5.grownBy w6 vn.ownBlock) (hq:v'.ownBlock=vn.ownBlock∨∃ g,v'.ownBlock=some g∧w5.heap.size≤g):NwI w L s p (k+1) v' (LN ++ [⟨q,true,(plat L k).2⟩]) (fun i=>if i < LN.length then Fs i else G) (w6.setCell ⟨s,0,none⟩ v'):=by
 have hz:=b.size;have hw:=h.bel.size;have hv:(newC (L.take k)).V.length=(newC (L.take k)).S.length:=by
  show (List.map _ _).length=(List.map _ _).length
  rw [List.length_map,List.length_map]
 have cl5:=h.cl.below b;have z:=cl5.push (w:=w) (m:=W.heap.size) (fun k g=>g) hv st lo hw g.2 ow gr (Nat.le_trans hw hz) hq;refine ⟨?_,?_,gds_next h.gd g⟩
 ·rw [newC_more hk]
  exact z
 ·have b5:=h.bel.trans (b.mono hw)
  have b6:Below w.heap.size w w6:=b5.grown gr (Nat.le_trans hw hz) fun j e=>(h.cl.fv j (.inl e)).1;exact b6.setCell (h.cl.fs).1 _
theorem NwI.start {w w1:World} {L:List Pl} {p:Nat} (b:Below w.heap.size w w1) (pr:Wt.Pr w1 p Wt.new 0) (hp:w.heap.size≤p):NwI w L w1.heap.size p 0 (.slice none 0 0) [] (fun _ _=>False) (w1.alloc (.cells #[.slice none 0 0,ptr p,.int .i64 0,.slice none 0 0] 137)):=by
 have b2:=b.alloc b.size (.cells #[.slice none 0 0,ptr p,.int .i64 0,.slice none 0 0] 137);have bn:=(Below.refl w1.heap.size w1).alloc (Nat.le_refl _) (.cells #[.slice none 0 0,ptr p,.int .i64 0,.slice none 0 0] 137);have z:(w1.alloc (.cells #[.slice none 0 0,ptr p,.int .i64 0,.slice none 0 0] 137)).heap.size=w1.heap.size+1:=by simp
 have hb:=b.size;have pl:=pr.lt;have no0:∀ {P:Prop} {i:Nat},i < ([]:List Nd).length→P:=fun h=>absurd h (Nat.not_lt_zero _);refine ⟨⟨heap_alloc_new w1 _,Rw.Ow.nil _ _ _,rfl,fun i hi=>no0 hi,fun i hi=>no0 hi,fun i hi=>no0 hi,?_,Rw.Ow.nil _ _ _,⟨hb,by omega⟩,⟨hp,by omega⟩,fun k g=>?_,fun i hi=>no0 hi,fun i j hi=>no0 hi,fun i hi=>no0 hi,fun k g=>g.2⟩,b2,gds_zero L⟩
 ·exact pr.only (G:=fun _=>False) (Only.of_below bn) (fun g=>g)
 ·rcases g with g | g <;> simp [Value.ownBlock] at g
set_option maxHeartbeats 4000000 in
theorem cnew_any {w:World} {v:Value} {L:List PlD} {B:Nat} (H:Pls w v L B):Calls Tryz.prog 12 #[v] w (NwCc w (pls L)):=by
 have HH:=Lib.hid H;obtain ⟨a,cap,rfl,_,hm,h3⟩:=H.rd;have H3:=Lib.hid h3;have PLN:=Lib.hid (pls_len L);clear h3 H;unfold maxLen at hm
 by_cases hs:L.length < 2∨32 < L.length
 ·have e1:newE (pls L)=1:=new_short (by rw [pls_len];exact hs)
  have E:Hid (∀ w',Below w.heap.size w w'→NwCc w (pls L) (.returned (.tuple #[.pointer none,.int .i64 1])) w'):=Lib.hid (fun w' b=>⟨b,.inr ⟨by rw [e1];decide,by rw [e1]⟩⟩);clear HH H3 e1 PLN;generalize pls L=LL at *;generalize L.length=n at *
  by_cases h1:n < 2
  ·have p1:decide ((n:Int) < 2)=true:=decide_eq_true (by omega)
   clear hs
   go_enter Tryz.func12,Tryz.ntmps12
   go_wp2
   go_ret2
   exact E.out _ (Below.refl _ _)
  ·have p1:decide ((n:Int) < 2)=false:=decide_eq_false (by omega)
   have p2:decide (32 < (n:Int))=true:=decide_eq_true (by omega);clear hs
   go_enter Tryz.func12,Tryz.ntmps12
   go_wp2
   go_ret2
   exact E.out _ (Below.refl _ _)
 ·have hs':¬ ((pls L).length < 2∨32 < (pls L).length):=by rw [pls_len];exact hs
  have BAD:Hid (∀ k,k < L.length→¬ gdP (plat (pls L) k)→∀ w',Below w.heap.size w w'→NwCc w (pls L) (.returned (.tuple #[.pointer none,.int .i64 2])) w'):=Lib.hid (fun k hk g w' b=>by
   have e:=new_bad hs' (by rw [pls_len];exact hk) g
   exact ⟨b,.inr ⟨by rw [e];decide,by rw [e]⟩⟩)
  have END:Hid (∀ (s p:Nat) (vn:Value) (LN:List Nd) (Fs:Nat→Nat→Prop) (wr w':World),NwI w (pls L) s p L.length vn LN Fs wr→Below wr.heap.size wr w' →
   (agB (sat (newC (pls L)).S 0).1 (sat (newC (pls L)).S 1).1=true→NwCc w (pls L) (.returned (.tuple #[.pointer (some ⟨s,0,none⟩),.int .i64 0])) w')∧(agB (sat (newC (pls L)).S 0).1 (sat (newC (pls L)).S 1).1=false→NwCc w (pls L) (.returned (.tuple #[.pointer none,.int .i64 10])) w')):=Lib.hid (fun s p vn LN Fs wr w' I b=>by
   have h2:2≤(pls L).length:=by omega
   have ga:=gds_all (L:=pls L) (by rw [pls_len];exact I.gd);obtain ⟨n0,n1⟩:=new_end hs' ga;have ag:=ag_agree (pls L) h2;have bb:=I.bel.trans (b.mono I.bel.size);refine ⟨fun h=>⟨bb,.inl ⟨n0 (ag.1 h),s,NwF w wr,rfl,⟨vn,LN,p,.slice none 0 0,Fs,?_⟩,fun j g=>g.1⟩⟩,fun h=>?_⟩
   ·have c:=I.cl.below b
    have e:(pls L).take L.length=pls L:=by rw [← pls_len L];exact List.take_length
    rw [e] at c;exact c
   ·have e:=n1 (fun g=>by rw [ag.2 g] at h;cases h)
    exact ⟨bb,.inr ⟨by rw [e];decide,by rw [e]⟩⟩)
  have NEW:=Lib.hid (Wt.new_any w);have LB:Hid (2≤L.length∧L.length≤32):=Lib.hid (by omega);have p1:decide ((L.length:Int) < 2)=false:=decide_eq_false (by omega);have p2:decide (32 < (L.length:Int))=false:=decide_eq_false (by omega);clear hs hs';unfold Wt.CnewPost at NEW;generalize hn:L.length=n at *;have HN:=Lib.hid hn;clear hn
  go_enter Tryz.func12,Tryz.ntmps12
  go_wp2_with fail;refine NEW.out.mono ?_;rintro e w1 ⟨p,rfl,pr,hp,b1⟩;have I0:=Lib.hid (NwI.start (L:=pls L) b1 pr hp);clear NEW pr hp b1 p1 p2;unfold ptr at I0;go_upto_region 4 with fail;generalize (w1.alloc (.cells #[.slice none 0 0,.pointer (some ⟨p,0,none⟩),.int .i64 0,.slice none 0 0] 137))=wa at *;generalize w1.heap.size=s at *;go_wp2
  go_loopw [22] (fun i wr=>∃ (k:Nat) (vn:Value) (LN:List Nd) (Fs:Nat→Nat→Prop),k≤n∧i = .int .i64 k∧Hid (NwI w (pls L) s p k vn LN Fs wr)) (fun i _=>n - (intOf i).toNat)
  case atStart=>exact ⟨0,_,_,_,Nat.zero_le _,rfl,I0⟩
  case round =>
   clear I0;obtain ⟨k,vn,LN,Fs,hk,rfl,I⟩:=hrel
   by_cases hlt:k < n
   ·have hkL:k < L.length:=by have:=HN.out;omega
    obtain ⟨b,off,rfl,hA⟩:=H3.out (by omega);obtain ⟨x0,x1⟩:=at_pl (hA.below I.out.bel) hkL;have HAA:=Lib.hid hA;have PF:=Lib.hid ((HH.out.file k hkL).below I.out.bel);have AT:Hid (plat (pls L) k=(pld L k).abs):=Lib.hid (pls_at hkL);have KL:Hid (k < (pls L).length):=Lib.hid (by rw [pls_len];exact hkL);have BADk:=Lib.hid (fun g=>BAD.out k hlt g);clear hA hkL;generalize pld L k=c at *;obtain ⟨cf,cr,cF⟩:=c;unfold sl at *;simp only at x0 x1 PF;obtain ⟨fa,fl,fc,hfa⟩:∃ a b c,Hid (a=cf.1∧b=cf.2.1∧c=cf.2.2):=⟨_,_,_,rfl,rfl,rfl⟩;rw [← hfa.out.1,← hfa.out.2.1,← hfa.out.2.2] at x0 PF;have Y0:=Lib.hid (heap_alloc_new wr (.cells #[.slice fa fl fc,.int .i64 cr] 60));have BN:=Lib.hid ((Below.refl wr.heap.size wr).alloc (Nat.le_refl _) (.cells #[.slice fa fl fc,.int .i64 cr] 60));go_upto_region 7 with fail;clear x0 x1;generalize wr.alloc (.cells #[.slice fa fl fc,.int .i64 cr] 60)=W at *;have I2:=Lib.hid (I.out.below BN.out);have C:=Lib.hid (cplanned_any ⟨cf,cr,cF⟩ (w:=W) (B:=B) (by unfold sl;rw [← hfa.out.1,← hfa.out.2.1,← hfa.out.2.2];exact PF.out.below BN.out));unfold PlC sl at C;rw [← hfa.out.1,← hfa.out.2.1,← hfa.out.2.2] at C;have y0:W.cell? ⟨wr.heap.size,0,none⟩=some (.slice fa fl fc):=row_cell Y0.out 0;have y1:W.cell? ⟨wr.heap.size,1,none⟩=some (.int .i64 cr):=row_cell Y0.out 1;clear PF BN I Y0;generalize wr.heap.size=gx at *;rw [← AT.out] at C;go_wp2_with fail;refine C.out.mono ?_;rintro e w5 ⟨b5,hc⟩;have B5:=Lib.hid b5;clear C b5 y0 y1
    rcases hc with ⟨g,q,G,rfl,st,lo⟩ | ⟨ng,rfl⟩
    ·have CR:Hid ((plat (pls L) k).2=cr):=Lib.hid (by rw [AT.out];rfl)
     rw [CR.out];have GG:=Lib.hid g;have LO:=Lib.hid lo;have N0:=Lib.hid (heap_alloc_new w5 (.cells #[.pointer (some ⟨q,0,none⟩),.bool true,.int .i64 cr] 139));have BA:=Lib.hid ((Below.refl w5.heap.size w5).alloc (Nat.le_refl _) (.cells #[.pointer (some ⟨q,0,none⟩),.bool true,.int .i64 cr] 139));have ST:=Lib.hid (st.below BA.out);have B6:=Lib.hid (B5.out.trans (BA.out.mono B5.out.size));have GN:Hid (W.heap.size≤w5.heap.size):=Lib.hid B5.out.size;obtain ⟨av,cv,ev,-,-⟩:=I2.out.cl.slice;subst ev;have K0:=Lib.hid ((I2.out.cl.below B6.out).cells.1);have NQ:Hid (∀ j,(Value.slice av (newC ((pls L).take k)).S.length cv).ownBlock=some j→j≠w5.heap.size∧j≠s):=Lib.hid (fun j e=>⟨by have:=(I2.out.cl.fv j (.inl e)).2;have:=GN.out;omega,fun x=>I2.out.cl.vs.1 (by rw [e,x])⟩)
     have LL:Hid (LN.length≤32):=Lib.hid (by
      have:=I2.out.cl.len;have q:(newC ((pls L).take k)).S.length=((pls L).take k).length:=List.length_map _;rw [q,List.length_take] at this;have:=LB.out
      omega)
     unfold ptr at *;go_upto_region 10 with fail;clear g lo st BA;generalize (w5.alloc (.cells #[.pointer (some ⟨q,0,none⟩),.bool true,.int .i64 cr] 139))=W6 at *;generalize w5.heap.size=gn at *;generalize hsl:(newC ((pls L).take k)).S.length=nl at *;clear hsl;have BD:=Lib.hid (Below.refl W6.heap.size W6).drew;have OD:Hid (Only (fun j=>(Value.slice av nl cv).ownBlock=some j) W6 W6.drew):=Lib.hid (Only.of_below BD.out);have s0:=Sc.cell_in (C:=fun W'=>Only (fun j=>(Value.slice av nl cv).ownBlock=some j) W6 W') (a:=⟨s,0,none⟩) (fun W' oo=>oo.cell K0.out (fun e=>(NQ.out _ e).2 rfl));have x0:=Sc.cell_in (C:=fun W'=>Only (fun j=>(Value.slice av nl cv).ownBlock=some j) W6 W') (a:=⟨gn,0,none⟩) (fun W' oo=>oo.cell (row_cell N0.out 0) (fun e=>(NQ.out _ e).1 rfl));have x1:=Sc.cell_in (C:=fun W'=>Only (fun j=>(Value.slice av nl cv).ownBlock=some j) W6 W') (a:=⟨gn,1,none⟩) (fun W' oo=>oo.cell (row_cell N0.out 1) (fun e=>(NQ.out _ e).1 rfl));have x2:=Sc.cell_in (C:=fun W'=>Only (fun j=>(Value.slice av nl cv).ownBlock=some j) W6 W') (a:=⟨gn,2,none⟩) (fun W' oo=>oo.cell (row_cell N0.out 2) (fun e=>(NQ.out _ e).1 rfl));have ne:Nonempty (Sc.In (fun W'=>Only (fun j=>(Value.slice av nl cv).ownBlock=some j) W6 W')):=⟨⟨_,OD.out⟩⟩;refine Sz.start (fun W'=>Only (fun j=>(Value.slice av nl cv).ownBlock=some j) W6 W') [(false,0),(false,1),(false,2),(false,3),(false,4),(false,5),(true,6),(true,7),(false,8),(false,9)] 10 (by kernel_rfl) (by kernel_rfl) (by kernel_rfl) rfl rfl OD.out ?_;dsimp only [Sd.picks,List.getElem?_cons_succ,List.getElem?_cons_zero]
     repeat (refine Sz.lit ?_;quiet_step (fail);refine wpQuiet_nil ?_)
     clear s0 x0 x1 x2;have B7:=Lib.hid (B6.out.trans (BD.out.mono (B6.out.size)));have ST7:=Lib.hid (ST.out.below BD.out);generalize W6.drew=w7 at *;refine Sz.call (by rfl) (fun K hK=>?_);go_simp;have B8:=Lib.hid (Below.alloc (Below.refl w7.heap.size w7) (Nat.le_refl _) (.cells #[.pointer (some ⟨q,0,none⟩),.bool true,.int .i64 cr] 139));have Y8:=Lib.hid (heap_alloc_new w7 (.cells #[.pointer (some ⟨q,0,none⟩),.bool true,.int .i64 cr] 139));have BW:=Lib.hid (B7.out.trans (B8.out.mono B7.out.size));have ST8:=Lib.hid (ST7.out.below B8.out);have O8:=Lib.hid (OD.out.trans (Only.of_below (G:=fun j=>(Value.slice av nl cv).ownBlock=some j) B8.out) fun _ _ g=>g);refine hK _ _ (Sc.Cl.of O8.out) ?_;clear hK K B7 B8 ST7;generalize (w7.alloc (.cells #[.pointer (some ⟨q,0,none⟩),.bool true,.int .i64 cr] 139))=w8 at *;generalize w7.heap.size=g7 at *;have CL8:=Lib.hid (I2.out.cl.below BW.out);refine Sz.call (by rfl) (fun K hK=>?_);refine wp_push_at (K:=KD) Tryz.underlying135 infoD rfl (by omega) _ _ rfl 0 _ _ rfl CL8.out.no ⟨g7,0,none⟩ (⟨q,true,cr⟩:Nd) rfl ?a1 ?a2 (Nat.zero_le _) ?_
     case a1 =>
      intro j u hu
      have c:=row_cell Y8.out j
      match j,hu with
      | 0,hu=>simp [KD,ptr] at hu;subst hu;exact c
      | 1,hu=>simp [KD] at hu;subst hu;exact c
      | 2,hu=>simp [KD] at hu;subst hu;exact c
      | j+3,hu=>simp [KD] at hu
     case a2=>have:=LL.out;omega
     intro v9 w9 o9 g9 h9
     have NEW:Hid (NwI w (pls L) s p (k+1) v9 (LN ++ [⟨q,true,cr⟩]) (fun i=>if i < LN.length then Fs i else G) (w9.setCell ⟨s,0,none⟩ v9)):=Lib.hid (by
      have z:=I2.out.step BW.out KL.out GG.out ST8.out LO.out (by rw [CR.out];exact o9) g9 h9;rw [CR.out] at z
      exact z)
     have O9:=O8.out.trans (only_grown g9) fun _ _ g=>g;have c6:w9.cell? ⟨s,0,none⟩=some (.slice av nl cv):=O9.cell K0.out (fun e=>(NQ.out _ e).2 rfl);have e6:w9.frozen? ⟨s,0,none⟩=false:=row_frozen (((only_grown g9).block s CL8.out.slt (fun e=>(NQ.out _ e).2 rfl)).trans CL8.out.row) 0;obtain ⟨v9a,v9c,n9,rfl⟩:∃ a c n,v9 = .slice a n c:=by obtain ⟨a,c,e,_⟩:=o9.slice;exact ⟨a,c,_,e⟩
     refine hK _ _ (Sc.Cl.of O9) ?_;clear hK K o9 g9 h9 O9 Y8 O8 BW ST8 CL8 I2 B5 B6 ST
     repeat (refine Sz.lit ?_;quiet_step (fail);refine wpQuiet_nil ?_)
     refine Sz.done ?_;go_simp;clear c6 e6;generalize (w9.setCell ⟨s,0,none⟩ (.slice v9a n9 v9c))=wz at *;refine NoPanic.normal ?_;have n32:=LB.out.2;go_wp2
     go_roundw
     case rel=>exact ⟨k+1,_,_,_,by omega,by go_num,NEW⟩
     case measure=>simp [intOf];omega
    ·have E:=Lib.hid (fun w' (b:Below w5.heap.size w5 w')=>BADk.out ng w' ((I2.out.bel.trans (B5.out.mono I2.out.bel.size)).trans (b.mono (Nat.le_trans I2.out.bel.size B5.out.size))))
     have E2:=Lib.hid (E.out _ ((Below.refl w5.heap.size w5).alloc (Nat.le_refl _) (.cells #[.pointer none,.bool false,.int .i64 0] 139)));clear E ng I2 BADk BAD END;go_wp2
     go_ret2
     exact E2.out
   ·obtain rfl:k=n:=by omega
    have LC:Hid ((newC ((pls L).take k)).S.length=k):=Lib.hid (by
     show (List.map _ _).length=k
     rw [List.length_map,List.length_take,pls_len,HN.out,Nat.min_self])
    have AG:=Lib.hid (cagreed_any I.out.cl (by rw [LC.out];exact LB.out.1));have EE:=Lib.hid (END.out s p vn LN Fs wr);have TK:Hid ((pls L).take k=pls L):=Lib.hid (by rw [← HN.out,← pls_len L];exact List.take_length);rw [TK.out] at AG;clear BAD END;generalize agB (sat (newC (pls L)).S 0).1 (sat (newC (pls L)).S 1).1=ag at *;unfold ptr at AG;go_wp2_with fail;refine AG.out.mono ?_;rintro e w2 ⟨rfl,b2⟩;have E2:=Lib.hid (EE.out w2 I.out b2);clear AG EE I b2
    cases ag with
    | true =>
      have E:=Lib.hid (E2.out.1 rfl);clear E2;go_wp2
      go_ret2
      exact E.out
    | false =>
      have E:=Lib.hid (E2.out.2 rfl);clear E2;go_wp2
      go_ret2
      exact E.out
end Go.Proofs.YtljnkaodhfnbbaaGreatDoor.Cu
namespace Go.Proofs.YtljnkaodhfnbbaaGreatDoor.Cu
open Go.RowKit Go.Maps
open Rw (Rd Ow At)
open Fl (R4 K4 okL okR row_cell row_frozen)
open Fs (Abs St OkA Only Fx ow_only)
open Pa (Sts S2 sat vat KN KB K2 ptr)
attribute [local irreducible] Sd.wpSd wpQuiet
section
variable {s t p:Nat} {F G:Nat→Prop} {c:Cs} {vn vq:Value} {L:List Nd} {Fs:Nat→Nat→Prop} {w w1 w':World}
theorem act_no {x:Ac} (h1:x.k≠1) (h3:x.k≠3) (h:x.k < 2∨6 < x.k∨no c x.n):actE x c=1∧actC x c=c:=by
 have he:actE x c=1:=by
  unfold actE;rw [if_neg h1,if_neg h3,if_pos h]
 refine ⟨he,?_⟩;unfold actC;rw [if_neg h1,if_pos (by rw [he];decide)]
theorem cdo_none (h:Cl w s F c t vn L p vq Fs) (x:Ac) (h1:x.k≠1) (h3:x.k≠3) (hn:no c x.n):Calls Tryz.prog 17 #[ptr s,actV x] w (DoC w s F (actC x c) (t+1) (actE x c)):=by
 obtain ⟨e1,e2⟩:=act_no h1 h3 (.inr (.inr hn));rw [e1,e2];have B0:=Lib.hid ((Below.refl w.heap.size w).alloc (Nat.le_refl _) (.cells (actA x) 44));have C1:=Lib.hid (chas_out (h.below B0.out) hn);have E:=Lib.hid (fun w' b=>(doc_below h (w':=w') b 1).late);clear h hn e1 e2;unfold actV actA at *;unfold ptr at *;obtain ⟨k,n,f,rr,v,s',m,tt⟩:=x;simp only at h1 h3 B0 C1 E ⊢;have q1:(k == 1)=false:=beq_eq_false_iff_ne.2 h1;have q3:(k == 3)=false:=beq_eq_false_iff_ne.2 h3
 go_enter Tryz.func17,Tryz.ntmps17
 go_wp2_with fail;refine C1.out.mono ?_;rintro e w1 ⟨rfl,b1⟩;have F:=Lib.hid (E.out w1 (B0.out.trans (b1.mono B0.out.size)));clear E C1 b1;go_wp2
 go_ret
 exact F.out
theorem cdo_kind (h:Cl w s F c t vn L p vq Fs) (x:Ac) (h1:x.k≠1) (h3:x.k≠3) (hk:x.k < 2∨6 < x.k) (hn:¬ no c x.n):Calls Tryz.prog 17 #[ptr s,actV x] w (DoC w s F (actC x c) (t+1) (actE x c)):=by
 obtain ⟨e1,e2⟩:=act_no h1 h3 (show x.k < 2∨6 < x.k∨no c x.n by rcases hk with g | g;exact .inl g;exact .inr (.inl g));rw [e1,e2];have B0:=Lib.hid ((Below.refl w.heap.size w).alloc (Nat.le_refl _) (.cells (actA x) 44));have hn':0≤x.n∧x.n < c.S.length:=by unfold no at hn;omega
 have C1:=Lib.hid (chas_in (h.below B0.out) (n:=x.n.toNat) (by omega));rw [Int.toNat_of_nonneg hn'.1] at C1;have E:=Lib.hid (fun w' b=>(doc_below h (w':=w') b 1).late);have X0:=Lib.hid (heap_alloc_new w (.cells (actA x) 44));clear h hn e1 e2 hn';unfold actV actA at *;unfold ptr at *;obtain ⟨k,n,f,rr,v,s',m,tt⟩:=x;simp only at h1 h3 hk B0 C1 E X0 ⊢;have q1:(k == 1)=false:=beq_eq_false_iff_ne.2 h1;have q2:(k == 2)=false:=beq_eq_false_iff_ne.2 (by omega);have q3:(k == 3)=false:=beq_eq_false_iff_ne.2 h3;have q4:(k == 4)=false:=beq_eq_false_iff_ne.2 (by omega);have q5:(k == 5)=false:=beq_eq_false_iff_ne.2 (by omega);have q6:(k == 6)=false:=beq_eq_false_iff_ne.2 (by omega);have r2:¬ k=2:=by omega
 have r4:¬ k=4:=by omega
 have r5:¬ k=5:=by omega
 have r6:¬ k=6:=by omega
 clear hk
 go_enter Tryz.func17,Tryz.ntmps17
 go_wp2_with fail;refine C1.out.mono ?_;rintro e w1 ⟨rfl,b1⟩;have y0:w1.cell? ⟨w.heap.size,0,none⟩=some (.int .i64 k):=(b1.cell (lt_of_block X0.out)).trans (row_cell X0.out 0);have F:=Lib.hid (E.out w1 (B0.out.trans (b1.mono B0.out.size)));clear E C1 b1 X0 B0;go_wp2
 go_ret
 exact F.out
theorem act_crash {x:Ac} (hk:x.k=4) (hn:¬ no c x.n):(vat c.V x.n=true→actE x c=0∧actC x c = { c with V:=c.V.set x.n.toNat false,P:=Wt.crA c.P x.n })∧(vat c.V x.n=false→actE x c=10∧actC x c=c):=by
 have he:actE x c=if vat c.V x.n=true then 0 else 10:=by
  unfold actE;rw [if_neg (by omega),if_neg (by omega),if_neg (by rintro (g | g | g);omega;omega;exact hn g),if_neg (by omega),if_pos hk]
 refine ⟨fun hv=>?_,fun hv=>?_⟩
 ·rw [hv] at he
  refine ⟨he,?_⟩;unfold actC;rw [if_neg (by omega),if_neg (by rw [he];simp),if_neg (by omega),if_neg (by omega),if_pos hk]
 ·rw [hv] at he
  refine ⟨he,?_⟩;unfold actC;rw [if_neg (by omega),if_pos (by rw [he];decide)]
theorem cdo_crash (h:Cl w s F c t vn L p vq Fs) (ok:OkC c t) (sy:Syn c) (x:Ac) (hk:x.k=4) (hn:¬ no c x.n):Calls Tryz.prog 17 #[ptr s,actV x] w (DoC w s F (actC x c) (t+1) (actE x c)):=by
 have B0:=Lib.hid ((Below.refl w.heap.size w).alloc (Nat.le_refl _) (.cells (actA x) 44));have hn':0≤x.n∧x.n < c.S.length:=by unfold no at hn;omega
 have hnn:=Int.toNat_of_nonneg hn'.1;have C1:=Lib.hid (chas_in (h.below B0.out) (n:=x.n.toNat) (by omega));rw [hnn] at C1
 have C2:Hid (∀ w1,Below (w.alloc (.cells (actA x) 44)).heap.size (w.alloc (.cells (actA x) 44)) w1→Calls Tryz.prog 63 #[ptr s,.int .i64 x.n] w1 (DoC w1 s F (actC x c) t (actE x c))):=Lib.hid (fun w1 b1=>by
  obtain ⟨a1,a2⟩:=act_crash hk hn
  cases hv:vat c.V x.n with
  | true =>
    have q:=ccrash_any ((h.below B0.out).below b1) ok sy (n:=x.n.toNat) (by omega) (by rw [hnn];exact hv);rw [hnn] at q;rw [(a1 hv).1,(a1 hv).2];exact q
  | false =>
    have q:=ccrash_no ((h.below B0.out).below b1) (n:=x.n.toNat) (by omega) (by rw [hnn];exact hv);rw [hnn] at q;rw [(a2 hv).1,(a2 hv).2]
    exact q)
 have E:=Lib.hid (fun w1 (b:Below w.heap.size w w1) e w' (d:DoC w1 s F (actC x c) t (actE x c) e w')=>(d.pre b h.low).late);have X0:=Lib.hid (heap_alloc_new w (.cells (actA x) 44));clear h hn ok sy hn' hnn;generalize actC x c=c' at *;generalize actE x c=ae at *;unfold actV actA at *;unfold ptr at *;obtain ⟨k,n,f,rr,v,s',m,tt⟩:=x;simp only at hk B0 C1 C2 E X0 ⊢;subst hk
 go_enter Tryz.func17,Tryz.ntmps17
 go_wp2_with fail;refine C1.out.mono ?_;rintro e w1 ⟨rfl,b1⟩;have y0:w1.cell? ⟨w.heap.size,0,none⟩=some (.int .i64 4):=(b1.cell (lt_of_block X0.out)).trans (row_cell X0.out 0);have y1:w1.cell? ⟨w.heap.size,1,none⟩=some (.int .i64 n):=(b1.cell (lt_of_block X0.out)).trans (row_cell X0.out 1);have D:=Lib.hid (C2.out w1 b1);have B1:=Lib.hid (B0.out.trans (b1.mono B0.out.size));clear C1 C2 b1 X0 B0;go_wp2_with fail;refine D.out.mono ?_;rintro e w2 d;have G:=Lib.hid (E.out w1 B1.out e w2 d);obtain ⟨rfl,_,_⟩:=d;clear E D y0 y1;go_wp2
 go_ret
 exact G.out
theorem act_restart {x:Ac} (hk:x.k=5) (hn:¬ no c x.n):(vat c.V x.n=false→actE x c=0∧actC x c = { c with V:=c.V.set x.n.toNat true,P:=Wt.rsA c.P x.n })∧(vat c.V x.n=true→actE x c=10∧actC x c=c):=by
 have he:actE x c=if vat c.V x.n=true then 10 else 0:=by
  unfold actE;rw [if_neg (by omega),if_neg (by omega),if_neg (by rintro (g | g | g);omega;omega;exact hn g),if_neg (by omega),if_neg (by omega),if_pos hk]
 refine ⟨fun hv=>?_,fun hv=>?_⟩
 ·rw [hv] at he
  refine ⟨he,?_⟩;unfold actC;rw [if_neg (by omega),if_neg (by rw [he];simp),if_neg (by omega),if_neg (by omega),if_neg (by omega),if_pos hk]
 ·rw [hv] at he
  refine ⟨he,?_⟩;unfold actC;rw [if_neg (by omega),if_pos (by rw [he];decide)]
theorem cdo_restart (h:Cl w s F c t vn L p vq Fs) (ok:OkC c t) (sy:Syn c) (x:Ac) (hk:x.k=5) (hn:¬ no c x.n):Calls Tryz.prog 17 #[ptr s,actV x] w (DoC w s F (actC x c) (t+1) (actE x c)):=by
 have B0:=Lib.hid ((Below.refl w.heap.size w).alloc (Nat.le_refl _) (.cells (actA x) 44));have hn':0≤x.n∧x.n < c.S.length:=by unfold no at hn;omega
 have hnn:=Int.toNat_of_nonneg hn'.1;have C1:=Lib.hid (chas_in (h.below B0.out) (n:=x.n.toNat) (by omega));rw [hnn] at C1
 have C2:Hid (∀ w1,Below (w.alloc (.cells (actA x) 44)).heap.size (w.alloc (.cells (actA x) 44)) w1→Calls Tryz.prog 64 #[ptr s,.int .i64 x.n] w1 (DoC w1 s F (actC x c) t (actE x c))):=Lib.hid (fun w1 b1=>by
  obtain ⟨a1,a2⟩:=act_restart hk hn
  cases hv:vat c.V x.n with
  | false =>
    have q:=crestart_any ((h.below B0.out).below b1) ok sy (n:=x.n.toNat) (by omega) (by rw [hnn];exact hv);rw [hnn] at q;rw [(a1 hv).1,(a1 hv).2];exact q
  | true =>
    have q:=crestart_no ((h.below B0.out).below b1) (n:=x.n.toNat) (by omega) (by rw [hnn];exact hv);rw [hnn] at q;rw [(a2 hv).1,(a2 hv).2]
    exact q)
 have E:=Lib.hid (fun w1 (b:Below w.heap.size w w1) e w' (d:DoC w1 s F (actC x c) t (actE x c) e w')=>(d.pre b h.low).late);have X0:=Lib.hid (heap_alloc_new w (.cells (actA x) 44));clear h hn ok sy hn' hnn;generalize actC x c=c' at *;generalize actE x c=ae at *;unfold actV actA at *;unfold ptr at *;obtain ⟨k,n,f,rr,v,s',m,tt⟩:=x;simp only at hk B0 C1 C2 E X0 ⊢;subst hk
 go_enter Tryz.func17,Tryz.ntmps17
 go_wp2_with fail;refine C1.out.mono ?_;rintro e w1 ⟨rfl,b1⟩;have y0:w1.cell? ⟨w.heap.size,0,none⟩=some (.int .i64 5):=(b1.cell (lt_of_block X0.out)).trans (row_cell X0.out 0);have y1:w1.cell? ⟨w.heap.size,1,none⟩=some (.int .i64 n):=(b1.cell (lt_of_block X0.out)).trans (row_cell X0.out 1);have D:=Lib.hid (C2.out w1 b1);have B1:=Lib.hid (B0.out.trans (b1.mono B0.out.size));clear C1 C2 b1 X0 B0;go_wp2_with fail;refine D.out.mono ?_;rintro e w2 d;have G:=Lib.hid (E.out w1 B1.out e w2 d);obtain ⟨rfl,_,_⟩:=d;clear E D y0 y1;go_wp2
 go_ret
 exact G.out
end
end Go.Proofs.YtljnkaodhfnbbaaGreatDoor.Cu
namespace Go.Proofs.YtljnkaodhfnbbaaGreatDoor.Cu
open Go.RowKit Go.Maps
open Rw (Rd Ow At)
open Fl (R4 K4 okL okR z4 rec4 arr4 row_cell row_frozen)
open Fs (Abs St OkA Only Fx ow_only Wf Glob sA sB dA dE dV dD SetPost set_any DoSPost dos_any)
open Pa (Sts S2 sat vat KN KB K2 ptr wp_push_at)
attribute [local irreducible] Sd.wpSd wpQuiet Sz.wpSz
section
variable {s t p:Nat} {F G:Nat→Prop} {c:Cs} {vn vq:Value} {L:List Nd} {Fs:Nat→Nat→Prop} {w w1 w':World}
theorem cwrite_no (w:World) (g o:Nat) (f r:Int) (x:R4) (c1:w.cell? ⟨g,o+1,none⟩=some (.bool false)):Calls Tryz.prog 62 #[.pointer (some ⟨g,o,none⟩),.int .i64 f,.int .i64 r,rec4 x] w fun e w'=>e = .returned (.int .i64 10)∧Below w.heap.size w w':=by
 have B0:=Lib.hid ((Below.refl w.heap.size w).alloc (Nat.le_refl _) (.cells (arr4 x) 42));have k1:=(B0.out.cell (World.block_lt_of_cell? _ _ c1)).trans c1;clear c1;unfold rec4;unfold arr4 at *
 go_enter Tryz.func62,Tryz.ntmps62
 go_wp2
 go_ret
 exact ⟨rfl,B0.out⟩
def WrC (w:World) (q:Nat) (H:Nat→Prop) (A:Abs) (d:Int) (f r:Int) (x:R4) (e:Ending) (w':World):Prop:=e = .returned (.int .i64 (if sB A f r=true then 0 else 3))∧St w' q (Fx H w w') (sA A f r x) d∧Only H w w'
theorem st_pre {q:Nat} {H:Nat→Prop} {A:Abs} {d:Int} (h:St w' q (Fx H w1 w') A d) (z1:w.heap.size≤w1.heap.size) (z2:w1.heap.size≤w'.heap.size) (low:∀ k,H k→k < w.heap.size):St w' q (Fx H w w') A d:=h.wide (fun k g=>by
 rcases g with g | g
 ·exact .inl g
 ·exact .inr ⟨by omega,g.2⟩) (Fx.low low (Nat.le_trans z1 z2))
set_option maxHeartbeats 1000000 in
theorem cwrite_yes {q:Nat} {H:Nat→Prop} {A:Abs} {d:Int} (S:St w q H A d) (g o:Nat) (c0:w.cell? ⟨g,o,none⟩=some (ptr q)) (c1:w.cell? ⟨g,o+1,none⟩=some (.bool true)) (hg:¬ H g) {f:Int} (hf:Wf f) (r:Int) (x:R4) (hx:okR x):Calls Tryz.prog 62 #[.pointer (some ⟨g,o,none⟩),.int .i64 f,.int .i64 r,rec4 x] w (WrC w q H A d f r x):=by
 have B0:=Lib.hid ((Below.refl w.heap.size w).alloc (Nat.le_refl _) (.cells (arr4 x) 42));have X0:=Lib.hid (heap_alloc_new w (.cells (arr4 x) 42));have k0:=Lib.hid ((B0.out.cell (World.block_lt_of_cell? _ _ c0)).trans c0);have k1:=(B0.out.cell (World.block_lt_of_cell? _ _ c1)).trans c1;have LOW:=Lib.hid S.low;have S0:=Lib.hid (S.below B0.out);have HG:=Lib.hid hg;have HX:Hid (¬ H w.heap.size):=Lib.hid (fun e=>by have:=S.low _ e;omega);have FIN:Hid (∀ w1 w',Below w.heap.size w w1→SetPost w1 q H d (sB A f r) (sA A f r x) (.returned (.bool (sB A f r))) w'→WrC w q H A d f r x (.returned (.int .i64 (if sB A f r=true then 0 else 3))) w'):=Lib.hid (fun w1 w' b h=>⟨rfl,st_pre h.2.1 b.size h.2.2.size LOW.out,(Only.of_below b).trans h.2.2 fun _ _ g=>g⟩);clear c0 c1 S hg;unfold rec4 ptr at *;unfold arr4 at *
 go_enter Tryz.func62,Tryz.ntmps62
 go_upto_region 3 with fail;clear k1;generalize (w.alloc (.cells #[.int .u8 x.1,.int .u8 x.2.1,.int .u8 x.2.2.1,.int .u8 x.2.2.2] 42))=W at *;have BD:=Lib.hid (B0.out.trans ((Below.refl W.heap.size W).drew.mono B0.out.size));have OD:Hid (Only H W W.drew):=Lib.hid (Only.of_below (Below.refl W.heap.size W).drew);have CS:=Lib.hid (set_any (S0.out.below ((Below.refl W.heap.size W).drew)) hf r x hx);unfold SetPost rec4 at CS;generalize w.heap.size=gx at *;have lx:=lt_of_block X0.out;have s0:=Sc.cell_in (C:=fun W'=>Only H W W') (a:=⟨g,o,none⟩) (fun W' oo=>oo.cell k0.out (fun e=>HG.out e));have x0:=Sc.cell_in (C:=fun W'=>Only H W W') (a:=⟨gx,0,none⟩) (fun W' oo=>oo.cell (row_cell X0.out 0) (fun e=>HX.out e));have x1:=Sc.cell_in (C:=fun W'=>Only H W W') (a:=⟨gx,1,none⟩) (fun W' oo=>oo.cell (row_cell X0.out 1) (fun e=>HX.out e));have x2:=Sc.cell_in (C:=fun W'=>Only H W W') (a:=⟨gx,2,none⟩) (fun W' oo=>oo.cell (row_cell X0.out 2) (fun e=>HX.out e));have x3:=Sc.cell_in (C:=fun W'=>Only H W W') (a:=⟨gx,3,none⟩) (fun W' oo=>oo.cell (row_cell X0.out 3) (fun e=>HX.out e));have ne:Nonempty (Sc.In (fun W'=>Only H W W')):=⟨⟨_,OD.out⟩⟩;clear k0 S0;refine Sc.start (fun W'=>Only H W W') [(false,0),(false,1),(false,2),(false,3),(false,4),(false,5),(false,6),(true,7),(false,8)] (by kernel_rfl) (by kernel_rfl) (by kernel_rfl) OD.out ?_;dsimp only [Sd.picks,List.getElem?_cons_succ,List.getElem?_cons_zero]
 iterate 7 (refine Sd.lit ?_;quiet_step (fail);refine wpQuiet_nil ?_)
 clear s0 x0 x1 x2 x3;refine Sd.call (by rfl) (fun K hK=>?_);go_simp;refine CS.out.mono ?_;rintro e w5 ⟨rfl,s5,o5⟩;have E:=Lib.hid (FIN.out W.drew w5 BD.out ⟨rfl,s5,o5⟩);refine hK _ _ (Sc.Cl.of (OD.out.trans o5 fun k _ g=>g)) ?_;clear hK K s5 o5 CS FIN;generalize sB A f r=bq at *
 iterate 1 (refine Sd.lit ?_;quiet_step (fail);refine wpQuiet_nil ?_)
 refine Sd.done ?_
 cases bq with
 | true =>
   go_wp2
   go_ret
   exact E.out
 | false =>
   go_wp2
   go_ret
   exact E.out
theorem infoS2:(Tryz.prog.info? 155).map (fun i=>(i.zero,i.size,i.bytes))=some (some (.agg #[.int .i64 0,.int .i64 0]),2,16):=by kernel_rfl
theorem cspoil_full (h:Cl w s F c t vn L p vq Fs) (x:S2) (hq:c.Q.length=32):Calls Tryz.prog 60 #[ptr s,.agg #[.int .i64 x.1,.int .i64 x.2]] w (DoC w s F c t 11):=by
 have B0:=Lib.hid ((Below.refl w.heap.size w).alloc (Nat.le_refl _) (.cells #[.int .i64 x.1,.int .i64 x.2] 155));have k3:=(h.below B0.out).cells.2.2.2;have E:=Lib.hid (doc_below h B0.out 11);obtain ⟨qa,qc,rfl,_⟩:=h.sp.slice;rw [hq] at k3;clear h hq;unfold ptr at *
 go_enter Tryz.func60,Tryz.ntmps60
 go_wp2
 go_ret
 exact E.out
set_option maxHeartbeats 1000000 in
theorem cspoil_any (h:Cl w s F c t vn L p vq Fs) (x:S2) (hq:c.Q.length < 32):Calls Tryz.prog 60 #[ptr s,.agg #[.int .i64 x.1,.int .i64 x.2]] w (DoC w s F { c with Q:=c.Q ++ [x] } t 0):=by
 have B0:=Lib.hid ((Below.refl w.heap.size w).alloc (Nat.le_refl _) (.cells #[.int .i64 x.1,.int .i64 x.2] 155));have X0:=Lib.hid (heap_alloc_new w (.cells #[.int .i64 x.1,.int .i64 x.2] 155));have H:=Lib.hid (h.below B0.out)
 have FIN:Hid (∀ w1 w' v,Below w.heap.size w w1→Ow K2 w' 0 155 v (c.Q ++ [x])→w1.grownBy w' vq.ownBlock→(v.ownBlock=vq.ownBlock∨∃ g,v.ownBlock=some g∧w1.heap.size≤g)→DoC w s F { c with Q:=c.Q ++ [x] } t 0 (.returned (.int .i64 0)) (w'.setCell ⟨s,3,none⟩ v)):=Lib.hid (fun w1 w' v b ow gr hv=>by
  have h1:=h.below b;have o1:Only F w1 w':=(Pa.only_grown gr).mono fun k _ e=>h.fv k (.inr e);have oq:=Pa.only_grown gr;have lv:∀ k,v.ownBlock=some k→k < w'.heap.size:=fun k e=>(World.ownsRow.lt ow k e).2;have z1:=b.size;have z2:=gr.size;have h2:Cl w' s (Fx F w w') { c with Q:=c.Q } t vn L p vq Fs∨True:=.inr trivial;have sp_old:∀ i,i < L.length→St w' (nda L i).s (Fs i) (sat c.S i).1 (sat c.S i).2:=fun i hi=>(h1.st i hi).only (fun k g e=>(h1.off i hi k g).2.2.2 e) oq;have vF:∀ k,v.ownBlock=some k→Fx F w w' k:=fun k e=>by
   rcases hv with q | ⟨g,q,hg⟩
   ·exact .inl (h.fv k (.inr (by rw [← q];exact e)))
   ·rw [q] at e
    injection e with e;subst e;exact .inr ⟨by omega,lv _ q⟩
  have nF:∀ i,i < L.length→∀ k,Fs i k→v.ownBlock≠some k:=fun i hi k g e=>by
   rcases hv with q | ⟨j,q,hj⟩
   ·exact (h.off i hi k g).2.2.2 (by rw [← q];exact e)
   ·rw [q] at e
    injection e with e;have:=h.low k (h.ff i hi k g)
    omega
  have o3:Only (fun k=>k=s) w' (w'.setCell ⟨s,3,none⟩ v):=Only.set (fun k=>k=s) w' (a:=⟨s,3,none⟩) rfl _;have ow3:Only F w (w'.setCell ⟨s,3,none⟩ v):=((Only.of_below b).trans o1 fun _ _ g=>g).trans o3 fun k _ e=>by rw [e];exact h.fs
  have sne:vq.ownBlock≠some s:=h.vs.2;have row1:w'.heap[s]? = some (.cells #[vn,ptr p,.int .i64 c.pl,vq] 137 (0,0)):=(oq.block s h1.slt (fun e=>sne e)).trans h1.row;have row2:(w'.setCell ⟨s,3,none⟩ v).heap[s]? = some (.cells #[vn,ptr p,.int .i64 c.pl,v] 137 (0,0)):=Rw.heap_setCell_same (j:=3) row1 _;have hzz:(w'.setCell ⟨s,3,none⟩ v).heap.size=w'.heap.size:=by simp [World.setCell]
  refine ⟨rfl,⟨vn,L,p,v,Fs,?_⟩,ow3⟩;refine ⟨row2,ow_only (ow_only h1.no (fun k e q=>h1.vv k e q) oq) (fun k e q=>h1.vs.1 (by rw [e,q])) o3,h.len,fun i hi=>(sp_old i hi).only (fun k g e=>(h.off i hi k g).1 e) o3,h.lv,h.rt,?_,ow_only ow (fun k e q=>ow.apart row1 (by decide) (by rw [e,q])) o3,.inl h.fs,.inl h.fp,fun k q=>?_,fun i hi k g=>.inl (h.ff i hi k g),h.dis,fun i hi k g=>?_,Fx.low h.low ow3.size⟩
  ·exact (h1.pr.only oq (fun e=>h1.vp.2 e)).only o3 (fun e=>h1.sp_ne e.symm)
  ·rcases q with q | q
   ·exact .inl (h.fv k (.inl q))
   ·rcases vF k q with g | g
    ·exact .inl g
    ·exact .inr ⟨g.1,by rw [hzz];exact g.2⟩
  ·have:=h.off i hi k g
   exact ⟨this.1,this.2.1,this.2.2.1,nF i hi k g⟩)
 obtain ⟨qa,qc,rfl,_⟩:=h.sp.slice;have HQ:=Lib.hid hq;have QL:Hid (∀ k,(Value.slice qa c.Q.length qc).ownBlock=some k→k≠w.heap.size):=Lib.hid (fun k e=>by have:=h.low k (h.fv k (.inr e));omega);have k3:=H.out.cells.2.2.2;have p6:decide ((32:Int)≤(c.Q.length:Int))=false:=decide_eq_false (by omega);have p7:decide (32≤c.Q.length)=false:=decide_eq_false (by omega);clear h hq;generalize hln:c.Q.length=ln at *;have HLN:=Lib.hid hln;clear hln;unfold ptr at *
 go_enter Tryz.func60,Tryz.ntmps60
 go_upto_region 3 with fail;clear k3 p6 p7;generalize (w.alloc (.cells #[.int .i64 x.1,.int .i64 x.2] 155))=W at *;generalize w.heap.size=gx at X0 QL ⊢;have BD:=Lib.hid (Below.refl W.heap.size W).drew;have NQ:Hid (∀ k,(Value.slice qa ln qc).ownBlock=some k→k≠gx∧k≠s):=Lib.hid (fun k e=>⟨QL.out k e,fun g=>H.out.vs.2 (by rw [e,g])⟩);have OD:Hid (Only (fun k=>(Value.slice qa ln qc).ownBlock=some k) W W.drew):=Lib.hid (Only.of_below BD.out);have x0:=Sc.cell_in (C:=fun W'=>Only (fun k=>(Value.slice qa ln qc).ownBlock=some k) W W') (a:=⟨gx,0,none⟩) (fun W' oo=>oo.cell (row_cell X0.out 0) (fun e=>(NQ.out _ e).1 rfl));have x1:=Sc.cell_in (C:=fun W'=>Only (fun k=>(Value.slice qa ln qc).ownBlock=some k) W W') (a:=⟨gx,1,none⟩) (fun W' oo=>oo.cell (row_cell X0.out 1) (fun e=>(NQ.out _ e).1 rfl));have s3:=Sc.cell_in (C:=fun W'=>Only (fun k=>(Value.slice qa ln qc).ownBlock=some k) W W') (a:=⟨s,3,none⟩) (fun W' oo=>oo.cell H.out.cells.2.2.2 (fun e=>(NQ.out _ e).2 rfl));have ne:Nonempty (Sc.In (fun W'=>Only (fun k=>(Value.slice qa ln qc).ownBlock=some k) W W')):=⟨⟨_,OD.out⟩⟩;refine Sz.start (fun W'=>Only (fun k=>(Value.slice qa ln qc).ownBlock=some k) W W') [(false,0),(false,1),(false,2),(false,3),(false,4),(false,5),(true,6),(true,7),(false,8),(false,9)] 10 (by kernel_rfl) (by kernel_rfl) (by kernel_rfl) rfl rfl OD.out ?_;dsimp only [Sd.picks,List.getElem?_cons_succ,List.getElem?_cons_zero]
 repeat (refine Sz.lit ?_;quiet_step (fail);refine wpQuiet_nil ?_)
 clear x0 x1 s3;have HD:=Lib.hid (H.out.below BD.out);generalize W.drew=w4 at *;refine Sz.call (by rfl) (fun K hK=>?_);go_simp;have B5:=Lib.hid (Below.alloc (Below.refl w4.heap.size w4) (Nat.le_refl _) (.cells #[.int .i64 x.1,.int .i64 x.2] 155));have Y5:=Lib.hid (heap_alloc_new w4 (.cells #[.int .i64 x.1,.int .i64 x.2] 155));have H5:=Lib.hid (HD.out.below B5.out);have BW:=Lib.hid ((B0.out.trans (BD.out.mono B0.out.size)).trans (B5.out.mono (Nat.le_trans B0.out.size BD.out.size)));have O5:=Lib.hid (OD.out.trans (Only.of_below (G:=fun k=>(Value.slice qa ln qc).ownBlock=some k) B5.out) fun _ _ g=>g);refine hK _ _ (Sc.Cl.of O5.out) ?_;clear hK K HD B5;generalize (w4.alloc (.cells #[.int .i64 x.1,.int .i64 x.2] 155))=w5 at *;generalize w4.heap.size=g4 at *;refine Sz.call (by rfl) (fun K hK=>?_);refine wp_push_at (K:=K2) Tryz.underlying37 infoS2 rfl (by omega) _ _ rfl 0 _ _ rfl H5.out.sp ⟨g4,0,none⟩ x rfl ?a1 ?a2 (Nat.zero_le _) ?_
 case a1 =>
  intro j u hu
  have c:=row_cell Y5.out j
  match j,hu with
  | 0,hu=>simp [K2] at hu;subst hu;exact c
  | 1,hu=>simp [K2] at hu;subst hu;exact c
  | j+2,hu=>simp [K2] at hu
 case a2=>have:=HLN.out;have:=HQ.out;omega
 intro v6 w6 o6 g6 h6
 have O6:=O5.out.trans (Pa.only_grown g6) fun _ _ g=>g;have c6:w6.cell? ⟨s,3,none⟩=some (.slice qa ln qc):=O6.cell H.out.cells.2.2.2 (fun e=>(NQ.out _ e).2 rfl);have e6:w6.frozen? ⟨s,3,none⟩=false:=row_frozen (((Pa.only_grown g6).block s H5.out.slt (fun e=>(NQ.out _ e).2 rfl)).trans H5.out.row) 3;have E:=Lib.hid (FIN.out w5 w6 v6 BW.out o6 g6 h6);obtain ⟨v6a,v6c,n6,rfl⟩:∃ a c n,v6 = .slice a n c:=by obtain ⟨a,c,e,_⟩:=o6.slice;exact ⟨a,c,_,e⟩
 refine hK _ _ (Sc.Cl.of O6) ?_;clear hK K o6 g6 h6 FIN O6 H5 Y5 O5 BW
 repeat (refine Sz.lit ?_;quiet_step (fail);refine wpQuiet_nil ?_)
 refine Sz.done ?_;go_simp;clear c6 e6;generalize (w6.setCell ⟨s,3,none⟩ (.slice v6a n6 v6c))=w8 at *;refine NoPanic.normal ?_;go_wp2
 go_ret
 exact E.out
theorem act_spoil {x:Ac} (hk:x.k=3):(c.Q.length=32→actE x c=11∧actC x c=c)∧(c.Q.length≠32→actE x c=0∧actC x c = { c with Q:=c.Q ++ [(x.s,x.m)] }):=by
 have he:actE x c=if c.Q.length=32 then 11 else 0:=by
  unfold actE;rw [if_neg (by omega),if_pos hk]
 refine ⟨fun hq=>?_,fun hq=>?_⟩
 ·rw [if_pos hq] at he
  refine ⟨he,?_⟩;unfold actC;rw [if_neg (by omega),if_pos (by rw [he];decide)]
 ·rw [if_neg hq] at he
  refine ⟨he,?_⟩;unfold actC;rw [if_neg (by omega),if_neg (by rw [he];simp),if_pos hk]
theorem cdo_spoil (h:Cl w s F c t vn L p vq Fs) (ok:OkC c t) (x:Ac) (hk:x.k=3):Calls Tryz.prog 17 #[ptr s,actV x] w (DoC w s F (actC x c) (t+1) (actE x c)):=by
 have B0:=Lib.hid ((Below.refl w.heap.size w).alloc (Nat.le_refl _) (.cells (actA x) 44));have C2:Hid (Calls Tryz.prog 60 #[ptr s,.agg #[.int .i64 x.s,.int .i64 x.m]] (w.alloc (.cells (actA x) 44)) (DoC (w.alloc (.cells (actA x) 44)) s F (actC x c) t (actE x c))):=by
  obtain ⟨a1,a2⟩:=act_spoil (c:=c) hk
  by_cases hq:c.Q.length=32
  ·rw [(a1 hq).1,(a1 hq).2]
   exact cspoil_full (h.below B0.out) (x.s,x.m) hq
  ·rw [(a2 hq).1,(a2 hq).2]
   exact cspoil_any (h.below B0.out) (x.s,x.m) (by have:=ok.few;omega)
 have E:=Lib.hid (fun e w' (d:DoC (w.alloc (.cells (actA x) 44)) s F (actC x c) t (actE x c) e w')=>(d.pre B0.out h.low).late);clear h ok;generalize actC x c=c' at *;generalize actE x c=ae at *;unfold actV actA at *;unfold ptr at *;obtain ⟨k,n,f,rr,v,s',m,tt⟩:=x;simp only at hk B0 C2 E ⊢;subst hk
 go_enter Tryz.func17,Tryz.ntmps17
 go_wp2_with fail;refine C2.out.mono ?_;rintro e w2 d;have G:=Lib.hid (E.out e w2 d);obtain ⟨rfl,_,_⟩:=d;clear E C2;go_wp2
 go_ret
 exact G.out
end
end Go.Proofs.YtljnkaodhfnbbaaGreatDoor.Cu
namespace Go.Proofs.YtljnkaodhfnbbaaGreatDoor.Tk
open Go.RowKit
def prev (A:Nat→Int):Nat→Int
 | 0=>-1
 | k+1=>A k
structure GoodTo (A R:Nat→Int) (k:Nat):Prop where
 at_:∀ i,i < k→0≤A i∧A i≤4294967296
 rate:∀ i,i < k→-20000≤R i∧R i≤20000
 up:∀ i,i+1 < k→A i < A (i+1)
theorem GoodTo.zero (A R:Nat→Int):GoodTo A R 0:=⟨fun i h=>by omega,fun i h=>by omega,fun i h=>by omega⟩
theorem GoodTo.lo {A R:Nat→Int} {k:Nat} (g:GoodTo A R k) : -1≤prev A k:=by
 cases k with
 | zero=>exact Int.le_refl _
 | succ k=>have:=(g.at_ k (by omega)).1;show -1≤A k;omega
theorem GoodTo.step {A R:Nat→Int} {k:Nat} (g:GoodTo A R k) (h1:¬ A k≤prev A k) (h2:¬ 4294967296 < A k) (h3:¬ R k < -20000) (h4:¬ 20000 < R k):GoodTo A R (k+1):=by
 have l:=g.lo;refine ⟨fun i hi=>?_,fun i hi=>?_,fun i hi=>?_⟩
 ·by_cases e:i=k
  ·subst e;omega
  ·exact g.at_ i (by omega)
 ·by_cases e:i=k
  ·subst e;omega
  ·exact g.rate i (by omega)
 ·by_cases e:i+1=k
  ·subst e;have:prev A (i+1)=A i:=rfl;omega
  ·exact g.up i (by omega)
theorem GoodTo.all {A R:Nat→Int} {n:Nat} (g:GoodTo A R n) (h:n≤64):GoodP n A R:=⟨h,g.at_,g.rate,g.up⟩
theorem bad {A R:Nat→Int} {n k:Nat} (hk:k < n) (h:A k≤prev A k∨4294967296 < A k∨R k < -20000∨20000 < R k):goodB n A R=false:=by
 refine goodB_no fun g=>?_;have a:=g.at_ k hk;have r:=g.rate k hk
 rcases h with h | h | h | h
 ·cases k with
  | zero=>have:prev A 0 = -1:=rfl;omega
  | succ k=>have:=g.up k hk;have:prev A (k+1)=A k:=rfl;omega
 ·omega
 ·omega
 ·omega
theorem ret_bool {a b:Bool} (h:a=b):Ending.returned (.bool a) = .returned (.bool b):=by rw [h]
theorem ret_int {a b:Int} (h:a=b):Ending.returned (.int .i64 a) = .returned (.int .i64 b):=by rw [h]
theorem good_none (w:World) (a:Option Addr) (cap:Nat) (A R:Nat→Int):Calls Tryz.prog 38 #[.slice a 0 cap] w fun e w'=>e = .returned (.bool (goodB 0 A R))∧Below w.heap.size w w':=by
 rw [goodB_yes (⟨by omega,fun i h=>by omega,fun i h=>by omega,fun i h=>by omega⟩:GoodP 0 A R)]
 go_enter Tryz.func38,Tryz.ntmps38
 go_wp2
 go_loopw [3,11] (fun _ i wr=>i = .int .i64 0∧Below w.heap.size w wr) (fun _ _ _=>0)
 case atStart=>exact ⟨rfl,Below.refl _ _⟩
 case round =>
  obtain ⟨rfl,hb⟩:=hrel;go_wp2
  go_ret
  exact ⟨rfl,hb⟩
theorem good_long (w:World) (a:Option Addr) (n cap:Nat) (h:64 < n) (A R:Nat→Int):Calls Tryz.prog 38 #[.slice a n cap] w fun e w'=>e = .returned (.bool (goodB n A R))∧Below w.heap.size w w':=by
 rw [goodB_no (fun g:GoodP n A R=>by have:=g.len;omega)]
 go_enter Tryz.func38,Tryz.ntmps38
 go_wp2
 go_ret
 exact ⟨rfl,Below.refl _ _⟩
theorem good_some (w:World) (b off n cap:Nat) (h:n≤64) (A R:Nat→Int)
 (hc:∀ i,i < n→w.cell? ⟨b,off+i * 2,none⟩=some (.int .i64 (A i))∧w.cell? ⟨b,off+i * 2+1,none⟩=some (.int .i64 (R i))) :
 Calls Tryz.prog 38 #[.slice (some ⟨b,off,none⟩) n cap] w fun e w'=>e = .returned (.bool (goodB n A R))∧Below w.heap.size w w':=by
 have HC:=Lib.hid hc;clear hc
 go_enter Tryz.func38,Tryz.ntmps38
 go_wp2
 go_loopw [3,11] (fun a i wr=>∃ k:Nat,k≤n∧i = .int .i64 k∧a = .int .i64 (prev A k)∧GoodTo A R k∧Below w.heap.size w wr) (fun _ i _=>n - (intOf i).toNat)
 case atStart=>exact ⟨0,Nat.zero_le _,rfl,rfl,GoodTo.zero A R,Below.refl _ _⟩
 case round =>
  obtain ⟨k,hk,rfl,rfl,hg,hb⟩:=hrel
  by_cases hlt:k < n
  ·obtain ⟨c1,c2⟩:=HC.out k hlt
   have d1:=(hb.cell (World.block_lt_of_cell? _ _ c1)).trans c1;have d2:=(hb.cell (World.block_lt_of_cell? _ _ c2)).trans c2;clear c1 c2
   by_cases h1:A k≤prev A k
   ·go_wp2
    go_ret
    exact ⟨ret_bool (bad hlt (.inl h1)).symm,hb.alloc hb.size _⟩
   ·by_cases h2:4294967296 < A k
    ·go_wp2
     go_ret
     exact ⟨ret_bool (bad hlt (.inr (.inl h2))).symm,hb.alloc hb.size _⟩
    ·by_cases h3:R k < -20000
     ·go_wp2
      go_ret
      exact ⟨ret_bool (bad hlt (.inr (.inr (.inl h3)))).symm,hb.alloc hb.size _⟩
     ·by_cases h4:20000 < R k
      ·go_wp2
       go_ret
       exact ⟨ret_bool (bad hlt (.inr (.inr (.inr h4)))).symm,hb.alloc hb.size _⟩
      ·go_wp2
       go_roundw
       case rel=>exact ⟨k+1,by omega,by go_num,rfl,hg.step h1 h2 h3 h4,hb.alloc hb.size _⟩
       case measure=>simp [intOf];omega
  ·obtain rfl:k=n:=by omega
   go_wp2
   go_ret
   exact ⟨ret_bool (goodB_yes (hg.all h)).symm,hb⟩
theorem good_any (w:World) (v:Value) (n:Nat) (A R:Nat→Int) (h:Steps w v n A R):Calls Tryz.prog 38 #[v] w fun e w'=>e = .returned (.bool (goodB n A R))∧Below w.heap.size w w':=by
 rcases h with ⟨a,cap,rfl,_,rfl⟩ | ⟨b,off,cap,rfl,_,_,hc⟩
 ·exact good_none w a cap A R
 ·by_cases hn:n≤64
  ·exact good_some w b off n cap hn A R hc
  ·exact good_long w _ n cap (by omega) A R
end Go.Proofs.YtljnkaodhfnbbaaGreatDoor.Tk
namespace Go.Proofs.YtljnkaodhfnbbaaGreatDoor.Bu
open Go.RowKit
open Tk (GoodP goodB goodB_true goodB_no good_any)
def anyN (p:Nat→Bool) (n:Nat):Bool:=(List.range n).any p
theorem anyN_yes {p:Nat→Bool} {n k:Nat} (hk:k < n) (h:p k=true):anyN p n=true:=List.any_eq_true.2 ⟨k,List.mem_range.2 hk,h⟩
theorem anyN_no {p:Nat→Bool} {n:Nat} (h:∀ j,j < n→p j=false):anyN p n=false:=List.any_eq_false.2 fun j hj=>by rw [h j (List.mem_range.1 hj)];exact Bool.false_ne_true
def IdxPost (w:World) (b:Bool) (e:Ending) (w':World):Prop:=∃ r:Int,e = .returned (.int .i64 r)∧decide (0≤r)=b∧Below w.heap.size w w'
theorem idx_yes {w w':World} {b:Bool} {k:Nat} (h:b=true) (hb:Below w.heap.size w w'):IdxPost w b (.returned (.int .i64 k)) w':=⟨k,rfl,by rw [h];simp,hb⟩
theorem idx_no {w w':World} {b:Bool} (h:b=false) (hb:Below w.heap.size w w'):IdxPost w b (.returned (.int .i64 (-1))) w':=⟨-1,rfl,by rw [h];decide,hb⟩
set_option maxHeartbeats 1000000 in
theorem sindex_any (w:World) (v:Value) (n:Nat) (A R:Nat→Int) (S:Tk.Steps w v n A R) (g:Nat) (p:Nat→Bool) (eg:∀ args w,(callFunc g args).run Tryz.prog w = .ok (.enter g args) w)
 (hp:∀ W i,i < n→Calls Tryz.prog g #[.agg #[.int .i64 (A i),.int .i64 (R i)]] W fun e w'=>e = .returned (.bool (p i))∧Below W.heap.size W w') :
 Calls Tryz.prog 185 #[v,.func (.func g) #[] #[]] w (IdxPost w (anyN p n)):=by
 obtain ⟨a,cap,rfl,hm1,hm⟩:=steps_form S;have ST:=Lib.hid (fun hp=>(steps_at S hp).2);have HP:=Lib.hid hp;have YES:Hid (∀ k,k < n→p k=true→anyN p n=true):=Lib.hid (fun k hk h=>anyN_yes hk h);have NO:Hid ((∀ j,j < n→p j=false)→anyN p n=false):=Lib.hid (fun h=>anyN_no h);clear S hp;generalize anyN p n=q at *;unfold maxLen at hm
 go_enter Tryz.func185,Tryz.ntmps185
 go_wp2
 go_loopw [8] (fun i wr=>∃ k:Nat,k≤n∧i = .int .i64 k∧Hid (∀ j,j < k→p j=false)∧Hid (Below w.heap.size w wr)) (fun i _=>n - (intOf i).toNat)
 case atStart=>exact ⟨0,Nat.zero_le _,rfl,fun j hj=>by omega,Below.refl _ _⟩
 case round =>
  obtain ⟨k,hk,rfl,hs,hb⟩:=hrel
  by_cases hlt:k < n
  ·obtain ⟨b,off,rfl,hA⟩:=ST.out (by omega)
   obtain ⟨c1,c2⟩:=hA k hlt;have HA:=Lib.hid hA;clear hA;have d1:=(hb.out.cell (World.block_lt_of_cell? _ _ c1)).trans c1;have d2:=(hb.out.cell (World.block_lt_of_cell? _ _ c2)).trans c2;clear c1 c2;have hc:=HP.out wr k hlt
   cases hq:p k with
   | true =>
     rw [hq] at hc;have C:=Lib.hid hc;have HR:=Lib.hid (YES.out k hlt hq);clear hc hq;go_wp2_with fail;refine C.out.mono ?_;rintro e w1 ⟨rfl,b1⟩;have B1:=Lib.hid (hb.out.trans (b1.mono hb.out.size));clear b1;go_wp2
     go_ret
     exact idx_yes HR.out B1.out
   | false =>
     rw [hq] at hc;have C:=Lib.hid hc;have ST:Hid (∀ j,j < k+1→p j=false):=fun j hj=>by
      by_cases e:j=k
      ·rw [e];exact hq
      ·exact hs.out j (by omega)
     clear hc hq;go_wp2_with fail;refine C.out.mono ?_;rintro e w1 ⟨rfl,b1⟩;have B1:=Lib.hid (hb.out.trans (b1.mono hb.out.size));clear b1;go_wp2
     go_roundw
     case rel=>exact ⟨k+1,by omega,by go_num,ST,B1⟩
     case measure=>simp [intOf];omega
  ·obtain rfl:k=n:=by omega
   have HR:=Lib.hid (NO.out hs.out);go_wp2
   go_ret
   exact idx_no HR.out hb.out
theorem scontains_any (w:World) (v:Value) (n:Nat) (A R:Nat→Int) (S:Tk.Steps w v n A R) (g:Nat) (p:Nat→Bool) (eg:∀ args w,(callFunc g args).run Tryz.prog w = .ok (.enter g args) w)
 (hp:∀ W i,i < n→Calls Tryz.prog g #[.agg #[.int .i64 (A i),.int .i64 (R i)]] W fun e w'=>e = .returned (.bool (p i))∧Below W.heap.size W w') :
 Calls Tryz.prog 142 #[v,.func (.func g) #[] #[]] w fun e w'=>e = .returned (.bool (anyN p n))∧Below w.heap.size w w':=by
 have C:=Lib.hid (sindex_any w v n A R S g p eg hp);clear eg hp S;generalize anyN p n=q at *
 go_enter Tryz.func142,Tryz.ntmps142
 go_wp2_with fail;refine C.out.mono ?_;rintro e w1 ⟨r,rfl,hr,b1⟩;have HR:=Lib.hid hr;clear hr;go_wp2
 go_ret
 exact ⟨Tk.ret_bool HR.out,b1⟩
set_option maxHeartbeats 1000000 in
theorem lindex_any (w:World) (v:Value) (O:List Osc) (S:OsL w v O) (g:Nat) (lb:Array Value) (p:Nat→Bool) (eg:∀ args w,(callFunc g args).run Tryz.prog w = .ok (.enter g args) w)
 (hp:∀ W i,i < O.length→Below w.heap.size w W→∀ u,Tk.Steps W u (osc O i).n (osc O i).A (osc O i).R→Calls Tryz.prog g (#[u] ++ lb) W fun e w'=>e = .returned (.bool (p i))∧Below W.heap.size W w') :
 Calls Tryz.prog 186 #[v,.func (.func g) #[] lb] w (IdxPost w (anyN p O.length)):=by
 have S0:=Lib.hid S;obtain ⟨a,cap,rfl,hm1,hm⟩:=S.slice;have HP:=Lib.hid hp;have YES:Hid (∀ k,k < O.length→p k=true→anyN p O.length=true):=Lib.hid (fun k hk h=>anyN_yes hk h);have NO:Hid ((∀ j,j < O.length→p j=false)→anyN p O.length=false):=Lib.hid (fun h=>anyN_no h);clear S hp;generalize anyN p O.length=q at *;unfold maxLen at hm;generalize hn:O.length=n at *;have HN:=Lib.hid hn;clear hn
 go_enter Tryz.func186,Tryz.ntmps186
 go_wp2
 go_loopw [8] (fun i wr=>∃ k:Nat,k≤n∧i = .int .i64 k∧Hid (∀ j,j < k→p j=false)∧Hid (Below w.heap.size w wr)) (fun i _=>n - (intOf i).toNat)
 case atStart=>exact ⟨0,Nat.zero_le _,rfl,fun j hj=>by omega,Below.refl _ _⟩
 case round =>
  obtain ⟨k,hk,rfl,hs,hb⟩:=hrel
  by_cases hlt:k < n
  ·obtain ⟨b,off,cp,a',cap',e1,c1,_,st⟩:=S0.out.one (k:=k) (by have:=HN.out;omega)
   rw [HN.out] at e1;injection e1 with e1 _ e2;subst e1 e2;have d1:=(hb.out.cell (World.block_lt_of_cell? _ _ c1)).trans c1;have hc:=HP.out wr k hlt hb.out _ (st.below hb.out);clear c1 st;generalize (osc O k).n=m at *
   cases hq:p k with
   | true =>
     rw [hq] at hc;have C:=Lib.hid hc;have HR:=Lib.hid (YES.out k hlt hq);clear hc hq;go_wp2_with fail;refine C.out.mono ?_;rintro e w1 ⟨rfl,b1⟩;have B1:=Lib.hid (hb.out.trans (b1.mono hb.out.size));clear b1;go_wp2
     go_ret
     exact idx_yes HR.out B1.out
   | false =>
     rw [hq] at hc;have C:=Lib.hid hc;have ST:Hid (∀ j,j < k+1→p j=false):=fun j hj=>by
      by_cases e:j=k
      ·rw [e];exact hq
      ·exact hs.out j (by omega)
     clear hc hq;go_wp2_with fail;refine C.out.mono ?_;rintro e w1 ⟨rfl,b1⟩;have B1:=Lib.hid (hb.out.trans (b1.mono hb.out.size));clear b1;go_wp2
     go_roundw
     case rel=>exact ⟨k+1,by omega,by go_num,ST,B1⟩
     case measure=>simp [intOf];omega
  ·obtain rfl:k=n:=by omega
   have HR:=Lib.hid (NO.out hs.out);go_wp2
   go_ret
   exact idx_no HR.out hb.out
theorem lcontains_any (w:World) (v:Value) (O:List Osc) (S:OsL w v O) (g:Nat) (lb:Array Value) (p:Nat→Bool) (eg:∀ args w,(callFunc g args).run Tryz.prog w = .ok (.enter g args) w)
 (hp:∀ W i,i < O.length→Below w.heap.size w W→∀ u,Tk.Steps W u (osc O i).n (osc O i).A (osc O i).R→Calls Tryz.prog g (#[u] ++ lb) W fun e w'=>e = .returned (.bool (p i))∧Below W.heap.size W w') :
 Calls Tryz.prog 143 #[v,.func (.func g) #[] lb] w fun e w'=>e = .returned (.bool (anyN p O.length))∧Below w.heap.size w w':=by
 have C:=Lib.hid (lindex_any w v O S g lb p eg hp);clear eg hp S;generalize anyN p O.length=q at *
 go_enter Tryz.func143,Tryz.ntmps143
 go_wp2_with fail;refine C.out.mono ?_;rintro e w1 ⟨r,rfl,hr,b1⟩;have HR:=Lib.hid hr;clear hr;go_wp2
 go_ret
 exact ⟨Tk.ret_bool HR.out,b1⟩
def wildB (r:Int):Bool:=decide (r < -2000) || decide (2000 < r)
theorem wild_any (w:World) (a r:Int):Calls Tryz.prog 140 #[.agg #[.int .i64 a,.int .i64 r]] w fun e w'=>e = .returned (.bool (wildB r))∧Below w.heap.size w w':=by
 have HB:=Lib.hid ((Below.refl w.heap.size w).alloc (Nat.le_refl _) (.cells #[.int .i64 a,.int .i64 r] 108))
 by_cases h1:r < -2000
 ·have e:Hid (wildB r=true):=Lib.hid (by unfold wildB;rw [decide_eq_true h1];rfl)
  rw [e.out]
  go_enter Tryz.func140,Tryz.ntmps140
  go_wp2
  go_ret
  exact ⟨rfl,HB.out⟩
 ·have e:Hid (wildB r=decide (2000 < r)):=Lib.hid (by unfold wildB;rw [decide_eq_false h1];rfl)
  rw [e.out]
  go_enter Tryz.func140,Tryz.ntmps140
  go_wp2
  go_ret
  exact ⟨rfl,HB.out⟩
theorem calm_by {o:Osc} (h:goodB o.n o.A o.R=true):(!calmB o)=anyN (fun i=>wildB (o.R i)) o.n:=by
 cases c:calmB o with
 | true =>
   have g:=of_calmB c;rw [anyN_no fun j hj=>?_]
   ·rfl
   ·have:=g.bd j hj
    unfold wildB;rw [decide_eq_false (by omega),decide_eq_false (by omega)]
    rfl
 | false =>
   cases q:anyN (fun i=>wildB (o.R i)) o.n with
   | true=>rfl
   | false =>
     exfalso
     have:calmB o=true:=calmB_yes ⟨goodB_true.1 h,by omega,fun i hi=>by
      have:=List.any_eq_false.1 q i (List.mem_range.2 hi);unfold wildB at this;simp only [Bool.or_eq_true,decide_eq_true_eq,not_or] at this
      omega⟩
     rw [c] at this
     cases this
theorem calm_bad {o:Osc} (h:goodB o.n o.A o.R=false):(!calmB o)=true:=by
 rw [calmB_no fun g=>by rw [Tk.goodB_yes g.good] at h;cases h]
 rfl
set_option maxHeartbeats 1000000 in
theorem unfit_any (w:World) (B:Nat) (hc:w.cell? ⟨B,0,none⟩=some (.func (.func 140) #[] #[])) (u:Value) (o:Osc) (S:Tk.Steps w u o.n o.A o.R) :
 Calls Tryz.prog 141 #[u,.pointer (some ⟨B,0,none⟩)] w fun e w'=>e = .returned (.bool (!calmB o))∧Below w.heap.size w w':=by
 have eg:∀ args w,(callFunc 140 args).run Tryz.prog w = .ok (.enter 140 args) w:=enters_of Tryz.func140 (by kernel_rfl) rfl;have GA:=Lib.hid (good_any w u o.n o.A o.R S);have CA:=Lib.hid (fun W b=>scontains_any W u o.n o.A o.R (S.below (w':=W) b) 140 (fun i=>wildB (o.R i)) eg fun W i _=>wild_any W (o.A i) (o.R i));obtain ⟨a,cap,rfl,_⟩:=steps_form S;clear S eg;have YES:=fun h=>calm_by (o:=o) h;have NO:=fun h=>calm_bad (o:=o) h;generalize goodB o.n o.A o.R=g at *;generalize anyN (fun i=>wildB (o.R i)) o.n=q at *;generalize (!calmB o)=r at *
 cases g with
 | true =>
   have E:=Lib.hid (YES rfl);clear YES NO
   go_enter Tryz.func141,Tryz.ntmps141
   go_wp2_with fail;refine GA.out.mono ?_;rintro e w1 ⟨rfl,b1⟩;have c1:=(b1.cell (World.block_lt_of_cell? _ _ hc)).trans hc;have C1:=Lib.hid (CA.out w1 b1);have B1:=Lib.hid b1;clear b1 CA GA hc;go_wp2_with fail;refine C1.out.mono ?_;rintro e w2 ⟨rfl,b2⟩;have B2:=Lib.hid (B1.out.trans (b2.mono B1.out.size));clear b2;go_wp2
   go_ret
   exact ⟨Tk.ret_bool E.out.symm,B2.out⟩
 | false =>
   have E:=Lib.hid (NO rfl);clear YES NO
   go_enter Tryz.func141,Tryz.ntmps141
   go_wp2_with fail;refine GA.out.mono ?_;rintro e w1 ⟨rfl,b1⟩;have B1:=Lib.hid b1;clear b1 CA GA hc;go_wp2
   go_ret
   exact ⟨Tk.ret_bool E.out.symm,B1.out⟩
theorem calmLB_by (O:List Osc):(!anyN (fun i=>!calmB (osc O i)) O.length)=calmLB O:=by
 cases c:calmLB O with
 | true =>
   rw [anyN_no fun j hj=>?_]
   ·rfl
   ·rw [calmB_yes (of_calmLB c _ (osc_mem hj))];rfl
 | false =>
   obtain ⟨o,ho,hc⟩:=List.all_eq_false.1 c;obtain ⟨i,hi,rfl⟩:=List.getElem_of_mem ho;have e:osc O (i:Int)=O[i]:=by unfold osc;rw [Int.toNat_natCast,List.getD_eq_getElem?_getD,List.getElem?_eq_getElem hi];rfl
   rw [anyN_yes (k:=i) hi (by rw [e];simpa using hc)]
   rfl
theorem cell_fn (w:World) (f:Nat) (t:TypeId):(w.alloc (.cells #[.func (.func f) #[] #[]] t)).cell? ⟨w.heap.size,0,none⟩=some (.func (.func f) #[] #[]):=by go_simp
set_option maxHeartbeats 1000000 in
theorem calm_any (w:World) (v:Value) (O:List Osc) (S:OsL w v O):Calls Tryz.prog 80 #[v] w fun e w'=>e = .returned (.bool (calmLB O))∧Below w.heap.size w w':=by
 have eg:∀ args w,(callFunc 141 args).run Tryz.prog w = .ok (.enter 141 args) w:=enters_of Tryz.func141 (by kernel_rfl) rfl;have b0:=(Below.refl w.heap.size w).alloc (Nat.le_refl _) (.cells #[.func (.func 140) #[] #[]] 242);have c0:=cell_fn w 140 242;have CA:=Lib.hid (lcontains_any _ v O (S.below b0) 141 #[.pointer (some ⟨w.heap.size,0,none⟩)] (fun i=>!calmB (osc O i)) eg fun W i _ hb u hu=>unfit_any W w.heap.size ((hb.cell (World.block_lt_of_cell? _ _ c0)).trans c0) u (osc O i) hu);have B0:=Lib.hid b0;obtain ⟨a,cap,rfl,_⟩:=S.slice;have E:=Lib.hid (calmLB_by O);clear b0 c0 eg S;generalize O.length=n at *;generalize anyN (fun i=>!calmB (osc O i)) n=q at *;have hst:∀ (W:World) (p:Addr),(store p (Value.func (Fn.func 140) #[] #[])).run Tryz.prog W=stored Tryz.prog W p (Value.func (Fn.func 140) #[] #[]) .plain:=fun W p=>run_store _ W p _ _ rfl
 go_enter Tryz.func80,Tryz.ntmps80
 go_wp2_with fail;refine CA.out.mono ?_;rintro e w1 ⟨rfl,b1⟩;have B1:=Lib.hid (B0.out.trans (b1.mono B0.out.size));clear b1 CA;go_wp2
 go_ret
 exact ⟨Tk.ret_bool E.out,B1.out⟩
end Go.Proofs.YtljnkaodhfnbbaaGreatDoor.Bu
namespace Go.Proofs.YtljnkaodhfnbbaaGreatDoor.Wi
open Go.Shelf Go.RowKit Go.Lib Go.Sort Go.Proofs.YtljnkaodhfnbbaaGreatDoor.Sp
def enc (x:S2):List Value:=[.int .i64 x.1,.int .i64 x.2]
def cf (x y:S2):Int:=cmpI x.1 y.1
theorem lt_cf (x y:S2):ltOf cf x y=decide (x.1 < y.1):=by
 unfold ltOf cf cmpI
 by_cases h1:x.1 < y.1
 ·simp [h1]
 ·by_cases h2:y.1 < x.1 <;> simp [h1,h2]
theorem swo:SWO (ltOf cf) where
 irrefl x:=by rw [lt_cf];simp
 trans x y z h1 h2:=by rw [lt_cf] at *;simp at *;omega
 ntrans x y z h1 h2:=by rw [lt_cf] at *;simp at *;omega
set_option maxHeartbeats 400000 in
theorem clos_any (x y:S2) (W:World):Calls Tryz.prog 191 #[.agg #[.int .i64 x.1,.int .i64 x.2],.agg #[.int .i64 y.1,.int .i64 y.2]] W fun e w'=>e = .returned (.int .i64 (cf x y))∧∃ q os',w'=grow (W.drewN q) os':=by
 have hcon:=fun W'=>compare_any W' x.1 y.1;have HC:=Lib.hid hcon;clear hcon;unfold cf;generalize cmpI x.1 y.1=r at HC ⊢
 go_enter Tryz.func191,Tryz.ntmps191
 go_wp2_with (go_at_call 192;refine (HC.out _).mono ?_;rintro e w' ⟨rfl,rfl⟩)
 go_ret
 exact ⟨rfl,0,_,by rw [alloc_eq_grow,alloc_eq_grow,grow_grow];rfl⟩
theorem lays (blk off size:Nat) (w:World):CmpLays Tryz.prog 191 #[] enc 2 cf blk off size w:=fun _ _ _ _ x y=>clos_any x y _
theorem get_fr (l:List S2) (i:Nat):l.toArray[i]! = (fr l i,tp l i):=by
 by_cases h:i < l.length
 ·rw [getElem!_pos l.toArray i (by simpa using h)]
  simp [fr,tp,h]
 ·rw [getElem!_neg l.toArray i (by simpa using h)]
  simp [fr,tp,h]
  rfl
theorem holds_of {w:World} {g:Nat} {l:List S2} (h:∀ i,i < l.length→w.cell? ⟨g,i * 2,none⟩=some (.int .i64 (fr l i))∧w.cell? ⟨g,i * 2+1,none⟩=some (.int .i64 (tp l i))∧w.frozen? ⟨g,i * 2,none⟩=false∧w.frozen? ⟨g,i * 2+1,none⟩=false) :
 HoldsK enc 2 w g 0 l.toArray:=by
 intro j hj
 have hj':j < l.length * 2:=by simpa using hj
 obtain ⟨c0,c1,f0,f1⟩:=h (j / 2) (by omega);rw [get_flatK enc 2 l.toArray j (by simpa using hj'),get_fr]
 rcases (by omega:j % 2=0∨j % 2=1) with e | e
 ·have ej:0+j=j / 2 * 2:=by omega
  rw [ej,e];exact ⟨c0,f0⟩
 ·have ej:0+j=j / 2 * 2+1:=by omega
  rw [ej,e];exact ⟨c1,f1⟩
def SortedTo (W:World) (B:Nat) (v:Value) (x:List S2) (w':World):Prop :=
 ∃ x',Sp w' v x'∧x'.length=x.length∧(∀ s,s∈x'↔s∈x)∧(∀ i j,i≤j→j < x'.length→fr x' i≤fr x' j)∧Below B W w'
theorem below_world {W:World} {B g m:Nat} (hB:B≤g) (hg:g < W.heap.size) (d:Array S2) (os:Array Obj):Below B W (sortWorldK enc 2 W g 0 m d os):=by
 refine ⟨rfl,rfl,rfl,?_,fun k hk=>?_⟩
 ·show W.heap.size≤((W.heap.modify g _) ++ os).size
  simp
 ·show ((W.heap.modify g _) ++ os)[k]? = _
  rw [Array.getElem?_append_left (by simp;omega),Array.getElem?_modify,if_neg (by omega)]
theorem sorted_to {W:World} {B g cap m:Nat} {x:List S2} {d':Array S2} {os:Array Obj} (hB:B≤g) (hg:g < W.heap.size) (h1:x.length≤cap) (h2:cap≤maxLen) (hH:HoldsK enc 2 W g 0 x.toArray)
 (hp:PermIn 0 x.toArray.size x.toArray d') (hs:SortedIn (ltOf cf) 0 x.toArray.size d'):SortedTo W B (.slice (some ⟨g,0,none⟩) x.length cap) x (sortWorldK enc 2 W g 0 m d' os):=by
 obtain ⟨hsz,_,hperm⟩:=hp;have hlen:d'.toList.length=x.length:=by simpa using hsz
 have hperm':d'.toList.Perm x:=by
  have e1:d'.extract 0 x.toArray.size=d':=by rw [← hsz];simp
  have e2:x.toArray.extract 0 x.toArray.size=x.toArray:=by simp
  rw [e1,e2] at hperm
  simpa using hperm
 have hH':HoldsK enc 2 (sortWorldK enc 2 W g 0 m d' os) g 0 d':=by
  unfold sortWorldK;refine holdsK_grow _ _ _ _ _ _ _ (by show g < (putRowK enc 2 (Sort.ahead W m) g 0 d').heap.size;rw [size_putRowK];exact hg) ?_;exact holdsK_putRowK enc 2 (Sort.ahead W m) g 0 x.toArray d' hH hsz
 have hsz':d'.size=x.length:=by simpa using hsz
 have hget:∀ i,i < x.length→d'[i]! = (fr d'.toList i,tp d'.toList i):=fun i hi=>by
  have:=get_fr d'.toList i
  simpa using this
 refine ⟨d'.toList,⟨some ⟨g,0,none⟩,cap,by rw [hlen],by rw [hlen];exact h1,h2,fun _=>⟨g,0,rfl,fun i hi=>?_⟩⟩,hlen,fun s=>hperm'.mem_iff,fun i j hij hj=>?_,below_world hB hg _ _⟩
 ·rw [hlen] at hi
  have c0:=(hH'.cell (i:=i) (c:=0) (by omega) (by omega)).1;have c1:=(hH'.cell (i:=i) (c:=1) (by omega) (by omega)).1;rw [hget i hi] at c0 c1;exact ⟨c0,c1⟩
 ·rw [hlen] at hj
  rcases Nat.lt_or_ge i j with c | c
  ·have:=hs i j (by omega) c (by simpa using hj)
   rw [lt_cf,hget i (by omega),hget j hj] at this
   simp at this
   exact this
  ·rw [show i=j by omega]
   exact Int.le_refl _
theorem sort_some (W:World) (B:Nat) (v:Value) (x:List S2) (hown:Sp.Own W B 186 v x) (h0:0 < x.length) (hlen:x.length < 1099511627776) :
 Calls Tryz.prog 190 #[v,.func (.func 191) #[] #[]] W fun e w'=>e = .returned (.tuple #[])∧SortedTo W B v x w':=by
 obtain ⟨g,cap,rfl,hB,hg,h1,h2,_,hc⟩:=hown.form h0;have eg:∀ args w,(callFunc 191 args).run Tryz.prog w = .ok (.enter 191 args) w:=enters_of Tryz.func191 (by kernel_rfl) rfl;have hH:=holds_of hc;have hcon:=AnyQ.slices_SortFunc Wi.sortFunc 2 Tryz.isAgg186 Tryz.sizeOf186 enc (fun _=>rfl) (fun x v hv=>by simp [enc] at hv;rcases hv with rfl | rfl <;> rfl) cf swo 191 #[] g 0 cap x.toArray W eg (lays g 0 x.toArray.size W) hH hg (by simp;omega)
 change Calls Tryz.prog 190 _ _ _ at hcon
 refine hcon.mono ?_;rintro e w' ⟨rfl,d',n,os,hp,hs,rfl⟩;exact ⟨rfl,sorted_to hB hg h1 h2 hH hp hs⟩
theorem sort_any (W:World) (B:Nat) (v:Value) (x:List S2) (hown:Sp.Own W B 186 v x) (hlen:x.length < 1099511627776) :
 Calls Tryz.prog 190 #[v,.func (.func 191) #[] #[]] W fun e w'=>e = .returned (.tuple #[])∧SortedTo W B v x w':=by
 rcases Nat.eq_zero_or_pos x.length with z | z
 ·have hsp:=hown.sp
  obtain ⟨a,cap,rfl,_⟩:=hown.slice;have hcon:=AnyF.slices_SortFunc_none (ρ:=Wi.sortFunc_ren) Wi.sortFunc a cap (.func (.func 191) #[] #[]) W
  change Calls Tryz.prog 190 _ _ _ at hcon
  rw [z];refine hcon.mono ?_;rintro e w' ⟨rfl,rfl⟩;have e:x = []:=List.length_eq_zero_iff.1 z;subst e;exact ⟨rfl,[],hsp,rfl,fun s=>Iff.rfl,fun i j _ h=>by simp at h,Below.refl _ _⟩
 ·exact sort_some W B v x hown z hlen
end Go.Proofs.YtljnkaodhfnbbaaGreatDoor.Wi
namespace Go.Proofs.YtljnkaodhfnbbaaGreatDoor.Wi
open Go.RowKit Go.Proofs.YtljnkaodhfnbbaaGreatDoor.Sp
def Rows (w:World) (v:Value) (ls:List (List S2)):Prop:=∃ a cap,v = .slice a ls.length cap∧ls.length≤cap∧cap≤maxLen∧(0 < ls.length→∃ b off,a=some ⟨b,off,none⟩∧∀ i,i < ls.length→∃ u,w.cell? ⟨b,off+i,none⟩=some u∧Sp w u (ls.getD i []))
def tot (ls:List (List S2)):Nat→Nat
 | 0=>0
 | k+1=>tot ls k+(ls.getD k []).length
theorem tot_mono (ls:List (List S2)) {i j:Nat} (h:i≤j):tot ls i≤tot ls j:=by
 induction j with
 | zero=>rw [show i=0 by omega];exact Nat.le_refl _
 | succ j ih =>
   by_cases e:i=j+1
   ·rw [e];exact Nat.le_refl _
   ·have:=ih (by omega)
    show tot ls i≤tot ls j+_
    omega
structure Acc (ls:List (List S2)) (k j:Nat) (x:List S2):Prop where
 ticks:∀ s∈x,s.1 < s.2
 low:∀ t,Low x t↔(∃ i,i < k∧Low (ls.getD i []) t)∨Low ((ls.getD k []).take j) t
 len:x.length≤tot ls k+j
theorem Acc.zero (ls:List (List S2)):Acc ls 0 0 []:=⟨fun s h=>by simp at h,fun t=>by
 constructor
 ·exact fun h=>absurd h low_nil
 ·rintro (⟨i,h,_⟩ | h)
  ·omega
  ·simp at h;exact h,by simp⟩
theorem Acc.push {ls:List (List S2)} {k j:Nat} {x:List S2} (h:Acc ls k j x) (hj:j < (ls.getD k []).length) (ht:fr (ls.getD k []) j < tp (ls.getD k []) j):Acc ls k (j+1) (x ++ [(fr (ls.getD k []) j,tp (ls.getD k []) j)]):=by
 refine ⟨fun s hs=>?_,fun t=>?_,by have:=h.len;simp;omega⟩
 ·rcases List.mem_append.1 hs with c | c
  ·exact h.ticks s c
  ·simp at c;subst c;exact ht
 ·rw [low_append,h.low,take_snoc hj,low_append,or_assoc]
theorem Acc.skip {ls:List (List S2)} {k j:Nat} {x:List S2} (h:Acc ls k j x) (hj:j < (ls.getD k []).length) (ht:¬ fr (ls.getD k []) j < tp (ls.getD k []) j):Acc ls k (j+1) x:=by
 refine ⟨h.ticks,fun t=>?_,by have:=h.len;omega⟩;rw [h.low,take_snoc hj,low_append,low_one]
 constructor
 ·rintro (c | c)
  ·exact .inl c
  ·exact .inr (.inl c)
 ·rintro (c | c | c)
  ·exact .inl c
  ·exact .inr c
  ·have c1:=c.1;have c2:=c.2;simp at c1 c2;omega
theorem Acc.next {ls:List (List S2)} {k:Nat} {x:List S2} (h:Acc ls k (ls.getD k []).length x):Acc ls (k+1) 0 x:=by
 refine ⟨h.ticks,fun t=>?_,by have:=h.len;show x.length≤tot ls k+_+0;omega⟩;rw [h.low,List.take_length]
 constructor
 ·rintro (⟨i,hi,c⟩ | c)
  ·exact .inl ⟨i,by omega,c⟩
  ·exact .inl ⟨k,by omega,c⟩
 ·rintro (⟨i,hi,c⟩ | c)
  ·by_cases e:i=k
   ·subst e;exact .inr c
   ·exact .inl ⟨i,by omega,c⟩
  ·simp at c;exact absurd c low_nil
structure SortOf (ls:List (List S2)) (x:List S2):Prop where
 srt:Srt x
 low:∀ t,Low x t↔∃ i,i < ls.length∧Low (ls.getD i []) t
 len:x.length≤tot ls ls.length
theorem low_mem {x y:List S2} (h:∀ s,s∈x↔s∈y) (t:Int):Low x t↔Low y t:=⟨fun ⟨s,a,b⟩=>⟨s,(h s).1 a,b⟩,fun ⟨s,a,b⟩=>⟨s,(h s).2 a,b⟩⟩
theorem SortOf.of {ls:List (List S2)} {x x':List S2} (h:Acc ls ls.length 0 x) (hl:x'.length=x.length) (hm:∀ s,s∈x'↔s∈x) (hu:∀ i j,i≤j→j < x'.length→fr x' i≤fr x' j):SortOf ls x':=by
 refine ⟨⟨fun i hi=>h.ticks _ ((hm _).1 (mem_fr hi)),hu⟩,fun t=>?_,by have:=h.len;omega⟩;rw [low_mem hm,h.low]
 constructor
 ·rintro (c | c)
  ·exact c
  ·simp at c;exact absurd c low_nil
 ·exact .inl
def Gives (w:World) (P:List S2→Prop) (e:Ending) (w':World):Prop:=∃ v x,e = .returned v∧Sp w' v x∧P x∧Below w.heap.size w w'
def SRel (w:World) (ls:List (List S2)) (v:Value) (k j:Nat) (wr:World):Prop:=∃ x,Sp.Own wr w.heap.size 186 v x∧Acc ls k j x∧Below w.heap.size w wr
set_option maxHeartbeats 1000000 in
theorem sorted_any (w:World) (v:Value) (ls:List (List S2)) (h:Rows w v ls) (hlen:tot ls ls.length < 1099511627776):Calls Tryz.prog 148 #[v] w (Gives w (SortOf ls)):=by
 obtain ⟨a,cap,rfl,h1,h2,h3⟩:=h;have H3:=Lib.hid h3;have HT:=Lib.hid hlen;clear h3 hlen;generalize hn:ls.length=n at *;have HN:=Lib.hid hn;clear hn;unfold maxLen at h2
 go_enter Tryz.func148,Tryz.ntmps148
 go_wp2
 go_loopw [3,10] (fun v i wr=>∃ k:Nat,k≤n∧i = .int .i64 k∧SRel w ls v k 0 wr) (fun _ i _=>n - (intOf i).toNat)
 case atStart=>exact ⟨0,Nat.zero_le _,rfl,[],Sp.Own.nil _ _ _,Acc.zero ls,Below.refl _ _⟩
 case round =>
  obtain ⟨k,hk,rfl,x,hown,hacc,hb⟩:=hrel;have HA:=Lib.hid hacc;clear hacc
  by_cases hlt:k < n
  ·obtain ⟨b,off,rfl,hrows⟩:=H3.out (by omega)
   obtain ⟨u,c1,hu⟩:=hrows k (by have:=HN.out;omega);have HR:=Lib.hid hrows;clear hrows;have d1:=(hb.cell (World.block_lt_of_cell? _ _ c1)).trans c1;clear c1;obtain ⟨ra,rcap,rfl,r1,r2,r3⟩:=hu;have R3:=Lib.hid r3;clear r3;generalize hm:(ls.getD k []).length=m at *;have HM:=Lib.hid hm;clear hm;unfold maxLen at r2;obtain ⟨wo,rfl⟩:∃ wo:World,wo=wr:=⟨_,rfl⟩;have hw:SRel w ls _ k 0 wo:=⟨x,hown,HA.out,hb⟩;have HW:=Lib.hid hw;clear hw hown hb;have TB:Hid (tot ls k+m≤1099511627775):=by
    have e:=tot_mono ls (show k+1≤ls.length by have:=HN.out;omega);have e2:tot ls (k+1)=tot ls k+(ls.getD k []).length:=rfl;have:=HT.out;have:=HM.out;have:=HN.out
    show tot ls k+m≤1099511627775
    subst n
    omega
   go_wp2
   go_loopw [3,16] (fun v i wr=>∃ j:Nat,j≤m∧i = .int .i64 j∧SRel w ls v k j wr) (fun _ i _=>m - (intOf i).toNat)
   case atStart=>exact ⟨0,Nat.zero_le _,rfl,HW.out⟩
   case round =>
    obtain ⟨j,hj,rfl,y,hown,hacc,hb⟩:=hrel;have hB:=hb.size;have hyl:=hacc.len;have HAY:=Lib.hid hacc;clear hacc
    by_cases hltj:j < m
    ·obtain ⟨b',off',rfl,hA⟩:=R3.out (by omega)
     obtain ⟨c1,c2⟩:=hA j (by have:=HM.out;omega);have HAt:=Lib.hid hA;clear hA;have e1:=(hb.cell (World.block_lt_of_cell? _ _ c1)).trans c1;have e2:=(hb.cell (World.block_lt_of_cell? _ _ c2)).trans c2;clear c1 c2
     by_cases ht:fr (ls.getD k []) j < tp (ls.getD k []) j
     ·have PU:=Lib.hid (HAY.out.push (by have:=HM.out;omega) ht)
      generalize fr (ls.getD k []) j=p at *;generalize tp (ls.getD k []) j=q at *;have HT:=Lib.hid ht;clear ht;go_wp2_with fail;refine (at_bool (decide_eq_true HT.out) (ticks_any _ _ _)).mono ?_;rintro e w1 ⟨rfl,b1⟩;have f1:w1.cell? ⟨wr.heap.size,0,none⟩=some (.int .i64 p):=(b1.cell (by simp)).trans (by go_simp);have f2:w1.cell? ⟨wr.heap.size,1,none⟩=some (.int .i64 q):=(b1.cell (by simp)).trans (by go_simp);have z1:=b1.size
      simp at z1
      have hown1:=(hown.alloc (.cells #[.int .i64 p,.int .i64 q] 186)).keep b1;have hb1:=(hb.alloc hB (.cells #[.int .i64 p,.int .i64 q] 186)).trans (b1.mono (B':=w.heap.size) (by simp;omega));clear hown hb b1
      go_wp2_with (at_builtin;refine push_step rfl _ _ rfl w.heap.size _ _ rfl (hown1.alloc _) _ p q rfl ?c1 ?c2 ?c3 ?c4 ?_)
      case c1=>go_simp
      case c2=>go_simp
      case c3=>have:=TB.out;omega
      case c4=>simp;omega
      intro v' w2 hown2 hb2
      have R:SRel w ls v' k (j+1) w2:=⟨_,hown2,PU.out,(hb1.alloc (by omega) _).trans hb2⟩;clear hown2 hb2 hown1 hb1 f1 f2;go_wp2
      go_roundw
      case rel=>exact ⟨j+1,by omega,by go_num,R⟩
      case measure=>simp [intOf];omega
     ·have PU:=Lib.hid (HAY.out.skip (by have:=HM.out;omega) ht)
      generalize fr (ls.getD k []) j=p at *;generalize tp (ls.getD k []) j=q at *;have HT:=Lib.hid ht;clear ht;go_wp2_with fail;refine (at_bool (decide_eq_false (show ¬ p < q by have:=HT.out;omega)) (ticks_any _ _ _)).mono ?_;rintro e w1 ⟨rfl,b1⟩;have R:SRel w ls _ k (j+1) w1:=⟨_,(hown.alloc (.cells #[.int .i64 p,.int .i64 q] 186)).keep b1,PU.out,(hb.alloc hB (.cells #[.int .i64 p,.int .i64 q] 186)).trans (b1.mono (B':=w.heap.size) (by simp;omega))⟩;clear hown hb b1;go_wp2
      go_roundw
      case rel=>exact ⟨j+1,by omega,by go_num,R⟩
      case measure=>simp [intOf];omega
    ·obtain rfl:j=m:=by omega
     have R:SRel w ls _ (k+1) 0 wr:=⟨_,hown,(by have:=HAY.out;rw [← HM.out] at this;exact this.next),hb⟩;clear hown hb;go_wp2
     go_roundw
     case rel=>exact ⟨k+1,by omega,by go_num,R⟩
     case measure=>simp [intOf];omega
  ·obtain rfl:k=n:=by omega
   have hxl:x.length < 1099511627776:=by have:=HA.out.len;have:=HT.out;omega
   have hs:=sort_any wr w.heap.size _ x hown hxl;have HS:=Lib.hid hs;clear hs;go_wp2_with fail;refine HS.out.mono ?_;rintro e w1 ⟨rfl,hst⟩;have ST:=Lib.hid hst;clear hst;go_wp2
   go_ret
   obtain ⟨x',s1,s2,s3,s4,s5⟩:=ST.out;exact ⟨_,x',rfl,s1,SortOf.of (by rw [HN.out];exact HA.out) s2 s3 s4,hb.trans s5⟩
structure JoinOf (ls:List (List S2)) (l:List S2):Prop where
 plain:Plain l
 low:∀ t,Low l t↔∃ i,i < ls.length∧Low (ls.getD i []) t
 len:l.length≤tot ls ls.length
structure JRel (w w1:World) (S:List S2) (v:Value) (k:Nat) (l:List S2) (wr:World):Prop where
 own:Sp.Own wr w1.heap.size 186 v l
 inv:JoinInv S k l
 len:l.length≤k
 bel1:Below w1.heap.size w1 wr
 bel:Below w.heap.size w w1
theorem own_low {w:World} {B B' E:Nat} {v:Value} {l:List S2} (h:Sp.Own w B E v l) (hB:B'≤B):Sp.Own w B' E v l:=by
 obtain ⟨h1,h2⟩:=h;refine ⟨h1,?_⟩
 rcases h2 with h2 | ⟨g,cap,cur,e,hg,r⟩
 ·exact .inl h2
 ·exact .inr ⟨g,cap,cur,e,by omega,r⟩
theorem snoc_of {l:List S2} {m:Nat} (h:l.length=m+1):l=l.take m ++ [(fr l m,tp l m)]:=by
 have e:=take_snoc (S:=l) (k:=m) (by omega);rw [← e,← h,List.take_length]
theorem set_last {l:List S2} {m:Nat} (h:l.length=m+1) (x:Int):l.set m (fr l m,x)=l.take m ++ [(fr l m,x)]:=by
 have e:=snoc_of h;have hm:(l.take m).length=m:=by simp;omega
 generalize fr l m=p at *;generalize tp l m=q at *;generalize l.take m=t at *;subst e;rw [List.set_append_right _ _ (by omega),hm]
 simp
theorem JRel.push {w w1 wr w2:World} {S l:List S2} {v v':Value} {k:Nat} (h:JRel w w1 S v k l wr) (hS:Srt S) (hk:k < S.length) (hl:l = []∨lastc l < fr S k) (hown:Sp.Own w2 w1.heap.size 186 v' (l ++ [(fr S k,tp S k)])) (hb:Below w1.heap.size w1 w2):JRel w w1 S v' (k+1) (l ++ [(fr S k,tp S k)]) w2:=by
 refine ⟨hown,h.inv.push hS hk fun x hx=>?_,by have:=h.len;simp;omega,hb,h.bel⟩
 rcases hl with e | e
 ·rw [e] at hx;simp at hx
 ·have:=lastc_le h.inv.plain x hx;omega
theorem JRel.grow {w w1 wr w2:World} {S l:List S2} {v:Value} {k m:Nat} (h:JRel w w1 S v k l wr) (hk:k < S.length) (hm:l.length=m+1) (hl:fr S k≤tp l m) (hown:Sp.Own w2 w1.heap.size 186 v (l.set m (fr l m,max (tp l m) (tp S k)))) (hb:Below w1.heap.size w1 w2):JRel w w1 S v (k+1) (l.set m (fr l m,max (tp l m) (tp S k))) w2:=by
 refine ⟨hown,?_,by have:=h.len;simp;omega,hb,h.bel⟩;have e:=snoc_of hm;have inv:=h.inv;rw [e] at inv;have g:=inv.grow hk hl (max (tp l m) (tp S k)) (by omega);rw [set_last hm];exact g
set_option maxHeartbeats 1000000 in
theorem join_any (w:World) (v:Value) (ls:List (List S2)) (h:Rows w v ls) (hlen:tot ls ls.length < 1099511627776):Calls Tryz.prog 88 #[v] w (Made w (JoinOf ls)):=by
 have hs:=sorted_any w v ls h hlen;have HS:=Lib.hid hs;obtain ⟨a,cap,rfl,_,_,_⟩:=h;have HT:=Lib.hid hlen;clear hs hlen;generalize hn:ls.length=n at *;have HN:=Lib.hid hn;clear hn
 go_enter Tryz.func88,Tryz.ntmps88
 go_wp2_with fail;refine HS.out.mono ?_;rintro e w1 ⟨v1,S,rfl,hSp,hSo,hb0⟩;obtain ⟨a1,cap1,rfl,r1,r2,r3⟩:=hSp;have R3:=Lib.hid r3;have SO:=Lib.hid hSo;clear r3 hSo;generalize hm:S.length=n1 at *;have HM:=Lib.hid hm;clear hm;unfold maxLen at r2;have hz0:=hb0.size;go_wp2
 go_loopw [3,10] (fun v i wr=>∃ (k:Nat) (l:List S2),k≤n1∧i = .int .i64 k∧JRel w w1 S v k l wr) (fun _ i _=>n1 - (intOf i).toNat)
 case atStart=>exact ⟨0,[],Nat.zero_le _,rfl,Sp.Own.nil _ _ _,JoinInv.zero S,by simp,Below.refl _ _,hb0⟩
 case round =>
  obtain ⟨k,l,hk,rfl,hR⟩:=hrel;have HR:=Lib.hid hR;have hb:=hR.bel1;have hB:=hb.size;have hlk:=hR.len;clear hR
  by_cases hlt:k < n1
  ·obtain ⟨b,off,rfl,hA⟩:=R3.out (by omega)
   obtain ⟨c1,c2⟩:=hA k (by have:=HM.out;omega);have HA:=Lib.hid hA;clear hA;have d1:=(hb.cell (World.block_lt_of_cell? _ _ c1)).trans c1;have d2:=(hb.cell (World.block_lt_of_cell? _ _ c2)).trans c2;clear c1 c2;have TB:Hid (l.length < 1099511627776):=by
    have:=SO.out.len;have:=HT.out;have:=HM.out;have:=HN.out
    show l.length < 1099511627776
    subst n
    omega
   rcases Nat.eq_zero_or_pos l.length with z | z
   ·have NX:=fun v' w2 (h1:Sp.Own w2 w1.heap.size 186 v' (l ++ [(fr S k,tp S k)])) (h2:Below w1.heap.size w1 w2)=>HR.out.push SO.out.srt (by have:=HM.out;omega) (.inl (List.length_eq_zero_iff.1 z)) h1 h2
    have NX:=Lib.hid NX;obtain ⟨a3,cap3,rfl,_,_⟩:=HR.out.own.slice;generalize hl:l.length=len at *;have HL:=Lib.hid hl;clear hl;subst z;generalize hp:fr S k=p at *;generalize hq:tp S k=q at *;go_wp2
    go_quiet (fail)
    have hown:=((HR.out.own.alloc (.cells #[.int .i64 p,.int .i64 q] 186)).draw nq)
    go_wp2_with (at_builtin;refine push_step rfl _ _ rfl w1.heap.size _ _ rfl (hown.alloc _) _ p q rfl ?c1 ?c2 ?c3 ?c4 ?_)
    case c1=>go_simp
    case c2=>go_simp
    case c3=>have:=HL.out;omega
    case c4=>simp;omega
    intro v' w2 hown2 hb2
    have R:=NX.out v' w2 hown2 ((below_drewN (hb.alloc hB _) nq).alloc (by simp;omega) _ |>.trans hb2);clear hown2 hb2 hown;go_wp2
    go_roundw
    case rel=>exact ⟨k+1,_,by omega,by go_num,R⟩
    case measure=>simp [intOf];omega
   ·obtain ⟨m,hm1⟩:∃ m,l.length=m+1:=⟨l.length - 1,by omega⟩
    obtain ⟨g,cap3,rfl,g1,g2,_,_,_,hcells⟩:=HR.out.own.form z;obtain ⟨e0,e1,_,f1⟩:=hcells m (by omega);clear hcells z;have hlc:lastc l=tp l m:=by rw [lastc_tp l (by omega),hm1];rfl
    by_cases hle:fr S k≤tp l m
    ·have NX:=fun w2 h1 h2=>HR.out.grow (w2:=w2) (by have:=HM.out;omega) hm1 hle h1 h2
     have NX:=Lib.hid NX;have OW:=Lib.hid HR.out.own;have ST:=Lib.hid (fun (W:World) (h:Sp.Own W w1.heap.size 186 (.slice (some ⟨g,0,none⟩) l.length cap3) l)=>h.set m (by omega) (max (tp l m) (tp S k)));generalize hl:l.length=len at *;have HL:=Lib.hid hl;clear hl;subst hm1;clear hlc;generalize hp:fr S k=p at *;generalize hq:tp S k=q at *;generalize hp':fr l m=p' at *;generalize hq':tp l m=q' at *;go_wp2
     go_quiet (fail)
     go_wp2;have x0:((wr.alloc (.cells #[.int .i64 p,.int .i64 q] 186)).drewN nq).cell? ⟨wr.heap.size,1,none⟩=some (.int .i64 q):=by go_simp
     have x1:((wr.alloc (.cells #[.int .i64 p,.int .i64 q] 186)).drewN nq).cell? ⟨g,m * 2+1,none⟩=some (.int .i64 q'):=by go_simp
     have x2:((wr.alloc (.cells #[.int .i64 p,.int .i64 q] 186)).drewN nq).frozen? ⟨g,m * 2+1,none⟩=false:=by go_simp
     generalize hwq:(wr.alloc (.cells #[.int .i64 p,.int .i64 q] 186)).drewN nq=wq at x0 x1 x2 ⊢;have HWQ:=Lib.hid hwq;clear hwq
     go_region
     have OQ:Hid (Sp.Own wq w1.heap.size 186 (.slice (some ⟨g,0,none⟩) (m+1) cap3) l):=by
      rw [← HWQ.out];exact (OW.out.alloc _).draw nq
     have BQ:Hid (Below w1.heap.size w1 wq):=by
      rw [← HWQ.out];exact below_drewN (hb.alloc hB _) nq
     have R:=NX.out _ (show Sp.Own ((wq.setCell ⟨g,m * 2+1,none⟩ (.int .i64 (max q' q))).drew) _ _ _ _ from ST.out wq OQ.out) ((BQ.out.setCell (p:=⟨g,m * 2+1,none⟩) g1 _).drew);have R':=Lib.hid R;clear R x0 x1 x2;go_wp2
     go_roundw
     case rel=>exact ⟨k+1,_,by omega,by go_num,R'.out⟩
     case measure=>simp [intOf];omega
    ·have NX:=fun v' w2 (h1:Sp.Own w2 w1.heap.size 186 v' (l ++ [(fr S k,tp S k)])) (h2:Below w1.heap.size w1 w2)=>HR.out.push SO.out.srt (by have:=HM.out;omega) (.inr (by omega)) h1 h2
     have NX:=Lib.hid NX;have OW:=Lib.hid HR.out.own;generalize hl:l.length=len at *;have HL:=Lib.hid hl;clear hl;subst hm1;clear hlc;generalize hp:fr S k=p at *;generalize hq:tp S k=q at *;generalize hq':tp l m=q' at *;go_wp2
     go_quiet (fail)
     have hown:=((OW.out.alloc (.cells #[.int .i64 p,.int .i64 q] 186)).draw nq)
     go_wp2_with (at_builtin;refine push_step rfl _ _ rfl w1.heap.size _ _ rfl (hown.alloc _) _ p q rfl ?c1 ?c2 ?c3 ?c4 ?_)
     case c1=>go_simp
     case c2=>go_simp
     case c3=>have:=HL.out;have:=TB.out;omega
     case c4=>simp;omega
     intro v' w2 hown2 hb2
     have R:=NX.out v' w2 hown2 ((below_drewN (hb.alloc hB _) nq).alloc (by simp;omega) _ |>.trans hb2);clear hown2 hb2 hown;go_wp2
     go_roundw
     case rel=>exact ⟨k+1,_,by omega,by go_num,R⟩
     case measure=>simp [intOf];omega
  ·obtain rfl:k=n1:=by omega
   have inv:=HR.out.inv;rw [← HM.out] at inv;have al:=inv.all;have J:JoinOf ls l:=⟨al.1,fun t=>(al.2 t).trans (SO.out.low t),by have:=SO.out.len;have:=HM.out;omega⟩;have JJ:=Lib.hid J;have OW:=Lib.hid (own_low HR.out.own hz0);have BB:=Lib.hid (HR.out.bel.trans (hb.mono hz0));clear inv al J;go_wp2
   go_ret
   exact ⟨_,l,rfl,OW.out,JJ.out,BB.out⟩
end Go.Proofs.YtljnkaodhfnbbaaGreatDoor.Wi
namespace Go.Proofs.YtljnkaodhfnbbaaGreatDoor.Bu
open Go.RowKit
open Sp (S2 fr tp Sp)
open Rw (Rd Ow At)
open Wi (Plain PlainOf Low low_nil low_append low_cons Rows tot JoinOf)
open Ck (Hd sl zh KS)
structure HdI (w:World) (v:Value) (hs:List Hd) (ls:List (List S2)) (Q:Int→Prop) (k:Nat) (wr:World):Prop where
 own:Ow KS wr w.heap.size 95 v hs
 el:∀ i,i < hs.length→Sp.Own wr w.heap.size 186 (sl (hs.getD i zh)) (ls.getD i [])
 ll:ls.length=hs.length
 few:∀ i,i < ls.length→(ls.getD i []).length≤4294967297
 low:∀ u,(∃ i,i < ls.length∧Low (ls.getD i []) u)↔Q u
 len:hs.length≤k
 bel:Below w.heap.size w wr
section
variable {w wr w':World} {v v':Value} {hs:List Hd} {ls:List (List S2)} {Q Q':Int→Prop} {k:Nat}
theorem HdI.start (w:World) (b:Below w.heap.size w wr) (hQ:∀ u,¬ Q u):HdI w (.slice none 0 0) [] [] Q 0 wr :=
 ⟨Ow.nil _ _ _,fun _ hi=>absurd hi (Nat.not_lt_zero _),rfl,fun _ hi=>absurd hi (Nat.not_lt_zero _),fun u=>⟨fun ⟨_,hi,_⟩=>absurd hi (Nat.not_lt_zero _),fun h=>absurd h (hQ u)⟩,Nat.le_refl _,b⟩
theorem HdI.below (h:HdI w v hs ls Q k wr) (b:Below wr.heap.size wr w'):HdI w v hs ls Q k w':=⟨h.own.keep b,fun i hi=>(h.el i hi).keep b,h.ll,h.few,h.low,h.len,h.bel.trans (b.mono h.bel.size)⟩
theorem HdI.to (h:HdI w v hs ls Q k wr) (e:∀ u,Q' u↔Q u):HdI w v hs ls Q' (k+1) wr:=⟨h.own,h.el,h.ll,h.few,fun u=>(h.low u).trans (e u).symm,Nat.le_succ_of_le h.len,h.bel⟩
theorem own_grown {B E B' E' n m:Nat} {l:List S2} {f:List Value} (h:Sp.Own wr B E v l) (h':wr.ownsRow B' E' n v' m f) (hE:E≠E') (gr:wr.grownBy w' v'.ownBlock):Sp.Own w' B E v l:=by
 obtain ⟨h1,h2⟩:=h;refine ⟨h1,?_⟩
 rcases h2 with h2 | ⟨g,cap,cur,e,hB,hh,r⟩
 ·exact .inl h2
 ·refine .inr ⟨g,cap,cur,e,hB,(gr.block g (lt_of_block hh) fun q=>?_).trans hh,r⟩
  obtain ⟨_,h'⟩:=h'
  rcases h' with ⟨rfl,_⟩ | ⟨g',cap',cur',rfl,_,hh',_⟩
  ·cases q
  ·simp only [Value.ownBlock,Option.some.injEq] at q
   subst q;rw [hh] at hh';simp only [Option.some.injEq,Obj.cells.injEq] at hh';exact hE hh'.2.1
theorem getD_snoc {α:Type} (l:List α) (x d:α) (i:Nat):(l ++ [x]).getD i d=if i < l.length then l.getD i d else if i=l.length then x else d:=by
 rw [List.getD_eq_getElem?_getD,List.getElem?_append]
 split
 ·rw [List.getD_eq_getElem?_getD]
 ·split
  ·rename_i h;subst h;simp
  ·rw [List.getElem?_eq_none (by simp;omega)];rfl
theorem HdI.push {h:Hd} {l:List S2} (I:HdI w v hs ls Q k wr) (o:Sp.Own wr w.heap.size 186 (sl h) l) (hf:l.length≤4294967297) (own:Ow KS w' w.heap.size 95 v' (hs ++ [h])) (gr:wr.grownBy w' v.ownBlock) (hQ:∀ u,Q' u↔Q u∨Low l u) :
 HdI w v' (hs ++ [h]) (ls ++ [l]) Q' (k+1) w':=by
 refine ⟨own,fun i hi=>?_,by simp [I.ll],fun i hi=>?_,fun u=>?_,by simp;exact I.len,I.bel.grown gr I.bel.size fun j e=>(World.ownsRow.lt I.own j e).1⟩
 ·rw [getD_snoc,getD_snoc,I.ll]
  simp only [List.length_append,List.length_singleton] at hi
  split
  ·rename_i q;exact own_grown (I.el i q) I.own (by decide) gr
  ·rw [if_pos (by omega),if_pos (by omega)]
   exact own_grown o I.own (by decide) gr
 ·rw [getD_snoc]
  split
  ·rename_i q;exact I.few i q
  ·split
   ·exact hf
   ·exact Nat.zero_le _
 ·rw [hQ u,← I.low u]
  constructor
  ·rintro ⟨i,hi,c⟩
   rw [getD_snoc] at c
   split at c
   ·rename_i q;exact .inl ⟨i,q,c⟩
   ·split at c
    ·exact .inr c
    ·exact absurd c low_nil
  ·rintro (⟨i,hi,c⟩ | c)
   ·exact ⟨i,by simp;omega,by rw [getD_snoc,if_pos hi];exact c⟩
   ·exact ⟨ls.length,by simp,by rw [getD_snoc,if_neg (Nat.lt_irrefl _),if_pos rfl];exact c⟩
theorem HdI.rows (I:HdI w v hs ls Q k wr):Wi.Rows wr v ls:=by
 obtain ⟨a,cap,e,h1,h2,h3⟩:=I.own.rd;rw [← I.ll] at e h1 h3;refine ⟨a,cap,e,h1.1,h2,fun hp=>?_⟩;obtain ⟨b,off,ea,hA⟩:=h3 hp;refine ⟨b,off,ea,fun i hi=>⟨_,?_,(I.el i (by rw [← I.ll];exact hi)).sp⟩⟩;have c:=hA i (by rw [← I.ll];exact hi) 0 _ rfl;simp only [KS,Nat.mul_one,Nat.add_zero] at c;exact c
theorem tot_few (ls:List (List S2)) (h:∀ i,i < ls.length→(ls.getD i []).length≤4294967297):∀ n,n≤ls.length→tot ls n≤n * 4294967297
 | 0,_=>Nat.le_refl _
 | n+1,hn=>by
   have:=tot_few ls h n (by omega);have:=h n (by omega)
   show tot ls n+_≤_
   omega
theorem HdI.tot (I:HdI w v hs ls Q k wr) (hk:k≤100):tot ls ls.length < 1099511627776:=by
 have:=tot_few ls I.few ls.length (Nat.le_refl _);have:=I.ll;have:=I.len
 omega
theorem HdI.join (I:HdI w v hs ls Q k wr) {x:List S2} (j:JoinOf ls x):Plain x∧∀ u,Low x u↔Q u:=⟨j.plain,fun u=>(j.low u).trans (I.low u)⟩
theorem HdI.slice (I:HdI w v hs ls Q k wr):∃ a cap,v = .slice a hs.length cap∧cap≤maxLen:=by
 obtain ⟨a,cap,e,_,h⟩:=I.own.slice;exact ⟨a,cap,e,h⟩
end
theorem infoP:(Tryz.prog.info? 95).map (fun i=>(i.zero,i.size,i.bytes))=some (some (.slice none 0 0),1,24):=by kernel_rfl
section
end
end Go.Proofs.YtljnkaodhfnbbaaGreatDoor.Bu
namespace Go.Proofs.YtljnkaodhfnbbaaGreatDoor.Tk
open Go.RowKit
structure Bd (A R:Nat→Int) (n k:Nat):Prop where
 f0:0≤fr A k
 f1:fr A k≤4294967296
 r0 : -20000≤rt R k
 r1:rt R k≤20000
 s0:0≤sm A R k
 s1:sm A R k≤4380866641920
theorem Bd.of {A R:Nat→Int} {n:Nat} (g:GoodP n A R) (k:Nat) (h:k≤n):0≤sm A R k∧sm A R k≤4380866641920000:=by
 have f:=fr_bd g k h;have s:=sm_bd g k h
 omega
theorem mul_rt {A R:Nat→Int} {n:Nat} (g:GoodP n A R) (k:Nat) (h:k≤n) (d:Int) (h0:0≤d) (h1:d≤4294967296):0≤d * (1000000+rt R k)∧d * (1000000+rt R k)≤4380866641920000:=by
 have b:=rt_bd g k h;have m:=mul_bd (d:=d) (c:=1000000+rt R k) h0 (by omega) (by omega)
 omega
theorem parts_none (w:World) (a:Option Addr) (cap:Nat) (t:Int) (h0:0≤t) (h1:t≤4294967296) (A R:Nat→Int):Calls Tryz.prog 193 #[.slice a 0 cap,.int .i64 t] w fun e w'=>e = .returned (.int .i64 (PP A R 0 t))∧Below w.heap.size w w':=by
 have e:PP A R 0 t=t * 1000000:=by
  rw [PP_eq (⟨Nat.le_refl _,fun i h=>by omega,fun h=>by omega⟩:AtStop A 0 t 0)]
  show 0+(t - 0) * (1000000+0)=_
  omega
 rw [e]
 go_enter Tryz.func193,Tryz.ntmps193
 go_wp2
 go_loopw [5,6,7,12] (fun s f r i wr=>i = .int .i64 0∧s = .int .i64 0∧f = .int .i64 0∧r = .int .i64 0∧Below w.heap.size w wr) (fun _ _ _ _ _=>0)
 case atStart=>exact ⟨rfl,rfl,rfl,rfl,Below.refl _ _⟩
 case round =>
  obtain ⟨rfl,rfl,rfl,rfl,hb⟩:=hrel;go_wp2
  go_ret
  exact ⟨ret_int (by omega),hb⟩
set_option maxHeartbeats 400000 in
theorem parts_some (w:World) (b off n cap:Nat) (A R:Nat→Int) (g:GoodP n A R) (t:Int) (h0:0≤t) (h1:t≤4294967296)
 (hc:∀ i,i < n→w.cell? ⟨b,off+i * 2,none⟩=some (.int .i64 (A i))∧w.cell? ⟨b,off+i * 2+1,none⟩=some (.int .i64 (R i))) :
 Calls Tryz.prog 193 #[.slice (some ⟨b,off,none⟩) n cap,.int .i64 t] w fun e w'=>e = .returned (.int .i64 (PP A R n t))∧Below w.heap.size w w':=by
 have HC:=Lib.hid hc;clear hc;have G:=Lib.hid g;clear g;have hn:n≤64:=G.out.len
 go_enter Tryz.func193,Tryz.ntmps193
 go_wp2
 go_loopw [5,6,7,12] (fun s f r i wr=>∃ k:Nat,k≤n∧i = .int .i64 k∧s = .int .i64 (sm A R k)∧f = .int .i64 (fr A k)∧r = .int .i64 (rt R k)∧Hid (∀ i,i < k→A i < t)∧Below w.heap.size w wr) (fun _ _ _ i _=>n - (intOf i).toNat)
 case atStart=>exact ⟨0,Nat.zero_le _,rfl,rfl,rfl,rfl,fun i h=>by omega,Below.refl _ _⟩
 case round =>
  obtain ⟨k,hk,rfl,rfl,rfl,rfl,hs,hb⟩:=hrel;have fb:=fr_bd G.out k hk;have rb:=rt_bd G.out k hk;have sb:=Bd.of G.out k hk
  by_cases hlt:k < n
  ·obtain ⟨c1,c2⟩:=HC.out k hlt
   have d1:=(hb.cell (World.block_lt_of_cell? _ _ c1)).trans c1;have d2:=(hb.cell (World.block_lt_of_cell? _ _ c2)).trans c2;clear c1 c2;have ab:=G.out.at_ k hlt;have fa:=fr_le G.out k hlt;have mb:=mul_rt G.out k hk (A k - fr A k) (by omega) (by omega)
   by_cases ht:t≤A k
   ·have hst:AtStop A n t k:=⟨hk,hs.out,fun _=>ht⟩
    have ft:=stop_fr h0 hst;have mc:=mul_rt G.out k hk (t - fr A k) (by omega) (by omega);have HP:=Lib.hid (PP_eq (R:=R) hst);clear hst;go_wp2
    go_ret
    exact ⟨ret_int (by rw [HP.out];rfl),hb.alloc hb.size _⟩
   ·go_wp2
    go_quiet (fail)
    go_wp2
    go_roundw
    case rel=>exact ⟨k+1,by omega,by go_num,rfl,rfl,rfl,(fun i hi=>by
     by_cases e:i=k
     ·subst e;omega
     ·exact hs.out i (by omega)),below_drewN (hb.alloc hb.size _) _⟩
    case measure=>simp [intOf];omega
  ·obtain rfl:k=n:=by omega
   have hst:AtStop A k t k:=⟨hk,hs.out,fun h=>by omega⟩;have ft:=stop_fr h0 hst;have mc:=mul_rt G.out k hk (t - fr A k) (by omega) (by omega);have HP:=Lib.hid (PP_eq (R:=R) hst);clear hst;go_wp2
   go_ret
   exact ⟨ret_int (by rw [HP.out];rfl),hb⟩
theorem parts_any (w:World) (v:Value) (n:Nat) (A R:Nat→Int) (h:Steps w v n A R) (g:GoodP n A R) (t:Int) (h0:0≤t) (h1:t≤4294967296) :
 Calls Tryz.prog 193 #[v,.int .i64 t] w fun e w'=>e = .returned (.int .i64 (PP A R n t))∧Below w.heap.size w w':=by
 rcases h with ⟨a,cap,rfl,_,rfl⟩ | ⟨b,off,cap,rfl,_,_,hc⟩
 ·exact parts_none w a cap t h0 h1 A R
 ·exact parts_some w b off n cap A R g t h0 h1 hc
theorem local_any (w:World) (v:Value) (n:Nat) (A R:Nat→Int) (h:Steps w v n A R) (g:GoodP n A R) (t:Int) :
 Calls Tryz.prog 151 #[v,.int .i64 t] w fun e w'=>e = .returned (.int .i64 (Loc A R n t))∧Below w.heap.size w w':=by
 have G:=Lib.hid g;clear g;have S:=Lib.hid h;clear h
 by_cases ht:t≤0
 ·have e:Loc A R n t=0:=by
   have c:clamp t=0:=by unfold clamp;split <;> (try split) <;> omega
   rw [Loc,c,PP_zero G.out];rfl
  have E:=Lib.hid e;clear e
  go_enter Tryz.func151,Tryz.ntmps151
  go_wp2
  go_ret
  exact ⟨ret_int E.out.symm,Below.refl _ _⟩
 ·by_cases hm:t≤4294967296
  ·have p:=parts_any w v n A R S.out G.out t (by omega) hm
   have mn:min t 4294967296=t:=Int.min_eq_left hm;have pb:=PP_bd G.out t (by omega);have P:=Lib.hid p;clear p;have e:Loc A R n t=PP A R n t / 1000000:=by rw [Loc,clamp_id (by omega) hm]
   have E:=Lib.hid e;clear e
   go_enter Tryz.func151,Tryz.ntmps151
   go_wp2_with fail;refine P.out.mono ?_;rintro e w' ⟨rfl,hb⟩;go_wp2
   go_ret
   exact ⟨ret_int E.out.symm,hb⟩
  ·have p:=parts_any w v n A R S.out G.out 4294967296 (by omega) (by omega)
   have mn:min t 4294967296=4294967296:=by omega
   have pb:=PP_bd G.out 4294967296 (by omega);have P:=Lib.hid p;clear p;have e:Loc A R n t=PP A R n 4294967296 / 1000000:=by
    have c:clamp t=4294967296:=by unfold clamp;split <;> (try split) <;> omega
    rw [Loc,c]
   have E:=Lib.hid e;clear e
   go_enter Tryz.func151,Tryz.ntmps151
   go_wp2_with fail;refine P.out.mono ?_;rintro e w' ⟨rfl,hb⟩;go_wp2
   go_ret
   exact ⟨ret_int E.out.symm,hb⟩
end Go.Proofs.YtljnkaodhfnbbaaGreatDoor.Tk
namespace Go.Proofs.YtljnkaodhfnbbaaGreatDoor.Tk
open Go.RowKit
theorem Steps.drew {w:World} {v:Value} {n:Nat} {A R:Nat→Int} (h:Steps w v n A R):Steps w.drew v n A R:=h.below (Below.refl _ _).drew
theorem clos_any (w:World) (bl bn:Nat) (v:Value) (n:Nat) (A R:Nat→Int) (m t:Int) (S:Steps w v n A R) (g:GoodP n A R)
 (hl:w.cell? ⟨bl,0,none⟩=some v) (hn:w.cell? ⟨bn,0,none⟩=some (.int .i64 m)) :
 Calls Tryz.prog 188 (#[.int .i64 t] ++ #[.pointer (some ⟨bl,0,none⟩),.pointer (some ⟨bn,0,none⟩)]) w fun e w'=>e = .returned (.bool (decide (m≤Loc A R n t)))∧Below w.heap.size w w':=by
 have LC:Hid (∀ W,Below w.heap.size w W→Calls Tryz.prog 151 #[v,.int .i64 t] W fun e w'=>e = .returned (.int .i64 (Loc A R n t))∧Below W.heap.size W w'):=fun W hW=>local_any W v n A R (S.below hW) g t;have hlt:=World.block_lt_of_cell? _ _ hn;clear S g
 go_enter Tryz.func188,Tryz.ntmps188
 go_wp2_with fail
 go_region_with (go_at_call 151;refine (LC.out _ ?_).mono ?_;exact (Below.refl _ _).drew;rintro e w1 ⟨rfl,hb⟩;have hn1:=(hb.cell hlt).trans hn)
 all_goals go_wp2
 all_goals go_ret
 all_goals exact ⟨rfl,(Below.refl _ _).drew.trans hb⟩
theorem mid_lo {A R:Nat→Int} {n:Nat} {m lo hi:Int} (g:GoodP n A R) (h:¬ m≤Loc A R n ((lo+hi) / 2)):∀ t,0≤t→t < (lo+hi) / 2+1→Loc A R n t < m:=fun t _ h1=>by
 have:=Loc_mono g (show t≤(lo+hi) / 2 by omega)
 omega
set_option maxHeartbeats 400000 in
theorem search_any (w:World) (bl bn:Nat) (v:Value) (n:Nat) (A R:Nat→Int) (m:Int) (S:Steps w v n A R) (g:GoodP n A R)
 (hl:w.cell? ⟨bl,0,none⟩=some v) (hn:w.cell? ⟨bn,0,none⟩=some (.int .i64 m)) :
 Calls Tryz.prog 91 #[.int .i64 4294967296,.func (.func 188) #[] #[.pointer (some ⟨bl,0,none⟩),.pointer (some ⟨bn,0,none⟩)]] w fun e w'=>e = .returned (.int .i64 (Glo A R n m))∧Below w.heap.size w w':=by
 have CC:Hid (∀ W t,Below w.heap.size w W→Calls Tryz.prog 188 (#[.int .i64 t] ++ #[.pointer (some ⟨bl,0,none⟩),.pointer (some ⟨bn,0,none⟩)]) W fun e w'=>e = .returned (.bool (decide (m≤Loc A R n t)))∧Below w.heap.size W w'):=fun W t hW =>
  (clos_any W bl bn v n A R m t (S.below hW) g ((hW.cell (World.block_lt_of_cell? _ _ hl)).trans hl) ((hW.cell (World.block_lt_of_cell? _ _ hn)).trans hn)).mono fun e w' ⟨h1,h2⟩=>⟨h1,h2.mono hW.size⟩
 have G:=Lib.hid g;clear S g hl hn
 go_enter Tryz.func91,Tryz.ntmps91
 go_wp2
 go_loopw [5,6] (fun i j wr=>∃ lo hi:Int,0≤lo∧lo≤hi∧hi≤4294967296∧i = .int .i64 lo∧j = .int .i64 hi∧Hid (∀ t,0≤t→t < lo→Loc A R n t < m)∧Hid (hi < 4294967296→m≤Loc A R n hi)∧Below w.heap.size w wr) (fun i j _=>(intOf j - intOf i).toNat)
 case atStart=>exact ⟨0,4294967296,by omega,by omega,by omega,rfl,rfl,fun t a b=>by omega,fun h=>by omega,Below.refl _ _⟩
 case round =>
  obtain ⟨lo,hi,h0,h1,h2,rfl,rfl,il,ih,hb⟩:=hrel
  by_cases hlt:lo < hi
  ·by_cases hm:m≤Loc A R n ((lo+hi) / 2)
   ·have HM:=Lib.hid hm
    have hd:decide (m≤Loc A R n ((lo+hi) / 2))=true:=decide_eq_true hm;have c:=CC.out wr ((lo+hi) / 2) hb;rw [hd] at c;have C:=Lib.hid c;clear c hd hm;go_wp2_with fail;refine C.out.mono ?_;rintro e w1 ⟨rfl,hb1⟩;go_wp2
    go_roundw
    case rel=>exact ⟨lo,(lo+hi) / 2,h0,by omega,by omega,rfl,rfl,il,fun _=>HM.out,hb.trans hb1⟩
    case measure=>simp [intOf];omega
   ·have HM:=Lib.hid hm
    have hd:decide (m≤Loc A R n ((lo+hi) / 2))=false:=decide_eq_false hm;have c:=CC.out wr ((lo+hi) / 2) hb;rw [hd] at c;have C:=Lib.hid c;clear c hd hm;go_wp2_with fail;refine C.out.mono ?_;rintro e w1 ⟨rfl,hb1⟩;go_wp2
    go_roundw
    case rel=>exact ⟨(lo+hi) / 2+1,hi,by omega,by omega,by omega,rfl,rfl,mid_lo G.out (by have:=HM.out;omega),ih,hb.trans hb1⟩
    case measure=>simp [intOf];omega
  ·obtain rfl:lo=hi:=by omega
   go_wp2
   go_ret
   exact ⟨ret_int (Glo_eq (IsG.of_meet h0 h2 il ih)).symm,hb⟩
theorem Steps.slice {w:World} {v:Value} {n:Nat} {A R:Nat→Int} (S:Steps w v n A R):∃ a l cap,v = .slice a l cap:=by
 rcases S with ⟨a,cap,rfl,_⟩ | ⟨b,off,cap,rfl,_⟩
 ·exact ⟨_,_,_,rfl⟩
 ·exact ⟨_,_,_,rfl⟩
set_option maxHeartbeats 400000 in
theorem global_any (w:World) (v:Value) (n:Nat) (A R:Nat→Int) (m:Int) (S:Steps w v n A R) (g:GoodP n A R) :
 Calls Tryz.prog 146 #[v,.int .i64 m] w fun e w'=>e = .returned (.int .i64 (Glo A R n m))∧Below w.heap.size w w':=by
 obtain ⟨a,l,cap,rfl⟩:=S.slice;have hb:Below w.heap.size w ((w.alloc (.cells #[.slice a l cap] 103)).alloc (.cells #[.int .i64 m] 3)):=((Below.refl _ _).alloc (Nat.le_refl _) _).alloc (by simp) _;have c:=search_any ((w.alloc (.cells #[.slice a l cap] 103)).alloc (.cells #[.int .i64 m] 3)) w.heap.size (w.heap.size+1) (.slice a l cap) n A R m (S.below hb) g (by go_simp) (by go_simp);have C:=Lib.hid c;have HB:=Lib.hid hb;clear c hb S g;have hmf:∀ (fn:Fn) (first cap:Array Value) (w:World),(Instr.makeFunc fn first cap).run Tryz.prog w = .ok (.func fn first cap) w:=fun _ _ _ _=>rfl
 go_enter Tryz.func146,Tryz.ntmps146
 go_wp2_with fail;refine C.out.mono ?_;rintro e w1 ⟨rfl,hb1⟩;go_wp2
 go_ret
 exact ⟨rfl,HB.out.trans (hb1.mono (by simp;omega))⟩
end Go.Proofs.YtljnkaodhfnbbaaGreatDoor.Tk
namespace Go.Proofs.YtljnkaodhfnbbaaGreatDoor.Se
open Go.RowKit Go.Proofs.YtljnkaodhfnbbaaGreatDoor.Tk
set_option maxHeartbeats 400000 in
theorem during_any (w:World) (v:Value) (n:Nat) (A R:Nat→Int) (S:Tk.Steps w v n A R) (g:GoodP n A R) (m d:Int) (m0:0≤m) (m1:m≤4294967296) (d0:0≤d) (d1:d≤4294967296) :
 Calls Tryz.prog 95 #[v,.int .i64 m,.int .i64 d] w fun e w'=>e = .returned (.agg #[.int .i64 (Glo A R n m),.int .i64 (Glo A R n (m+d))])∧Below w.heap.size w w':=by
 have hb0:Below w.heap.size w (w.alloc (.cells #[.int .i64 0,.int .i64 0] 186)):=(Below.refl _ _).alloc (Nat.le_refl _) _;have S0:=Lib.hid (S.below hb0);have G:=Lib.hid g;have HB:=Lib.hid hb0;clear S g hb0
 go_enter Tryz.func95,Tryz.ntmps95
 go_wp2_with fail;refine (global_any _ _ _ _ _ _ S0.out G.out).mono ?_;rintro e w1 ⟨rfl,b1⟩;have S1:=Lib.hid (S0.out.below b1);have c0:w1.cell? ⟨w.heap.size,0,none⟩=some (.int .i64 0):=(b1.cell (by simp)).trans (by go_simp);have c1:w1.cell? ⟨w.heap.size,1,none⟩=some (.int .i64 0):=(b1.cell (by simp)).trans (by go_simp);have f0:w1.frozen? ⟨w.heap.size,0,none⟩=false:=(b1.frozen (by simp)).trans (by go_simp);have f1:w1.frozen? ⟨w.heap.size,1,none⟩=false:=(b1.frozen (by simp)).trans (by go_simp);have z1:=b1.size
 simp at z1
 have B1:=Lib.hid (HB.out.trans (b1.mono (B':=w.heap.size) (by simp)));clear b1;have F0:=Lib.hid f0;have F1:=Lib.hid f1;have C0:=Lib.hid c0;have C1:=Lib.hid c1;clear c0 c1 f0 f1;go_wp2_with fail;refine (global_any _ _ _ _ _ _ S1.out G.out).mono ?_;rintro e w2 ⟨rfl,b2⟩;have c0:w2.cell? ⟨w.heap.size,0,none⟩=some (.int .i64 0):=(b2.cell (by show w.heap.size < w1.heap.size;omega)).trans C0.out;have c1:w2.cell? ⟨w.heap.size,1,none⟩=some (.int .i64 0):=(b2.cell (by show w.heap.size < w1.heap.size;omega)).trans C1.out;have f0:w2.frozen? ⟨w.heap.size,0,none⟩=false:=(b2.frozen (by show w.heap.size < w1.heap.size;omega)).trans F0.out;have f1:w2.frozen? ⟨w.heap.size,1,none⟩=false:=(b2.frozen (by show w.heap.size < w1.heap.size;omega)).trans F1.out;have z2:=b2.size;have B2:=Lib.hid (B1.out.trans (b2.mono (B':=w.heap.size) (by omega)));clear b2;go_wp2;refine bodyPost_ret (v:=.agg #[.int .i64 (Glo A R n m),.int .i64 (Glo A R n (m+d))]) (by simp [results,Tryz.results95,go_sem,c0,c1]) rfl ⟨rfl,?_⟩;exact (B2.out.setCell (by simp) _).setCell (by simp) _
end Go.Proofs.YtljnkaodhfnbbaaGreatDoor.Se
namespace Go.Proofs.YtljnkaodhfnbbaaGreatDoor.Ua
open Go.RowKit
theorem run_index_arr (F:Nat→Bool) (k:Nat) (h:k < 11) (w:World):(Instr.index 113 (.agg (arr F)) (.int .i64 k)).run Tryz.prog w = .ok (.bool (F k)) w:=by
 have hg:=arr_get F k h;have hk:¬ 11≤k:=by omega
 simp [Instr.index,asIntOf,run_underlying Tryz.underlying113,go_sem,part,hg,hk]
end Go.Proofs.YtljnkaodhfnbbaaGreatDoor.Ua
namespace Go.Proofs.YtljnkaodhfnbbaaGreatDoor.Wi
open Go.RowKit Go.Proofs.YtljnkaodhfnbbaaGreatDoor.Sp
theorem idx_low (t:Int) (l:List S2):decide (0≤idx (inB t) l)=lowB l t:=by
 rcases idx_cases (inB t) l with ⟨i,hi,hp,_,e⟩ | ⟨hn,e⟩
 ·rw [e]
  have:lowB l t=true:=lowB_iff.2 (low_iff.2 ⟨i,hi,by simpa [inB] using hp⟩);rw [this];simp
 ·rw [e]
  have:lowB l t=false:=lowB_false.2 fun h=>by
   obtain ⟨i,hi,h1,h2⟩:=low_iff.1 h;have:=hn i hi
   simp [inB,h1] at this
   omega
  rw [this];simp
def PredS (g:Nat) (lb:Array Value) (p:S2→Bool) (w:World):Prop :=
 ∀ (W:World) (a b:Int),Below w.heap.size w W→Calls Tryz.prog g (#[.agg #[.int .i64 a,.int .i64 b]] ++ lb) W fun e w'=>e = .returned (.bool (p (a,b)))∧Below w.heap.size w w'
set_option maxHeartbeats 1000000 in
theorem index_any (w:World) (v:Value) (l:List S2) (g:Nat) (lb:Array Value) (p:S2→Bool) (eg:∀ args w,(callFunc g args).run Tryz.prog w = .ok (.enter g args) w) (h:Sp w v l) (hp:PredS g lb p w) :
 Calls Tryz.prog 149 #[v,.func (.func g) #[] lb] w fun e w'=>e = .returned (.int .i64 (idx p l))∧Below w.heap.size w w':=by
 obtain ⟨a,cap,rfl,h1,h2,h3⟩:=h;have H3:=Lib.hid h3;have HP:=Lib.hid hp;have hhit:∀ i,i < l.length→p (fr l i,tp l i)=true→(∀ j,j < i→p (fr l j,tp l j)=false)→idx p l=i:=fun i=>idx_hit;have hmiss:(∀ j,j < l.length→p (fr l j,tp l j)=false)→idx p l = -1:=idx_miss;have HH:=Lib.hid hhit;have HM:=Lib.hid hmiss;clear h3 hp hhit hmiss;generalize hr:idx p l=r at *;clear hr;generalize hn:l.length=n at *;have HN:=Lib.hid hn;clear hn;unfold maxLen at h2
 go_enter Tryz.func149,Tryz.ntmps149
 go_wp2
 go_loopw [8] (fun i wr=>∃ k:Nat,k≤n∧i = .int .i64 k∧Hid (∀ j,j < k→p (fr l j,tp l j)=false)∧Hid (Below w.heap.size w wr)) (fun i _=>n - (intOf i).toNat)
 case atStart=>exact ⟨0,Nat.zero_le _,rfl,fun j hj=>by omega,Below.refl _ _⟩
 case round =>
  obtain ⟨k,hk,rfl,hs,hb⟩:=hrel
  by_cases hlt:k < n
  ·obtain ⟨b,off,rfl,hA⟩:=H3.out (by omega)
   obtain ⟨c1,c2⟩:=hA k (by have:=HN.out;omega);have HA:=Lib.hid hA;clear hA;have d1:=(hb.out.cell (World.block_lt_of_cell? _ _ c1)).trans c1;have d2:=(hb.out.cell (World.block_lt_of_cell? _ _ c2)).trans c2;clear c1 c2;have hc:=HP.out wr (fr l k) (tp l k) hb.out
   cases hq:p (fr l k,tp l k) with
   | true =>
     rw [hq] at hc;have C:=Lib.hid hc;have HR:=Lib.hid (HH.out k hlt hq hs.out);clear hc hq;go_wp2_with fail;refine C.out.mono ?_;rintro e w1 ⟨rfl,b1⟩;go_wp2
     go_ret
     exact ⟨ret_int HR.out.symm,b1⟩
   | false =>
     rw [hq] at hc;have C:=Lib.hid hc;have ST:Hid (∀ j,j < k+1→p (fr l j,tp l j)=false):=fun j hj=>by
      by_cases e:j=k
      ·rw [e];exact hq
      ·exact hs.out j (by omega)
     clear hc hq;go_wp2_with fail;refine C.out.mono ?_;rintro e w1 ⟨rfl,b1⟩;have B1:=Lib.hid b1;clear b1;go_wp2
     go_roundw
     case rel=>exact ⟨k+1,by omega,by go_num,ST,B1⟩
     case measure=>simp [intOf];omega
  ·obtain rfl:k=n:=by omega
   have HR:=Lib.hid (HM.out hs.out);go_wp2
   go_ret
   exact ⟨ret_int HR.out.symm,hb.out⟩
theorem contains_any (w:World) (v:Value) (l:List S2) (g:Nat) (lb:Array Value) (p:S2→Bool) (eg:∀ args w,(callFunc g args).run Tryz.prog w = .ok (.enter g args) w) (h:Sp w v l) (hp:PredS g lb p w) :
 Calls Tryz.prog 89 #[v,.func (.func g) #[] lb] w fun e w'=>e = .returned (.bool (decide (0≤idx p l)))∧Below w.heap.size w w':=by
 have C:=Lib.hid (index_any w v l g lb p eg h hp);clear eg h hp;generalize idx p l=r at *
 go_enter Tryz.func89,Tryz.ntmps89
 go_wp2_with fail;refine C.out.mono ?_;rintro e w1 ⟨rfl,b1⟩;go_wp2
 go_ret
 exact ⟨rfl,b1⟩
theorem hclos_any (w:World) (B:Nat) (t:Int) (hc:w.cell? ⟨B,0,none⟩=some (.int .i64 t)):PredS 94 #[.pointer (some ⟨B,0,none⟩)] (inB t) w:=fun W a b hb=>by
 have hlt:=World.block_lt_of_cell? _ _ hc;have d:=(hb.cell hlt).trans hc;have hz:=hb.size;have hBW:B < W.heap.size:=Nat.lt_of_lt_of_le hlt hz;clear hc hlt
 show Calls Tryz.prog 94 #[.agg #[.int .i64 a,.int .i64 b],.pointer (some ⟨B,0,none⟩)] W _
 by_cases h1:a≤t
 ·by_cases h2:t < b
  ·have e:inB t (a,b)=true:=by simp [inB,h1,h2]
   rw [e];clear e;have HB:=Lib.hid (hb.alloc hz (.cells #[.int .i64 a,.int .i64 b] 186));clear hb
   go_enter Tryz.func94,Tryz.ntmps94
   go_wp2
   go_ret
   exact ⟨rfl,HB.out⟩
  ·have e:inB t (a,b)=false:=by simp [inB,h2]
   rw [e];clear e;have HB:=Lib.hid (hb.alloc hz (.cells #[.int .i64 a,.int .i64 b] 186));clear hb
   go_enter Tryz.func94,Tryz.ntmps94
   go_wp2
   go_ret
   exact ⟨rfl,HB.out⟩
 ·have e:inB t (a,b)=false:=by simp [inB,h1]
  rw [e];clear e;have HB:=Lib.hid (hb.alloc hz (.cells #[.int .i64 a,.int .i64 b] 186));clear hb
  go_enter Tryz.func94,Tryz.ntmps94
  go_wp2
  go_ret
  exact ⟨rfl,HB.out⟩
theorem high_any (w:World) (v:Value) (l:List S2) (h:Sp w v l) (t:Int):Calls Tryz.prog 35 #[v,.int .i64 t] w fun e w'=>e = .returned (.bool (!lowB l t))∧Below w.heap.size w w':=by
 have eg:∀ args w,(callFunc 94 args).run Tryz.prog w = .ok (.enter 94 args) w:=enters_of Tryz.func94 (by kernel_rfl) rfl;have hb:Below w.heap.size w (w.alloc (.cells #[.int .i64 t] 3)):=(Below.refl _ _).alloc (Nat.le_refl _) _;have c:=contains_any (w.alloc (.cells #[.int .i64 t] 3)) v l 94 #[.pointer (some ⟨w.heap.size,0,none⟩)] (inB t) eg (h.below hb) (hclos_any _ _ _ (by go_simp));rw [idx_low] at c;have C:=Lib.hid c;have HB:=Lib.hid hb;obtain ⟨a,cap,rfl,_⟩:=h.slice;clear c hb h eg;have hmf:∀ (fn:Fn) (first cap:Array Value) (w:World),(Instr.makeFunc fn first cap).run Tryz.prog w = .ok (.func fn first cap) w:=fun _ _ _ _=>rfl;generalize lowB l t=r at *
 go_enter Tryz.func35,Tryz.ntmps35
 go_wp2_with fail;refine C.out.mono ?_;rintro e w1 ⟨rfl,b1⟩;go_wp2
 go_ret
 exact ⟨rfl,HB.out.trans (b1.mono (by simp))⟩
end Go.Proofs.YtljnkaodhfnbbaaGreatDoor.Wi
namespace Go.Proofs.YtljnkaodhfnbbaaGreatDoor.Wi
open Go.RowKit Go.Proofs.YtljnkaodhfnbbaaGreatDoor.Sp
theorem ret_pair {v:Int×Bool} {a:Int} {b:Bool} (h:v=(a,b)):Ending.returned (.tuple #[.int .i64 a,.bool b]) = .returned (.tuple #[.int .i64 v.1,.bool v.2]):=by subst h;rfl
def FallPost (w:World) (l:List S2) (f t:Int) (e:Ending) (w':World):Prop:=∃ x,PlainOf l x∧e = .returned (.tuple #[.int .i64 (FallV x f t).1,.bool (FallV x f t).2])∧Below w.heap.size w w'
theorem fclos_any (w:World) (B C:Nat) (f t:Int) (hf:w.cell? ⟨B,0,none⟩=some (.int .i64 f)) (ht:w.cell? ⟨C,0,none⟩=some (.int .i64 t)):PredS 150 #[.pointer (some ⟨B,0,none⟩),.pointer (some ⟨C,0,none⟩)] (fallP f t) w:=fun W a b hb=>by
 have hltB:=World.block_lt_of_cell? _ _ hf;have hltC:=World.block_lt_of_cell? _ _ ht;have d:=(hb.cell hltB).trans hf;have d':=(hb.cell hltC).trans ht;have hz:=hb.size;have hBW:B < W.heap.size:=Nat.lt_of_lt_of_le hltB hz;have hCW:C < W.heap.size:=Nat.lt_of_lt_of_le hltC hz;have HB:=Lib.hid (hb.alloc hz (.cells #[.int .i64 a,.int .i64 b] 186));clear hf ht hltB hltC hb
 show Calls Tryz.prog 150 #[.agg #[.int .i64 a,.int .i64 b],.pointer (some ⟨B,0,none⟩),.pointer (some ⟨C,0,none⟩)] W _
 by_cases h1:f≤a
 ·by_cases h2:a < t
  ·have e:fallP f t (a,b)=true:=by simp [fallP,h1,h2]
   rw [e];clear e
   go_enter Tryz.func150,Tryz.ntmps150
   go_wp2
   go_ret
   exact ⟨rfl,HB.out⟩
  ·have e:fallP f t (a,b)=false:=by simp [fallP,h2]
   rw [e];clear e
   go_enter Tryz.func150,Tryz.ntmps150
   go_wp2
   go_ret
   exact ⟨rfl,HB.out⟩
 ·have e:fallP f t (a,b)=false:=by simp [fallP,h1]
  rw [e];clear e
  go_enter Tryz.func150,Tryz.ntmps150
  go_wp2
  go_ret
  exact ⟨rfl,HB.out⟩
theorem rows_one {W:World} {v:Value} {l:List S2} (h:Sp W v l):Rows (W.alloc (.cells #[v] 95)) (.slice (some ⟨W.heap.size,0,none⟩) 1 1) [l] :=
 ⟨_,1,rfl,Nat.le_refl _,by unfold maxLen;omega,fun _=>⟨_,_,rfl,fun i hi=>by
  have:i=0:=by simp at hi;omega
  subst this
  exact ⟨v,by go_simp,h.below ((Below.refl _ _).alloc (Nat.le_refl _) _)⟩⟩⟩
theorem plain_one_of {l x:List S2} (h:JoinOf [l] x):PlainOf l x:=⟨h.plain,fun t=>by
 rw [h.low]
 constructor
 ·rintro ⟨i,hi,c⟩
  have:i=0:=by simp at hi;omega
  subst this;exact c
 ·exact fun c=>⟨0,by simp,c⟩⟩
set_option maxHeartbeats 1000000 in
theorem fall_any (w:World) (v:Value) (l:List S2) (h:Sp w v l) (hlen:l.length < 1099511627776) (f t:Int):Calls Tryz.prog 96 #[v,.int .i64 f,.int .i64 t] w (FallPost w l f t):=by
 have eg:∀ args w,(callFunc 150 args).run Tryz.prog w = .ok (.enter 150 args) w:=enters_of Tryz.func150 (by kernel_rfl) rfl;have hb2:Below w.heap.size w ((w.alloc (.cells #[.int .i64 f] 3)).alloc (.cells #[.int .i64 t] 3)):=((Below.refl _ _).alloc (Nat.le_refl _) _).alloc (by simp) _;have j:=join_any (((w.alloc (.cells #[.int .i64 f] 3)).alloc (.cells #[.int .i64 t] 3)).alloc (.cells #[v] 95)) _ [l] (rows_one (h.below hb2)) (by show 0+l.length < _;omega);have ez:((w.alloc (.cells #[.int .i64 f] 3)).alloc (.cells #[.int .i64 t] 3)).heap.size=w.heap.size+1+1:=by simp
 rw [ez] at j;clear ez;have J:=Lib.hid j;have HB2:=Lib.hid hb2;have EG:=Lib.hid eg;obtain ⟨a,cap,rfl,_⟩:=h.slice;clear j hb2 eg h;have hmf:∀ (fn:Fn) (first cap:Array Value) (w:World),(Instr.makeFunc fn first cap).run Tryz.prog w = .ok (.func fn first cap) w:=fun _ _ _ _=>rfl
 go_enter Tryz.func96,Tryz.ntmps96
 go_wp2_with fail;refine J.out.mono ?_;rintro e w1 ⟨v1,x,rfl,hown,hj,b1⟩;have PO:=Lib.hid (plain_one_of hj);have SP1:=Lib.hid hown.sp;have B1:Hid (Below w.heap.size w w1):=(HB2.out.alloc (by first | (simp;done) | (simp;omega)) _).trans (b1.mono (by first | (simp;done) | (simp;omega)));have f1:w1.cell? ⟨w.heap.size,0,none⟩=some (.int .i64 f):=(b1.cell (by first | (simp;done) | (simp;omega))).trans (by go_simp);have f2:w1.cell? ⟨w.heap.size+1,0,none⟩=some (.int .i64 t):=(b1.cell (by first | (simp;done) | (simp;omega))).trans (by go_simp);have IC:=Lib.hid (index_any w1 v1 x 150 _ _ EG.out SP1.out (fclos_any _ _ _ f t f1 f2));clear hown hj b1 f1 f2
 rcases idx_cases (fallP f t) x with ⟨i,hi,_,_,e⟩ | ⟨_,e⟩
 ·have FV:=Lib.hid (fall_hit e)
  rw [e] at IC;clear e;go_wp2_with fail;refine IC.out.mono ?_;rintro e w2 ⟨rfl,b2⟩;have SP2:=Lib.hid (SP1.out.below b2);obtain ⟨a1,cap1,rfl,q1,q2,hAt⟩:=SP2.out;obtain ⟨b',off',rfl,hA⟩:=hAt (by omega);have c1:=(hA i hi).1;have HA:=Lib.hid hA;have HAt:=Lib.hid hAt;have B2:=Lib.hid (B1.out.trans (b2.mono B1.out.size));clear hA hAt b2;unfold maxLen at q2;generalize hn:x.length=n at *;clear hn;go_wp2
  go_ret2
  exact ⟨x,PO.out,ret_pair FV.out,B2.out⟩
 ·have FV:=Lib.hid (fall_miss e)
  rw [e] at IC;clear e;go_wp2_with fail;refine IC.out.mono ?_;rintro e w2 ⟨rfl,b2⟩;have B2:=Lib.hid (B1.out.trans (b2.mono B1.out.size));clear b2;go_wp2
  go_ret2
  exact ⟨x,PO.out,ret_pair FV.out,B2.out⟩
end Go.Proofs.YtljnkaodhfnbbaaGreatDoor.Wi
namespace Go.Proofs.YtljnkaodhfnbbaaGreatDoor.Se
open Go.RowKit Go.Proofs.YtljnkaodhfnbbaaGreatDoor.Tk Go.Proofs.YtljnkaodhfnbbaaGreatDoor.Sp
open Wi (PlainOf Made push_step own_low)
open Ua (arr Row load_frame)
structure LRel (w:World) (g:Int→Int) (F:Nat→Bool) (m:Int) (v:Value) (k:Nat) (wr:World):Prop where
 own:Sp.Own wr w.heap.size 186 v (lows g F m k)
 bel:Below w.heap.size w wr
theorem LRel.hi {w wr:World} {g:Int→Int} {F:Nat→Bool} {m:Int} {v:Value} {k:Nat} (h:LRel w g F m v k wr) (e:F k=true):LRel w g F m v (k+1) wr:=⟨by rw [lows_hi e];exact h.own,h.bel⟩
theorem LRel.lo {w wr:World} {g:Int→Int} {F:Nat→Bool} {m:Int} {v:Value} {k:Nat} (e:F k=false) (ho:Sp.Own wr w.heap.size 186 v (lows g F m k ++ [(g (m+16 * k),g (m+16 * k+16))])) (hb:Below w.heap.size w wr):LRel w g F m v (k+1) wr:=⟨by rw [lows_lo e];exact ho,hb⟩
end Go.Proofs.YtljnkaodhfnbbaaGreatDoor.Se
namespace Go.Proofs.YtljnkaodhfnbbaaGreatDoor.Se
open Go.RowKit Go.Proofs.YtljnkaodhfnbbaaGreatDoor.Tk Go.Proofs.YtljnkaodhfnbbaaGreatDoor.Sp
open Wi (PlainOf Made Gives JoinOf join_any rows_one plain_one_of push_step)
open Ua (arr Row load_frame)
set_option maxHeartbeats 1000000 in
theorem spans_any (w:World) (v:Value) (n:Nat) (A R:Nat→Int) (S:Tk.Steps w v n A R) (g:GoodP n A R) (m:Int) (m0:0≤m) (m1:m≤2147483648) (F:Nat→Bool) :
 Calls Tryz.prog 40 #[v,.int .i64 m,.agg (arr F)] w (Made w (PlainOf (lows (Glo A R n) F m 11))):=by
 have R0:=Lib.hid (Row.new w F);have B0:=Lib.hid ((Below.refl w.heap.size w).alloc (Nat.le_refl _) (.cells (arr F) 113));have S0:=Lib.hid S;have G:=Lib.hid g;clear S g
 go_enter Tryz.func40,Tryz.ntmps40
 go_wp2_with ((with_reducible refine load_frame (o:=⟨some 10,_,_,_,_,_⟩) rfl _ rfl _ _ ?_ R0.out ?_);(exact rfl))
 go_loopw [7,11] (fun v i wr=>∃ k:Nat,k≤11∧i = .int .i64 k∧Hid (LRel w (Glo A R n) F m v k wr)) (fun _ i _=>11 - (intOf i).toNat)
 case atStart=>exact ⟨0,by omega,rfl,Lib.hid ⟨Sp.Own.nil _ _ _,B0.out⟩⟩
 case round =>
  obtain ⟨k,hk,rfl,L⟩:=hrel
  by_cases hlt:k < 11
  ·have ri:=Ua.run_index_arr F k hlt
   cases hF:F k with
   | true =>
     have L':=Lib.hid (L.out.hi hF);rw [hF] at ri;clear hF;go_wp2
     go_roundw
     case rel=>exact ⟨k+1,by omega,by go_num,L'⟩
     case measure=>simp [intOf];omega
   | false =>
     rw [hF] at ri;have HF:=Lib.hid hF;clear hF;have s1:=S0.out.below L.out.bel;have C:=Lib.hid (during_any wr v n A R s1 G.out (m+16 * k) 16 (by omega) (by omega) (by omega) (by omega));clear s1;have hB:=L.out.bel.size;go_wp2_with fail;refine C.out.mono ?_;rintro e w1 ⟨rfl,b1⟩;have hown:=L.out.own.keep b1;have hb1:=L.out.bel.trans (b1.mono hB);have z1:=b1.size;have hll:=lows_len (g:=Glo A R n) (F:=F) (m:=m) k;have LL:=Lib.hid hll;clear b1 hll
     go_wp2_with (at_builtin;refine push_step rfl _ _ rfl w.heap.size _ _ rfl (hown.alloc _) _ (Glo A R n (m+16 * k)) (Glo A R n (m+16 * k+16)) rfl ?c1 ?c2 ?c3 ?c4 ?_)
     case c1=>go_simp
     case c2=>go_simp
     case c3=>have:=LL.out;omega
     case c4=>simp;omega
     intro v' w2 hown2 hb2
     have L2:=Lib.hid (LRel.lo (g:=Glo A R n) (m:=m) HF.out hown2 ((hb1.alloc (by omega) _).trans hb2));clear hown2 hb2 hb1 hown;go_wp2
     go_roundw
     case rel=>exact ⟨k+1,by omega,by go_num,L2⟩
     case measure=>simp [intOf];omega
  ·obtain rfl:k=11:=by omega
   have hB:=L.out.bel.size;obtain ⟨a,cap,rfl,_,_⟩:=L.out.own.slice;have hll:=lows_len (g:=Glo A R n) (F:=F) (m:=m) 11;have J:=Lib.hid (join_any _ _ _ (rows_one L.out.own.sp) (by show 0+(lows (Glo A R n) F m 11).length < _;omega));clear hll;go_wp2_with fail;refine J.out.mono ?_;rintro e w1 ⟨v1,l,rfl,hown,hj,b1⟩;have OW:=Lib.hid (Wi.own_low hown (B':=w.heap.size) (by simp;omega));have PO:=Lib.hid (plain_one_of hj);have B1:=Lib.hid ((L.out.bel.alloc hB _).trans (b1.mono (B':=w.heap.size) (by simp;omega)));clear hown hj b1;go_wp2
   go_ret
   exact ⟨_,l,rfl,OW.out,PO.out,B1.out⟩
end Go.Proofs.YtljnkaodhfnbbaaGreatDoor.Se
