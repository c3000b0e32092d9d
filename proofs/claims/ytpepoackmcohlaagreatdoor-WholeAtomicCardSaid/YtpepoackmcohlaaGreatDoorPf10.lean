import Derived.Test.YtpepoackmcohlaaGreatDoorPf9
import Derived.Test.YtpepoackmcohlaaGreatDoorShelf
import Derived.Shelf.SlSortCmp.NoneTotal
import Derived.StillTailTactics
set_option maxRecDepth 100000
set_option maxHeartbeats 4000000
namespace Go.Proofs.YtpepoackmcohlaaGreatDoor
open Go.Proofs.Tryz Go.RowKit
open Ck (Hd sl zh)
open Fl (K4 R4 ah aj cZ)
open Fs (Fx Only St aC aP dX)
open Pa (K2 KB KN bO bT bU ptr sat)
open Rw (At Ow Rd)
open Tk (dQ j5 yU)
open Ua (Row arr dI)
open Wi (Low Made Plain dM dU eY fG jI)
namespace Cu
open Fs (aB vZ)
open Pa (S2 Ay aQ)
attribute [local irreducible] Sd.aW wpQuiet Sz.nL
def NwF (w wr:World) (k:Nat):Prop:=w.heap.size<=k/\k < wr.heap.size
variable {i:Nat}
theorem TD {S:bO} {x:aP×Int} (hi:i < S.length+1):sat (S ++ [x]) i=if i < S.length then sat S i else x:=by
 unfold sat;rw [cg];exact mZ x ([],0) rfl hi
theorem UX {V:List Bool} {b:Bool} (hi:i < V.length+1):bU (V ++ [b]) i=if i < V.length then bU V i else b:=by
 unfold bU;rw [cg];exact mZ b false rfl hi
theorem zk {L:List Nd} {x:Nd} (hi:i < L.length+1):iI (L ++ [x]) i=if i < L.length then iI L i else x:=mZ x ndD rfl hi
section
variable {s t p m q:Nat} {F G:Nat->Prop} {c:Cs} {vn vq v':Value} {L:List Nd} {Fs:Nat->Nat->Prop} {w w5 w6:World} {A:aP} {rate:Int}
theorem Cl.push (h:Cl w5 s F c t vn L p vq Fs) (hF:∀ k,F k->w.heap.size<=k/\k < m) (hv:c.V.length=c.S.length) (st:St w5 q G A 0) (hG:∀ k,G k->m<=k) (hm:w.heap.size<=m) (hr : -2000<=rate/\rate<=2000) (ow:Ow KD w6 0 74 v' (L ++ [⟨q,true,rate⟩])) (gr:w5.grownBy w6 vn.ownBlock) (hw:w.heap.size<=w5.heap.size) (hq:v'.ownBlock=vn.ownBlock\/∃ g,v'.ownBlock=some g/\w5.heap.size<=g) :
 Cl (w6.setCell ⟨s,0,none⟩ v') s (NwF w (w6.setCell ⟨s,0,none⟩ v')) { c with S:=c.S ++ [(A,0)],V:=c.V ++ [true] } t v' (L ++ [⟨q,true,rate⟩]) p vq (fun i=>if i < L.length then Fs i else G):=by
 have oq:=aQ gr;have hl:=h.len;have zz:=gr.size;have hzz:(w6.setCell ⟨s,0,none⟩ v').heap.size=w6.heap.size:=by simp [World.setCell]
 have lv:∀ k,v'.ownBlock=some k->k < w6.heap.size:=fun k e=>(ci ow k e).2;have sne:=h.vs.1;have row1:=(oq.block s h.slt (fun e=>sne e)).trans h.row;have row2:(w6.setCell ⟨s,0,none⟩ v').heap[s]? = some (.cells #[v',ptr p,.int .i64 c.pl,vq] 69 (0,0)):=Rw.heap_setCell_same (j:=0) row1 _;have o3:Only (fun k=>k=s) w6 (w6.setCell ⟨s,0,none⟩ v'):=Only.set (fun k=>k=s) w6 (a:=⟨s,0,none⟩) rfl _;have inN:∀ k,F k->NwF w (w6.setCell ⟨s,0,none⟩ v') k:=fun k g=>⟨(hF k g).1,by rw [hzz];have:=h.low k g;omega⟩;have offG:∀ k,G k->k≠s/\k≠p/\v'.ownBlock≠some k/\vq.ownBlock≠some k/\vn.ownBlock≠some k:=fun k g=>by
  have g0:=hG k g;have gl:=st.low k g;have a1:=(hF s h.fs).2;have a2:=(hF p h.fp).2;have a3:∀ j,vn.ownBlock=some j->j < m:=fun j e=>(hF j (h.fv j (.inl e))).2;have a4:∀ j,vq.ownBlock=some j->j < m:=fun j e=>(hF j (h.fv j (.inr e))).2;refine ⟨by omega,by omega,fun e=>?_,fun e=>by have:=a4 k e;omega,fun e=>by have:=a3 k e;omega⟩
  rcases hq with q | ⟨j,q,hj⟩
  ·have:=a3 k (by rw [← q];exact e);omega
  ·rw [q] at e;injection e with e;omega
 have offF:∀ i,i < L.length->∀ k,Fs i k->k≠s/\k≠p/\v'.ownBlock≠some k/\vq.ownBlock≠some k/\vn.ownBlock≠some k:=fun i hi k g=>by
  have q0:=h.off i hi k g;refine ⟨q0.1,q0.2.1,fun e=>?_,q0.2.2.2,q0.2.2.1⟩
  rcases hq with q | ⟨j,q,hj⟩
  ·exact q0.2.2.1 (by rw [← q];exact e)
  ·rw [q] at e;injection e with e
   have:=h.low k (h.ff i hi k g);omega
 have hlen:(L ++ [(⟨q,true,rate⟩:Nd)]).length=L.length+1:=by simp
 refine ⟨row2,aC ow (fun k e q=>ow.apart row1 (by decide) (by rw [e,q])) o3,by rw [hlen];simp;omega,fun i hi=>?_,fun i hi=>?_,fun i hi=>?_,(h.pr.only oq (fun e=>h.vp.1 e)).only o3 (fun e=>h.Ig e.symm),aC (aC h.sp (fun k e q=>h.vv k q e) oq) (fun k e q=>h.vs.2 (by rw [e,q])) o3,inN s h.fs,inN p h.fp,fun k g=>?_,fun i hi k g=>?_,fun i j hi hj hij k g=>?_,fun i hi k g=>?_,fun k g=>g.2⟩
 ·rw [hlen] at hi
  show St _ _ _ (sat (c.S ++ [(A,0)]) i).1 (sat (c.S ++ [(A,0)]) i).2
  rw [zk hi,TD (by omega)]
  by_cases e:i < L.length
  ·rw [aw e,aw e,aw (by omega)]
   exact ((h.st i e).only (fun k g q=>(offF i e k g).2.2.2.2 q) oq).only (fun k g q=>(offF i e k g).1 q) o3
  ·rw [aq e,aq e,aq (by omega)]
   exact (st.only (fun k g q=>(offG k g).2.2.2.2 q) oq).only (fun k g q=>(offG k g).1 q) o3
 ·rw [hlen] at hi
  show _=bU (c.V ++ [true]) i
  rw [zk hi,UX (by omega)]
  by_cases e:i < L.length
  ·rw [aw e,aw (by omega)];exact h.lv i e
  ·rw [aq e,aq (by omega)]
 ·rw [hlen] at hi
  rw [zk hi]
  by_cases e:i < L.length
  ·rw [aw e];exact h.rt i e
  ·rw [aq e];exact hr
 ·rcases g with g | g
  ·refine ⟨?_,by rw [hzz];exact lv k g⟩
   rcases hq with q | ⟨j,q,hj⟩
   ·exact (hF k (h.fv k (.inl (by rw [← q];exact g)))).1
   ·rw [q] at g;injection g with g;omega
  ·exact inN k (h.fv k (.inr g))
 ·rw [hlen] at hi
  by_cases e:i < L.length
  ·rw [aw e] at g;exact inN k (h.ff i e k g)
  ·rw [aq e] at g
   refine ⟨by have:=hG k g;omega,by rw [hzz];have:=st.low k g;omega⟩
 ·rw [hlen] at hi hj
  have sep:∀ i,i < L.length->∀ k,Fs i k->G k->False:=fun i e k g g'=>by have:=(hF k (h.ff i e k g)).2;have:=hG k g';omega
  by_cases e:i < L.length
  ·rw [aw e] at g
   by_cases e':j < L.length
   ·rw [aw e'];exact h.DY i j e e' hij k g
   ·rw [aq e'];exact fun g'=>sep i e k g g'
  ·rw [aq e] at g
   by_cases e':j < L.length
   ·rw [aw e'];exact fun g'=>sep j e' k g' g
   ·omega
 ·rw [hlen] at hi
  by_cases e:i < L.length
  ·rw [aw e] at g
   have:=offF i e k g;exact ⟨this.1,this.2.1,this.2.2.1,this.2.2.2.1⟩
  ·rw [aq e] at g
   have:=offG k g;exact ⟨this.1,this.2.1,this.2.2.1,this.2.2.2.1⟩
end
def U5 (w:World) (L:List Pl) (e:Ending) (w':World):Prop:=Below w.heap.size w w'/\((newE L=0/\∃ s F,e = .returned (.tuple #[ptr s,.int .i64 0])/\ClE w' s F (newC L) 0/\∀ j,F j->w.heap.size<=j)\/(newE L≠0/\e = .returned (.tuple #[.pointer none,.int .i64 (newE L)])))
structure QZ (w:World) (L:List Pl) (s p k:Nat) (vn:Value) (LN:List Nd) (Fs:Nat->Nat->Prop) (wr:World):Prop where
 cl:Cl wr s (NwF w wr) (newC (L.take k)) 0 vn LN p (.slice none 0 0) Fs
 aG:Below w.heap.size w wr
 gd:Gds L k
theorem QZ.below {w wr w':World} {L:List Pl} {s p k:Nat} {vn:Value} {LN:List Nd} {Fs:Nat->Nat->Prop} (h:QZ w L s p k vn LN Fs wr) (b:Below wr.heap.size wr w'):QZ w L s p k vn LN Fs w' :=
 ⟨(h.cl.below b).wide (fun _ g=>⟨g.1,cd g.2 b.size⟩) (fun _ g=>g.2),h.aG.trans (b.mono h.aG.size),h.gd⟩
variable {L:List Pl}
theorem Qm (h:i < L.length):newC (L.take (i+1)) = { newC (L.take i) with S:=(newC (L.take i)).S ++ [((dJ L i).1,0)],V:=(newC (L.take i)).V ++ [true] }:=by
 have e:=AQ h;have q:newC (L.take (i+1))=⟨(newC (L.take (i+1))).S,(newC (L.take (i+1))).V,Wt.new,0,[]⟩:=rfl;rw [q,e.1,e.2]
 rfl
variable {w W w5 w6 w1:World} {s p k q B:Nat}
theorem QZ.step {vn v':Value} {LN:List Nd} {Fs:Nat->Nat->Prop} {G:Nat->Prop} (h:QZ w L s p k vn LN Fs W) (b:Below W.heap.size W w5) (hk:k < L.length) (g:Mw (dJ L k)) (st:St w5 q G (dJ L k).1 0) (lo:∀ j,G j->W.heap.size<=j)
 (ow:Ow KD w6 0 74 v' (LN ++ [⟨q,true,(dJ L k).2⟩])) (gr:w5.grownBy w6 vn.ownBlock) (hq:v'.ownBlock=vn.ownBlock\/∃ g,v'.ownBlock=some g/\w5.heap.size<=g):QZ w L s p (k+1) v' (LN ++ [⟨q,true,(dJ L k).2⟩]) (fun i=>if i < LN.length then Fs i else G) (w6.setCell ⟨s,0,none⟩ v'):=by
 have hz:=b.size;have hw:=h.aG.size;have hv:(newC (L.take k)).V.length=(newC (L.take k)).S.length:=by
  show (List.map _ _).length=(List.map _ _).length
  rw [cm,cm]
 have cl5:=h.cl.below b;have z:=cl5.push (w:=w) (m:=W.heap.size) (fun k g=>g) hv st lo hw g.2 ow gr (cG hw hz) hq;refine ⟨?_,?_,Fh h.gd g⟩
 ·rw [Qm hk]
  exact z
 ·have b5:=h.aG.trans (b.mono hw)
  have b6:=b5.grown gr (cG hw hz) fun j e=>(h.cl.fv j (.inl e)).1;exact b6.setCell (h.cl.fs).1 _
theorem QZ.start (b:Below w.heap.size w w1) (pr:Wt.Pr w1 p Wt.new 0) (hp:w.heap.size<=p):QZ w L w1.heap.size p 0 (.slice none 0 0) [] (fun _ _=>False) (w1.alloc (.cells #[.slice none 0 0,ptr p,.int .i64 0,.slice none 0 0] 69)):=by
 have b2:=b.alloc b.size (.cells #[.slice none 0 0,ptr p,.int .i64 0,.slice none 0 0] 69);have bn:=(aa w1.heap.size w1).alloc (ac _) (.cells #[.slice none 0 0,ptr p,.int .i64 0,.slice none 0 0] 69);have z:(w1.alloc (.cells #[.slice none 0 0,ptr p,.int .i64 0,.slice none 0 0] 69)).heap.size=w1.heap.size+1:=by simp
 have hb:=b.size;have pl:=pr.lt;have no0:∀ {P:Prop} {i:Nat},i < ([]:List Nd).length->P:=fun h=>absurd h (fw _);refine ⟨⟨bh w1 _,Rw.Ow.nil _ _ _,rfl,fun i hi=>no0 hi,fun i hi=>no0 hi,fun i hi=>no0 hi,?_,Rw.Ow.nil _ _ _,⟨hb,by omega⟩,⟨hp,by omega⟩,fun k g=>?_,fun i hi=>no0 hi,fun i j hi=>no0 hi,fun i hi=>no0 hi,fun k g=>g.2⟩,b2,Eg L⟩
 ·exact pr.only (G:=fun _=>False) (Only.of_below bn) (fun g=>g)
 ·rcases g with g | g <;> simp [Value.ownBlock] at g
theorem Gy {v:Value} {L:List lF} (H:C8 w v L B):Calls prog 6 #[v] w (U5 w (dw L)):=by
 have HH:=Hh H;obtain ⟨a,cap,rfl,_,hm,h3⟩:=H.rd;have H3:=Hh h3;have PLN:=Hh (iw L);clear h3 H;unfold maxLen at hm
 by_cases hs:L.length < 2\/32 < L.length
 ·have e1:newE (dw L)=1:=tH (by rw [iw];exact hs)
  have E:Hid (∀ w',Below w.heap.size w w'->U5 w (dw L) (.returned (.tuple #[.pointer none,.int .i64 1])) w'):=Hh (fun w' b=>⟨b,.inr ⟨by rw [e1];decide,by rw [e1]⟩⟩);clear HH H3 e1 PLN;generalize dw L=LL at *;generalize L.length=n at *
  by_cases h1:n < 2
  ·have p1:decide ((n:Int) < 2)=true:=bi (by omega)
   clear hs
   go_enter func6,ntmps6
   go_wp2
   go_ret2
   exact E _ (aa _ _)
  ·have p1:decide ((n:Int) < 2)=false:=ai (by omega)
   have p2:decide (32 < (n:Int))=true:=bi (by omega);clear hs
   go_enter func6,ntmps6
   go_wp2
   go_ret2
   exact E _ (aa _ _)
 ·have hs':¬ ((dw L).length < 2\/32 < (dw L).length):=by rw [iw];exact hs
  have BAD:Hid (∀ k,k < L.length->¬ Mw (dJ (dw L) k)->∀ w',Below w.heap.size w w'->U5 w (dw L) (.returned (.tuple #[.pointer none,.int .i64 2])) w'):=Hh (fun k hk g w' b=>by
   have e:=Kn hs' (by rw [iw];exact hk) g
   exact ⟨b,.inr ⟨by rw [e];decide,by rw [e]⟩⟩)
  have END:Hid (∀ (s p:Nat) (vn:Value) (LN:List Nd) (Fs:Nat->Nat->Prop) (wr w':World),QZ w (dw L) s p L.length vn LN Fs wr->Below wr.heap.size wr w' ->
   (agB (sat (newC (dw L)).S 0).1 (sat (newC (dw L)).S 1).1=true->U5 w (dw L) (.returned (.tuple #[.pointer (some ⟨s,0,none⟩),.int .i64 0])) w')/\(agB (sat (newC (dw L)).S 0).1 (sat (newC (dw L)).S 1).1=false->U5 w (dw L) (.returned (.tuple #[.pointer none,.int .i64 10])) w')):=Hh (fun s p vn LN Fs wr w' I b=>by
   have h2:2<=(dw L).length:=by omega
   have ga:=Ko (L:=dw L) (by rw [iw];exact I.gd);obtain ⟨n0,n1⟩:=Lv hs' ga;have ag:=Tn (dw L) h2;have bb:=I.aG.trans (b.mono I.aG.size);refine ⟨fun h=>⟨bb,.inl ⟨n0 (ag.1 h),s,NwF w wr,rfl,⟨vn,LN,p,.slice none 0 0,Fs,?_⟩,fun j g=>g.1⟩⟩,fun h=>?_⟩
   ·have c:=I.cl.below b
    have e:(dw L).take L.length=dw L:=by rw [← iw L];exact cU
    rw [e] at c;exact c
   ·have e:=n1 (fun g=>by rw [ag.2 g] at h;cases h)
    exact ⟨bb,.inr ⟨by rw [e];decide,by rw [e]⟩⟩)
  have NEW:=Hh (Wt.rA w);have LB:Hid (2<=L.length/\L.length<=32):=Hh (by omega);have p1:decide ((L.length:Int) < 2)=false:=ai (by omega);have p2:decide (32 < (L.length:Int))=false:=ai (by omega);clear hs hs';unfold Wt.zD at NEW;generalize hn:L.length=n at *;have HN:=Hh hn;clear hn
  go_enter func6,ntmps6
  go_wp2_with fail;refine NEW.mono ?_;rintro e w1 ⟨p,rfl,pr,hp,b1⟩;have I0:=Hh (QZ.start (L:=dw L) b1 pr hp);clear NEW pr hp b1 p1 p2;unfold ptr at I0;go_upto_region 4 with fail;generalize (w1.alloc (.cells #[.slice none 0 0,.pointer (some ⟨p,0,none⟩),.int .i64 0,.slice none 0 0] 69))=wa at *;generalize w1.heap.size=s at *;go_wp2
  go_loopw [22] (fun i wr=>∃ (k:Nat) (vn:Value) (LN:List Nd) (Fs:Nat->Nat->Prop),k<=n/\i = .int .i64 k/\Hid (QZ w (dw L) s p k vn LN Fs wr)) (fun i _=>n - (intOf i).toNat)
  case atStart=>exact ⟨0,_,_,_,bt _,rfl,I0⟩
  case round =>
   clear I0;obtain ⟨k,vn,LN,Fs,hk,rfl,I⟩:=hrel
   by_cases hlt:k < n
   ·have hkL:k < L.length:=by have:=HN.out;omega
    obtain ⟨b,off,rfl,hA⟩:=H3 (by omega);obtain ⟨x0,x1⟩:=Sy (hA.below I.aG) hkL;have HAA:=Hh hA;have PF:=Hh ((HH.file k hkL).below I.aG);have AT:=Hh (Tm hkL);have KL:Hid (k < (dw L).length):=Hh (by rw [iw];exact hkL);have BADk:=Hh (fun g=>BAD k hlt g);clear hA hkL;generalize zQ L k=c at *;obtain ⟨cf,cr,cF⟩:=c;unfold sl at *;simp only at x0 x1 PF;obtain ⟨fa,fl,fc,hfa⟩:∃ a b c,Hid (a=cf.1/\b=cf.2.1/\c=cf.2.2):=⟨_,_,_,rfl,rfl,rfl⟩;rw [← hfa.out.1,← hfa.out.2.1,← hfa.out.2.2] at x0 PF;have Y0:=Hh (bh wr (.cells #[.slice fa fl fc,.int .i64 cr] 71));have BN:=Hh ((aa wr.heap.size wr).alloc (ac _) (.cells #[.slice fa fl fc,.int .i64 cr] 71));go_upto_region 7 with fail;clear x0 x1;generalize wr.alloc (.cells #[.slice fa fl fc,.int .i64 cr] 71)=W at *;have I2:=Hh (I.below BN);have C:=Hh (C9 ⟨cf,cr,cF⟩ (w:=W) (B:=B) (by unfold sl;rw [← hfa.out.1,← hfa.out.2.1,← hfa.out.2.2];exact PF.out.below BN.out));unfold PlC sl at C;rw [← hfa.out.1,← hfa.out.2.1,← hfa.out.2.2] at C;obtain ⟨y0,y1⟩:=nN Y0;clear PF BN I Y0;generalize wr.heap.size=gx at *;rw [← AT.out] at C;go_wp2_with fail;refine C.mono ?_;rintro e w5 ⟨b5,hc⟩;have B5:=Hh b5;clear C b5 y0 y1
    rcases hc with ⟨g,q,G,rfl,st,lo⟩ | ⟨ng,rfl⟩
    ·have CR:Hid ((dJ (dw L) k).2=cr):=Hh (by rw [AT.out];rfl)
     rw [CR.out];have GG:=Hh g;have LO:=Hh lo;have N0:=Hh (bh w5 (.cells #[.pointer (some ⟨q,0,none⟩),.bool true,.int .i64 cr] 74));have BA:=Hh ((aa w5.heap.size w5).alloc (ac _) (.cells #[.pointer (some ⟨q,0,none⟩),.bool true,.int .i64 cr] 74));have ST:=Hh (st.below BA);have B6:=aR B5 BA;have GN:=Hh B5.size;obtain ⟨av,cv,ev,-,-⟩:=I2.cl.slice;subst ev;have K0:=Hh ((I2.cl.below B6).cells.1);have NQ:Hid (∀ j,(Value.slice av (newC ((dw L).take k)).S.length cv).ownBlock=some j->j≠w5.heap.size/\j≠s):=Hh (fun j e=>⟨by have:=(I2.out.cl.fv j (.inl e)).2;have:=GN.out;omega,fun x=>I2.out.cl.vs.1 (by rw [e,x])⟩)
     have LL:Hid (LN.length<=32):=Hh (by
      have:=I2.cl.len;have q:(newC ((dw L).take k)).S.length=((dw L).take k).length:=cm _;rw [q,cH] at this;have:=LB.out
      omega)
     unfold ptr at *;go_upto_region 10 with fail;clear g lo st BA;generalize (w5.alloc (.cells #[.pointer (some ⟨q,0,none⟩),.bool true,.int .i64 cr] 74))=W6 at *;generalize w5.heap.size=gn at *;generalize hsl:(newC ((dw L).take k)).S.length=nl at *;clear hsl;have BD:=Hh (aa W6.heap.size W6).drew;have OD:Hid (Only (fun j=>(Value.slice av nl cv).ownBlock=some j) W6 W6.drew):=Hh (Only.of_below BD);have s0:=Sc.ay (C:=fun W'=>Only (fun j=>(Value.slice av nl cv).ownBlock=some j) W6 W') (a:=⟨s,0,none⟩) (fun W' oo=>oo.cell K0 (fun e=>(NQ _ e).2 rfl));have x0:=Sc.ay (C:=fun W'=>Only (fun j=>(Value.slice av nl cv).ownBlock=some j) W6 W') (a:=⟨gn,0,none⟩) (fun W' oo=>oo.cell (ah N0 0) (fun e=>(NQ _ e).1 rfl));have x1:=Sc.ay (C:=fun W'=>Only (fun j=>(Value.slice av nl cv).ownBlock=some j) W6 W') (a:=⟨gn,1,none⟩) (fun W' oo=>oo.cell (ah N0 1) (fun e=>(NQ _ e).1 rfl));have x2:=Sc.ay (C:=fun W'=>Only (fun j=>(Value.slice av nl cv).ownBlock=some j) W6 W') (a:=⟨gn,2,none⟩) (fun W' oo=>oo.cell (ah N0 2) (fun e=>(NQ _ e).1 rfl));have ne:Nonempty (Sc.In (fun W'=>Only (fun j=>(Value.slice av nl cv).ownBlock=some j) W6 W')):=⟨⟨_,OD⟩⟩;refine Sz.start (fun W'=>Only (fun j=>(Value.slice av nl cv).ownBlock=some j) W6 W') [(false,0),(false,1),(false,2),(false,3),(false,4),(false,5),(true,6),(true,7),(false,8),(false,9)] 10 (by kernel_rfl) (by kernel_rfl) (by kernel_rfl) rfl rfl OD ?_;dsimp only [Sd.aM,List.getElem?_cons_succ,List.getElem?_cons_zero]
     repeat (refine Sz.lit ?_;quiet_step (fail);refine bk ?_)
     clear s0 x0 x1 x2;have B7:=Hh (B6.trans (BD.mono (B6.size)));have ST7:=Hh (ST.below BD);generalize W6.drew=w7 at *;refine Sz.call (by rfl) (fun K hK=>?_);go_simp;have B8:=Hh (Below.alloc (aa w7.heap.size w7) (ac _) (.cells #[.pointer (some ⟨q,0,none⟩),.bool true,.int .i64 cr] 74));have Y8:=Hh (bh w7 (.cells #[.pointer (some ⟨q,0,none⟩),.bool true,.int .i64 cr] 74));have BW:=aR B7 B8;have ST8:=Hh (ST7.below B8);have O8:=Hh (OD.trans (Only.of_below (G:=fun j=>(Value.slice av nl cv).ownBlock=some j) B8) fun _ _ g=>g);refine hK _ _ (Sc.Cl.of O8) ?_;clear hK K B7 B8 ST7;generalize (w7.alloc (.cells #[.pointer (some ⟨q,0,none⟩),.bool true,.int .i64 cr] 74))=w8 at *;generalize w7.heap.size=g7 at *;have CL8:=Hh (I2.cl.below BW);refine Sz.call (by rfl) (fun K hK=>?_);refine bT (K:=KD) underlying67 acB rfl (by omega) _ _ rfl 0 _ _ rfl CL8.out.no ⟨g7,0,none⟩ (⟨q,true,cr⟩:Nd) rfl ?a1 ?a2 (bt _) ?_
     case a1 =>
      intro j u hu
      have c:=ah Y8 j
      match j,hu with
      | 0,hu=>simp [KD,ptr] at hu;subst hu;exact c
      | 1,hu=>simp [KD] at hu;subst hu;exact c
      | 2,hu=>simp [KD] at hu;subst hu;exact c
      | j+3,hu=>simp [KD] at hu
     case a2=>have:=LL.out;omega
     intro v9 w9 o9 g9 h9
     have NEW:Hid (QZ w (dw L) s p (k+1) v9 (LN ++ [⟨q,true,cr⟩]) (fun i=>if i < LN.length then Fs i else G) (w9.setCell ⟨s,0,none⟩ v9)):=Hh (by
      have z:=I2.step BW KL GG ST8 LO (by rw [CR.out];exact o9) g9 h9;rw [CR.out] at z
      exact z)
     have O9:=O8.trans (aQ g9) fun _ _ g=>g;have c6:=O9.cell K0 (fun e=>(NQ _ e).2 rfl);have e6:=aj (((aQ g9).block s CL8.slt (fun e=>(NQ _ e).2 rfl)).trans CL8.row) 0;obtain ⟨v9a,v9c,n9,rfl⟩:∃ a c n,v9 = .slice a n c:=by obtain ⟨a,c,e,_⟩:=o9.slice;exact ⟨a,c,_,e⟩
     refine hK _ _ (Sc.Cl.of O9) ?_;clear hK K o9 g9 h9 O9 Y8 O8 BW ST8 CL8 I2 B5 B6 ST
     repeat (refine Sz.lit ?_;quiet_step (fail);refine bk ?_)
     refine Sz.done ?_;go_simp;clear c6 e6;generalize (w9.setCell ⟨s,0,none⟩ (.slice v9a n9 v9c))=wz at *;refine NoPanic.normal ?_;have n32:=LB.out.2;go_wp2
     go_roundw
     case rel=>exact ⟨k+1,_,_,_,by omega,by go_num,NEW⟩
     case measure=>simp [intOf];omega
    ·have E:=Hh (fun w' (b:Below w5.heap.size w5 w')=>BADk ng w' ((I2.aG.trans (B5.mono I2.aG.size)).trans (b.mono (cG I2.aG.size B5.size))))
     have E2:=Hh (E _ ((aa w5.heap.size w5).alloc (ac _) (.cells #[.pointer none,.bool false,.int .i64 0] 74)));clear E ng I2 BADk BAD END;go_wp2
     go_ret2
     exact E2
   ·obtain rfl:k=n:=by omega
    have LC:Hid ((newC ((dw L).take k)).S.length=k):=Hh (by
     show (List.map _ _).length=k
     rw [cm,cH,iw,HN.out,Nat.min_self])
    have AG:=Hh (G6 I.cl (by rw [LC.out];exact LB.out.1));have EE:=Hh (END s p vn LN Fs wr);have TK:Hid ((dw L).take k=dw L):=Hh (by rw [← HN.out,← iw L];exact cU);rw [TK.out] at AG;clear BAD END;generalize agB (sat (newC (dw L)).S 0).1 (sat (newC (dw L)).S 1).1=ag at *;unfold ptr at AG;go_wp2_with fail;refine AG.mono ?_;rintro e w2 ⟨rfl,b2⟩;have E2:=Hh (EE w2 I b2);clear AG EE I b2
    cases ag with
    | true =>
      have E:=Hh (E2.out.1 rfl);clear E2;go_wp2
      go_ret2
      exact E
    | false =>
      have E:=Hh (E2.out.2 rfl);clear E2;go_wp2
      go_ret2
      exact E
end Cu
namespace Cu
open Go.Maps
open Fl (bN)
open Pa (S2)
attribute [local irreducible] Sd.aW wpQuiet
section
variable {s t p:Nat} {F G:Nat->Prop} {c:Cs} {vn vq:Value} {L:List Nd} {Fs:Nat->Nat->Prop} {w w1 w':World}
variable {x:Ac}
theorem Wk (h1:x.k≠1) (h3:x.k≠3) (h:x.k < 2\/6 < x.k\/no c x.n):aX x c=1/\bE x c=c:=by
 have he:aX x c=1:=by
  unfold aX;rw [aq h1,aq h3,aw h]
 refine ⟨he,?_⟩;unfold bE;rw [aq h1,aw (by rw [he];decide)]
theorem Sr (h:Cl w s F c t vn L p vq Fs) (x:Ac) (h1:x.k≠1) (h3:x.k≠3) (hn:no c x.n):Calls prog 11 #[ptr s,eG x] w (kg w s F (bE x c) (t+1) (aX x c)):=by
 obtain ⟨e1,e2⟩:=Wk h1 h3 (.inr (.inr hn));rw [e1,e2];have B0:=Hh ((aa w.heap.size w).alloc (ac _) (.cells (bC x) 44));have C1:=Hh (Gq (h.below B0) hn);have E:=Hh (fun w' b=>(iM h (w':=w') b 1).late);clear h hn e1 e2;unfold eG bC at *;unfold ptr at *;obtain ⟨k,n,f,rr,v,s',m,tt⟩:=x;simp only at h1 h3 B0 C1 E ⊢;have q1:=cz.2 h1;have q3:=cz.2 h3
 go_enter func11,ntmps11
 go_wp2_with fail;refine C1.mono ?_;rintro e w1 ⟨rfl,b1⟩;have F:=Hh (E w1 (aR B0 b1));clear E C1 b1;go_wp2
 go_ret
 exact F
theorem UL (h:Cl w s F c t vn L p vq Fs) (x:Ac) (h1:x.k≠1) (h3:x.k≠3) (hk:x.k < 2\/6 < x.k) (hn:¬ no c x.n):Calls prog 11 #[ptr s,eG x] w (kg w s F (bE x c) (t+1) (aX x c)):=by
 obtain ⟨e1,e2⟩:=Wk h1 h3 (show x.k < 2\/6 < x.k\/no c x.n by rcases hk with g | g;exact .inl g;exact .inr (.inl g));rw [e1,e2];have B0:=Hh ((aa w.heap.size w).alloc (ac _) (.cells (bC x) 44));have hn':0<=x.n/\x.n < c.S.length:=by unfold no at hn;omega
 have C1:=Hh (nJ (h.below B0) (n:=x.n.toNat) (by omega));rw [gh hn'.1] at C1;have E:=Hh (fun w' b=>(iM h (w':=w') b 1).late);have X0:=Hh (bh w (.cells (bC x) 44));clear h hn e1 e2 hn';unfold eG bC at *;unfold ptr at *;obtain ⟨k,n,f,rr,v,s',m,tt⟩:=x;simp only at h1 h3 hk B0 C1 E X0 ⊢;have q1:=cz.2 h1;have q2:=cz.2 (by omega);have q3:=cz.2 h3;have q4:=cz.2 (by omega);have q5:=cz.2 (by omega);have q6:=cz.2 (by omega);have r2:¬ k=2:=by omega
 have r4:¬ k=4:=by omega
 have r5:¬ k=5:=by omega
 have r6:¬ k=6:=by omega
 clear hk
 go_enter func11,ntmps11
 go_wp2_with fail;refine C1.mono ?_;rintro e w1 ⟨rfl,b1⟩;have y0:=(b1.cell (bm X0.out)).trans (ah X0.out 0);have F:=Hh (E w1 (aR B0 b1));clear E C1 b1 X0 B0;go_wp2
 go_ret
 exact F
theorem Px (hk:x.k=4) (hn:¬ no c x.n):(bU c.V x.n=true->aX x c=0/\bE x c = { c with V:=c.V.set x.n.toNat false,P:=Wt.kG c.P x.n })/\(bU c.V x.n=false->aX x c=10/\bE x c=c):=by
 have he:aX x c=if bU c.V x.n=true then 0 else 10:=by
  unfold aX;rw [aq (by omega),aq (by omega),aq (by rintro (g | g | g);omega;omega;exact hn g),aq (by omega),aw hk]
 refine ⟨fun hv=>?_,fun hv=>?_⟩
 ·rw [hv] at he
  refine ⟨he,?_⟩;unfold bE;rw [aq (by omega),aq (by rw [he];simp),aq (by omega),aq (by omega),aw hk]
 ·rw [hv] at he
  refine ⟨he,?_⟩;unfold bE;rw [aq (by omega),aw (by rw [he];decide)]
theorem Oa (h:Cl w s F c t vn L p vq Fs) (ok:kC c t) (sy:wU c) (x:Ac) (hk:x.k=4) (hn:¬ no c x.n):Calls prog 11 #[ptr s,eG x] w (kg w s F (bE x c) (t+1) (aX x c)):=by
 have B0:=Hh ((aa w.heap.size w).alloc (ac _) (.cells (bC x) 44));have hn':0<=x.n/\x.n < c.S.length:=by unfold no at hn;omega
 have hnn:=gh hn'.1;have C1:=Hh (nJ (h.below B0) (n:=x.n.toNat) (by omega));rw [hnn] at C1
 have C2:Hid (∀ w1,Below (w.alloc (.cells (bC x) 44)).heap.size (w.alloc (.cells (bC x) 44)) w1->Calls prog 35 #[ptr s,.int .i64 x.n] w1 (kg w1 s F (bE x c) t (aX x c))):=Hh (fun w1 b1=>by
  obtain ⟨a1,a2⟩:=Px hk hn
  cases hv:bU c.V x.n with
  | true =>
    have q:=Iy ((h.below B0).below b1) ok sy (n:=x.n.toNat) (by omega) (by rw [hnn];exact hv);rw [hnn] at q;rw [(a1 hv).1,(a1 hv).2];exact q
  | false =>
    have q:=Nj ((h.below B0).below b1) (n:=x.n.toNat) (by omega) (by rw [hnn];exact hv);rw [hnn] at q;rw [(a2 hv).1,(a2 hv).2]
    exact q)
 have E:=Hh (fun w1 (b:Below w.heap.size w w1) e w' (d:kg w1 s F (bE x c) t (aX x c) e w')=>(d.pre b h.low).late);have X0:=Hh (bh w (.cells (bC x) 44));clear h hn ok sy hn' hnn;generalize bE x c=c' at *;generalize aX x c=ae at *;unfold eG bC at *;unfold ptr at *;obtain ⟨k,n,f,rr,v,s',m,tt⟩:=x;simp only at hk B0 C1 C2 E X0 ⊢;subst hk
 go_enter func11,ntmps11
 go_wp2_with fail;refine C1.mono ?_;rintro e w1 ⟨rfl,b1⟩;have y0:=(b1.cell (bm X0.out)).trans (ah X0.out 0);have y1:=(b1.cell (bm X0.out)).trans (ah X0.out 1);have D:=Hh (C2 w1 b1);have B1:=aR B0 b1;clear C1 C2 b1 X0 B0;go_wp2_with fail;refine D.mono ?_;rintro e w2 d;have G:=Hh (E w1 B1 e w2 d);obtain ⟨rfl,_,_⟩:=d;clear E D y0 y1;go_wp2
 go_ret
 exact G
theorem Gb (hk:x.k=5) (hn:¬ no c x.n):(bU c.V x.n=false->aX x c=0/\bE x c = { c with V:=c.V.set x.n.toNat true,P:=Wt.kH c.P x.n })/\(bU c.V x.n=true->aX x c=10/\bE x c=c):=by
 have he:aX x c=if bU c.V x.n=true then 10 else 0:=by
  unfold aX;rw [aq (by omega),aq (by omega),aq (by rintro (g | g | g);omega;omega;exact hn g),aq (by omega),aq (by omega),aw hk]
 refine ⟨fun hv=>?_,fun hv=>?_⟩
 ·rw [hv] at he
  refine ⟨he,?_⟩;unfold bE;rw [aq (by omega),aq (by rw [he];simp),aq (by omega),aq (by omega),aq (by omega),aw hk]
 ·rw [hv] at he
  refine ⟨he,?_⟩;unfold bE;rw [aq (by omega),aw (by rw [he];decide)]
theorem Hg (h:Cl w s F c t vn L p vq Fs) (ok:kC c t) (sy:wU c) (x:Ac) (hk:x.k=5) (hn:¬ no c x.n):Calls prog 11 #[ptr s,eG x] w (kg w s F (bE x c) (t+1) (aX x c)):=by
 have B0:=Hh ((aa w.heap.size w).alloc (ac _) (.cells (bC x) 44));have hn':0<=x.n/\x.n < c.S.length:=by unfold no at hn;omega
 have hnn:=gh hn'.1;have C1:=Hh (nJ (h.below B0) (n:=x.n.toNat) (by omega));rw [hnn] at C1
 have C2:Hid (∀ w1,Below (w.alloc (.cells (bC x) 44)).heap.size (w.alloc (.cells (bC x) 44)) w1->Calls prog 36 #[ptr s,.int .i64 x.n] w1 (kg w1 s F (bE x c) t (aX x c))):=Hh (fun w1 b1=>by
  obtain ⟨a1,a2⟩:=Gb hk hn
  cases hv:bU c.V x.n with
  | false =>
    have q:=Dt ((h.below B0).below b1) ok sy (n:=x.n.toNat) (by omega) (by rw [hnn];exact hv);rw [hnn] at q;rw [(a1 hv).1,(a1 hv).2];exact q
  | true =>
    have q:=F6 ((h.below B0).below b1) (n:=x.n.toNat) (by omega) (by rw [hnn];exact hv);rw [hnn] at q;rw [(a2 hv).1,(a2 hv).2]
    exact q)
 have E:=Hh (fun w1 (b:Below w.heap.size w w1) e w' (d:kg w1 s F (bE x c) t (aX x c) e w')=>(d.pre b h.low).late);have X0:=Hh (bh w (.cells (bC x) 44));clear h hn ok sy hn' hnn;generalize bE x c=c' at *;generalize aX x c=ae at *;unfold eG bC at *;unfold ptr at *;obtain ⟨k,n,f,rr,v,s',m,tt⟩:=x;simp only at hk B0 C1 C2 E X0 ⊢;subst hk
 go_enter func11,ntmps11
 go_wp2_with fail;refine C1.mono ?_;rintro e w1 ⟨rfl,b1⟩;have y0:=(b1.cell (bm X0.out)).trans (ah X0.out 0);have y1:=(b1.cell (bm X0.out)).trans (ah X0.out 1);have D:=Hh (C2 w1 b1);have B1:=aR B0 b1;clear C1 C2 b1 X0 B0;go_wp2_with fail;refine D.mono ?_;rintro e w2 d;have G:=Hh (E w1 B1 e w2 d);obtain ⟨rfl,_,_⟩:=d;clear E D y0 y1;go_wp2
 go_ret
 exact G
end
open Fl (z4 aH aV)
open Fs (Wf Glob sA sB dA dE dV dD iT xB kY DF)
attribute [local irreducible] Sz.nL
section
variable {s t p:Nat} {F G:Nat->Prop} {c:Cs} {vn vq:Value} {L:List Nd} {Fs:Nat->Nat->Prop} {w w1 w':World}
theorem Nh (w:World) (g o:Nat) (f r:Int) (x:R4) (c1:w.cell? ⟨g,o+1,none⟩=some (.bool false)):Calls prog 34 #[.pointer (some ⟨g,o,none⟩),.int .i64 f,.int .i64 r,aH x] w fun e w'=>e = .returned (.int .i64 10)/\Below w.heap.size w w':=by
 have B0:=Hh ((aa w.heap.size w).alloc (ac _) (.cells (aV x) 42));have k1:=gP B0 c1;clear c1;unfold aH;unfold aV at *
 go_enter func34,ntmps34
 go_wp2
 go_ret
 exact ⟨rfl,B0⟩
def WrC (w:World) (q:Nat) (H:Nat->Prop) (A:aP) (d:Int) (f r:Int) (x:R4) (e:Ending) (w':World):Prop:=e = .returned (.int .i64 (if sB A f r=true then 0 else 3))/\St w' q (Fx H w w') (sA A f r x) d/\Only H w w'
variable {q:Nat} {H:Nat->Prop} {A:aP} {d f:Int}
theorem ab5 (h:St w' q (Fx H w1 w') A d) (z1:w.heap.size<=w1.heap.size) (z2:w1.heap.size<=w'.heap.size) (low:∀ k,H k->k < w.heap.size):St w' q (Fx H w w') A d:=h.wide (fun k g=>by
 rcases g with g | g
 ·exact .inl g
 ·exact .inr ⟨by omega,g.2⟩) (Fx.low low (cG z1 z2))
theorem JR (S:St w q H A d) (g o:Nat) (c0:w.cell? ⟨g,o,none⟩=some (ptr q)) (c1:w.cell? ⟨g,o+1,none⟩=some (.bool true)) (hg:¬ H g) (hf:Wf f) (r:Int) (x:R4) (hx:bN x):Calls prog 34 #[.pointer (some ⟨g,o,none⟩),.int .i64 f,.int .i64 r,aH x] w (WrC w q H A d f r x):=by
 have B0:=Hh ((aa w.heap.size w).alloc (ac _) (.cells (aV x) 42));have X0:=Hh (bh w (.cells (aV x) 42));have k0:=Hh (gP B0 c0);have k1:=gP B0 c1;have LOW:=Hh S.low;have S0:=Hh (S.below B0);have HG:=Hh hg;have HX:Hid (¬ H w.heap.size):=Hh (fun e=>by have:=S.low _ e;omega);have FIN:Hid (∀ w1 w',Below w.heap.size w w1->iT w1 q H d (sB A f r) (sA A f r x) (.returned (.bool (sB A f r))) w'->WrC w q H A d f r x (.returned (.int .i64 (if sB A f r=true then 0 else 3))) w'):=Hh (fun w1 w' b h=>⟨rfl,ab5 h.2.1 b.size h.2.2.size LOW,(Only.of_below b).trans h.2.2 fun _ _ g=>g⟩);clear c0 c1 S hg;unfold aH ptr at *;unfold aV at *
 go_enter func34,ntmps34
 go_upto_region 3 with fail;clear k1;generalize (w.alloc (.cells #[.int .u8 x.1,.int .u8 x.2.1,.int .u8 x.2.2.1,.int .u8 x.2.2.2] 42))=W at *;have BD:=Hh (B0.trans ((aa W.heap.size W).drew.mono B0.size));have OD:Hid (Only H W W.drew):=Hh (Only.of_below (aa W.heap.size W).drew);have CS:=Hh (xB (S0.below ((aa W.heap.size W).drew)) hf r x hx);unfold iT aH at CS;generalize w.heap.size=gx at *;have lx:=bm X0;have s0:=Sc.ay (C:=fun W'=>Only H W W') (a:=⟨g,o,none⟩) (fun W' oo=>oo.cell k0 (fun e=>HG e));have x0:=Sc.ay (C:=fun W'=>Only H W W') (a:=⟨gx,0,none⟩) (fun W' oo=>oo.cell (ah X0 0) (fun e=>HX e));have x1:=Sc.ay (C:=fun W'=>Only H W W') (a:=⟨gx,1,none⟩) (fun W' oo=>oo.cell (ah X0 1) (fun e=>HX e));have x2:=Sc.ay (C:=fun W'=>Only H W W') (a:=⟨gx,2,none⟩) (fun W' oo=>oo.cell (ah X0 2) (fun e=>HX e));have x3:=Sc.ay (C:=fun W'=>Only H W W') (a:=⟨gx,3,none⟩) (fun W' oo=>oo.cell (ah X0 3) (fun e=>HX e));have ne:Nonempty (Sc.In (fun W'=>Only H W W')):=⟨⟨_,OD⟩⟩;clear k0 S0;refine Sc.start (fun W'=>Only H W W') [(false,0),(false,1),(false,2),(false,3),(false,4),(false,5),(false,6),(true,7),(false,8)] (by kernel_rfl) (by kernel_rfl) (by kernel_rfl) OD ?_;dsimp only [Sd.aM,List.getElem?_cons_succ,List.getElem?_cons_zero]
 iterate 7 (refine Sd.lit ?_;quiet_step (fail);refine bk ?_)
 clear s0 x0 x1 x2 x3;refine Sd.call (by rfl) (fun K hK=>?_);go_simp;refine CS.mono ?_;rintro e w5 ⟨rfl,s5,o5⟩;have E:=Hh (FIN W.drew w5 BD ⟨rfl,s5,o5⟩);refine hK _ _ (Sc.Cl.of (OD.trans o5 fun k _ g=>g)) ?_;clear hK K s5 o5 CS FIN;generalize sB A f r=bq at *
 iterate 1 (refine Sd.lit ?_;quiet_step (fail);refine bk ?_)
 refine Sd.done ?_
 cases bq with
 | true =>
   go_wp2
   go_ret
   exact E
 | false =>
   go_wp2
   go_ret
   exact E
theorem abl:(prog.info? 95).map (fun i=>(i.zero,i.size,i.bytes))=some (some (.agg #[.int .i64 0,.int .i64 0]),2,16):=by kernel_rfl
theorem FT (h:Cl w s F c t vn L p vq Fs) (x:S2) (hq:c.Q.length=32):Calls prog 32 #[ptr s,.agg #[.int .i64 x.1,.int .i64 x.2]] w (kg w s F c t 11):=by
 have B0:=Hh ((aa w.heap.size w).alloc (ac _) (.cells #[.int .i64 x.1,.int .i64 x.2] 95));have k3:=(h.below B0).cells.2.2.2;have E:=Hh (iM h B0 11);obtain ⟨qa,qc,rfl,_⟩:=h.sp.slice;rw [hq] at k3;clear h hq;unfold ptr at *
 go_enter func32,ntmps32
 go_wp2
 go_ret
 exact E
theorem Jw (h:Cl w s F c t vn L p vq Fs) (x:S2) (hq:c.Q.length < 32):Calls prog 32 #[ptr s,.agg #[.int .i64 x.1,.int .i64 x.2]] w (kg w s F { c with Q:=c.Q ++ [x] } t 0):=by
 have B0:=Hh ((aa w.heap.size w).alloc (ac _) (.cells #[.int .i64 x.1,.int .i64 x.2] 95));have X0:=Hh (bh w (.cells #[.int .i64 x.1,.int .i64 x.2] 95));have H:=Hh (h.below B0)
 have FIN:Hid (∀ w1 w' v,Below w.heap.size w w1->Ow K2 w' 0 95 v (c.Q ++ [x])->w1.grownBy w' vq.ownBlock->(v.ownBlock=vq.ownBlock\/∃ g,v.ownBlock=some g/\w1.heap.size<=g)->kg w s F { c with Q:=c.Q ++ [x] } t 0 (.returned (.int .i64 0)) (w'.setCell ⟨s,3,none⟩ v)):=Hh (fun w1 w' v b ow gr hv=>by
  have h1:=h.below b;have o1:=(Pa.aQ gr).mono fun k _ e=>h.fv k (.inr e);have oq:=Pa.aQ gr;have lv:∀ k,v.ownBlock=some k->k < w'.heap.size:=fun k e=>(ci ow k e).2;have z1:=b.size;have z2:=gr.size;have h2:Cl w' s (Fx F w w') { c with Q:=c.Q } t vn L p vq Fs\/True:=.inr trivial;have sp_old:∀ i,i < L.length->St w' (iI L i).s (Fs i) (sat c.S i).1 (sat c.S i).2:=fun i hi=>(h1.st i hi).only (fun k g e=>(h1.off i hi k g).2.2.2 e) oq;have vF:∀ k,v.ownBlock=some k->Fx F w w' k:=fun k e=>by
   rcases hv with q | ⟨g,q,hg⟩
   ·exact .inl (h.fv k (.inr (by rw [← q];exact e)))
   ·rw [q] at e
    injection e with e;subst e;exact .inr ⟨by omega,lv _ q⟩
  have nF:∀ i,i < L.length->∀ k,Fs i k->v.ownBlock≠some k:=fun i hi k g e=>by
   rcases hv with q | ⟨j,q,hj⟩
   ·exact (h.off i hi k g).2.2.2 (by rw [← q];exact e)
   ·rw [q] at e
    injection e with e;have:=h.low k (h.ff i hi k g)
    omega
  have o3:Only (fun k=>k=s) w' (w'.setCell ⟨s,3,none⟩ v):=Only.set (fun k=>k=s) w' (a:=⟨s,3,none⟩) rfl _;have ow3:Only F w (w'.setCell ⟨s,3,none⟩ v):=((Only.of_below b).trans o1 fun _ _ g=>g).trans o3 fun k _ e=>by rw [e];exact h.fs
  have sne:=h.vs.2;have row1:=(oq.block s h1.slt (fun e=>sne e)).trans h1.row;have row2:(w'.setCell ⟨s,3,none⟩ v).heap[s]? = some (.cells #[vn,ptr p,.int .i64 c.pl,v] 69 (0,0)):=Rw.heap_setCell_same (j:=3) row1 _;have hzz:(w'.setCell ⟨s,3,none⟩ v).heap.size=w'.heap.size:=by simp [World.setCell]
  refine ⟨rfl,⟨vn,L,p,v,Fs,?_⟩,ow3⟩;refine ⟨row2,aC (aC h1.no (fun k e q=>h1.vv k e q) oq) (fun k e q=>h1.vs.1 (by rw [e,q])) o3,h.len,fun i hi=>(sp_old i hi).only (fun k g e=>(h.off i hi k g).1 e) o3,h.lv,h.rt,?_,aC ow (fun k e q=>ow.apart row1 (by decide) (by rw [e,q])) o3,.inl h.fs,.inl h.fp,fun k q=>?_,fun i hi k g=>.inl (h.ff i hi k g),h.DY,fun i hi k g=>?_,Fx.low h.low ow3.size⟩
  ·exact (h1.pr.only oq (fun e=>h1.vp.2 e)).only o3 (fun e=>h1.Ig e.symm)
  ·rcases q with q | q
   ·exact .inl (h.fv k (.inl q))
   ·rcases vF k q with g | g
    ·exact .inl g
    ·exact .inr ⟨g.1,by rw [hzz];exact g.2⟩
  ·have:=h.off i hi k g
   exact ⟨this.1,this.2.1,this.2.2.1,nF i hi k g⟩)
 obtain ⟨qa,qc,rfl,_⟩:=h.sp.slice;have HQ:=Hh hq;have QL:Hid (∀ k,(Value.slice qa c.Q.length qc).ownBlock=some k->k≠w.heap.size):=Hh (fun k e=>by have:=h.low k (h.fv k (.inr e));omega);have k3:=H.cells.2.2.2;have p6:decide ((32:Int)<=(c.Q.length:Int))=false:=ai (by omega);have p7:decide (32<=c.Q.length)=false:=ai (by omega);clear h hq;generalize hln:c.Q.length=ln at *;have HLN:=Hh hln;clear hln;unfold ptr at *
 go_enter func32,ntmps32
 go_upto_region 3 with fail;clear k3 p6 p7;generalize (w.alloc (.cells #[.int .i64 x.1,.int .i64 x.2] 95))=W at *;generalize w.heap.size=gx at X0 QL ⊢;have BD:=Hh (aa W.heap.size W).drew;have NQ:Hid (∀ k,(Value.slice qa ln qc).ownBlock=some k->k≠gx/\k≠s):=Hh (fun k e=>⟨QL k e,fun g=>H.vs.2 (by rw [e,g])⟩);have OD:Hid (Only (fun k=>(Value.slice qa ln qc).ownBlock=some k) W W.drew):=Hh (Only.of_below BD);have x0:=Sc.ay (C:=fun W'=>Only (fun k=>(Value.slice qa ln qc).ownBlock=some k) W W') (a:=⟨gx,0,none⟩) (fun W' oo=>oo.cell (ah X0 0) (fun e=>(NQ _ e).1 rfl));have x1:=Sc.ay (C:=fun W'=>Only (fun k=>(Value.slice qa ln qc).ownBlock=some k) W W') (a:=⟨gx,1,none⟩) (fun W' oo=>oo.cell (ah X0 1) (fun e=>(NQ _ e).1 rfl));have s3:=Sc.ay (C:=fun W'=>Only (fun k=>(Value.slice qa ln qc).ownBlock=some k) W W') (a:=⟨s,3,none⟩) (fun W' oo=>oo.cell H.cells.2.2.2 (fun e=>(NQ _ e).2 rfl));have ne:Nonempty (Sc.In (fun W'=>Only (fun k=>(Value.slice qa ln qc).ownBlock=some k) W W')):=⟨⟨_,OD⟩⟩;refine Sz.start (fun W'=>Only (fun k=>(Value.slice qa ln qc).ownBlock=some k) W W') [(false,0),(false,1),(false,2),(false,3),(false,4),(false,5),(true,6),(true,7),(false,8),(false,9)] 10 (by kernel_rfl) (by kernel_rfl) (by kernel_rfl) rfl rfl OD ?_;dsimp only [Sd.aM,List.getElem?_cons_succ,List.getElem?_cons_zero]
 repeat (refine Sz.lit ?_;quiet_step (fail);refine bk ?_)
 clear x0 x1 s3;have HD:=Hh (H.below BD);generalize W.drew=w4 at *;refine Sz.call (by rfl) (fun K hK=>?_);go_simp;have B5:=Hh (Below.alloc (aa w4.heap.size w4) (ac _) (.cells #[.int .i64 x.1,.int .i64 x.2] 95));have Y5:=Hh (bh w4 (.cells #[.int .i64 x.1,.int .i64 x.2] 95));have H5:=Hh (HD.below B5);have BW:=Hh ((aR B0 BD).trans (B5.mono (cG B0.size BD.size)));have O5:=Hh (OD.trans (Only.of_below (G:=fun k=>(Value.slice qa ln qc).ownBlock=some k) B5) fun _ _ g=>g);refine hK _ _ (Sc.Cl.of O5) ?_;clear hK K HD B5;generalize (w4.alloc (.cells #[.int .i64 x.1,.int .i64 x.2] 95))=w5 at *;generalize w4.heap.size=g4 at *;refine Sz.call (by rfl) (fun K hK=>?_);refine bT (K:=K2) underlying37 abl rfl (by omega) _ _ rfl 0 _ _ rfl H5.out.sp ⟨g4,0,none⟩ x rfl ?a1 ?a2 (bt _) ?_
 case a1 =>
  intro j u hu
  have c:=ah Y5 j
  match j,hu with
  | 0,hu=>simp [K2] at hu;subst hu;exact c
  | 1,hu=>simp [K2] at hu;subst hu;exact c
  | j+2,hu=>simp [K2] at hu
 case a2=>have:=HLN.out;have:=HQ.out;omega
 intro v6 w6 o6 g6 h6
 have O6:=O5.trans (Pa.aQ g6) fun _ _ g=>g;have c6:=O6.cell H.cells.2.2.2 (fun e=>(NQ _ e).2 rfl);have e6:=aj (((Pa.aQ g6).block s H5.slt (fun e=>(NQ _ e).2 rfl)).trans H5.row) 3;have E:=Hh (FIN w5 w6 v6 BW o6 g6 h6);obtain ⟨v6a,v6c,n6,rfl⟩:∃ a c n,v6 = .slice a n c:=by obtain ⟨a,c,e,_⟩:=o6.slice;exact ⟨a,c,_,e⟩
 refine hK _ _ (Sc.Cl.of O6) ?_;clear hK K o6 g6 h6 FIN O6 H5 Y5 O5 BW
 repeat (refine Sz.lit ?_;quiet_step (fail);refine bk ?_)
 refine Sz.done ?_;go_simp;clear c6 e6;generalize (w6.setCell ⟨s,3,none⟩ (.slice v6a n6 v6c))=w8 at *;refine NoPanic.normal ?_;go_wp2
 go_ret
 exact E
theorem Pm {x:Ac} (hk:x.k=3):(c.Q.length=32->aX x c=11/\bE x c=c)/\(c.Q.length≠32->aX x c=0/\bE x c = { c with Q:=c.Q ++ [(x.s,x.m)] }):=by
 have he:aX x c=if c.Q.length=32 then 11 else 0:=by
  unfold aX;rw [aq (by omega),aw hk]
 refine ⟨fun hq=>?_,fun hq=>?_⟩
 ·rw [aw hq] at he
  refine ⟨he,?_⟩;unfold bE;rw [aq (by omega),aw (by rw [he];decide)]
 ·rw [aq hq] at he
  refine ⟨he,?_⟩;unfold bE;rw [aq (by omega),aq (by rw [he];simp),aw hk]
theorem QM (h:Cl w s F c t vn L p vq Fs) (ok:kC c t) (x:Ac) (hk:x.k=3):Calls prog 11 #[ptr s,eG x] w (kg w s F (bE x c) (t+1) (aX x c)):=by
 have B0:=Hh ((aa w.heap.size w).alloc (ac _) (.cells (bC x) 44));have C2:Hid (Calls prog 32 #[ptr s,.agg #[.int .i64 x.s,.int .i64 x.m]] (w.alloc (.cells (bC x) 44)) (kg (w.alloc (.cells (bC x) 44)) s F (bE x c) t (aX x c))):=by
  obtain ⟨a1,a2⟩:=Pm (c:=c) hk
  by_cases hq:c.Q.length=32
  ·rw [(a1 hq).1,(a1 hq).2]
   exact FT (h.below B0) (x.s,x.m) hq
  ·rw [(a2 hq).1,(a2 hq).2]
   exact Jw (h.below B0) (x.s,x.m) (by have:=ok.few;omega)
 have E:=Hh (fun e w' (d:kg (w.alloc (.cells (bC x) 44)) s F (bE x c) t (aX x c) e w')=>(d.pre B0 h.low).late);clear h ok;generalize bE x c=c' at *;generalize aX x c=ae at *;unfold eG bC at *;unfold ptr at *;obtain ⟨k,n,f,rr,v,s',m,tt⟩:=x;simp only at hk B0 C2 E ⊢;subst hk
 go_enter func11,ntmps11
 go_wp2_with fail;refine C2.mono ?_;rintro e w2 d;have G:=Hh (E e w2 d);obtain ⟨rfl,_,_⟩:=d;clear E C2;go_wp2
 go_ret
 exact G
end
end Cu
namespace Tk
def prev (A:Nat->Int):Nat->Int
 | 0=>-1
 | k+1=>A k
structure jV (A R:Nat->Int) (k:Nat):Prop where
 at_:∀ i,i < k->0<=A i/\A i<=4294967296
 rate:∀ i,i < k->-20000<=R i/\R i<=20000
 up:∀ i,i+1 < k->A i < A (i+1)
theorem jV.zero (A R:Nat->Int):jV A R 0:=⟨fun i h=>by omega,fun i h=>by omega,fun i h=>by omega⟩
variable {A R:Nat->Int} {k n:Nat}
theorem jV.lo (g:jV A R k) : -1<=prev A k:=by
 cases k with
 | zero=>exact gk _
 | succ k=>have:=(g.at_ k (by omega)).1;show -1<=A k;omega
theorem jV.step (g:jV A R k) (h1:¬ A k<=prev A k) (h2:¬ 4294967296 < A k) (h3:¬ R k < -20000) (h4:¬ 20000 < R k):jV A R (k+1):=by
 have l:=g.lo;refine ⟨fun i hi=>?_,fun i hi=>?_,fun i hi=>?_⟩
 ·by_cases e:i=k
  ·subst e;omega
  ·exact g.at_ i (by omega)
 ·by_cases e:i=k
  ·subst e;omega
  ·exact g.rate i (by omega)
 ·by_cases e:i+1=k
  ·subst e;have:prev A (i+1)=A i:=rfl;omega
  ·exact g.up i (by omega)
theorem jV.all (g:jV A R n) (h:n<=64):bG n A R:=⟨h,g.at_,g.rate,g.up⟩
theorem bad (hk:k < n) (h:A k<=prev A k\/4294967296 < A k\/R k < -20000\/20000 < R k):dQ n A R=false:=by
 refine yU fun g=>?_;have a:=g.at_ k hk;have r:=g.rate k hk
 rcases h with h | h | h | h
 ·cases k with
  | zero=>have:prev A 0 = -1:=rfl;omega
  | succ k=>have:=g.up k hk;have:prev A (k+1)=A k:=rfl;omega
 ·omega
 ·omega
 ·omega
theorem aA {a b:Bool} (h:a=b):Ending.returned (.bool a) = .returned (.bool b):=by rw [h]
theorem bY {a b:Int} (h:a=b):Ending.returned (.int .i64 a) = .returned (.int .i64 b):=by rw [h]
theorem vG (w:World) (a:Option Addr) (cap:Nat) (A R:Nat->Int):Calls prog 141 #[.slice a 0 cap] w fun e w'=>e = .returned (.bool (dQ 0 A R))/\Below w.heap.size w w':=by
 rw [vK (⟨by omega,fun i h=>by omega,fun i h=>by omega,fun i h=>by omega⟩:bG 0 A R)]
 go_enter func141,ntmps141
 go_wp2
 go_loopw [3,11] (fun _ i wr=>i = .int .i64 0/\Below w.heap.size w wr) (fun _ _ _=>0)
 case atStart=>exact ⟨rfl,aa _ _⟩
 case round =>
  obtain ⟨rfl,hb⟩:=hrel;go_wp2
  go_ret
  exact ⟨rfl,hb⟩
theorem On (w:World) (a:Option Addr) (n cap:Nat) (h:64 < n) (A R:Nat->Int):Calls prog 141 #[.slice a n cap] w fun e w'=>e = .returned (.bool (dQ n A R))/\Below w.heap.size w w':=by
 rw [yU (fun g:bG n A R=>by have:=g.len;omega)]
 go_enter func141,ntmps141
 go_wp2
 go_ret
 exact ⟨rfl,aa _ _⟩
theorem Qq (w:World) (b off n cap:Nat) (h:n<=64) (A R:Nat->Int)
 (hc:∀ i,i < n->w.cell? ⟨b,off+i * 2,none⟩=some (.int .i64 (A i))/\w.cell? ⟨b,off+i * 2+1,none⟩=some (.int .i64 (R i))) :
 Calls prog 141 #[.slice (some ⟨b,off,none⟩) n cap] w fun e w'=>e = .returned (.bool (dQ n A R))/\Below w.heap.size w w':=by
 have HC:=Hh hc;clear hc
 go_enter func141,ntmps141
 go_wp2
 go_loopw [3,11] (fun a i wr=>∃ k:Nat,k<=n/\i = .int .i64 k/\a = .int .i64 (prev A k)/\jV A R k/\Below w.heap.size w wr) (fun _ i _=>n - (intOf i).toNat)
 case atStart=>exact ⟨0,bt _,rfl,rfl,jV.zero A R,aa _ _⟩
 case round =>
  obtain ⟨k,hk,rfl,rfl,hg,hb⟩:=hrel
  by_cases hlt:k < n
  ·obtain ⟨c1,c2⟩:=HC k hlt
   have d1:=gP hb c1;have d2:=gP hb c2;clear c1 c2
   by_cases h1:A k<=prev A k
   ·go_wp2
    go_ret
    exact ⟨aA (bad hlt (.inl h1)).symm,hb.alloc hb.size _⟩
   ·by_cases h2:4294967296 < A k
    ·go_wp2
     go_ret
     exact ⟨aA (bad hlt (.inr (.inl h2))).symm,hb.alloc hb.size _⟩
    ·by_cases h3:R k < -20000
     ·go_wp2
      go_ret
      exact ⟨aA (bad hlt (.inr (.inr (.inl h3)))).symm,hb.alloc hb.size _⟩
     ·by_cases h4:20000 < R k
      ·go_wp2
       go_ret
       exact ⟨aA (bad hlt (.inr (.inr (.inr h4)))).symm,hb.alloc hb.size _⟩
      ·go_wp2
       go_roundw
       case rel=>exact ⟨k+1,by omega,by go_num,rfl,hg.step h1 h2 h3 h4,hb.alloc hb.size _⟩
       case measure=>simp [intOf];omega
  ·obtain rfl:k=n:=by omega
   go_wp2
   go_ret
   exact ⟨aA (vK (hg.all h)).symm,hb⟩
theorem bD (w:World) (v:Value) (n:Nat) (A R:Nat->Int) (h:Steps w v n A R):Calls prog 141 #[v] w fun e w'=>e = .returned (.bool (dQ n A R))/\Below w.heap.size w w':=by
 rcases h with ⟨a,cap,rfl,_,rfl⟩ | ⟨b,off,cap,rfl,_,_,hc⟩
 ·exact vG w a cap A R
 ·by_cases hn:n<=64
  ·exact Qq w b off n cap hn A R hc
  ·exact On w _ n cap (by omega) A R
end Tk
namespace Bu
open Tk (bG bD)
def nH (p:Nat->Bool) (n:Nat):Bool:=(List.range n).any p
variable {p:Nat->Bool} {n k:Nat}
theorem yT (hk:k < n) (h:p k=true):nH p n=true:=ew.2 ⟨k,List.mem_range.2 hk,h⟩
theorem wH (h:∀ j,j < n->p j=false):nH p n=false:=List.any_eq_false.2 fun j hj=>by rw [h j (List.mem_range.1 hj)];exact eA
def wI (w:World) (b:Bool) (e:Ending) (w':World):Prop:=∃ r:Int,e = .returned (.int .i64 r)/\decide (0<=r)=b/\Below w.heap.size w w'
variable {w w':World} {b:Bool}
theorem K6 (h:b=true) (hb:Below w.heap.size w w'):wI w b (.returned (.int .i64 k)) w':=⟨k,rfl,by rw [h];simp,hb⟩
theorem VN (h:b=false) (hb:Below w.heap.size w w'):wI w b (.returned (.int .i64 (-1))) w':=⟨-1,rfl,by rw [h];decide,hb⟩
theorem Jz (w:World) (v:Value) (n:Nat) (A R:Nat->Int) (S:Tk.Steps w v n A R) (g:Nat) (p:Nat->Bool) (eg:∀ args w,(callFunc g args).run prog w = .ok (.enter g args) w)
 (hp:∀ W i,i < n->Calls prog g #[.agg #[.int .i64 (A i),.int .i64 (R i)]] W fun e w'=>e = .returned (.bool (p i))/\Below W.heap.size W w') :
 Calls prog 171 #[v,.func (.func g) #[] #[]] w (wI w (nH p n)):=by
 obtain ⟨a,cap,rfl,hm1,hm⟩:=qj S;have ST:=Hh (fun hp=>(Uy S hp).2);have HP:=Hh hp;have YES:Hid (∀ k,k < n->p k=true->nH p n=true):=Hh (fun k hk h=>yT hk h);have NO:Hid ((∀ j,j < n->p j=false)->nH p n=false):=Hh (fun h=>wH h);clear S hp;generalize nH p n=q at *;unfold maxLen at hm
 go_enter func171,ntmps171
 go_wp2
 go_loopw [8] (fun i wr=>∃ k:Nat,k<=n/\i = .int .i64 k/\Hid (∀ j,j < k->p j=false)/\Hid (Below w.heap.size w wr)) (fun i _=>n - (intOf i).toNat)
 case atStart=>exact ⟨0,bt _,rfl,fun j hj=>by omega,aa _ _⟩
 case round =>
  obtain ⟨k,hk,rfl,hs,hb⟩:=hrel
  by_cases hlt:k < n
  ·obtain ⟨b,off,rfl,hA⟩:=ST (by omega)
   obtain ⟨c1,c2⟩:=hA k hlt;have HA:=Hh hA;clear hA;have d1:=gP hb c1;have d2:=gP hb c2;clear c1 c2;have hc:=HP.out wr k hlt
   cases hq:p k with
   | true =>
     rw [hq] at hc;have C:=Hh hc;have HR:=Hh (YES k hlt hq);clear hc hq;go_wp2_with fail;refine C.mono ?_;rintro e w1 ⟨rfl,b1⟩;have B1:=aR hb b1;clear b1;go_wp2
     go_ret
     exact K6 HR B1
   | false =>
     rw [hq] at hc;have C:=Hh hc;have ST:Hid (∀ j,j < k+1->p j=false):=fun j hj=>by
      by_cases e:j=k
      ·rw [e];exact hq
      ·exact hs j (by omega)
     clear hc hq;go_wp2_with fail;refine C.mono ?_;rintro e w1 ⟨rfl,b1⟩;have B1:=aR hb b1;clear b1;go_wp2
     go_roundw
     case rel=>exact ⟨k+1,by omega,by go_num,ST,B1⟩
     case measure=>simp [intOf];omega
  ·obtain rfl:k=n:=by omega
   have HR:=Hh (NO hs);go_wp2
   go_ret
   exact VN HR hb
theorem zW (w:World) (v:Value) (n:Nat) (A R:Nat->Int) (S:Tk.Steps w v n A R) (g:Nat) (p:Nat->Bool) (eg:∀ args w,(callFunc g args).run prog w = .ok (.enter g args) w)
 (hp:∀ W i,i < n->Calls prog g #[.agg #[.int .i64 (A i),.int .i64 (R i)]] W fun e w'=>e = .returned (.bool (p i))/\Below W.heap.size W w') :
 Calls prog 142 #[v,.func (.func g) #[] #[]] w fun e w'=>e = .returned (.bool (nH p n))/\Below w.heap.size w w':=by
 have C:=Hh (Jz w v n A R S g p eg hp);clear eg hp S;generalize nH p n=q at *
 go_enter func142,ntmps142
 go_wp2_with fail;refine C.mono ?_;rintro e w1 ⟨r,rfl,hr,b1⟩;have HR:=Hh hr;clear hr;go_wp2
 go_ret
 exact ⟨Tk.aA HR,b1⟩
theorem Jk (w:World) (v:Value) (O:List fC) (S:Gx w v O) (g:Nat) (lb:Array Value) (p:Nat->Bool) (eg:∀ args w,(callFunc g args).run prog w = .ok (.enter g args) w)
 (hp:∀ W i,i < O.length->Below w.heap.size w W->∀ u,Tk.Steps W u (kF O i).n (kF O i).A (kF O i).R->Calls prog g (#[u] ++ lb) W fun e w'=>e = .returned (.bool (p i))/\Below W.heap.size W w') :
 Calls prog 172 #[v,.func (.func g) #[] lb] w (wI w (nH p O.length)):=by
 have S0:=Hh S;obtain ⟨a,cap,rfl,hm1,hm⟩:=S.slice;have HP:=Hh hp;have YES:Hid (∀ k,k < O.length->p k=true->nH p O.length=true):=Hh (fun k hk h=>yT hk h);have NO:Hid ((∀ j,j < O.length->p j=false)->nH p O.length=false):=Hh (fun h=>wH h);clear S hp;generalize nH p O.length=q at *;unfold maxLen at hm;generalize hn:O.length=n at *;have HN:=Hh hn;clear hn
 go_enter func172,ntmps172
 go_wp2
 go_loopw [8] (fun i wr=>∃ k:Nat,k<=n/\i = .int .i64 k/\Hid (∀ j,j < k->p j=false)/\Hid (Below w.heap.size w wr)) (fun i _=>n - (intOf i).toNat)
 case atStart=>exact ⟨0,bt _,rfl,fun j hj=>by omega,aa _ _⟩
 case round =>
  obtain ⟨k,hk,rfl,hs,hb⟩:=hrel
  by_cases hlt:k < n
  ·obtain ⟨b,off,cp,a',cap',e1,c1,_,st⟩:=S0.one (k:=k) (by have:=HN.out;omega)
   rw [HN.out] at e1;injection e1 with e1 _ e2;subst e1 e2;have d1:=gP hb c1;have hc:=HP.out wr k hlt hb _ (st.below hb);clear c1 st;generalize (kF O k).n=m at *
   cases hq:p k with
   | true =>
     rw [hq] at hc;have C:=Hh hc;have HR:=Hh (YES k hlt hq);clear hc hq;go_wp2_with fail;refine C.mono ?_;rintro e w1 ⟨rfl,b1⟩;have B1:=aR hb b1;clear b1;go_wp2
     go_ret
     exact K6 HR B1
   | false =>
     rw [hq] at hc;have C:=Hh hc;have ST:Hid (∀ j,j < k+1->p j=false):=fun j hj=>by
      by_cases e:j=k
      ·rw [e];exact hq
      ·exact hs j (by omega)
     clear hc hq;go_wp2_with fail;refine C.mono ?_;rintro e w1 ⟨rfl,b1⟩;have B1:=aR hb b1;clear b1;go_wp2
     go_roundw
     case rel=>exact ⟨k+1,by omega,by go_num,ST,B1⟩
     case measure=>simp [intOf];omega
  ·obtain rfl:k=n:=by omega
   have HR:=Hh (NO hs);go_wp2
   go_ret
   exact VN HR hb
theorem zS (w:World) (v:Value) (O:List fC) (S:Gx w v O) (g:Nat) (lb:Array Value) (p:Nat->Bool) (eg:∀ args w,(callFunc g args).run prog w = .ok (.enter g args) w)
 (hp:∀ W i,i < O.length->Below w.heap.size w W->∀ u,Tk.Steps W u (kF O i).n (kF O i).A (kF O i).R->Calls prog g (#[u] ++ lb) W fun e w'=>e = .returned (.bool (p i))/\Below W.heap.size W w') :
 Calls prog 143 #[v,.func (.func g) #[] lb] w fun e w'=>e = .returned (.bool (nH p O.length))/\Below w.heap.size w w':=by
 have C:=Hh (Jk w v O S g lb p eg hp);clear eg hp S;generalize nH p O.length=q at *
 go_enter func143,ntmps143
 go_wp2_with fail;refine C.mono ?_;rintro e w1 ⟨r,rfl,hr,b1⟩;have HR:=Hh hr;clear hr;go_wp2
 go_ret
 exact ⟨Tk.aA HR,b1⟩
def oC (r:Int):Bool:=decide (r < -2000) || decide (2000 < r)
theorem Tx (w:World) (a r:Int):Calls prog 139 #[.agg #[.int .i64 a,.int .i64 r]] w fun e w'=>e = .returned (.bool (oC r))/\Below w.heap.size w w':=by
 have HB:=Hh ((aa w.heap.size w).alloc (ac _) (.cells #[.int .i64 a,.int .i64 r] 162))
 by_cases h1:r < -2000
 ·have e:Hid (oC r=true):=Hh (by unfold oC;rw [bi h1];rfl)
  rw [e.out]
  go_enter func139,ntmps139
  go_wp2
  go_ret
  exact ⟨rfl,HB⟩
 ·have e:Hid (oC r=decide (2000 < r)):=Hh (by unfold oC;rw [ai h1];rfl)
  rw [e.out]
  go_enter func139,ntmps139
  go_wp2
  go_ret
  exact ⟨rfl,HB⟩
variable {o:fC}
theorem Xc (h:dQ o.n o.A o.R=true):(!jC o)=nH (fun i=>oC (o.R i)) o.n:=by
 cases c:jC o with
 | true =>
   have g:=Ee c;rw [wH fun j hj=>?_]
   ·rfl
   ·have:=g.bd j hj
    unfold oC;rw [ai (by omega),ai (by omega)]
    rfl
 | false =>
   cases q:nH (fun i=>oC (o.R i)) o.n with
   | true=>rfl
   | false =>
     exfalso
     have:jC o=true:=pI ⟨j5.1 h,by omega,fun i hi=>by
      have:=List.any_eq_false.1 q i (List.mem_range.2 hi);unfold oC at this;simp only [Bool.or_eq_true,cM,not_or] at this
      omega⟩
     rw [c] at this
     cases this
theorem Us (h:dQ o.n o.A o.R=false):(!jC o)=true:=by
 rw [Uz fun g=>by rw [Tk.vK g.good] at h;cases h]
 rfl
theorem unfit_any (w:World) (B:Nat) (hc:w.cell? ⟨B,0,none⟩=some (.func (.func 139) #[] #[])) (u:Value) (o:fC) (S:Tk.Steps w u o.n o.A o.R) :
 Calls prog 140 #[u,.pointer (some ⟨B,0,none⟩)] w fun e w'=>e = .returned (.bool (!jC o))/\Below w.heap.size w w':=by
 have eg:=enters_of func139 (by kernel_rfl) rfl;have GA:=Hh (bD w u o.n o.A o.R S);have CA:=Hh (fun W b=>zW W u o.n o.A o.R (S.below (w':=W) b) 139 (fun i=>oC (o.R i)) eg fun W i _=>Tx W (o.A i) (o.R i));obtain ⟨a,cap,rfl,_⟩:=qj S;clear S eg;have YES:=fun h=>Xc (o:=o) h;have NO:=fun h=>Us (o:=o) h;generalize dQ o.n o.A o.R=g at *;generalize nH (fun i=>oC (o.R i)) o.n=q at *;generalize (!jC o)=r at *
 cases g with
 | true =>
   have E:=Hh (YES rfl);clear YES NO
   go_enter func140,ntmps140
   go_wp2_with fail;refine GA.mono ?_;rintro e w1 ⟨rfl,b1⟩;have c1:=gP b1 hc;have C1:=Hh (CA w1 b1);have B1:=Hh b1;clear b1 CA GA hc;go_wp2_with fail;refine C1.mono ?_;rintro e w2 ⟨rfl,b2⟩;have B2:=aR B1 b2;clear b2;go_wp2
   go_ret
   exact ⟨Tk.aA E.symm,B2⟩
 | false =>
   have E:=Hh (NO rfl);clear YES NO
   go_enter func140,ntmps140
   go_wp2_with fail;refine GA.mono ?_;rintro e w1 ⟨rfl,b1⟩;have B1:=Hh b1;clear b1 CA GA hc;go_wp2
   go_ret
   exact ⟨Tk.aA E.symm,B1⟩
theorem Nf (O:List fC):(!nH (fun i=>!jC (kF O i)) O.length)=iR O:=by
 cases c:iR O with
 | true =>
   rw [wH fun j hj=>?_]
   ·rfl
   ·rw [pI (sD c _ (Xy hj))];rfl
 | false =>
   obtain ⟨o,ho,hc⟩:=List.all_eq_false.1 c;obtain ⟨i,hi,rfl⟩:=ed ho;have e:kF O (i:Int)=O[i]:=by unfold kF;rw [cg,af,am hi];rfl
   rw [yT (k:=i) hi (by rw [e];simpa using hc)]
   rfl
theorem Yt (w:World) (f:Nat) (t:TypeId):(w.alloc (.cells #[.func (.func f) #[] #[]] t)).cell? ⟨w.heap.size,0,none⟩=some (.func (.func f) #[] #[]):=by go_simp
theorem Im (w:World) (v:Value) (O:List fC) (S:Gx w v O):Calls prog 116 #[v] w fun e w'=>e = .returned (.bool (iR O))/\Below w.heap.size w w':=by
 have eg:=enters_of func140 (by kernel_rfl) rfl;have b0:=(aa w.heap.size w).alloc (ac _) (.cells #[.func (.func 139) #[] #[]] 255);have c0:=Yt w 139 255;have CA:=Hh (zS _ v O (S.below b0) 140 #[.pointer (some ⟨w.heap.size,0,none⟩)] (fun i=>!jC (kF O i)) eg fun W i _ hb u hu=>unfit_any W w.heap.size (gP hb c0) u (kF O i) hu);have B0:=Hh b0;obtain ⟨a,cap,rfl,_⟩:=S.slice;have E:=Hh (Nf O);clear b0 c0 eg S;generalize O.length=n at *;generalize nH (fun i=>!jC (kF O i)) n=q at *;have hst:∀ (W:World) (p:Addr),(store p (Value.func (Fn.func 139) #[] #[])).run prog W=stored prog W p (Value.func (Fn.func 139) #[] #[]) .plain:=fun W p=>run_store _ W p _ _ rfl
 go_enter func116,ntmps116
 go_wp2_with fail;refine CA.mono ?_;rintro e w1 ⟨rfl,b1⟩;have B1:=aR B0 b1;clear b1 CA;go_wp2
 go_ret
 exact ⟨Tk.aA E,B1⟩
end Bu
namespace Wi
open Go.Shelf Go.Lib Go.Sort Go.Proofs.YtpepoackmcohlaaGreatDoor.Sp
def enc (x:S2):List Value:=[.int .i64 x.1,.int .i64 x.2]
def cf (x y:S2):Int:=Jd x.1 y.1
theorem MG (x y:S2):ltOf cf x y=decide (x.1 < y.1):=by
 unfold ltOf cf Jd
 by_cases h1:x.1 < y.1
 ·simp [h1]
 ·by_cases h2:y.1 < x.1 <;> simp [h1,h2]
theorem swo:SWO (ltOf cf) where
 irrefl x:=by rw [MG];simp
 trans x y z h1 h2:=by rw [MG] at *;simp at *;omega
 ntrans x y z h1 h2:=by rw [MG] at *;simp at *;omega
theorem xH (x y:S2) (W:World):Calls prog 205 #[.agg #[.int .i64 x.1,.int .i64 x.2],.agg #[.int .i64 y.1,.int .i64 y.2]] W fun e w'=>e = .returned (.int .i64 (cf x y))/\∃ q os',w'=grow (W.drewN q) os':=by
 have hcon:=fun W'=>Ga W' x.1 y.1;have HC:=Hh hcon;clear hcon;unfold cf;generalize Jd x.1 y.1=r at HC ⊢
 go_enter func205,ntmps205
 go_wp2_with (go_at_call 206;refine (HC _).mono ?_;rintro e w' ⟨rfl,rfl⟩)
 go_ret
 exact ⟨rfl,0,_,by rw [alloc_eq_grow,alloc_eq_grow,grow_grow];rfl⟩
theorem lays (blk off size:Nat) (w:World):CmpLays prog 205 #[] enc 2 cf blk off size w:=fun _ _ _ _ x y=>xH x y _
theorem Ri (l:List S2) (i:Nat):l.toArray[i]! = (fr l i,tp l i):=by
 by_cases h:i < l.length
 ·rw [getElem!_pos l.toArray i (by simpa using h)]
  simp [fr,tp,h]
 ·rw [getElem!_neg l.toArray i (by simpa using h)]
  simp [fr,tp,h]
  rfl
variable {w W:World} {g B m cap i j k B' E:Nat} {l x y x':List S2}
theorem holds_of (h:∀ i,i < l.length->w.cell? ⟨g,i * 2,none⟩=some (.int .i64 (fr l i))/\w.cell? ⟨g,i * 2+1,none⟩=some (.int .i64 (tp l i))/\w.frozen? ⟨g,i * 2,none⟩=false/\w.frozen? ⟨g,i * 2+1,none⟩=false) :
 HoldsK enc 2 w g 0 l.toArray:=by
 intro j hj
 have hj':j < l.length * 2:=by simpa using hj
 obtain ⟨c0,c1,f0,f1⟩:=h (j / 2) (by omega);rw [get_flatK enc 2 l.toArray j (by simpa using hj'),Ri]
 rcases (by omega:j % 2=0\/j % 2=1) with e | e
 ·have ej:0+j=j / 2 * 2:=by omega
  rw [ej,e];exact ⟨c0,f0⟩
 ·have ej:0+j=j / 2 * 2+1:=by omega
  rw [ej,e];exact ⟨c1,f1⟩
def zK (W:World) (B:Nat) (v:Value) (x:List S2) (w':World):Prop :=
 ∃ x',Sp w' v x'/\x'.length=x.length/\(∀ s,s∈x'↔s∈x)/\(∀ i j,i<=j->j < x'.length->fr x' i<=fr x' j)/\Below B W w'
theorem E7 (hB:B<=g) (hg:g < W.heap.size) (d:Array S2) (os:Array Obj):Below B W (sortWorldK enc 2 W g 0 m d os):=by
 refine ⟨rfl,rfl,rfl,?_,fun k hk=>?_⟩
 ·show W.heap.size<=((W.heap.modify g _) ++ os).size
  simp
 ·show ((W.heap.modify g _) ++ os)[k]? = _
  rw [Array.getElem?_append_left (by simp;omega),Array.getElem?_modify,aq (by omega)]
theorem Ox {d':Array S2} {os:Array Obj} (hB:B<=g) (hg:g < W.heap.size) (h1:x.length<=cap) (h2:cap<=maxLen) (hH:HoldsK enc 2 W g 0 x.toArray)
 (hp:PermIn 0 x.toArray.size x.toArray d') (hs:SortedIn (ltOf cf) 0 x.toArray.size d'):zK W B (.slice (some ⟨g,0,none⟩) x.length cap) x (sortWorldK enc 2 W g 0 m d' os):=by
 obtain ⟨hsz,_,hperm⟩:=hp;have hlen:d'.toList.length=x.length:=by simpa using hsz
 have hperm':d'.toList.Perm x:=by
  have e1:d'.extract 0 x.toArray.size=d':=by rw [← hsz];simp
  have e2:x.toArray.extract 0 x.toArray.size=x.toArray:=by simp
  rw [e1,e2] at hperm
  simpa using hperm
 have hH':HoldsK enc 2 (sortWorldK enc 2 W g 0 m d' os) g 0 d':=by
  unfold sortWorldK;refine holdsK_grow _ _ _ _ _ _ _ (by show g < (putRowK enc 2 (Sort.ahead W m) g 0 d').heap.size;rw [size_putRowK];exact hg) ?_;exact holdsK_putRowK enc 2 (Sort.ahead W m) g 0 x.toArray d' hH hsz
 have hsz':d'.size=x.length:=by simpa using hsz
 have hget:∀ i,i < x.length->d'[i]! = (fr d'.toList i,tp d'.toList i):=fun i hi=>by
  have:=Ri d'.toList i
  simpa using this
 refine ⟨d'.toList,⟨some ⟨g,0,none⟩,cap,by rw [hlen],by rw [hlen];exact h1,h2,fun _=>⟨g,0,rfl,fun i hi=>?_⟩⟩,hlen,fun s=>hperm'.mem_iff,fun i j hij hj=>?_,E7 hB hg _ _⟩
 ·rw [hlen] at hi
  have c0:=(hH'.cell (i:=i) (c:=0) (by omega) (by omega)).1;have c1:=(hH'.cell (i:=i) (c:=1) (by omega) (by omega)).1;rw [hget i hi] at c0 c1;exact ⟨c0,c1⟩
 ·rw [hlen] at hj
  rcases gR i j with c | c
  ·have:=hs i j (by omega) c (by simpa using hj)
   rw [MG,hget i (by omega),hget j hj] at this
   simp at this
   exact this
  ·rw [show i=j by omega]
   exact gk _
theorem Ng (W:World) (B:Nat) (v:Value) (x:List S2) (hown:Sp.Own W B 297 v x) (h0:0 < x.length) (hlen:x.length < 1099511627776) :
 Calls prog 204 #[v,.func (.func 205) #[] #[]] W fun e w'=>e = .returned (.tuple #[])/\zK W B v x w':=by
 obtain ⟨g,cap,rfl,hB,hg,h1,h2,_,hc⟩:=hown.form h0;have eg:=enters_of func205 (by kernel_rfl) rfl;have hH:=holds_of hc;have hcon:=AnyQ.slices_SortFunc Wi.sortFunc 2 isAgg297 sizeOf297 enc (fun _=>rfl) (fun x v hv=>by simp [enc] at hv;rcases hv with rfl | rfl <;> rfl) cf swo 205 #[] g 0 cap x.toArray W eg (lays g 0 x.toArray.size W) hH hg (by simp;omega)
 change Calls prog 204 _ _ _ at hcon
 refine hcon.mono ?_;rintro e w' ⟨rfl,d',n,os,hp,hs,rfl⟩;exact ⟨rfl,Ox hB hg h1 h2 hH hp hs⟩
theorem VU (W:World) (B:Nat) (v:Value) (x:List S2) (hown:Sp.Own W B 297 v x) (hlen:x.length < 1099511627776) :
 Calls prog 204 #[v,.func (.func 205) #[] #[]] W fun e w'=>e = .returned (.tuple #[])/\zK W B v x w':=by
 rcases Nat.eq_zero_or_pos x.length with z | z
 ·have hsp:=hown.sp
  obtain ⟨a,cap,rfl,_⟩:=hown.slice;have hcon:=AnyF.slices_SortFunc_none (ρ:=Wi.sortFunc_ren) Wi.sortFunc a cap (.func (.func 205) #[] #[]) W
  change Calls prog 204 _ _ _ at hcon
  rw [z];refine hcon.mono ?_;rintro e w' ⟨rfl,rfl⟩;have e:=eN.1 z;subst e;exact ⟨rfl,[],hsp,rfl,fun s=>Iff.rfl,fun i j _ h=>by simp at h,aa _ _⟩
 ·exact Ng W B v x hown z hlen
def Rows (w:World) (v:Value) (ls:List (List S2)):Prop:=∃ a cap,v = .slice a ls.length cap/\ls.length<=cap/\cap<=maxLen/\(0 < ls.length->∃ b off,a=some ⟨b,off,none⟩/\∀ i,i < ls.length->∃ u,w.cell? ⟨b,off+i,none⟩=some u/\Sp w u (ls.getD i []))
def tot (ls:List (List S2)):Nat->Nat
 | 0=>0
 | k+1=>tot ls k+(ls.getD k []).length
theorem Sj (ls:List (List S2)) (h:i<=j):tot ls i<=tot ls j:=by
 induction j with
 | zero=>rw [show i=0 by omega];exact ac _
 | succ j ih =>
   by_cases e:i=j+1
   ·rw [e];exact ac _
   ·have:=ih (by omega)
    show tot ls i<=tot ls j+_
    omega
structure Acc (ls:List (List S2)) (k j:Nat) (x:List S2):Prop where
 ticks:∀ s∈x,s.1 < s.2
 low:∀ t,Low x t↔(∃ i,i < k/\Low (ls.getD i []) t)\/Low ((ls.getD k []).take j) t
 len:x.length<=tot ls k+j
theorem Acc.zero (ls:List (List S2)):Acc ls 0 0 []:=⟨fun s h=>by simp at h,fun t=>by
 constructor
 ·exact fun h=>absurd h jI
 ·rintro (⟨i,h,_⟩ | h)
  ·omega
  ·simp at h;exact h,by simp⟩
variable {ls:List (List S2)}
theorem Acc.push (h:Acc ls k j x) (hj:j < (ls.getD k []).length) (ht:fr (ls.getD k []) j < tp (ls.getD k []) j):Acc ls k (j+1) (x ++ [(fr (ls.getD k []) j,tp (ls.getD k []) j)]):=by
 refine ⟨fun s hs=>?_,fun t=>?_,by have:=h.len;simp;omega⟩
 ·rcases eV.1 hs with c | c
  ·exact h.ticks s c
  ·simp at c;subst c;exact ht
 ·rw [fG,h.low,lQ hj,fG,or_assoc]
theorem Acc.skip (h:Acc ls k j x) (hj:j < (ls.getD k []).length) (ht:¬ fr (ls.getD k []) j < tp (ls.getD k []) j):Acc ls k (j+1) x:=by
 refine ⟨h.ticks,fun t=>?_,by have:=h.len;omega⟩;rw [h.low,lQ hj,fG,oP]
 constructor
 ·rintro (c | c)
  ·exact .inl c
  ·exact .inr (.inl c)
 ·rintro (c | c | c)
  ·exact .inl c
  ·exact .inr c
  ·have c1:=c.1;have c2:=c.2;simp at c1 c2;omega
theorem Acc.next (h:Acc ls k (ls.getD k []).length x):Acc ls (k+1) 0 x:=by
 refine ⟨h.ticks,fun t=>?_,by have:=h.len;show x.length<=tot ls k+_+0;omega⟩;rw [h.low,cU]
 constructor
 ·rintro (⟨i,hi,c⟩ | c)
  ·exact .inl ⟨i,by omega,c⟩
  ·exact .inl ⟨k,by omega,c⟩
 ·rintro (⟨i,hi,c⟩ | c)
  ·by_cases e:i=k
   ·subst e;exact .inr c
   ·exact .inl ⟨i,by omega,c⟩
  ·simp at c;exact absurd c jI
structure Cg (ls:List (List S2)) (x:List S2):Prop where
 yR:qz x
 low:∀ t,Low x t↔∃ i,i < ls.length/\Low (ls.getD i []) t
 len:x.length<=tot ls ls.length
theorem YU (h:∀ s,s∈x↔s∈y) (t:Int):Low x t↔Low y t:=⟨fun ⟨s,a,b⟩=>⟨s,(h s).1 a,b⟩,fun ⟨s,a,b⟩=>⟨s,(h s).2 a,b⟩⟩
theorem Cg.of (h:Acc ls ls.length 0 x) (hl:x'.length=x.length) (hm:∀ s,s∈x'↔s∈x) (hu:∀ i j,i<=j->j < x'.length->fr x' i<=fr x' j):Cg ls x':=by
 refine ⟨⟨fun i hi=>h.ticks _ ((hm _).1 (tY hi)),hu⟩,fun t=>?_,by have:=h.len;omega⟩;rw [YU hm,h.low]
 constructor
 ·rintro (c | c)
  ·exact c
  ·simp at c;exact absurd c jI
 ·exact .inl
def Gives (w:World) (P:List S2->Prop) (e:Ending) (w':World):Prop:=∃ v x,e = .returned v/\Sp w' v x/\P x/\Below w.heap.size w w'
def QT (w:World) (ls:List (List S2)) (v:Value) (k j:Nat) (wr:World):Prop:=∃ x,Sp.Own wr w.heap.size 297 v x/\Acc ls k j x/\Below w.heap.size w wr
theorem qx (w:World) (v:Value) (ls:List (List S2)) (h:Rows w v ls) (hlen:tot ls ls.length < 1099511627776):Calls prog 174 #[v] w (Gives w (Cg ls)):=by
 obtain ⟨a,cap,rfl,h1,h2,h3⟩:=h;have H3:=Hh h3;have HT:=Hh hlen;clear h3 hlen;generalize hn:ls.length=n at *;have HN:=Hh hn;clear hn;unfold maxLen at h2
 go_enter func174,ntmps174
 go_wp2
 go_loopw [3,10] (fun v i wr=>∃ k:Nat,k<=n/\i = .int .i64 k/\QT w ls v k 0 wr) (fun _ i _=>n - (intOf i).toNat)
 case atStart=>exact ⟨0,bt _,rfl,[],Sp.Own.nil _ _ _,Acc.zero ls,aa _ _⟩
 case round =>
  obtain ⟨k,hk,rfl,x,hown,hacc,hb⟩:=hrel;have HA:=Hh hacc;clear hacc
  by_cases hlt:k < n
  ·obtain ⟨b,off,rfl,hrows⟩:=H3 (by omega)
   obtain ⟨u,c1,hu⟩:=hrows k (by have:=HN.out;omega);have HR:=Hh hrows;clear hrows;have d1:=gP hb c1;clear c1;obtain ⟨ra,rcap,rfl,r1,r2,r3⟩:=hu;have R3:=Hh r3;clear r3;generalize hm:(ls.getD k []).length=m at *;have HM:=Hh hm;clear hm;unfold maxLen at r2;obtain ⟨wo,rfl⟩:∃ wo:World,wo=wr:=⟨_,rfl⟩;have hw:QT w ls _ k 0 wo:=⟨x,hown,HA,hb⟩;have HW:=Hh hw;clear hw hown hb;have TB:Hid (tot ls k+m<=1099511627775):=by
    have e:=Sj ls (show k+1<=ls.length by have:=HN.out;omega);have e2:tot ls (k+1)=tot ls k+(ls.getD k []).length:=rfl;have:=HT.out;have:=HM.out;have:=HN.out
    show tot ls k+m<=1099511627775
    subst n
    omega
   go_wp2
   go_loopw [3,16] (fun v i wr=>∃ j:Nat,j<=m/\i = .int .i64 j/\QT w ls v k j wr) (fun _ i _=>m - (intOf i).toNat)
   case atStart=>exact ⟨0,bt _,rfl,HW⟩
   case round =>
    obtain ⟨j,hj,rfl,y,hown,hacc,hb⟩:=hrel;have hB:=hb.size;have hyl:=hacc.len;have HAY:=Hh hacc;clear hacc
    by_cases hltj:j < m
    ·obtain ⟨b',off',rfl,hA⟩:=R3 (by omega)
     obtain ⟨c1,c2⟩:=hA j (by have:=HM.out;omega);have HAt:=Hh hA;clear hA;have e1:=gP hb c1;have e2:=gP hb c2;clear c1 c2
     by_cases ht:fr (ls.getD k []) j < tp (ls.getD k []) j
     ·have PU:=Hh (HAY.push (by have:=HM.out;omega) ht)
      generalize fr (ls.getD k []) j=p at *;generalize tp (ls.getD k []) j=q at *;have HT:=Hh ht;clear ht;go_wp2_with fail;refine (aK (bi HT.out) (Bi _ _ _)).mono ?_;rintro e w1 ⟨rfl,b1⟩;have f1:w1.cell? ⟨wr.heap.size,0,none⟩=some (.int .i64 p):=(b1.cell (by simp)).trans (by go_simp);have f2:w1.cell? ⟨wr.heap.size,1,none⟩=some (.int .i64 q):=(b1.cell (by simp)).trans (by go_simp);have z1:=b1.size
      simp at z1
      have hown1:=(hown.alloc (.cells #[.int .i64 p,.int .i64 q] 297)).keep b1;have hb1:=(hb.alloc hB (.cells #[.int .i64 p,.int .i64 q] 297)).trans (b1.mono (B':=w.heap.size) (by simp;omega));clear hown hb b1
      go_wp2_with (at_builtin;refine dU rfl _ _ rfl w.heap.size _ _ rfl (hown1.alloc _) _ p q rfl ?c1 ?c2 ?c3 ?c4 ?_)
      case c1=>go_simp
      case c2=>go_simp
      case c3=>have:=TB.out;omega
      case c4=>simp;omega
      intro v' w2 hown2 hb2
      have R:QT w ls v' k (j+1) w2:=⟨_,hown2,PU,(hb1.alloc (by omega) _).trans hb2⟩;clear hown2 hb2 hown1 hb1 f1 f2;go_wp2
      go_roundw
      case rel=>exact ⟨j+1,by omega,by go_num,R⟩
      case measure=>simp [intOf];omega
     ·have PU:=Hh (HAY.skip (by have:=HM.out;omega) ht)
      generalize fr (ls.getD k []) j=p at *;generalize tp (ls.getD k []) j=q at *;have HT:=Hh ht;clear ht;go_wp2_with fail;refine (aK (ai (show ¬ p < q by have:=HT.out;omega)) (Bi _ _ _)).mono ?_;rintro e w1 ⟨rfl,b1⟩;have R:QT w ls _ k (j+1) w1:=⟨_,(hown.alloc (.cells #[.int .i64 p,.int .i64 q] 297)).keep b1,PU,(hb.alloc hB (.cells #[.int .i64 p,.int .i64 q] 297)).trans (b1.mono (B':=w.heap.size) (by simp;omega))⟩;clear hown hb b1;go_wp2
      go_roundw
      case rel=>exact ⟨j+1,by omega,by go_num,R⟩
      case measure=>simp [intOf];omega
    ·obtain rfl:j=m:=by omega
     have R:QT w ls _ (k+1) 0 wr:=⟨_,hown,(by have:=HAY.out;rw [← HM.out] at this;exact this.next),hb⟩;clear hown hb;go_wp2
     go_roundw
     case rel=>exact ⟨k+1,by omega,by go_num,R⟩
     case measure=>simp [intOf];omega
  ·obtain rfl:k=n:=by omega
   have hxl:x.length < 1099511627776:=by have:=HA.out.len;have:=HT.out;omega
   have hs:=VU wr w.heap.size _ x hown hxl;have HS:=Hh hs;clear hs;go_wp2_with fail;refine HS.mono ?_;rintro e w1 ⟨rfl,hst⟩;have ST:=Hh hst;clear hst;go_wp2
   go_ret
   obtain ⟨x',s1,s2,s3,s4,s5⟩:=ST;exact ⟨_,x',rfl,s1,Cg.of (by rw [HN.out];exact HA.out) s2 s3 s4,hb.trans s5⟩
structure sQ (ls:List (List S2)) (l:List S2):Prop where
 plain:Plain l
 low:∀ t,Low l t↔∃ i,i < ls.length/\Low (ls.getD i []) t
 len:l.length<=tot ls ls.length
structure JC (w w1:World) (S:List S2) (v:Value) (k:Nat) (l:List S2) (wr:World):Prop where
 own:Sp.Own wr w1.heap.size 297 v l
 inv:ig S k l
 len:l.length<=k
 adZ:Below w1.heap.size w1 wr
 aG:Below w.heap.size w w1
theorem kK {v:Value} (h:Sp.Own w B E v l) (hB:B'<=B):Sp.Own w B' E v l:=by
 obtain ⟨h1,h2⟩:=h;refine ⟨h1,?_⟩
 rcases h2 with h2 | ⟨g,cap,cur,e,hg,r⟩
 ·exact .inl h2
 ·exact .inr ⟨g,cap,cur,e,by omega,r⟩
theorem Ky (h:l.length=m+1):l=l.take m ++ [(fr l m,tp l m)]:=by
 have e:=lQ (S:=l) (k:=m) (by omega);rw [← e,← h,cU]
theorem Td (h:l.length=m+1) (x:Int):l.set m (fr l m,x)=l.take m ++ [(fr l m,x)]:=by
 have e:=Ky h;have hm:(l.take m).length=m:=by simp;omega
 generalize fr l m=p at *;generalize tp l m=q at *;generalize l.take m=t at *;subst e;rw [gC _ _ (by omega),hm]
 simp
theorem JC.push {w w1 wr w2:World} {S l:List S2} {v v':Value} {k:Nat} (h:JC w w1 S v k l wr) (hS:qz S) (hk:k < S.length) (hl:l = []\/yh l < fr S k) (hown:Sp.Own w2 w1.heap.size 297 v' (l ++ [(fr S k,tp S k)])) (hb:Below w1.heap.size w1 w2):JC w w1 S v' (k+1) (l ++ [(fr S k,tp S k)]) w2:=by
 refine ⟨hown,h.inv.push hS hk fun x hx=>?_,by have:=h.len;simp;omega,hb,h.aG⟩
 rcases hl with e | e
 ·rw [e] at hx;simp at hx
 ·have:=yM h.inv.plain x hx;omega
theorem JC.grow {w w1 wr w2:World} {S l:List S2} {v:Value} {k m:Nat} (h:JC w w1 S v k l wr) (hk:k < S.length) (hm:l.length=m+1) (hl:fr S k<=tp l m) (hown:Sp.Own w2 w1.heap.size 297 v (l.set m (fr l m,max (tp l m) (tp S k)))) (hb:Below w1.heap.size w1 w2):JC w w1 S v (k+1) (l.set m (fr l m,max (tp l m) (tp S k))) w2:=by
 refine ⟨hown,?_,by have:=h.len;simp;omega,hb,h.aG⟩;have e:=Ky hm;have inv:=h.inv;rw [e] at inv;have g:=inv.grow hk hl (max (tp l m) (tp S k)) (by omega);rw [Td hm];exact g
theorem lK (w:World) (v:Value) (ls:List (List S2)) (h:Rows w v ls) (hlen:tot ls ls.length < 1099511627776):Calls prog 145 #[v] w (Made w (sQ ls)):=by
 have hs:=qx w v ls h hlen;have HS:=Hh hs;obtain ⟨a,cap,rfl,_,_,_⟩:=h;have HT:=Hh hlen;clear hs hlen;generalize hn:ls.length=n at *;have HN:=Hh hn;clear hn
 go_enter func145,ntmps145
 go_wp2_with fail;refine HS.mono ?_;rintro e w1 ⟨v1,S,rfl,hSp,hSo,hb0⟩;obtain ⟨a1,cap1,rfl,r1,r2,r3⟩:=hSp;have R3:=Hh r3;have SO:=Hh hSo;clear r3 hSo;generalize hm:S.length=n1 at *;have HM:=Hh hm;clear hm;unfold maxLen at r2;have hz0:=hb0.size;go_wp2
 go_loopw [3,10] (fun v i wr=>∃ (k:Nat) (l:List S2),k<=n1/\i = .int .i64 k/\JC w w1 S v k l wr) (fun _ i _=>n1 - (intOf i).toNat)
 case atStart=>exact ⟨0,[],bt _,rfl,Sp.Own.nil _ _ _,ig.zero S,by simp,aa _ _,hb0⟩
 case round =>
  obtain ⟨k,l,hk,rfl,hR⟩:=hrel;have HR:=Hh hR;have hb:=hR.adZ;have hB:=hb.size;have hlk:=hR.len;clear hR
  by_cases hlt:k < n1
  ·obtain ⟨b,off,rfl,hA⟩:=R3 (by omega)
   obtain ⟨c1,c2⟩:=hA k (by have:=HM.out;omega);have HA:=Hh hA;clear hA;have d1:=gP hb c1;have d2:=gP hb c2;clear c1 c2;have TB:Hid (l.length < 1099511627776):=by
    have:=SO.len;have:=HT.out;have:=HM.out;have:=HN.out
    show l.length < 1099511627776
    subst n
    omega
   rcases Nat.eq_zero_or_pos l.length with z | z
   ·have NX:=fun v' w2 (h1:Sp.Own w2 w1.heap.size 297 v' (l ++ [(fr S k,tp S k)])) (h2:Below w1.heap.size w1 w2)=>HR.push SO.yR (by have:=HM.out;omega) (.inl (eN.1 z)) h1 h2
    have NX:=Hh NX;obtain ⟨a3,cap3,rfl,_,_⟩:=HR.own.slice;generalize hl:l.length=len at *;have HL:=Hh hl;clear hl;subst z;generalize hp:fr S k=p at *;generalize hq:tp S k=q at *;go_wp2
    go_quiet (fail)
    have hown:=((HR.own.alloc (.cells #[.int .i64 p,.int .i64 q] 297)).draw nq)
    go_wp2_with (at_builtin;refine dU rfl _ _ rfl w1.heap.size _ _ rfl (hown.alloc _) _ p q rfl ?c1 ?c2 ?c3 ?c4 ?_)
    case c1=>go_simp
    case c2=>go_simp
    case c3=>have:=HL.out;omega
    case c4=>simp;omega
    intro v' w2 hown2 hb2
    have R:=NX.out v' w2 hown2 ((db (hb.alloc hB _) nq).alloc (by simp;omega) _ |>.trans hb2);clear hown2 hb2 hown;go_wp2
    go_roundw
    case rel=>exact ⟨k+1,_,by omega,by go_num,R⟩
    case measure=>simp [intOf];omega
   ·obtain ⟨m,hm1⟩:∃ m,l.length=m+1:=⟨l.length - 1,by omega⟩
    obtain ⟨g,cap3,rfl,g1,g2,_,_,_,hcells⟩:=HR.own.form z;obtain ⟨e0,e1,_,f1⟩:=hcells m (by omega);clear hcells z;have hlc:yh l=tp l m:=by rw [Gw l (by omega),hm1];rfl
    by_cases hle:fr S k<=tp l m
    ·have NX:=fun w2 h1 h2=>HR.grow (w2:=w2) (by have:=HM.out;omega) hm1 hle h1 h2
     have NX:=Hh NX;have OW:=Hh HR.own;have ST:=Hh (fun (W:World) (h:Sp.Own W w1.heap.size 297 (.slice (some ⟨g,0,none⟩) l.length cap3) l)=>h.set m (by omega) (max (tp l m) (tp S k)));generalize hl:l.length=len at *;have HL:=Hh hl;clear hl;subst hm1;clear hlc;generalize hp:fr S k=p at *;generalize hq:tp S k=q at *;generalize hp':fr l m=p' at *;generalize hq':tp l m=q' at *;go_wp2
     go_quiet (fail)
     go_wp2;have x0:((wr.alloc (.cells #[.int .i64 p,.int .i64 q] 297)).drewN nq).cell? ⟨wr.heap.size,1,none⟩=some (.int .i64 q):=by go_simp
     have x1:((wr.alloc (.cells #[.int .i64 p,.int .i64 q] 297)).drewN nq).cell? ⟨g,m * 2+1,none⟩=some (.int .i64 q'):=by go_simp
     have x2:((wr.alloc (.cells #[.int .i64 p,.int .i64 q] 297)).drewN nq).frozen? ⟨g,m * 2+1,none⟩=false:=by go_simp
     generalize hwq:(wr.alloc (.cells #[.int .i64 p,.int .i64 q] 297)).drewN nq=wq at x0 x1 x2 ⊢;have HWQ:=Hh hwq;clear hwq
     go_region
     have OQ:Hid (Sp.Own wq w1.heap.size 297 (.slice (some ⟨g,0,none⟩) (m+1) cap3) l):=by
      rw [← HWQ.out];exact (OW.alloc _).draw nq
     have BQ:Hid (Below w1.heap.size w1 wq):=by
      rw [← HWQ.out];exact db (hb.alloc hB _) nq
     have R:=NX.out _ (show Sp.Own ((wq.setCell ⟨g,m * 2+1,none⟩ (.int .i64 (max q' q))).drew) _ _ _ _ from ST wq OQ) ((BQ.setCell (p:=⟨g,m * 2+1,none⟩) g1 _).drew);have R':=Hh R;clear R x0 x1 x2;go_wp2
     go_roundw
     case rel=>exact ⟨k+1,_,by omega,by go_num,R'.out⟩
     case measure=>simp [intOf];omega
    ·have NX:=fun v' w2 (h1:Sp.Own w2 w1.heap.size 297 v' (l ++ [(fr S k,tp S k)])) (h2:Below w1.heap.size w1 w2)=>HR.push SO.yR (by have:=HM.out;omega) (.inr (by omega)) h1 h2
     have NX:=Hh NX;have OW:=Hh HR.own;generalize hl:l.length=len at *;have HL:=Hh hl;clear hl;subst hm1;clear hlc;generalize hp:fr S k=p at *;generalize hq:tp S k=q at *;generalize hq':tp l m=q' at *;go_wp2
     go_quiet (fail)
     have hown:=((OW.alloc (.cells #[.int .i64 p,.int .i64 q] 297)).draw nq)
     go_wp2_with (at_builtin;refine dU rfl _ _ rfl w1.heap.size _ _ rfl (hown.alloc _) _ p q rfl ?c1 ?c2 ?c3 ?c4 ?_)
     case c1=>go_simp
     case c2=>go_simp
     case c3=>have:=HL.out;have:=TB.out;omega
     case c4=>simp;omega
     intro v' w2 hown2 hb2
     have R:=NX.out v' w2 hown2 ((db (hb.alloc hB _) nq).alloc (by simp;omega) _ |>.trans hb2);clear hown2 hb2 hown;go_wp2
     go_roundw
     case rel=>exact ⟨k+1,_,by omega,by go_num,R⟩
     case measure=>simp [intOf];omega
  ·obtain rfl:k=n1:=by omega
   have inv:=HR.inv;rw [← HM.out] at inv;have al:=inv.all;have J:sQ ls l:=⟨al.1,fun t=>(al.2 t).trans (SO.low t),by have:=SO.out.len;have:=HM.out;omega⟩;have JJ:=Hh J;have OW:=Hh (kK HR.own hz0);have BB:=Hh (HR.aG.trans (hb.mono hz0));clear inv al J;go_wp2
   go_ret
   exact ⟨_,l,rfl,OW,JJ,BB⟩
end Wi
namespace Bu
open Sp (S2 fr tp Sp)
open Wi (Rows tot sQ)
open Ck (KS)
structure vT (w:World) (v:Value) (hs:List Hd) (ls:List (List S2)) (Q:Int->Prop) (k:Nat) (wr:World):Prop where
 own:Ow KS wr w.heap.size 213 v hs
 el:∀ i,i < hs.length->Sp.Own wr w.heap.size 297 (sl (hs.getD i zh)) (ls.getD i [])
 ll:ls.length=hs.length
 few:∀ i,i < ls.length->(ls.getD i []).length<=4294967297
 low:∀ u,(∃ i,i < ls.length/\Low (ls.getD i []) u)↔Q u
 len:hs.length<=k
 aG:Below w.heap.size w wr
section
variable {w wr w':World} {v v':Value} {hs:List Hd} {ls:List (List S2)} {Q Q':Int->Prop} {k:Nat}
theorem vT.start (w:World) (b:Below w.heap.size w wr) (hQ:∀ u,¬ Q u):vT w (.slice none 0 0) [] [] Q 0 wr :=
 ⟨Ow.nil _ _ _,fun _ hi=>absurd hi (fw _),rfl,fun _ hi=>absurd hi (fw _),fun u=>⟨fun ⟨_,hi,_⟩=>absurd hi (fw _),fun h=>absurd h (hQ u)⟩,ac _,b⟩
theorem vT.below (h:vT w v hs ls Q k wr) (b:Below wr.heap.size wr w'):vT w v hs ls Q k w':=⟨h.own.keep b,fun i hi=>(h.el i hi).keep b,h.ll,h.few,h.low,h.len,h.aG.trans (b.mono h.aG.size)⟩
theorem vT.to (h:vT w v hs ls Q k wr) (e:∀ u,Q' u↔Q u):vT w v hs ls Q' (k+1) wr:=⟨h.own,h.el,h.ll,h.few,fun u=>(h.low u).trans (e u).symm,Nat.le_succ_of_le h.len,h.aG⟩
variable {l x:List S2}
theorem AM {B E B' E' n m:Nat} {f:List Value} (h:Sp.Own wr B E v l) (h':wr.ownsRow B' E' n v' m f) (hE:E≠E') (gr:wr.grownBy w' v'.ownBlock):Sp.Own w' B E v l:=by
 obtain ⟨h1,h2⟩:=h;refine ⟨h1,?_⟩
 rcases h2 with h2 | ⟨g,cap,cur,e,hB,hh,r⟩
 ·exact .inl h2
 ·refine .inr ⟨g,cap,cur,e,hB,(gr.block g (bm hh) fun q=>?_).trans hh,r⟩
  obtain ⟨_,h'⟩:=h'
  rcases h' with ⟨rfl,_⟩ | ⟨g',cap',cur',rfl,_,hh',_⟩
  ·cases q
  ·simp only [Value.ownBlock,eJ] at q
   subst q;rw [hh] at hh';simp only [eJ,Obj.cells.injEq] at hh';exact hE hh'.2.1
theorem jP {α:Type} (l:List α) (x d:α) (i:Nat):(l ++ [x]).getD i d=if i < l.length then l.getD i d else if i=l.length then x else d:=by
 rw [af,List.getElem?_append]
 split
 ·rw [af]
 ·split
  ·rename_i h;subst h;simp
  ·rw [eI (by simp;omega)];rfl
theorem vT.push {h:Hd} (I:vT w v hs ls Q k wr) (o:Sp.Own wr w.heap.size 297 (sl h) l) (hf:l.length<=4294967297) (own:Ow KS w' w.heap.size 213 v' (hs ++ [h])) (gr:wr.grownBy w' v.ownBlock) (hQ:∀ u,Q' u↔Q u\/Low l u) :
 vT w v' (hs ++ [h]) (ls ++ [l]) Q' (k+1) w':=by
 refine ⟨own,fun i hi=>?_,by simp [I.ll],fun i hi=>?_,fun u=>?_,by simp;exact I.len,I.aG.grown gr I.aG.size fun j e=>(ci I.own j e).1⟩
 ·rw [jP,jP,I.ll]
  simp only [cI,gE] at hi
  split
  ·rename_i q;exact AM (I.el i q) I.own (by decide) gr
  ·rw [aw (by omega),aw (by omega)]
   exact AM o I.own (by decide) gr
 ·rw [jP]
  split
  ·rename_i q;exact I.few i q
  ·split
   ·exact hf
   ·exact bt _
 ·rw [hQ u,← I.low u]
  constructor
  ·rintro ⟨i,hi,c⟩
   rw [jP] at c
   split at c
   ·rename_i q;exact .inl ⟨i,q,c⟩
   ·split at c
    ·exact .inr c
    ·exact absurd c jI
  ·rintro (⟨i,hi,c⟩ | c)
   ·exact ⟨i,by simp;omega,by rw [jP,aw hi];exact c⟩
   ·exact ⟨ls.length,by simp,by rw [jP,if_neg (Nat.lt_irrefl _),if_pos rfl];exact c⟩
theorem vT.rows (I:vT w v hs ls Q k wr):Wi.Rows wr v ls:=by
 obtain ⟨a,cap,e,h1,h2,h3⟩:=I.own.rd;rw [← I.ll] at e h1 h3;refine ⟨a,cap,e,h1.1,h2,fun hp=>?_⟩;obtain ⟨b,off,ea,hA⟩:=h3 hp;refine ⟨b,off,ea,fun i hi=>⟨_,?_,(I.el i (by rw [← I.ll];exact hi)).sp⟩⟩;have c:=hA i (by rw [← I.ll];exact hi) 0 _ rfl;simp only [KS,Nat.mul_one,Nat.add_zero] at c;exact c
theorem KH (ls:List (List S2)) (h:∀ i,i < ls.length->(ls.getD i []).length<=4294967297):∀ n,n<=ls.length->tot ls n<=n * 4294967297
 | 0,_=>ac _
 | n+1,hn=>by
   have:=KH ls h n (by omega);have:=h n (by omega)
   show tot ls n+_<=_
   omega
theorem vT.tot (I:vT w v hs ls Q k wr) (hk:k<=100):tot ls ls.length < 1099511627776:=by
 have:=KH ls I.few ls.length (ac _);have:=I.ll;have:=I.len
 omega
theorem vT.join (I:vT w v hs ls Q k wr) (j:sQ ls x):Plain x/\∀ u,Low x u↔Q u:=⟨j.plain,fun u=>(j.low u).trans (I.low u)⟩
theorem vT.slice (I:vT w v hs ls Q k wr):∃ a cap,v = .slice a hs.length cap/\cap<=maxLen:=by
 obtain ⟨a,cap,e,_,h⟩:=I.own.slice;exact ⟨a,cap,e,h⟩
end
theorem yB:(prog.info? 213).map (fun i=>(i.zero,i.size,i.bytes))=some (some (.slice none 0 0),1,24):=by kernel_rfl
section
end
end Bu
namespace Tk
structure Bd (A R:Nat->Int) (n k:Nat):Prop where
 f0:0<=fr A k
 f1:fr A k<=4294967296
 r0 : -20000<=rt R k
 r1:rt R k<=20000
 s0:0<=sm A R k
 s1:sm A R k<=4380866641920
variable {A R:Nat->Int} {n:Nat}
theorem Bd.of (g:bG n A R) (k:Nat) (h:k<=n):0<=sm A R k/\sm A R k<=4380866641920000:=by
 have f:=ZY g k h;have s:=aak g k h
 omega
theorem JM (g:bG n A R) (k:Nat) (h:k<=n) (d:Int) (h0:0<=d) (h1:d<=4294967296):0<=d * (1000000+rt R k)/\d * (1000000+rt R k)<=4380866641920000:=by
 have b:=Gi g k h;have m:=JN (d:=d) (c:=1000000+rt R k) h0 (by omega) (by omega)
 omega
theorem Km (w:World) (a:Option Addr) (cap:Nat) (t:Int) (h0:0<=t) (h1:t<=4294967296) (A R:Nat->Int):Calls prog 207 #[.slice a 0 cap,.int .i64 t] w fun e w'=>e = .returned (.int .i64 (PP A R 0 t))/\Below w.heap.size w w':=by
 have e:PP A R 0 t=t * 1000000:=by
  rw [qX (⟨ac _,fun i h=>by omega,fun h=>by omega⟩:fQ A 0 t 0)]
  show 0+(t - 0) * (1000000+0)=_
  omega
 rw [e]
 go_enter func207,ntmps207
 go_wp2
 go_loopw [5,6,7,12] (fun s f r i wr=>i = .int .i64 0/\s = .int .i64 0/\f = .int .i64 0/\r = .int .i64 0/\Below w.heap.size w wr) (fun _ _ _ _ _=>0)
 case atStart=>exact ⟨rfl,rfl,rfl,rfl,aa _ _⟩
 case round =>
  obtain ⟨rfl,rfl,rfl,rfl,hb⟩:=hrel;go_wp2
  go_ret
  exact ⟨bY (by omega),hb⟩
theorem JU (w:World) (b off n cap:Nat) (A R:Nat->Int) (g:bG n A R) (t:Int) (h0:0<=t) (h1:t<=4294967296)
 (hc:∀ i,i < n->w.cell? ⟨b,off+i * 2,none⟩=some (.int .i64 (A i))/\w.cell? ⟨b,off+i * 2+1,none⟩=some (.int .i64 (R i))) :
 Calls prog 207 #[.slice (some ⟨b,off,none⟩) n cap,.int .i64 t] w fun e w'=>e = .returned (.int .i64 (PP A R n t))/\Below w.heap.size w w':=by
 have HC:=Hh hc;clear hc;have G:=Hh g;clear g;have hn:=G.len
 go_enter func207,ntmps207
 go_wp2
 go_loopw [5,6,7,12] (fun s f r i wr=>∃ k:Nat,k<=n/\i = .int .i64 k/\s = .int .i64 (sm A R k)/\f = .int .i64 (fr A k)/\r = .int .i64 (rt R k)/\Hid (∀ i,i < k->A i < t)/\Below w.heap.size w wr) (fun _ _ _ i _=>n - (intOf i).toNat)
 case atStart=>exact ⟨0,bt _,rfl,rfl,rfl,rfl,fun i h=>by omega,aa _ _⟩
 case round =>
  obtain ⟨k,hk,rfl,rfl,rfl,rfl,hs,hb⟩:=hrel;have fb:=ZY G k hk;have rb:=Gi G k hk;have sb:=Bd.of G k hk
  by_cases hlt:k < n
  ·obtain ⟨c1,c2⟩:=HC k hlt
   have d1:=gP hb c1;have d2:=gP hb c2;clear c1 c2;have ab:=G.at_ k hlt;have fa:=ZO G k hlt;have mb:=JM G k hk (A k - fr A k) (by omega) (by omega)
   by_cases ht:t<=A k
   ·have hst:fQ A n t k:=⟨hk,hs,fun _=>ht⟩
    have ft:=Dz h0 hst;have mc:=JM G k hk (t - fr A k) (by omega) (by omega);have HP:=Hh (qX (R:=R) hst);clear hst;go_wp2
    go_ret
    exact ⟨bY (by rw [HP.out];rfl),hb.alloc hb.size _⟩
   ·go_wp2
    go_quiet (fail)
    go_wp2
    go_roundw
    case rel=>exact ⟨k+1,by omega,by go_num,rfl,rfl,rfl,(fun i hi=>by
     by_cases e:i=k
     ·subst e;omega
     ·exact hs i (by omega)),db (hb.alloc hb.size _) _⟩
    case measure=>simp [intOf];omega
  ·obtain rfl:k=n:=by omega
   have hst:fQ A k t k:=⟨hk,hs,fun h=>by omega⟩;have ft:=Dz h0 hst;have mc:=JM G k hk (t - fr A k) (by omega) (by omega);have HP:=Hh (qX (R:=R) hst);clear hst;go_wp2
   go_ret
   exact ⟨bY (by rw [HP.out];rfl),hb⟩
theorem Al (w:World) (v:Value) (n:Nat) (A R:Nat->Int) (h:Steps w v n A R) (g:bG n A R) (t:Int) (h0:0<=t) (h1:t<=4294967296) :
 Calls prog 207 #[v,.int .i64 t] w fun e w'=>e = .returned (.int .i64 (PP A R n t))/\Below w.heap.size w w':=by
 rcases h with ⟨a,cap,rfl,_,rfl⟩ | ⟨b,off,cap,rfl,_,_,hc⟩
 ·exact Km w a cap t h0 h1 A R
 ·exact JU w b off n cap A R g t h0 h1 hc
theorem tZ (w:World) (v:Value) (n:Nat) (A R:Nat->Int) (h:Steps w v n A R) (g:bG n A R) (t:Int) :
 Calls prog 178 #[v,.int .i64 t] w fun e w'=>e = .returned (.int .i64 (Loc A R n t))/\Below w.heap.size w w':=by
 have G:=Hh g;clear g;have S:=Hh h;clear h
 by_cases ht:t<=0
 ·have e:Loc A R n t=0:=by
   have c:jX t=0:=by unfold jX;split <;> (try split) <;> omega
   rw [Loc,c,oU G.out];rfl
  have E:=Hh e;clear e
  go_enter func178,ntmps178
  go_wp2
  go_ret
  exact ⟨bY E.symm,aa _ _⟩
 ·by_cases hm:t<=4294967296
  ·have p:=Al w v n A R S G t (by omega) hm
   have mn:=Int.min_eq_left hm;have pb:=Ah G t (by omega);have P:=Hh p;clear p;have e:Loc A R n t=PP A R n t / 1000000:=by rw [Loc,gz (by omega) hm]
   have E:=Hh e;clear e
   go_enter func178,ntmps178
   go_wp2_with fail;refine P.mono ?_;rintro e w' ⟨rfl,hb⟩;go_wp2
   go_ret
   exact ⟨bY E.symm,hb⟩
  ·have p:=Al w v n A R S G 4294967296 (by omega) (by omega)
   have mn:min t 4294967296=4294967296:=by omega
   have pb:=Ah G 4294967296 (by omega);have P:=Hh p;clear p;have e:Loc A R n t=PP A R n 4294967296 / 1000000:=by
    have c:jX t=4294967296:=by unfold jX;split <;> (try split) <;> omega
    rw [Loc,c]
   have E:=Hh e;clear e
   go_enter func178,ntmps178
   go_wp2_with fail;refine P.mono ?_;rintro e w' ⟨rfl,hb⟩;go_wp2
   go_ret
   exact ⟨bY E.symm,hb⟩
theorem Steps.drew {w:World} {v:Value} {n:Nat} {A R:Nat->Int} (h:Steps w v n A R):Steps w.drew v n A R:=h.below (aa _ _).drew
theorem xH (w:World) (bl bn:Nat) (v:Value) (n:Nat) (A R:Nat->Int) (m t:Int) (S:Steps w v n A R) (g:bG n A R)
 (hl:w.cell? ⟨bl,0,none⟩=some v) (hn:w.cell? ⟨bn,0,none⟩=some (.int .i64 m)) :
 Calls prog 177 (#[.int .i64 t] ++ #[.pointer (some ⟨bl,0,none⟩),.pointer (some ⟨bn,0,none⟩)]) w fun e w'=>e = .returned (.bool (decide (m<=Loc A R n t)))/\Below w.heap.size w w':=by
 have LC:Hid (∀ W,Below w.heap.size w W->Calls prog 178 #[v,.int .i64 t] W fun e w'=>e = .returned (.int .i64 (Loc A R n t))/\Below W.heap.size W w'):=fun W hW=>tZ W v n A R (S.below hW) g t;have hlt:=bj _ _ hn;clear S g
 go_enter func177,ntmps177
 go_wp2_with fail
 go_region_with (go_at_call 178;refine (LC _ ?_).mono ?_;exact (aa _ _).drew;rintro e w1 ⟨rfl,hb⟩;have hn1:=(hb.cell hlt).trans hn)
 all_goals go_wp2
 all_goals go_ret
 all_goals exact ⟨rfl,(aa _ _).drew.trans hb⟩
theorem ab7 {m lo hi:Int} (g:bG n A R) (h:¬ m<=Loc A R n ((lo+hi) / 2)):∀ t,0<=t->t < (lo+hi) / 2+1->Loc A R n t < m:=fun t _ h1=>by
 have:=TS g (show t<=(lo+hi) / 2 by omega)
 omega
theorem Je (w:World) (bl bn:Nat) (v:Value) (n:Nat) (A R:Nat->Int) (m:Int) (S:Steps w v n A R) (g:bG n A R)
 (hl:w.cell? ⟨bl,0,none⟩=some v) (hn:w.cell? ⟨bn,0,none⟩=some (.int .i64 m)) :
 Calls prog 176 #[.int .i64 4294967296,.func (.func 177) #[] #[.pointer (some ⟨bl,0,none⟩),.pointer (some ⟨bn,0,none⟩)]] w fun e w'=>e = .returned (.int .i64 (dx A R n m))/\Below w.heap.size w w':=by
 have CC:Hid (∀ W t,Below w.heap.size w W->Calls prog 177 (#[.int .i64 t] ++ #[.pointer (some ⟨bl,0,none⟩),.pointer (some ⟨bn,0,none⟩)]) W fun e w'=>e = .returned (.bool (decide (m<=Loc A R n t)))/\Below w.heap.size W w'):=fun W t hW =>
  (xH W bl bn v n A R m t (S.below hW) g (gP hW hl) (gP hW hn)).mono fun e w' ⟨h1,h2⟩=>⟨h1,h2.mono hW.size⟩
 have G:=Hh g;clear S g hl hn
 go_enter func176,ntmps176
 go_wp2
 go_loopw [5,6] (fun i j wr=>∃ lo hi:Int,0<=lo/\lo<=hi/\hi<=4294967296/\i = .int .i64 lo/\j = .int .i64 hi/\Hid (∀ t,0<=t->t < lo->Loc A R n t < m)/\Hid (hi < 4294967296->m<=Loc A R n hi)/\Below w.heap.size w wr) (fun i j _=>(intOf j - intOf i).toNat)
 case atStart=>exact ⟨0,4294967296,by omega,by omega,by omega,rfl,rfl,fun t a b=>by omega,fun h=>by omega,aa _ _⟩
 case round =>
  obtain ⟨lo,hi,h0,h1,h2,rfl,rfl,il,ih,hb⟩:=hrel
  by_cases hlt:lo < hi
  ·by_cases hm:m<=Loc A R n ((lo+hi) / 2)
   ·have HM:=Hh hm
    have hd:decide (m<=Loc A R n ((lo+hi) / 2))=true:=bi hm;have c:=CC.out wr ((lo+hi) / 2) hb;rw [hd] at c;have C:=Hh c;clear c hd hm;go_wp2_with fail;refine C.mono ?_;rintro e w1 ⟨rfl,hb1⟩;go_wp2
    go_roundw
    case rel=>exact ⟨lo,(lo+hi) / 2,h0,by omega,by omega,rfl,rfl,il,fun _=>HM.out,hb.trans hb1⟩
    case measure=>simp [intOf];omega
   ·have HM:=Hh hm
    have hd:decide (m<=Loc A R n ((lo+hi) / 2))=false:=ai hm;have c:=CC.out wr ((lo+hi) / 2) hb;rw [hd] at c;have C:=Hh c;clear c hd hm;go_wp2_with fail;refine C.mono ?_;rintro e w1 ⟨rfl,hb1⟩;go_wp2
    go_roundw
    case rel=>exact ⟨(lo+hi) / 2+1,hi,by omega,by omega,by omega,rfl,rfl,ab7 G.out (by have:=HM.out;omega),ih,hb.trans hb1⟩
    case measure=>simp [intOf];omega
  ·obtain rfl:lo=hi:=by omega
   go_wp2
   go_ret
   exact ⟨bY (Dc (JD.YV h0 h2 il ih)).symm,hb⟩
theorem Steps.slice {w:World} {v:Value} {n:Nat} {A R:Nat->Int} (S:Steps w v n A R):∃ a l cap,v = .slice a l cap:=by
 rcases S with ⟨a,cap,rfl,_⟩ | ⟨b,off,cap,rfl,_⟩
 ·exact ⟨_,_,_,rfl⟩
 ·exact ⟨_,_,_,rfl⟩
theorem jc (w:World) (v:Value) (n:Nat) (A R:Nat->Int) (m:Int) (S:Steps w v n A R) (g:bG n A R) :
 Calls prog 148 #[v,.int .i64 m] w fun e w'=>e = .returned (.int .i64 (dx A R n m))/\Below w.heap.size w w':=by
 obtain ⟨a,l,cap,rfl⟩:=S.slice;have hb:Below w.heap.size w ((w.alloc (.cells #[.slice a l cap] 163)).alloc (.cells #[.int .i64 m] 3)):=((aa _ _).alloc (ac _) _).alloc (by simp) _;have c:=Je ((w.alloc (.cells #[.slice a l cap] 163)).alloc (.cells #[.int .i64 m] 3)) w.heap.size (w.heap.size+1) (.slice a l cap) n A R m (S.below hb) g (by go_simp) (by go_simp);have C:=Hh c;have HB:=Hh hb;clear c hb S g;have hmf:∀ (fn:Fn) (first cap:Array Value) (w:World),(Instr.makeFunc fn first cap).run prog w = .ok (.func fn first cap) w:=fun _ _ _ _=>rfl
 go_enter func148,ntmps148
 go_wp2_with fail;refine C.mono ?_;rintro e w1 ⟨rfl,hb1⟩;go_wp2
 go_ret
 exact ⟨rfl,HB.trans (hb1.mono (by simp;omega))⟩
end Tk
namespace Se
open Go.Proofs.YtpepoackmcohlaaGreatDoor.Tk
theorem Jm (w:World) (v:Value) (n:Nat) (A R:Nat->Int) (S:Tk.Steps w v n A R) (g:bG n A R) (m d:Int) (m0:0<=m) (m1:m<=4294967296) (d0:0<=d) (d1:d<=4294967296) :
 Calls prog 202 #[v,.int .i64 m,.int .i64 d] w fun e w'=>e = .returned (.agg #[.int .i64 (dx A R n m),.int .i64 (dx A R n (m+d))])/\Below w.heap.size w w':=by
 have hb0:Below w.heap.size w (w.alloc (.cells #[.int .i64 0,.int .i64 0] 297)):=(aa _ _).alloc (ac _) _;have S0:=Hh (S.below hb0);have G:=Hh g;have HB:=Hh hb0;clear S g hb0
 go_enter func202,ntmps202
 go_wp2_with fail;refine (jc _ _ _ _ _ _ S0 G).mono ?_;rintro e w1 ⟨rfl,b1⟩;have S1:=Hh (S0.below b1);have c0:w1.cell? ⟨w.heap.size,0,none⟩=some (.int .i64 0):=(b1.cell (by simp)).trans (by go_simp);have c1:w1.cell? ⟨w.heap.size,1,none⟩=some (.int .i64 0):=(b1.cell (by simp)).trans (by go_simp);have f0:w1.frozen? ⟨w.heap.size,0,none⟩=false:=(b1.frozen (by simp)).trans (by go_simp);have f1:w1.frozen? ⟨w.heap.size,1,none⟩=false:=(b1.frozen (by simp)).trans (by go_simp);have z1:=b1.size
 simp at z1
 have B1:=Hh (HB.trans (b1.mono (B':=w.heap.size) (by simp)));clear b1;have F0:=Hh f0;have F1:=Hh f1;have C0:=Hh c0;have C1:=Hh c1;clear c0 c1 f0 f1;go_wp2_with fail;refine (jc _ _ _ _ _ _ S1 G).mono ?_;rintro e w2 ⟨rfl,b2⟩;have c0:w2.cell? ⟨w.heap.size,0,none⟩=some (.int .i64 0):=(b2.cell (by show w.heap.size < w1.heap.size;omega)).trans C0.out;have c1:w2.cell? ⟨w.heap.size,1,none⟩=some (.int .i64 0):=(b2.cell (by show w.heap.size < w1.heap.size;omega)).trans C1.out;have f0:w2.frozen? ⟨w.heap.size,0,none⟩=false:=(b2.frozen (by show w.heap.size < w1.heap.size;omega)).trans F0.out;have f1:w2.frozen? ⟨w.heap.size,1,none⟩=false:=(b2.frozen (by show w.heap.size < w1.heap.size;omega)).trans F1.out;have z2:=b2.size;have B2:=Hh (B1.trans (b2.mono (B':=w.heap.size) (by omega)));clear b2;go_wp2;refine bo (v:=.agg #[.int .i64 (dx A R n m),.int .i64 (dx A R n (m+d))]) (by simp [results,results202,go_sem,c0,c1]) rfl ⟨rfl,?_⟩;exact (B2.setCell (by simp) _).setCell (by simp) _
end Se
namespace Ua
theorem zT (F:Nat->Bool) (k:Nat) (h:k < 11) (w:World):(Instr.index 222 (.agg (arr F)) (.int .i64 k)).run prog w = .ok (.bool (F k)) w:=by
 have hg:=Kw F k h;have hk:¬ 11<=k:=by omega
 simp [Instr.index,asIntOf,run_underlying underlying222,go_sem,part,hg,hk]
end Ua
namespace Wi
open Go.Proofs.YtpepoackmcohlaaGreatDoor.Sp
theorem Xi (t:Int) (l:List S2):decide (0<=idx (KG t) l)=gD l t:=by
 rcases Az (KG t) l with ⟨i,hi,hp,_,e⟩ | ⟨hn,e⟩
 ·rw [e]
  have:=yL.2 (KM.2 ⟨i,hi,by simpa [KG] using hp⟩);rw [this];simp
 ·rw [e]
  have:gD l t=false:=yj.2 fun h=>by
   obtain ⟨i,hi,h1,h2⟩:=KM.1 h;have:=hn i hi
   simp [KG,h1] at this
   omega
  rw [this];simp
def rP (g:Nat) (lb:Array Value) (p:S2->Bool) (w:World):Prop :=
 ∀ (W:World) (a b:Int),Below w.heap.size w W->Calls prog g (#[.agg #[.int .i64 a,.int .i64 b]] ++ lb) W fun e w'=>e = .returned (.bool (p (a,b)))/\Below w.heap.size w w'
theorem jO (w:World) (v:Value) (l:List S2) (g:Nat) (lb:Array Value) (p:S2->Bool) (eg:∀ args w,(callFunc g args).run prog w = .ok (.enter g args) w) (h:Sp w v l) (hp:rP g lb p w) :
 Calls prog 208 #[v,.func (.func g) #[] lb] w fun e w'=>e = .returned (.int .i64 (idx p l))/\Below w.heap.size w w':=by
 obtain ⟨a,cap,rfl,h1,h2,h3⟩:=h;have H3:=Hh h3;have HP:=Hh hp;have hhit:∀ i,i < l.length->p (fr l i,tp l i)=true->(∀ j,j < i->p (fr l j,tp l j)=false)->idx p l=i:=fun i=>CG;have hmiss:(∀ j,j < l.length->p (fr l j,tp l j)=false)->idx p l = -1:=yF;have HH:=Hh hhit;have HM:=Hh hmiss;clear h3 hp hhit hmiss;generalize hr:idx p l=r at *;clear hr;generalize hn:l.length=n at *;have HN:=Hh hn;clear hn;unfold maxLen at h2
 go_enter func208,ntmps208
 go_wp2
 go_loopw [8] (fun i wr=>∃ k:Nat,k<=n/\i = .int .i64 k/\Hid (∀ j,j < k->p (fr l j,tp l j)=false)/\Hid (Below w.heap.size w wr)) (fun i _=>n - (intOf i).toNat)
 case atStart=>exact ⟨0,bt _,rfl,fun j hj=>by omega,aa _ _⟩
 case round =>
  obtain ⟨k,hk,rfl,hs,hb⟩:=hrel
  by_cases hlt:k < n
  ·obtain ⟨b,off,rfl,hA⟩:=H3 (by omega)
   obtain ⟨c1,c2⟩:=hA k (by have:=HN.out;omega);have HA:=Hh hA;clear hA;have d1:=gP hb c1;have d2:=gP hb c2;clear c1 c2;have hc:=HP.out wr (fr l k) (tp l k) hb
   cases hq:p (fr l k,tp l k) with
   | true =>
     rw [hq] at hc;have C:=Hh hc;have HR:=Hh (HH k hlt hq hs);clear hc hq;go_wp2_with fail;refine C.mono ?_;rintro e w1 ⟨rfl,b1⟩;go_wp2
     go_ret
     exact ⟨bY HR.symm,b1⟩
   | false =>
     rw [hq] at hc;have C:=Hh hc;have ST:Hid (∀ j,j < k+1->p (fr l j,tp l j)=false):=fun j hj=>by
      by_cases e:j=k
      ·rw [e];exact hq
      ·exact hs j (by omega)
     clear hc hq;go_wp2_with fail;refine C.mono ?_;rintro e w1 ⟨rfl,b1⟩;have B1:=Hh b1;clear b1;go_wp2
     go_roundw
     case rel=>exact ⟨k+1,by omega,by go_num,ST,B1⟩
     case measure=>simp [intOf];omega
  ·obtain rfl:k=n:=by omega
   have HR:=Hh (HM hs);go_wp2
   go_ret
   exact ⟨bY HR.symm,hb⟩
theorem mM (w:World) (v:Value) (l:List S2) (g:Nat) (lb:Array Value) (p:S2->Bool) (eg:∀ args w,(callFunc g args).run prog w = .ok (.enter g args) w) (h:Sp w v l) (hp:rP g lb p w) :
 Calls prog 228 #[v,.func (.func g) #[] lb] w fun e w'=>e = .returned (.bool (decide (0<=idx p l)))/\Below w.heap.size w w':=by
 have C:=Hh (jO w v l g lb p eg h hp);clear eg h hp;generalize idx p l=r at *
 go_enter func228,ntmps228
 go_wp2_with fail;refine C.mono ?_;rintro e w1 ⟨rfl,b1⟩;go_wp2
 go_ret
 exact ⟨rfl,b1⟩
theorem PW (w:World) (B:Nat) (t:Int) (hc:w.cell? ⟨B,0,none⟩=some (.int .i64 t)):rP 229 #[.pointer (some ⟨B,0,none⟩)] (KG t) w:=fun W a b hb=>by
 have hlt:=bj _ _ hc;have d:=(hb.cell hlt).trans hc;have hz:=hb.size;have hBW:=cd hlt hz;clear hc hlt
 show Calls prog 229 #[.agg #[.int .i64 a,.int .i64 b],.pointer (some ⟨B,0,none⟩)] W _
 by_cases h1:a<=t
 ·by_cases h2:t < b
  ·have e:KG t (a,b)=true:=by simp [KG,h1,h2]
   rw [e];clear e;have HB:=Hh (hb.alloc hz (.cells #[.int .i64 a,.int .i64 b] 297));clear hb
   go_enter func229,ntmps229
   go_wp2
   go_ret
   exact ⟨rfl,HB⟩
  ·have e:KG t (a,b)=false:=by simp [KG,h2]
   rw [e];clear e;have HB:=Hh (hb.alloc hz (.cells #[.int .i64 a,.int .i64 b] 297));clear hb
   go_enter func229,ntmps229
   go_wp2
   go_ret
   exact ⟨rfl,HB⟩
 ·have e:KG t (a,b)=false:=by simp [KG,h1]
  rw [e];clear e;have HB:=Hh (hb.alloc hz (.cells #[.int .i64 a,.int .i64 b] 297));clear hb
  go_enter func229,ntmps229
  go_wp2
  go_ret
  exact ⟨rfl,HB⟩
theorem zf (w:World) (v:Value) (l:List S2) (h:Sp w v l) (t:Int):Calls prog 217 #[v,.int .i64 t] w fun e w'=>e = .returned (.bool (!gD l t))/\Below w.heap.size w w':=by
 have eg:=enters_of func229 (by kernel_rfl) rfl;have hb:Below w.heap.size w (w.alloc (.cells #[.int .i64 t] 3)):=(aa _ _).alloc (ac _) _;have c:=mM (w.alloc (.cells #[.int .i64 t] 3)) v l 229 #[.pointer (some ⟨w.heap.size,0,none⟩)] (KG t) eg (h.below hb) (PW _ _ _ (by go_simp));rw [Xi] at c;have C:=Hh c;have HB:=Hh hb;obtain ⟨a,cap,rfl,_⟩:=h.slice;clear c hb h eg;have hmf:∀ (fn:Fn) (first cap:Array Value) (w:World),(Instr.makeFunc fn first cap).run prog w = .ok (.func fn first cap) w:=fun _ _ _ _=>rfl;generalize gD l t=r at *
 go_enter func217,ntmps217
 go_wp2_with fail;refine C.mono ?_;rintro e w1 ⟨rfl,b1⟩;go_wp2
 go_ret
 exact ⟨rfl,HB.trans (b1.mono (by simp))⟩
theorem FW {v:Int×Bool} {a:Int} {b:Bool} (h:v=(a,b)):Ending.returned (.tuple #[.int .i64 a,.bool b]) = .returned (.tuple #[.int .i64 v.1,.bool v.2]):=by subst h;rfl
def Fa (w:World) (l:List S2) (f t:Int) (e:Ending) (w':World):Prop:=∃ x,dM l x/\e = .returned (.tuple #[.int .i64 (gW x f t).1,.bool (gW x f t).2])/\Below w.heap.size w w'
theorem Ol (w:World) (B C:Nat) (f t:Int) (hf:w.cell? ⟨B,0,none⟩=some (.int .i64 f)) (ht:w.cell? ⟨C,0,none⟩=some (.int .i64 t)):rP 209 #[.pointer (some ⟨B,0,none⟩),.pointer (some ⟨C,0,none⟩)] (iW f t) w:=fun W a b hb=>by
 have hltB:=bj _ _ hf;have hltC:=bj _ _ ht;have d:=(hb.cell hltB).trans hf;have d':=(hb.cell hltC).trans ht;have hz:=hb.size;have hBW:B < W.heap.size:=cd hltB hz;have hCW:C < W.heap.size:=cd hltC hz;have HB:=Hh (hb.alloc hz (.cells #[.int .i64 a,.int .i64 b] 297));clear hf ht hltB hltC hb
 show Calls prog 209 #[.agg #[.int .i64 a,.int .i64 b],.pointer (some ⟨B,0,none⟩),.pointer (some ⟨C,0,none⟩)] W _
 by_cases h1:f<=a
 ·by_cases h2:a < t
  ·have e:iW f t (a,b)=true:=by simp [iW,h1,h2]
   rw [e];clear e
   go_enter func209,ntmps209
   go_wp2
   go_ret
   exact ⟨rfl,HB⟩
  ·have e:iW f t (a,b)=false:=by simp [iW,h2]
   rw [e];clear e
   go_enter func209,ntmps209
   go_wp2
   go_ret
   exact ⟨rfl,HB⟩
 ·have e:iW f t (a,b)=false:=by simp [iW,h1]
  rw [e];clear e
  go_enter func209,ntmps209
  go_wp2
  go_ret
  exact ⟨rfl,HB⟩
variable {l x:List S2}
theorem yw {W:World} {v:Value} (h:Sp W v l):Rows (W.alloc (.cells #[v] 213)) (.slice (some ⟨W.heap.size,0,none⟩) 1 1) [l] :=
 ⟨_,1,rfl,ac _,by unfold maxLen;omega,fun _=>⟨_,_,rfl,fun i hi=>by
  have:i=0:=by simp at hi;omega
  subst this
  exact ⟨v,by go_simp,h.below ((aa _ _).alloc (ac _) _)⟩⟩⟩
theorem nD (h:sQ [l] x):dM l x:=⟨h.plain,fun t=>by
 rw [h.low]
 constructor
 ·rintro ⟨i,hi,c⟩
  have:i=0:=by simp at hi;omega
  subst this;exact c
 ·exact fun c=>⟨0,by simp,c⟩⟩
theorem Gp (w:World) (v:Value) (l:List S2) (h:Sp w v l) (hlen:l.length < 1099511627776) (f t:Int):Calls prog 179 #[v,.int .i64 f,.int .i64 t] w (Fa w l f t):=by
 have eg:∀ args w,(callFunc 209 args).run prog w = .ok (.enter 209 args) w:=enters_of func209 (by kernel_rfl) rfl;have hb2:Below w.heap.size w ((w.alloc (.cells #[.int .i64 f] 3)).alloc (.cells #[.int .i64 t] 3)):=((aa _ _).alloc (ac _) _).alloc (by simp) _;have j:=lK (((w.alloc (.cells #[.int .i64 f] 3)).alloc (.cells #[.int .i64 t] 3)).alloc (.cells #[v] 213)) _ [l] (yw (h.below hb2)) (by show 0+l.length < _;omega);have ez:((w.alloc (.cells #[.int .i64 f] 3)).alloc (.cells #[.int .i64 t] 3)).heap.size=w.heap.size+1+1:=by simp
 rw [ez] at j;clear ez;have J:=Hh j;have HB2:=Hh hb2;have EG:=Hh eg;obtain ⟨a,cap,rfl,_⟩:=h.slice;clear j hb2 eg h;have hmf:∀ (fn:Fn) (first cap:Array Value) (w:World),(Instr.makeFunc fn first cap).run prog w = .ok (.func fn first cap) w:=fun _ _ _ _=>rfl
 go_enter func179,ntmps179
 go_wp2_with fail;refine J.mono ?_;rintro e w1 ⟨v1,x,rfl,hown,hj,b1⟩;have PO:=Hh (nD hj);have SP1:=Hh hown.sp;have B1:Hid (Below w.heap.size w w1):=(HB2.alloc (by first | (simp;done) | (simp;omega)) _).trans (b1.mono (by first | (simp;done) | (simp;omega)));have f1:w1.cell? ⟨w.heap.size,0,none⟩=some (.int .i64 f):=(b1.cell (by first | (simp;done) | (simp;omega))).trans (by go_simp);have f2:w1.cell? ⟨w.heap.size+1,0,none⟩=some (.int .i64 t):=(b1.cell (by first | (simp;done) | (simp;omega))).trans (by go_simp);have IC:=Hh (jO w1 v1 x 209 _ _ EG SP1 (Ol _ _ _ f t f1 f2));clear hown hj b1 f1 f2
 rcases Az (iW f t) x with ⟨i,hi,_,_,e⟩ | ⟨_,e⟩
 ·have FV:=Hh (G8 e)
  rw [e] at IC;clear e;go_wp2_with fail;refine IC.mono ?_;rintro e w2 ⟨rfl,b2⟩;have SP2:=Hh (SP1.below b2);obtain ⟨a1,cap1,rfl,q1,q2,hAt⟩:=SP2;obtain ⟨b',off',rfl,hA⟩:=hAt (by omega);have c1:=(hA i hi).1;have HA:=Hh hA;have HAt:=Hh hAt;have B2:=aR B1 b2;clear hA hAt b2;unfold maxLen at q2;generalize hn:x.length=n at *;clear hn;go_wp2
  go_ret2
  exact ⟨x,PO,FW FV,B2⟩
 ·have FV:=Hh (Af e)
  rw [e] at IC;clear e;go_wp2_with fail;refine IC.mono ?_;rintro e w2 ⟨rfl,b2⟩;have B2:=aR B1 b2;clear b2;go_wp2
  go_ret2
  exact ⟨x,PO,FW FV,B2⟩
end Wi
namespace Ua
theorem Gr (b:Int) (k:Nat):b / 2 ^ (k+1)=b / 2 ^ k / 2:=by
 rw [Cb,Int.ediv_ediv_of_nonneg (Int.le_of_lt (Int.pow_pos (by decide)))]
theorem S7 (b:Int) (k:Nat) (h:k < 8):(cnt (put b 9) (k+1):Int)=cnt (put b 9) k+b / 2 ^ k % 2:=by
 rw [cnt,Xe];have:put b 9 (k+1)=bit b k:=by unfold put;rw [aw (by omega)];rfl
 rw [this]
 split <;> simp
variable {F:Nat->Bool} {k:Nat}
theorem UZ (h:F (k+1)=true):(val F (k+1):Int)=val F k+(2 ^ k:Nat):=by rw [val,h];simp
theorem U0 (h:F (k+1)=false):(val F (k+1):Int)=val F k:=by rw [val,h];simp
theorem Md (h:F (k+1)=true):(cnt F (k+1):Int)=cnt F k+1:=by rw [cnt,h];simp
theorem D6 (h:F (k+1)=false):(cnt F (k+1):Int)=cnt F k:=by rw [cnt,h];simp
theorem Kj (h:k<=8):1<=2 ^ k/\2 ^ k<=256:=⟨Nat.one_le_two_pow,Nat.pow_le_pow_right (n:=2) (by omega) h⟩
theorem nine (b:Int) (odd:Bool) (c:Nat) (h:c=cnt (put b 9) 8) :
 (if odd then ((c:Int) % 2 == 0) else ((c:Int) % 2 == 1))=(par (put b 9) 9 != odd):=by
 rw [S8,← Dw,← h];have e0:((c:Int) % 2 == 0)=decide (c % 2=0):=by show decide ((c:Int) % 2=0)=_;rw [cQ];omega
 have e1:((c:Int) % 2 == 1)=decide (c % 2=1):=by show decide ((c:Int) % 2=1)=_;rw [cQ];omega
 rw [e0,e1]
 rcases (by omega:c % 2=0\/c % 2=1) with e | e <;> cases odd <;> simp [e]
theorem Es (w:World) (b:Int) (odd:Bool) (h0:0<=b) (h1:b<=255):Calls prog 150 #[.int .u8 b,.bool odd] w fun e w'=>e = .returned (.agg (arr (nS b odd)))/\Below w.heap.size w w':=by
 have T0:=Hh (wN w (put b 1) (fun i _=>(ZN b i).symm))
 go_enter func150,ntmps150
 go_wp2
 go_loopw [6,7,8] (fun n c i wr=>∃ k:Nat,k<=8/\i = .int .i64 (k+1:Nat)/\n = .int .i64 (b / 2 ^ k)/\c = .int .i64 (cnt (put b 9) k:Nat)/\Hid (DT w wr (put b (k+1)))) (fun _ _ i _=>9 - (intOf i).toNat)
 case atStart=>exact ⟨0,by omega,rfl,by rw [Int.pow_zero,Int.ediv_one],rfl,T0⟩
 case round =>
  obtain ⟨k,hk,rfl,rfl,rfl,T⟩:=hrel;have n0:0<=b / 2 ^ k:=Int.ediv_nonneg h0 (Int.le_of_lt (Int.pow_pos (by decide)));have n1:b / 2 ^ k<=255:=Int.le_trans (Int.ediv_le_self _ h0) h1;have q:=JS (put b 9) k
  by_cases hlt:k < 8
  ·have c:=T.out.2.1.cell (k+1) (by omega)
   have f:=T.out.2.1.frozen (k+1);have CS:=Hh (S7 b k hlt);have DS:=Hh (Gr b k);have PS:Hid (∀ i,upd (put b (k+1)) (k+1) (decide (b / 2 ^ k % 2=1)) i=put b (k+1+1) i):=Ex b (k+1) (by omega);generalize cnt (put b 9) k=cc at *;generalize b / 2 ^ k=N at *;go_wp2
   go_roundw
   case rel=>exact ⟨k+1,by omega,by go_num,by rw [DS.out],by rw [CS.out],(T.out.iZ (k+1) (by omega) _).to (fun i _=>PS.out i)⟩
   case measure=>simp [intOf];omega
  ·obtain rfl:k=8:=by omega
   have c9:=T.out.2.1.cell 9 (by omega);have c10:=T.out.2.1.cell 10 (by omega);have f9:=T.out.2.1.frozen 9;have f10:=T.out.2.1.frozen 10;have NN:=Hh (nine b odd (cnt (put b 9) 8) rfl);generalize cnt (put b 9) 8=cc at *;have h9:9 < 11:=by omega
   have h10:10 < 11:=by omega
   cases odd
   all_goals
    go_wp2_with ((with_reducible refine mH (o:=⟨some 44,_,_,_,_,_⟩) rfl rfl _ _ _ rfl rfl rfl _ _ _ _ ?_ ?_ ?_ ((T.out.iZ 9 h9 _).iZ 10 h10 _).frame ((T.out.iZ 9 h9 _).iZ 10 h10 _).res ?_);(exact rfl);(exact rfl);(exact rfl))
    all_goals
     refine bo (jl rfl _ _ _ _ rfl (((T.out.iZ 9 h9 _).iZ 10 h10 _).1.row _)) rfl ⟨?_,?_⟩
     ·refine c8 (fun x=>Ending.returned (.agg (arr (upd (upd (put b 9) 9 x) 10 true)))) (Eq.trans ?_ NN)
      first
       | rfl
       | (simp only [if_true];refine Eq.symm ?_;show decide ((cc:Int) % 2=0)=true;exact bi (by omega))
     ·exact below_setRow ((T.iZ 9 h9 _).iZ 10 h10 _).2.2 _ _ (ac _)
theorem Kl (w:World) (F:Nat->Bool) (hb:bad F=false):Calls prog 125 #[.agg (arr F)] w fun e w'=>e = .returned (.tuple #[.int .u8 (tb F),.bool (tp F),.int .i64 (te F)])/\Below w.heap.size w w':=by
 have R0:=Hh (Row.new w F);have B0:=Hh ((aa w.heap.size w).alloc (ac _) (.cells (arr F) 222));have c0:=R0.cell 0 (by omega);have c10:=R0.cell 10 (by omega);have OB:=Hh (K7 hb);unfold bad at hb
 simp at hb
 obtain ⟨h0,h10⟩:=hb;rw [h0] at c0;rw [h10] at c10;clear h0 h10
 go_enter func125,ntmps125
 go_wp2
 go_loop [5,6,7,8] (fun n p c i=>∃ k:Nat,k<=8/\i = .int .i64 (k+1:Nat)/\n = .int .i64 (val F k:Nat)/\p = .int .i64 (2 ^ k:Nat)/\c = .int .i64 (cnt F k:Nat)) (fun _ _ _ i=>9 - (intOf i).toNat)
 case atStart=>exact ⟨0,by omega,rfl,rfl,rfl,rfl⟩
 case round =>
  obtain ⟨k,hk,rfl,rfl,rfl,rfl⟩:=hrel;have q:=JS F k;have v:=Cz F k;obtain ⟨p1,p2⟩:=Kj hk
  by_cases hlt:k < 8
  ·have c:=R0.cell (k+1) (by omega)
   have PS:Hid (((2 ^ (k+1):Nat):Int)=2 * (2 ^ k:Nat)):=by show ((2 ^ (k+1):Nat):Int)=_;rw [Nat.pow_succ];omega
   cases hF:F (k+1) with
   | true =>
     rw [hF] at c;have V:=Hh (UZ hF);have C:=Hh (Md hF);clear hF;generalize 2 ^ k=P at *;generalize val F k=vv at *;generalize cnt F k=cc at *;go_wp2
     go_round
     case rel=>exact ⟨k+1,by omega,by go_num,by rw [V.out],by rw [PS.out],by rw [C.out]⟩
     case measure=>simp [intOf];omega
   | false =>
     rw [hF] at c;have V:=Hh (U0 hF);have C:=Hh (D6 hF);clear hF;generalize 2 ^ k=P at *;generalize val F k=vv at *;generalize cnt F k=cc at *;go_wp2
     go_round
     case rel=>exact ⟨k+1,by omega,by go_num,by rw [V.out],by rw [PS.out],by rw [C.out]⟩
     case measure=>simp [intOf];omega
  ·obtain rfl:k=8:=by omega
   have c9:=R0.cell 9 (by omega);have TP:=Hh ((Dw F 9).trans OB.out.2.1)
   cases hF:F 9 with
   | true =>
     rw [hF] at c9;have C:Hid ((cnt F 9:Int)=cnt F 8+1):=Md (k:=8) hF;clear hF;generalize val F 8=vv at *;generalize cnt F 8=cc at *;go_wp2
     go_ret3
     exact ⟨iL OB.out.1 (by rw [← TP.out,Bool.eq_iff_iff];have:=C.out;simp;omega) OB.out.2.2,B0.out⟩
   | false =>
     rw [hF] at c9;have C:Hid ((cnt F 9:Int)=cnt F 8):=D6 (k:=8) hF;clear hF;generalize val F 8=vv at *;generalize cnt F 8=cc at *;go_wp2
     go_ret3
     exact ⟨iL OB.out.1 (by rw [← TP.out,Bool.eq_iff_iff];have:=C.out;simp;omega) OB.out.2.2,B0.out⟩
theorem Pv (w:World) (F:Nat->Bool) (hb:bad F=true):Calls prog 125 #[.agg (arr F)] w fun e w'=>e = .returned (.tuple #[.int .u8 (tb F),.bool (tp F),.int .i64 (te F)])/\Below w.heap.size w w':=by
 have R0:=Hh (Row.new w F);have B0:=Hh ((aa w.heap.size w).alloc (ac _) (.cells (arr F) 222));have c0:=R0.cell 0 (by omega);have c10:=R0.cell 10 (by omega);have OB:=Hh (Rl hb);unfold bad at hb
 cases h0:F 0 with
 | true =>
   rw [h0] at c0;clear hb
   go_enter func125,ntmps125
   go_wp2
   go_ret3
   exact ⟨iL OB.out.1 OB.out.2.1 OB.out.2.2,B0⟩
 | false =>
   have h10:F 10=false:=by rw [h0] at hb;simpa using hb
   rw [h0] at c0;rw [h10] at c10;clear hb
   go_enter func125,ntmps125
   go_wp2
   go_ret3
   exact ⟨iL OB.out.1 OB.out.2.1 OB.out.2.2,B0⟩
theorem jN (w:World) (F:Nat->Bool):Calls prog 125 #[.agg (arr F)] w fun e w'=>e = .returned (.tuple #[.int .u8 (tb F),.bool (tp F),.int .i64 (te F)])/\Below w.heap.size w w':=by
 cases h:bad F with
 | true=>exact Pv w F h
 | false=>exact Kl w F h
def rt (F:Nat->Bool) (m:Int) (k i:Nat):Bool:=if i < k then F i != bit m i else false
theorem ad8 (F:Nat->Bool) (m:Int) (i:Nat):false=rt F m 0 i:=by unfold rt;rw [aq (by omega)]
theorem aaZ (F:Nat->Bool) (m:Int) (i:Nat) (h:i < 11):rt F m 11 i=turn F m 11 i:=by unfold rt turn;rw [aw h,aw h]
variable {m:Int}
theorem abN (h:bit m k=true) (i:Nat):upd (upd (rt F m k) k (F k)) k (!F k) i=rt F m (k+1) i:=by
 unfold upd rt
 by_cases e:i=k
 ·subst e;rw [aw rfl,aw (by omega),h];simp
 ·rw [aq e,aq e]
  by_cases c:i < k
  ·rw [aw c,aw (by omega)]
  ·rw [aq c,aq (by omega)]
theorem ade (h:bit m k=false) (i:Nat):upd (rt F m k) k (F k) i=rt F m (k+1) i:=by
 unfold upd rt
 by_cases e:i=k
 ·subst e;rw [aw rfl,aw (by omega),h];simp
 ·rw [aq e]
  by_cases c:i < k
  ·rw [aw c,aw (by omega)]
  ·rw [aq c,aq (by omega)]
def Own3 (w wr:World) (F G:Nat->Bool):Prop:=Row wr w.heap.size F/\Row wr (w.heap.size+1) no/\Row wr (w.heap.size+1+1) G/\Below w.heap.size w wr
theorem Vs (w:World) (F G:Nat->Bool) (h:∀ i,i < 11->false=G i):Own3 w (((w.alloc (.cells (arr F) 222)).alloc (.cells (arr no) 222)).alloc (.cells (arr no) 222)) F G:=by
 obtain ⟨h1,h2,h3⟩:=EW w F;refine ⟨h1.alloc _,h2.alloc _,?_,h3.alloc (by simp;omega) _⟩;have:=Row.new ((w.alloc (.cells (arr F) 222)).alloc (.cells (arr no) 222)) no;have e:((w.alloc (.cells (arr F) 222)).alloc (.cells (arr no) 222)).heap.size=w.heap.size+1+1:=by simp
 rw [e] at this;exact this.to h
theorem Own3.iZ {w wr:World} {F G:Nat->Bool} (h:Own3 w wr F G) (k:Nat) (hk:k < 11) (x:Bool):Own3 w (wr.setCell ⟨w.heap.size+1+1,k,none⟩ (.bool x)) F (upd G k x) :=
 ⟨h.1.far (by simp;omega) _,h.2.1.far (by simp) _,h.2.2.1.iZ k hk x,h.2.2.2.setCell (by simp;omega) _⟩
theorem Own3.to {w wr:World} {F G H:Nat->Bool} (h:Own3 w wr F G) (e:∀ i,i < 11->G i=H i):Own3 w wr F H:=⟨h.1,h.2.1,h.2.2.1.to e,h.2.2.2⟩
def un (m:Int):Int:=IntKind.u64.wrap m
theorem un_in (m:Int):0<=un m/\un m<=18446744073709551615:=by unfold un;rw [IntKind.wrap_u64];omega
theorem un_bit (m:Int) (k:Nat) (h:k < 11):(un m / 2 ^ k % 2 == 1)=bit m k:=by
 show decide (un m / 2 ^ k % 2=1)=decide (m / 2 ^ k % 2=1)
 rw [cQ];unfold un;rw [IntKind.wrap_u64]
 rcases (by omega:k=0\/k=1\/k=2\/k=3\/k=4\/k=5\/k=6\/k=7\/k=8\/k=9\/k=10) with rfl | rfl | rfl | rfl | rfl | rfl | rfl | rfl | rfl | rfl | rfl <;> simp <;> omega
theorem AO (w:World) (F:Nat->Bool) (m:Int):Calls prog 151 #[.agg (arr F),.int .i64 m] w fun e w'=>e = .returned (.agg (arr (turn F m 11)))/\Below w.heap.size w w':=by
 have T0:=Hh (Vs w F (rt F m 0) (fun i _=>ad8 F m i))
 go_enter func151,ntmps151
 go_wp2
 go_loopw [6,7] (fun n i wr=>∃ k:Nat,k<=11/\i = .int .i64 k/\n = .int .u64 (un m / 2 ^ k)/\Hid (Own3 w wr F (rt F m k))) (fun _ i _=>11 - (intOf i).toNat)
 case atStart=>exact ⟨0,by omega,rfl,by rw [Int.pow_zero,Int.ediv_one];rfl,T0⟩
 case round =>
  obtain ⟨k,hk,rfl,rfl,T⟩:=hrel;obtain ⟨n0,n1⟩:=un_in m;have N0:0<=un m / 2 ^ k:=Int.ediv_nonneg n0 (Int.le_of_lt (Int.pow_pos (by decide)));have N1:un m / 2 ^ k<=18446744073709551615:=Int.le_trans (Int.ediv_le_self _ n0) n1;clear n0 n1
  by_cases hlt:k < 11
  ·have c:=T.out.1.cell k hlt
   have d:=T.out.2.2.1.cell k hlt;have f:=T.out.2.2.1.frozen k;have DS:=Hh (Gr (un m) k);have UB:=un_bit m k hlt
   cases hb:bit m k with
   | true =>
     have TY:=Hh (abN (F:=F) hb);rw [hb] at UB;clear hb;generalize un m / 2 ^ k=N at *;go_wp2
     go_roundw
     case rel=>exact ⟨k+1,by omega,by go_num,by rw [DS.out],((T.out.iZ k hlt _).iZ k hlt _).to (fun i _=>TY.out i)⟩
     case measure=>simp [intOf];omega
   | false =>
     have TN:=Hh (ade (F:=F) hb);rw [hb] at UB;clear hb;generalize un m / 2 ^ k=N at *;go_wp2
     go_roundw
     case rel=>exact ⟨k+1,by omega,by go_num,by rw [DS.out],(T.out.iZ k hlt _).to (fun i _=>TN.out i)⟩
     case measure=>simp [intOf];omega
  ·obtain rfl:k=11:=by omega
   have AE:=Hh (l6 (fun i hi=>(aaZ F m i hi).symm))
   go_wp2_with (first
    | (refine wpList_load_row rfl 222 _ rfl _ rfl _ _ _ _ T.out.2.2.1 underlying222 rfl (bR _) ?_)
    | (refine wpList_store_row rfl 222 _ _ rfl _ _ rfl rfl _ _ T.out.2.1 (bR _) rfl (gK _) ?_))
   refine bo (results_cell_row rfl _ _ _ _ _ _ _ rfl (T.out.2.1.row _) underlying222 rfl (bR _)) rfl ⟨by rw [AE.out],?_⟩;exact below_setRow T.out.2.2.2 _ _ (by omega)
end Ua
namespace Se
open Go.Proofs.YtpepoackmcohlaaGreatDoor.Tk Go.Proofs.YtpepoackmcohlaaGreatDoor.Sp
open Wi (kK)
structure Jj (w:World) (g:Int->Int) (F:Nat->Bool) (m:Int) (v:Value) (k:Nat) (wr:World):Prop where
 own:Sp.Own wr w.heap.size 297 v (mW g F m k)
 aG:Below w.heap.size w wr
variable {w wr:World} {g:Int->Int} {F:Nat->Bool} {m:Int} {v:Value} {k:Nat}
theorem Jj.hi (h:Jj w g F m v k wr) (e:F k=true):Jj w g F m v (k+1) wr:=⟨by rw [Li e];exact h.own,h.aG⟩
theorem Jj.lo (e:F k=false) (ho:Sp.Own wr w.heap.size 297 v (mW g F m k ++ [(g (m+16 * k),g (m+16 * k+16))])) (hb:Below w.heap.size w wr):Jj w g F m v (k+1) wr:=⟨by rw [La e];exact ho,hb⟩
end Se
