import Derived.Test.YtelgnhmcnfibnaaDoorMg5
import Derived.Test.YtelgnhmcnfibnaaDoorMg3
import Derived.Test.YtelgnhmcnfibnaaDoorMg2
import Derived.Deep.Cut
import Derived.ArgAppend
import Derived.Test.YtelgnhmcnfibnaaDoorMg4
import Derived.Test.YtelgnhmcnfibnaaDoorMg1
import Derived.Test.YtelgnhmcnfibnaaDoorChecked
import Derived.Laws.Rows
import Derived.Deep.WholeRow
import Derived.DeepKeys
import Derived.LoopTactic
import Derived.Outline
import Derived.Deep.LoopGhost
import Derived.Deep.Draws
import Derived.Lib.Hide
import Derived.WideKeyEntry
import Derived.DeepKeys5
import Derived.Maps.AppendAt
set_option maxRecDepth 100000
namespace Go.Proofs.YtelgnhmcnfibnaaDoor.Fs
open Go.RowKit Go.Maps
open Fl (R4 z4 K4 rec4 rat goodF goodFB okR okL file arr4 row_cell row_frozen rgood_any)
open Rw (Rd Ow At)
attribute [local irreducible] Sd.wpSd wpQuiet Sf.wpSf Sz.wpSz
theorem wp_all {α:Type} {Kd:Rw.Kind α} {P:Program} {K:Act→World→Prop} {w:World} {E:TypeId} {o:Oper} {a:Act} {Q:Exit→Act→World→Prop} {T:TypeId} {z:Value} {bytes:Nat} (ht:P.underlying T=some (.slice E))
 (hi:(P.info? E).map (fun i=>(i.zero,i.size,i.bytes))=some (some z,Kd.n,bytes)) (hz:z.cells.size=Kd.n) (hby:bytes≤64) (s x:Operand)
 (ho:o.op = .call { callee:=.builtin .append,args:=#[s,x],argTypes:=#[T,T] }) (B:Nat) (v:Value) (l:List α) (hs:a.eval s=v) (hown:Ow Kd w B E v l)
 (u:Value) (y:List α) (hx:a.eval x=u) (hu:Rd Kd w u y) (hlen:l.length+y.length < 2199023255552) (hB:B≤w.heap.size)
 (h:∀ v' w',Ow Kd w' B E v' (l ++ y)→Below B w w'→K (a.put o.dst v') w'):o.wp P a w K Q:=by
 obtain ⟨i0,hi0,hz0,hz1,hz2⟩:=info_parts hi;obtain ⟨ad,cap,rfl,h1,h2,h3⟩:=hu;have hb:(l.length+y.length) * bytes≤140737488355328:=Nat.le_trans (Nat.mul_le_mul (show l.length+y.length≤2199023255552 by omega) hby) (by omega)
 by_cases h0:0 < y.length
 ·obtain ⟨b,off,rfl,hA⟩:=h3 h0
  refine wp_append_own _ s x T ho B E i0 z Kd.n bytes ht hi0 hz0 hz1 hz2 hz Kd.pos v l.length (Kd.flat l) hs hown ⟨b,off,none⟩ y.length cap (Kd.flat y) hx (Rw.flat_length Kd y) ?_ (Rw.flat_one Kd y) (by unfold maxLen;omega) hb hB ?_
  ·intro j u hj
   have e:(⟨b,off,none⟩:Addr).add j=⟨b,off+j,none⟩:=by simp [Addr.add]
   rw [e];exact hA.flat j u hj
  ·intro v' w' g2 g3 _
   refine h v' w' ?_ ((Below.refl B w).grown g3 hB fun k hk=>(World.ownsRow.lt hown k hk).1)
   show w'.ownsRow B E Kd.n v' (l ++ y).length (Kd.flat (l ++ y))
   rw [Rw.flat_append,List.length_append];exact g2
 ·have ey:y = []:=List.length_eq_zero_iff.1 (by omega)
  subst ey
  cases ad with
  | none =>
    obtain rfl:=h1.2 rfl;have hrun:=run_append_owned_none (P:=P) (w:=w) B T o.type E i0 Kd.n ht hi0 v l.length (Kd.flat l) hown;unfold Oper.wp;have hk:=h v w (by rw [List.append_nil];exact hown) (Below.refl _ _);have hx':a.eval x = .slice none 0 0:=hx
    simp [execOp,ho,resolve,invoke,builtin,hs,hx',hrun,Result.andThen]
    exact hk
  | some ad =>
    refine wp_append_own _ s x T ho B E i0 z Kd.n bytes ht hi0 hz0 hz1 hz2 hz Kd.pos v l.length (Kd.flat l) hs hown ad 0 cap [] hx (by simp) (by simp) (by simp) (by unfold maxLen;simp at hlen;omega) (by simpa using hb) hB ?_
    intro v' w' g2 g3 _
    refine h v' w' ?_ ((Below.refl B w).grown g3 hB fun k hk=>(World.ownsRow.lt hown k hk).1)
    show w'.ownsRow B E Kd.n v' (l ++ []).length (Kd.flat (l ++ []))
    rw [List.append_nil]
    simpa using g2
theorem run_tail {w:World} {v:Value} {L:List Ent} (R:Rd E3 w v L) (k:Nat) (hk:k≤L.length):∃ ua uc,(∀ W,(Instr.sliceAt 22 v (some (.int .i64 (k:Int))) none none).run Tryd.prog W = .ok (.slice ua (L.length - k) uc) W)∧Rd E3 w (.slice ua (L.length - k) uc) (L.drop k):=by
 obtain ⟨a,cap,rfl,⟨h1,h2⟩,h3,h4⟩:=R;have hl:(L.drop k).length=L.length - k:=List.length_drop
 cases a with
 | none =>
   obtain rfl:=h2 rfl;have hL:L.length=0:=by omega
   obtain rfl:k=0:=by omega
   refine ⟨none,0,fun W=>?_,none,0,by rw [hl],⟨by rw [hl];omega,fun _=>rfl⟩,by unfold maxLen;omega,fun h=>by rw [hl] at h;omega⟩;rw [hL];go_simp
 | some a =>
   by_cases hc:cap=k
   ·refine ⟨some a,0,fun W=>?_,some a,0,by rw [hl],⟨by rw [hl];omega,nofun⟩,by unfold maxLen;omega,fun h=>by rw [hl] at h;omega⟩
    subst hc;have:L.length - cap=0:=by omega
    obtain ⟨b,off,sp⟩:=a;go_simp
   ·by_cases h0:0 < L.length
    ·obtain ⟨b,off,e,hA⟩:=h4 h0
     obtain rfl:a=⟨b,off,none⟩:=by injection e
     refine ⟨some ⟨b,off+k * 3,none⟩,cap - k,fun W=>?_,some ⟨b,off+k * 3,none⟩,cap - k,by rw [hl],⟨by rw [hl];omega,nofun⟩,by omega,fun h=>⟨b,off+k * 3,rfl,fun i hi j u hu=>?_⟩⟩
     ·go_simp
     ·rw [hl] at hi
      have hu':(E3.enc (L.getD (k+i) E3.dft))[j]? = some u:=by rw [← hu,List.getD_eq_getElem?_getD,List.getD_eq_getElem?_getD,List.getElem?_drop]
      have c:=hA (k+i) (by omega) j u hu';have e:off+(k+i) * E3.n+j=off+k * 3+i * E3.n+j:=by show off+(k+i) * 3+j=off+k * 3+i * 3+j;omega
      rw [e] at c;exact c
    ·obtain rfl:k=0:=by omega
     have hL:L.length=0:=by omega
     obtain ⟨b,off,sp⟩:=a;refine ⟨some (Addr.add ⟨b,off,sp⟩ (0 * 3)),cap,fun W=>?_,some (Addr.add ⟨b,off,sp⟩ (0 * 3)),cap,by rw [hl],⟨by rw [hl];omega,nofun⟩,h3,fun h=>by rw [hl] at h;omega⟩;go_simp
def RAPost (w:World) (r:Nat) (F:Nat→Prop) (d z:Int) (A':Abs) (e:Ending) (w':World):Prop:=e = .returned (.int .i64 z)∧Rs w' r F A' d∧Only (fun k=>k=r) w w'
theorem radd_1 (w:World) (r:Nat) (n p:Int) (a:Option Addr) (q cap:Nat) (hn:¬ (0≤n∧n≤63)):Calls Tryd.prog 25 #[.pointer (some ⟨r,0,none⟩),.int .i64 n,.agg #[.int .i64 p,.slice a q cap]] w fun e w'=>e = .returned (.int .i64 1)∧Below w.heap.size w w':=by
 by_cases h:n < 0
 ·go_enter Tryd.func25,Tryd.ntmps25
  go_wp2
  go_ret
  exact ⟨rfl,(Below.refl w.heap.size w).alloc (Nat.le_refl _) _⟩
 ·have h2:63 < n:=by omega
  go_enter Tryd.func25,Tryd.ntmps25
  go_wp2
  go_ret
  exact ⟨rfl,(Below.refl w.heap.size w).alloc (Nat.le_refl _) _⟩
theorem radd_2 (w:World) (r:Nat) (n p:Int) (a:Option Addr) (q cap:Nat) (l:List R4) (R:Rd K4 w (.slice a q cap) l) (hn:0≤n∧n≤63) (hg:¬ goodF p l):Calls Tryd.prog 25 #[.pointer (some ⟨r,0,none⟩),.int .i64 n,.agg #[.int .i64 p,.slice a q cap]] w fun e w'=>e = .returned (.int .i64 2)∧Below w.heap.size w w':=by
 obtain ⟨h1,hB,hz⟩:=box_file w p (.slice a q cap);have HB:=Lib.hid hB;have GA:=rgood_any _ p (.slice a q cap) l (R.below hB);rw [show goodFB p l=false from decide_eq_false hg] at GA;have HG:=Lib.hid GA;have n1:0≤n:=hn.1;have n2:n≤63:=hn.2;clear h1 hB hz R GA hg hn;unfold file at HG
 go_enter Tryd.func25,Tryd.ntmps25
 go_wp2_with fail;refine HG.out.mono ?_;rintro e w1 ⟨rfl,b1⟩;have B1:=Lib.hid (HB.out.trans (b1.mono HB.out.size));clear b1 HG HB;go_wp2
 go_ret
 exact ⟨rfl,B1.out⟩
theorem radd_10 {w:World} {r:Nat} {F:Nat→Prop} {v:Value} {L:List Ent} {d:Int} (RS:Rst w r F v L d) (n p:Int) (a:Option Addr) (q cap:Nat) (l:List R4) (R:Rd K4 w (.slice a q cap) l) (hn:0≤n∧n≤63) (hg:goodF p l) {i:Nat} (hq:Ix L n i):Calls Tryd.prog 25 #[.pointer (some ⟨r,0,none⟩),.int .i64 n,.agg #[.int .i64 p,.slice a q cap]] w fun e w'=>e = .returned (.int .i64 10)∧Below w.heap.size w w':=by
 obtain ⟨h1,hB,hz⟩:=box_file w p (.slice a q cap);have HB:=Lib.hid hB;have GA:=rgood_any _ p (.slice a q cap) l (R.below hB);rw [show goodFB p l=true from decide_eq_true hg] at GA;have HG:=Lib.hid GA;have IX:=Lib.hid (fun W (hb:Below w.heap.size w W)=>rix_any (RS.below hb) hq);have n1:0≤n:=hn.1;have n2:n≤63:=hn.2;have hi0:¬ ((i:Int) < 0):=by omega
 clear h1 hB hz R GA hg hn RS hq;unfold file at HG
 go_enter Tryd.func25,Tryd.ntmps25
 go_wp2_with fail;refine HG.out.mono ?_;rintro e w1 ⟨rfl,b1⟩;have B1:=Lib.hid (HB.out.trans (b1.mono HB.out.size));clear b1 HG HB;go_wp2_with fail;refine (IX.out _ B1.out).mono ?_;rintro e w2 ⟨rfl,b2⟩;have B2:=Lib.hid (B1.out.trans (b2.mono B1.out.size));clear b2 B1 IX;go_wp2
 go_ret
 exact ⟨rfl,B2.out⟩
def ARel (w:World) (L:List Ent) (n:Int) (v:Value) (k:Nat) (wr:World):Prop:=Ow E3 wr w.heap.size 48 v (L.take k)∧(∀ x∈L.take k,x.n < n)∧Below w.heap.size w wr
structure AC (r:Nat) (v:Value) (d:Int) (g:Nat) (p:Int) (u:Value) (W:World):Prop where
 row:W.heap[r]? = some (.cells #[v,.int .i64 d] 42 (0,0))
 box:W.heap[g]? = some (.cells #[.int .i64 p,u] 46 (0,0))
set_option maxHeartbeats 4000000 in
theorem radd_0 {w:World} {r:Nat} {F:Nat→Prop} {v:Value} {L:List Ent} {d:Int} (RS:Rst w r F v L d) (hF:∀ k,F k→k < w.heap.size) (n p:Int) (a:Option Addr) (q cap:Nat) (l:List R4) (R:Rd K4 w (.slice a q cap) l) (ho:0 < l.length→∀ k,(Value.slice a q cap).ownBlock=some k→¬ (F k∨k=r)) (hn:0≤n∧n≤63) (hg:goodF p l) (hl:okL l) (hc:look Ent.n n L=none) :
 Calls Tryd.prog 25 #[.pointer (some ⟨r,0,none⟩),.int .i64 n,.agg #[.int .i64 p,.slice a q cap]] w (RAPost w r F d 0 (put key (n,p,l) (L.map Ent.abs))):=by
 have hql:q=l.length:=by
  obtain ⟨_,_,e,_⟩:=R;injection e
 subst hql;obtain ⟨h1,hB,hz⟩:=box_file w p (.slice a l.length cap);have HB:=Lib.hid hB;have H1:=Lib.hid h1;have GA:=rgood_any _ p (.slice a l.length cap) l (R.below hB);rw [show goodFB p l=true from decide_eq_true hg] at GA;have HG:=Lib.hid GA;have IX:=Lib.hid (fun W (hb:Below w.heap.size w W)=>rix_any (RS.below hb) (ix_none hc));have RR:=Lib.hid RS;have hrl:r < w.heap.size:=lt_of_block RS.row;have hlen:=RS.len;have HS:=Lib.hid (srtL RS.ok);have HC:=Lib.hid (look_none.1 hc);have n1:0≤n:=hn.1;have n2:n≤63:=hn.2;have FIN:Hid (∀ (k:Nat) (v':Value) (W:World),(∀ x∈L.take k,x.n < n)→(∀ x,L[k]? = some x→n < x.n)→Only (fun k=>k=r) w W→W.heap[r]? = some (.cells #[v',.int .i64 d] 42 (0,0))→Ow E3 W w.heap.size 48 v' (L.take k ++ [(⟨n,p,a,cap,l⟩:Ent)] ++ L.drop k)→RAPost w r F d 0 (put key (n,p,l) (L.map Ent.abs)) (.returned (.int .i64 0)) W):=fun k v' W P1 P2 O row own=>by
  have e:put Ent.n (⟨n,p,a,cap,l⟩:Ent) L=L.take k ++ [(⟨n,p,a,cap,l⟩:Ent)] ++ L.drop k:=by
   rw [put_new hc,ins_at (k:=k) P1 P2]
   simp
  have e2:(L.take k ++ [(⟨n,p,a,cap,l⟩:Ent)] ++ L.drop k).map Ent.abs=put key (n,p,l) (L.map Ent.abs):=by rw [← e,abs_put];rfl
  refine ⟨rfl,⟨v',_,RS.next hF O row own (fun c hc'=>?_) (by rw [e2];exact RS.ok.put hn hg hl),e2⟩,O⟩;rw [← e] at hc'
  rcases mem_put.1 hc' with rfl | ⟨h,_⟩
  ·exact .inr ⟨rd_only (G:=fun k=>k=r) R (fun h0 k hk e=>ho h0 k hk (.inr e)) O,ho⟩
  ·exact .inl h
 have RV:=Lib.hid R;obtain ⟨va,vcap,rfl,_⟩:=RS.list.rd.slice;clear h1 hB hz R GA hg hn RS hc hF ho hl;generalize hN:L.length=N at *;have HN:=Lib.hid hN;generalize hQ:l.length=q at *;have HQ:=Lib.hid hQ;clear hN hQ;unfold file at HG;have hBN:=run_buildN
 go_enter Tryd.func25,Tryd.ntmps25
 go_wp2_with fail;generalize (w.alloc (.cells #[.int .i64 p,.slice a q cap] 46))=W0 at *;refine HG.out.mono ?_;rintro e w1 ⟨rfl,b1⟩;have B1:=Lib.hid (HB.out.trans (b1.mono HB.out.size));have X1:=Lib.hid ((b1.block _ (lt_of_block H1.out)).trans H1.out);clear b1 HG HB H1;go_wp2_with fail;refine (IX.out _ B1.out).mono ?_;rintro e w2 ⟨rfl,b2⟩;have B2:=Lib.hid (B1.out.trans (b2.mono B1.out.size));have X2:=Lib.hid ((b2.block _ (lt_of_block X1.out)).trans X1.out);clear b2 B1 IX X1;have OM:=Lib.hid (Rw.Ow.made (K:=E3) w2 w2.heap.size 48 (Nat.le_refl _));have B3:=Lib.hid ((Below.refl w2.heap.size w2).alloc (Nat.le_refl _) (.cells #[] 48));go_wp2;generalize (w2.alloc (.cells #[] 48))=W3 at *;generalize (Value.slice (some ⟨w2.heap.size,0,none⟩) 0 0)=v3 at *
 go_loopw [7,8] (fun v i wr=>∃ k:Nat,k≤N∧i = .int .i64 k∧Hid (ARel w2 L n v k wr)) (fun _ i _=>N - (intOf i).toNat)
 case atStart=>exact ⟨0,Nat.zero_le _,rfl,OM.out,by simp,B3.out⟩
 case round =>
  obtain ⟨k,hk,rfl,R⟩:=hrel;obtain ⟨oW,P1',bW⟩:=R.out;obtain ⟨va',vc',ev,_⟩:=oW.slice;have htk:(L.take k).length=k:=by rw [List.length_take];have:=HN.out;omega
  rw [htk] at ev;subst ev;have OW:=Lib.hid oW;have P1:=Lib.hid P1';have B:=Lib.hid bW;have R4':=RR.out.below (B2.out.trans (bW.mono B2.out.size));have c0:wr.cell? ⟨r,0,none⟩=some (.slice va N vcap):=row_cell R4'.row 0;have RL:=Lib.hid R4'.list.rd;have HX2:Hid (w.heap.size < w2.heap.size):=lt_of_block X2.out;clear R oW P1' bW R4' htk
  by_cases hlt:k < N
  ·have hkL:k < L.length:=by have:=HN.out;omega
   obtain ⟨⟨cn,cp,ca,cc,cl⟩,hc⟩:∃ c:Ent,L[k]? = some c:=⟨_,List.getElem?_eq_getElem hkL⟩;obtain ⟨b,off,eb,hA⟩:∃ b off,va=some ⟨b,off,none⟩∧At E3 wr b off L:=by
    obtain ⟨a',c',e,_,_,h⟩:=RL.out;obtain ⟨b,off,e2,hA⟩:=h (by omega);injection e with e1;exact ⟨b,off,e1.trans e2,hA⟩
   subst eb;obtain ⟨x0,x1,x2⟩:=at3 hA hc;unfold Ent.sl at x2;simp only at x0 x1 x2;have hcn:cn≠n:=HC.out _ (List.mem_of_getElem? hc)
   by_cases hcl:cn < n
   ·have TK:Hid (L.take (k+1)=L.take k ++ [(⟨cn,cp,ca,cc,cl⟩:Ent)]):=by rw [List.take_add_one,hc];rfl
    have P1n:Hid (∀ x∈L.take (k+1),x.n < n):=fun x hx=>by
     rw [TK.out] at hx
     rcases List.mem_append.1 hx with hx | hx
     ·exact P1.out x hx
     ·obtain rfl:=List.mem_singleton.1 hx
      exact hcl
    clear hc hA hkL;generalize hcq:cl.length=cq at *;have HCQ:=Lib.hid hcq;clear hcq
    go_wp2_with (at_builtin;refine Rw.push_step (K:=E3) Tryd.underlying22 infoE3 rfl (by omega) rfl _ _ rfl w2.heap.size _ (L.take k) rfl (OW.out.alloc _) _ (⟨cn,cp,ca,cc,cl⟩:Ent) rfl ?d1 ?d2 ?d3 ?_)
    case d1 =>
     intro j u hu
     unfold E3 Ent.sl at hu;simp only [HCQ.out] at hu
     match j,hu with
     | 0,hu=>simp at hu;subst hu;go_simp
     | 1,hu=>simp at hu;subst hu;go_simp
     | 2,hu=>simp at hu;subst hu;go_simp
     | j+3,hu=>simp at hu
    case d2=>rw [List.length_take];omega
    case d3=>have:=B.out.size;simp;omega
    intro v' w4 o4 b4
    rw [← TK.out] at o4;have N2:Hid (ARel w2 L n v' (k+1) w4):=⟨o4,P1n.out,(B.out.alloc B.out.size _).trans b4⟩;clear o4 b4;go_wp2
    go_roundw
    case rel=>exact ⟨k+1,by omega,by go_num,N2⟩
    case measure=>simp [intOf];omega
   ·have P2:Hid (∀ x,L[k]? = some x→n < x.n):=fun x hx=>by
     rw [hc] at hx;obtain rfl:=Option.some.inj hx
     show n < cn
     omega
    clear hc hA hkL hcn RL;go_wp2_with fail;clear x0 x1 x2;clear c0;have X4:=Lib.hid ((B.out.block _ (lt_of_block X2.out)).trans X2.out);have hw2:Hid (w.heap.size≤w2.heap.size):=B2.out.size;have BR:=Lib.hid (B2.out.trans (B.out.mono B2.out.size));have Row4:=Lib.hid ((BR.out.block r hrl).trans RR.out.row);have C0:AC r (.slice (some ⟨b,off,none⟩) N vcap) d w.heap.size p (.slice a q cap) wr.drew:=⟨Row4.out,X4.out⟩;have c0:=Sc.cell_in (C:=AC r (.slice (some ⟨b,off,none⟩) N vcap) d w.heap.size p (.slice a q cap)) (a:=⟨r,0,none⟩) (fun W' h=>row_cell h.row 0);have r0:=Sc.cell_in (C:=AC r (.slice (some ⟨b,off,none⟩) N vcap) d w.heap.size p (.slice a q cap)) (a:=⟨w.heap.size,0,none⟩) (fun W' h=>row_cell h.box 0);have r1:=Sc.cell_in (C:=AC r (.slice (some ⟨b,off,none⟩) N vcap) d w.heap.size p (.slice a q cap)) (a:=⟨w.heap.size,1,none⟩) (fun W' h=>row_cell h.box 1);have ne:Nonempty (Sc.In (AC r (.slice (some ⟨b,off,none⟩) N vcap) d w.heap.size p (.slice a q cap))):=⟨⟨_,C0⟩⟩;obtain ⟨ta,tc,htl,TR⟩:=run_tail RR.out.list.rd k (by have:=HN.out;omega);have TRD:=Lib.hid TR;rw [HN.out] at htl TRD;generalize N - k=mt at htl TRD;have OWR:Hid (Ow E3 wr.drew w2.heap.size 48 (.slice va' k vc') (L.take k)):=OW.out;have BRD:Hid (Below w2.heap.size w2 wr.drew):=B.out.drew;clear TR OW B BR Row4 X4 X2;refine Sz.start (AC r (.slice (some ⟨b,off,none⟩) N vcap) d w.heap.size p (.slice a q cap)) [(false,0),(false,1),(false,2),(false,3),(false,4),(false,7),(false,8),(false,9),(false,10),(false,11),(false,12),(true,5),(true,6),(true,13),(false,14),(false,15)] 16 (by kernel_rfl) (by kernel_rfl) (by kernel_rfl) rfl rfl C0 ?_;dsimp only [Sd.picks,List.getElem?_cons_succ,List.getElem?_cons_zero]
    repeat (refine Sz.lit ?_;quiet_step (fail);refine wpQuiet_nil ?_)
    clear c0 r0 r1 htl;have C1:=Lib.hid C0;clear C0;generalize wr.drew=w4 at *;refine Sz.call (by rfl) (fun K hK=>?_);go_simp;have ba:=Below.heap_alloc w4 (.cells #[.int .i64 n,.int .i64 p,.slice a q cap] 48);have B5:=Lib.hid (BRD.out.alloc BRD.out.size (.cells #[.int .i64 n,.int .i64 p,.slice a q cap] 48));have C5:AC r (.slice (some ⟨b,off,none⟩) N vcap) d w.heap.size p (.slice a q cap) (w4.alloc (.cells #[.int .i64 n,.int .i64 p,.slice a q cap] 48)):=⟨(ba r (lt_of_block C1.out.row)).trans C1.out.row,(ba _ (lt_of_block C1.out.box)).trans C1.out.box⟩;have O5:=Lib.hid (OWR.out.alloc (.cells #[.int .i64 n,.int .i64 p,.slice a q cap] 48));have R5:Hid (Rd E3 (w4.alloc (.cells #[.int .i64 n,.int .i64 p,.slice a q cap] 48)) (.slice (some ⟨w4.heap.size,0,none⟩) 1 1) [(⟨n,p,a,cap,l⟩:Ent)]):=by
     have:=(Rw.Ow.lit (K:=E3) w4 0 48 [(⟨n,p,a,cap,l⟩:Ent)] (Nat.zero_le _) (by unfold maxLen;simp)).rd;have e:(E3.flat [(⟨n,p,a,cap,l⟩:Ent)]).toArray=#[.int .i64 n,.int .i64 p,.slice a q cap]:=by unfold Rw.Kind.flat E3 Ent.sl;rw [← HQ.out];rfl
     rw [e] at this;exact this
    refine hK _ _ (Sc.Cl.of C5) ?_;clear hK K ba;have hz5:Hid (w2.heap.size≤(w4.alloc (.cells #[.int .i64 n,.int .i64 p,.slice a q cap] 48)).heap.size):=B5.out.size;have C5':=Lib.hid C5;clear C5 C1 OWR BRD;generalize (w4.alloc (.cells #[.int .i64 n,.int .i64 p,.slice a q cap] 48))=w5 at *;refine Sz.call (by rfl) (fun K hK=>?_);refine wp_all (Kd:=E3) Tryd.underlying22 infoE3 rfl (by omega) _ _ rfl w2.heap.size _ _ rfl O5.out _ _ rfl R5.out ?a1 hz5.out ?_
    case a1=>rw [List.length_take];simp;omega
    intro v6 w6 o6 b6
    have hrw2:r < w2.heap.size:=by have:=hw2.out;omega
    have hxw2:w.heap.size < w2.heap.size:=HX2.out;have C6:AC r (.slice (some ⟨b,off,none⟩) N vcap) d w.heap.size p (.slice a q cap) w6:=⟨(b6.block r hrw2).trans C5'.out.row,(b6.block _ hxw2).trans C5'.out.box⟩;have B6:=Lib.hid (B5.out.trans b6);have O6:=Lib.hid o6;obtain ⟨v6a,v6c,e6,_⟩:=o6.slice;refine hK _ _ (Sc.Cl.of C6) ?_;clear hK K o6 b6 B5 O5 R5 C5' hz5;have C6':=Lib.hid C6;clear C6;have T6:=Lib.hid (TRD.out.below (B2.out.trans (B6.out.mono B2.out.size)));refine Sz.call (by rfl) (fun K hK=>?_);refine wp_all (Kd:=E3) Tryd.underlying22 infoE3 rfl (by omega) _ _ rfl w2.heap.size _ _ rfl O6.out _ _ rfl T6.out ?a2 B6.out.size ?_
    case a2=>rw [List.length_append,List.length_take,List.length_drop];have:=HN.out;simp only [List.length_cons,List.length_nil];omega
    intro v7 w7 o7 b7
    obtain ⟨v7a,v7c,e7,_⟩:=o7.slice;obtain ⟨n7,rfl⟩:∃ n7,v7 = .slice v7a n7 v7c:=⟨_,e7⟩;clear e7;have C7:AC r (.slice (some ⟨b,off,none⟩) N vcap) d w.heap.size p (.slice a q cap) w7:=⟨(b7.block r hrw2).trans C6'.out.row,(b7.block _ hxw2).trans C6'.out.box⟩;have B7:=Lib.hid (B6.out.trans b7);refine hK _ _ (Sc.Cl.of C7) ?_;clear hK K b7 B6 O6 T6 C6' e6;have c7:w7.cell? ⟨r,0,none⟩=some (.slice (some ⟨b,off,none⟩) N vcap):=row_cell C7.row 0;have f7:=row_frozen C7.row 0;have BW:Below w.heap.size w w7:=B2.out.trans (B7.out.mono B2.out.size);have RES:Hid (RAPost w r F d 0 (put key (n,p,l) (L.map Ent.abs)) (.returned (.int .i64 0)) (w7.setCell ⟨r,0,none⟩ (.slice v7a n7 v7c))):=by
     refine FIN.out k (.slice v7a n7 v7c) _ P1.out P2.out ((Only.of_below BW).trans (Only.set (fun k=>k=r) w7 (a:=⟨r,0,none⟩) rfl _) fun _ _ g=>g) ?_ ?_
     ·have:=Rw.heap_setCell_same (j:=0) C7.row (.slice v7a n7 v7c)
      rw [this]
      simp
     ·exact (o7.off (p:=⟨r,0,none⟩) (o7.range (.inl hrw2)) (.slice v7a n7 v7c)).low hw2.out
    clear C7 BW o7 B7 FIN
    repeat (refine Sz.lit ?_;quiet_step (fail);refine wpQuiet_nil ?_)
    refine Sz.done ?_;go_simp;clear c7 f7;generalize (w7.setCell ⟨r,0,none⟩ (.slice v7a n7 v7c))=w8 at *;refine NoPanic.normal ?_;go_wp2
    go_ret
    exact RES.out
  ·obtain rfl:k=N:=by omega
   have P2:Hid (∀ x,L[k]? = some x→n < x.n):=fun x hx=>by
    have:=(List.getElem?_eq_some_iff.1 hx).1;have:=HN.out
    omega
   clear RL;go_wp2_with fail;clear c0;have X4:=Lib.hid ((B.out.block _ (lt_of_block X2.out)).trans X2.out);have hw2:Hid (w.heap.size≤w2.heap.size):=B2.out.size;have BR:=Lib.hid (B2.out.trans (B.out.mono B2.out.size));have Row4:=Lib.hid ((BR.out.block r hrl).trans RR.out.row);have C0:AC r (.slice va k vcap) d w.heap.size p (.slice a q cap) wr.drew:=⟨Row4.out,X4.out⟩;have c0:=Sc.cell_in (C:=AC r (.slice va k vcap) d w.heap.size p (.slice a q cap)) (a:=⟨r,0,none⟩) (fun W' h=>row_cell h.row 0);have r0:=Sc.cell_in (C:=AC r (.slice va k vcap) d w.heap.size p (.slice a q cap)) (a:=⟨w.heap.size,0,none⟩) (fun W' h=>row_cell h.box 0);have r1:=Sc.cell_in (C:=AC r (.slice va k vcap) d w.heap.size p (.slice a q cap)) (a:=⟨w.heap.size,1,none⟩) (fun W' h=>row_cell h.box 1);have ne:Nonempty (Sc.In (AC r (.slice va k vcap) d w.heap.size p (.slice a q cap))):=⟨⟨_,C0⟩⟩;obtain ⟨ta,tc,htl,TR⟩:=run_tail RR.out.list.rd k (by have:=HN.out;omega);have TRD:=Lib.hid TR;rw [HN.out] at htl TRD;generalize k - k=mt at htl TRD;have OWR:Hid (Ow E3 wr.drew w2.heap.size 48 (.slice va' k vc') (L.take k)):=OW.out;have BRD:Hid (Below w2.heap.size w2 wr.drew):=B.out.drew;clear TR OW B BR Row4 X4 X2;refine Sz.start (AC r (.slice va k vcap) d w.heap.size p (.slice a q cap)) [(false,0),(false,1),(false,2),(false,3),(false,4),(false,7),(false,8),(false,9),(false,10),(false,11),(false,12),(true,5),(true,6),(true,13),(false,14),(false,15)] 16 (by kernel_rfl) (by kernel_rfl) (by kernel_rfl) rfl rfl C0 ?_;dsimp only [Sd.picks,List.getElem?_cons_succ,List.getElem?_cons_zero]
   repeat (refine Sz.lit ?_;quiet_step (fail);refine wpQuiet_nil ?_)
   clear c0 r0 r1 htl;have C1:=Lib.hid C0;clear C0;generalize wr.drew=w4 at *;refine Sz.call (by rfl) (fun K hK=>?_);go_simp;have ba:=Below.heap_alloc w4 (.cells #[.int .i64 n,.int .i64 p,.slice a q cap] 48);have B5:=Lib.hid (BRD.out.alloc BRD.out.size (.cells #[.int .i64 n,.int .i64 p,.slice a q cap] 48));have C5:AC r (.slice va k vcap) d w.heap.size p (.slice a q cap) (w4.alloc (.cells #[.int .i64 n,.int .i64 p,.slice a q cap] 48)):=⟨(ba r (lt_of_block C1.out.row)).trans C1.out.row,(ba _ (lt_of_block C1.out.box)).trans C1.out.box⟩;have O5:=Lib.hid (OWR.out.alloc (.cells #[.int .i64 n,.int .i64 p,.slice a q cap] 48));have R5:Hid (Rd E3 (w4.alloc (.cells #[.int .i64 n,.int .i64 p,.slice a q cap] 48)) (.slice (some ⟨w4.heap.size,0,none⟩) 1 1) [(⟨n,p,a,cap,l⟩:Ent)]):=by
    have:=(Rw.Ow.lit (K:=E3) w4 0 48 [(⟨n,p,a,cap,l⟩:Ent)] (Nat.zero_le _) (by unfold maxLen;simp)).rd;have e:(E3.flat [(⟨n,p,a,cap,l⟩:Ent)]).toArray=#[.int .i64 n,.int .i64 p,.slice a q cap]:=by unfold Rw.Kind.flat E3 Ent.sl;rw [← HQ.out];rfl
    rw [e] at this;exact this
   refine hK _ _ (Sc.Cl.of C5) ?_;clear hK K ba;have hz5:Hid (w2.heap.size≤(w4.alloc (.cells #[.int .i64 n,.int .i64 p,.slice a q cap] 48)).heap.size):=B5.out.size;have C5':=Lib.hid C5;clear C5 C1 OWR BRD;generalize (w4.alloc (.cells #[.int .i64 n,.int .i64 p,.slice a q cap] 48))=w5 at *;refine Sz.call (by rfl) (fun K hK=>?_);refine wp_all (Kd:=E3) Tryd.underlying22 infoE3 rfl (by omega) _ _ rfl w2.heap.size _ _ rfl O5.out _ _ rfl R5.out ?a1 hz5.out ?_
   case a1=>rw [List.length_take];simp;omega
   intro v6 w6 o6 b6
   have hrw2:r < w2.heap.size:=by have:=hw2.out;omega
   have hxw2:w.heap.size < w2.heap.size:=HX2.out;have C6:AC r (.slice va k vcap) d w.heap.size p (.slice a q cap) w6:=⟨(b6.block r hrw2).trans C5'.out.row,(b6.block _ hxw2).trans C5'.out.box⟩;have B6:=Lib.hid (B5.out.trans b6);have O6:=Lib.hid o6;obtain ⟨v6a,v6c,e6,_⟩:=o6.slice;refine hK _ _ (Sc.Cl.of C6) ?_;clear hK K o6 b6 B5 O5 R5 C5' hz5;have C6':=Lib.hid C6;clear C6;have T6:=Lib.hid (TRD.out.below (B2.out.trans (B6.out.mono B2.out.size)));refine Sz.call (by rfl) (fun K hK=>?_);refine wp_all (Kd:=E3) Tryd.underlying22 infoE3 rfl (by omega) _ _ rfl w2.heap.size _ _ rfl O6.out _ _ rfl T6.out ?a2 B6.out.size ?_
   case a2=>rw [List.length_append,List.length_take,List.length_drop];have:=HN.out;simp only [List.length_cons,List.length_nil];omega
   intro v7 w7 o7 b7
   obtain ⟨v7a,v7c,e7,_⟩:=o7.slice;obtain ⟨n7,rfl⟩:∃ n7,v7 = .slice v7a n7 v7c:=⟨_,e7⟩;clear e7;have C7:AC r (.slice va k vcap) d w.heap.size p (.slice a q cap) w7:=⟨(b7.block r hrw2).trans C6'.out.row,(b7.block _ hxw2).trans C6'.out.box⟩;have B7:=Lib.hid (B6.out.trans b7);refine hK _ _ (Sc.Cl.of C7) ?_;clear hK K b7 B6 O6 T6 C6' e6;have c7:w7.cell? ⟨r,0,none⟩=some (.slice va k vcap):=row_cell C7.row 0;have f7:=row_frozen C7.row 0;have BW:Below w.heap.size w w7:=B2.out.trans (B7.out.mono B2.out.size);have RES:Hid (RAPost w r F d 0 (put key (n,p,l) (L.map Ent.abs)) (.returned (.int .i64 0)) (w7.setCell ⟨r,0,none⟩ (.slice v7a n7 v7c))):=by
    refine FIN.out k (.slice v7a n7 v7c) _ P1.out P2.out ((Only.of_below BW).trans (Only.set (fun k=>k=r) w7 (a:=⟨r,0,none⟩) rfl _) fun _ _ g=>g) ?_ ?_
    ·have:=Rw.heap_setCell_same (j:=0) C7.row (.slice v7a n7 v7c)
     rw [this]
     simp
    ·exact (o7.off (p:=⟨r,0,none⟩) (o7.range (.inl hrw2)) (.slice v7a n7 v7c)).low hw2.out
   clear C7 BW o7 B7 FIN
   repeat (refine Sz.lit ?_;quiet_step (fail);refine wpQuiet_nil ?_)
   refine Sz.done ?_;go_simp;clear c7 f7;generalize (w7.setCell ⟨r,0,none⟩ (.slice v7a n7 v7c))=w8 at *;refine NoPanic.normal ?_;go_wp2
   go_ret
   exact RES.out
theorem radd_any {w:World} {r:Nat} {F:Nat→Prop} {A:Abs} {d:Int} (RS:Rs w r F A d) (hF:∀ k,F k→k < w.heap.size) (n p:Int) (v:Value) (l:List R4) (R:Rd K4 w v l) (ho:0 < l.length→∀ k,v.ownBlock=some k→¬ (F k∨k=r)) (hl:okL l) :
 Calls Tryd.prog 25 #[.pointer (some ⟨r,0,none⟩),.int .i64 n,file p v] w (RAPost w r F d (addE A n p l) (addA A n p l)):=by
 obtain ⟨u,L,h,rfl⟩:=RS;obtain ⟨a,cap,rfl,_⟩:=R.slice;have no:∀ z e w',addE (L.map Ent.abs) n p l=z→z≠0→(e = .returned (.int .i64 z)∧Below w.heap.size w w')→RAPost w r F d (addE (L.map Ent.abs) n p l) (addA (L.map Ent.abs) n p l) e w':=fun z e w' hz h0 ⟨he,b⟩=>by
  unfold RAPost addA;rw [hz,if_neg h0];exact ⟨he,⟨u,L,h.below b,rfl⟩,Only.of_below b⟩
 by_cases hn:0≤n∧n≤63
 ·by_cases hg:goodF p l
  ·cases hc:look Ent.n n L with
   | some c =>
     obtain ⟨i,_,hq⟩:=ix_some (srtL h.ok) hc;exact (radd_10 h n p a _ cap l R hn hg hq).mono fun e w'=>no 10 e w' (by unfold addE;rw [if_pos hn,if_pos hg,abs_look,hc];rfl) (by decide)
   | none =>
     have e0:addE (L.map Ent.abs) n p l=0:=by unfold addE;rw [if_pos hn,if_pos hg,abs_look,hc];rfl
     unfold addA;rw [e0,if_pos rfl];exact radd_0 h hF n p a _ cap l R ho hn hg hl hc
  ·exact (radd_2 w r n p a _ cap l R hn hg).mono fun e w'=>no 2 e w' (by unfold addE;rw [if_pos hn,if_neg hg]) (by decide)
 ·exact (radd_1 w r n p a _ cap hn).mono fun e w'=>no 1 e w' (by unfold addE;rw [if_neg hn]) (by decide)
end Go.Proofs.YtelgnhmcnfibnaaDoor.Fs
namespace Go.Proofs.YtelgnhmcnfibnaaDoor.Fl
open Go.RowKit
open Rw (Rd Ow At)
attribute [local irreducible] Sd.wpSd wpQuiet Sf.wpSf
structure StartR (w:World) (p:Int) (v:Value) (x:R4) (W:World):Prop where
 st:Start w p v x W
 no:W.heap[w.heap.size+4]? = some (.cells #[.int .i64 0,.slice none 0 0] 46 (0,0))
theorem StartR.of (w:World) (p:Int) (v:Value) (x:R4):StartR w p v x (((((w.alloc (.cells #[.int .i64 p,v] 46)).alloc (.cells (arr4 x) 26)).alloc (.cells #[.int .i64 0,.slice none 0 0] 46)).alloc (.cells (arr4 z4) 26)).alloc (.cells #[.int .i64 0,.slice none 0 0] 46)):=by
 have z4':∀ a b c d,((((w.alloc a).alloc b).alloc c).alloc d).heap.size=w.heap.size+4:=fun a b c d=>by simp
 refine ⟨(Start.of w p v x).mono ((Below.refl _ _).alloc (Nat.le_refl _) _),?_⟩;have:=heap_alloc_new ((((w.alloc (.cells #[.int .i64 p,v] 46)).alloc (.cells (arr4 x) 26)).alloc (.cells #[.int .i64 0,.slice none 0 0] 46)).alloc (.cells (arr4 z4) 26)) (.cells #[.int .i64 0,.slice none 0 0] 46);rw [z4'] at this;exact this
theorem StartR.mono {w W W':World} {p:Int} {v:Value} {x:R4} (h:StartR w p v x W) (b:Below W.heap.size W W'):StartR w p v x W':=⟨h.st.mono b,(b.block _ (lt_of_block h.no)).trans h.no⟩
theorem five {p op rec:Int} (ho:0≤op∧op≤2) (hr:0≤rec) (hk:¬ (rec=0∧op=0∨0 < rec∧p / need op % 2=1)):op=0∧0 < rec∧p / 1 % 2=0∨op=1∧rec=0∨op=1∧0 < rec∧p / 2 % 2=0∨op=2∧rec=0∨op=2∧0 < rec∧p / 4 % 2=0:=by
 rcases (by omega:op=0∨op=1∨op=2) with rfl | rfl | rfl
 ·rw [show need 0=1 from rfl] at hk;omega
 ·rw [show need 1=2 from rfl] at hk;omega
 ·rw [show need 2=4 from rfl] at hk;omega
end Go.Proofs.YtelgnhmcnfibnaaDoor.Fl
namespace Go.Proofs.YtelgnhmcnfibnaaDoor.Fl
open Go.RowKit
open Rw (Rd Ow At)
attribute [local irreducible] Sd.wpSd wpQuiet Sf.wpSf
end Go.Proofs.YtelgnhmcnfibnaaDoor.Fl
namespace Go.Proofs.YtelgnhmcnfibnaaDoor.Fs
open Go.RowKit Go.Maps
open Fl (R4 z4 K4 rec4 rat goodF goodFB okR okL doE newR file arr4 sto2 sto4 sto2_row sto2_other sto2_below sto2_size sto2_off sto4_row sto4_other sto4_below sto4_size sto4_off row_cell row_frozen)
open Ad (goodB)
open Rw (Rd Ow At)
attribute [local irreducible] Sd.wpSd wpQuiet Sf.wpSf
end Go.Proofs.YtelgnhmcnfibnaaDoor.Fs
namespace Go.Proofs.YtelgnhmcnfibnaaDoor.Fs
open Go.RowKit Go.Maps
open Fl (R4 z4 K4 rec4 rat file rsame_any sameF ret_bool)
open Rw (Rd Ow At)
attribute [local irreducible] wpQuiet
instance decR4:DecidableEq R4:=@instDecidableEqProd _ _ _ (@instDecidableEqProd _ _ _ (@instDecidableEqProd _ _ _ _))
instance decFil:DecidableEq Fil:=@instDecidableEqProd _ _ _ (@instDecidableEqProd _ _ _ (@instDecidableEqList _ decR4))
instance decAbs (A B:Abs):Decidable (A=B):=@instDecidableEqList _ decFil A B
theorem below_drew {B:Nat} {w w':World} (h:Below B w w') (n:Nat):Below B w (w'.drewN n):=⟨h.os,h.tape,h.output,h.size,h.block⟩
set_option maxHeartbeats 2000000 in
theorem same_any {w:World} {F F':Nat→Prop} {v v':Value} {L L':List Ent} (h:Lst F w v L) (h':Lst F' w v' L') (hlen:L.length≤64) :
 Calls Tryd.prog 7 #[v,v'] w fun e w'=>e = .returned (.bool (decide (L.map Ent.abs=L'.map Ent.abs)))∧Below w.heap.size w w':=by
 obtain ⟨a,cap,rfl,_,_,h3⟩:=h.rd;obtain ⟨a',cap',rfl,_,_,h3'⟩:=h'.rd;have H3:=Lib.hid h3;have H3':=Lib.hid h3';have FL:=Lib.hid h.file;have FL':=Lib.hid h'.file;clear h h' h3 h3'
 by_cases hl:L.length=L'.length
 ·have HL:=Lib.hid hl
  rw [← hl];rw [← hl] at H3';clear hl;generalize hn:L.length=N at *;have HN:=Lib.hid hn;clear hn
  go_enter Tryd.func7,Tryd.ntmps7
  go_wp2
  go_loopw [5] (fun i wr=>∃ k:Nat,k≤N∧i = .int .i64 k∧Hid ((L.take k).map Ent.abs=(L'.take k).map Ent.abs)∧Hid (Below w.heap.size w wr)) (fun i _=>N - (intOf i).toNat)
  case atStart=>exact ⟨0,Nat.zero_le _,rfl,rfl,Below.refl _ _⟩
  case round =>
   obtain ⟨k,hk,rfl,E,B⟩:=hrel
   by_cases hlt:k < N
   ·have hkL:k < L.length:=by have:=HN.out;omega
    have hkL':k < L'.length:=by have:=HL.out;have:=HN.out;omega
    obtain ⟨⟨cn,cp,ca,cc,cl⟩,hc⟩:∃ c:Ent,L[k]? = some c:=⟨_,List.getElem?_eq_getElem hkL⟩;obtain ⟨⟨dn,dp,da,dc,dl⟩,hd⟩:∃ c:Ent,L'[k]? = some c:=⟨_,List.getElem?_eq_getElem hkL'⟩;obtain ⟨b,off,rfl,hA⟩:=H3.out (by omega);obtain ⟨b',off',rfl,hA'⟩:=H3'.out (by omega);obtain ⟨x0,x1,x2⟩:=at3 (hA.below B.out) hc;obtain ⟨y0,y1,y2⟩:=at3 (hA'.below B.out) hd;unfold Ent.sl at x2 y2;simp only at x0 x1 x2 y0 y1 y2;have RC:Hid (Rd K4 w (.slice ca cl.length cc) cl):=FL.out _ (List.mem_of_getElem? hc);have RD:Hid (Rd K4 w (.slice da dl.length dc) dl):=FL'.out _ (List.mem_of_getElem? hd);have NO:Hid (¬ (cn=dn∧cp=dp∧cl=dl)→¬ (L.map Ent.abs=L'.map Ent.abs)):=fun hne e=>by
     have e1:=congrArg (fun l:List Fil=>l[k]?) e;simp only [List.getElem?_map,hc,hd,Option.map_some,Ent.abs] at e1;injection e1 with e1;injection e1 with e1 e2;injection e2 with e2 e3;exact hne ⟨e1,e2,e3⟩
    have YES:Hid (cn=dn→cp=dp→cl=dl→(L.take (k+1)).map Ent.abs=(L'.take (k+1)).map Ent.abs):=fun e1 e2 e3=>by
     rw [List.take_add_one,List.take_add_one,hc,hd,List.map_append,List.map_append,E.out]
     simp [Ent.abs,e1,e2,e3]
    have SA:=Lib.hid (fun W (hb:Below w.heap.size w W)=>rsame_any W cp dp (.slice ca cl.length cc) (.slice da dl.length dc) cl dl (RC.out.below hb) (RD.out.below hb));clear hc hd hA hA' hkL hkL'
    by_cases he:cn=dn
    ·subst he
     cases hs:sameF cp cl dp dl with
     | false =>
       rw [hs] at SA;have RES:Hid (decide (L.map Ent.abs=L'.map Ent.abs)=false):=decide_eq_false (NO.out fun ⟨_,e2,e3⟩=>by unfold sameF at hs;rw [decide_eq_true ⟨e2,e3⟩] at hs;cases hs);clear NO YES RC RD hs;generalize cl.length=q at *;generalize dl.length=q' at *;unfold file at SA;go_wp2_with fail;have s0:=Qb.cell_by x0;have s1:=Qb.cell_by x1;have s2:=Qb.cell_by x2;have t0:=Qb.cell_by y0;have t1:=Qb.cell_by y1;have t2:=Qb.cell_by y2;clear x0 x1 x2 y0 y1 y2;have SB:=Lib.hid (fun (P:Qb.By wr)=>SA.out P.world (B.out.trans (P.below.mono B.out.size)));refine Qb.wp_region_by (by kernel_rfl) (by kernel_rfl) ?_
       repeat (quiet_step ((go_at_call 21;exact Qb.of_below (SB.out _))))
       refine wpQuiet_nil ?_
       intro _ hw'
       obtain ⟨pp,rfl⟩:=hw';go_wp2
       go_ret
       exact ⟨ret_bool RES.out.symm,B.out.trans (pp.below.mono B.out.size)⟩
     | true =>
       rw [hs] at SA;have ST:Hid ((L.take (k+1)).map Ent.abs=(L'.take (k+1)).map Ent.abs):=by
        have:=of_decide_eq_true hs;exact YES.out rfl this.1 this.2
       clear NO YES RC RD hs;generalize cl.length=q at *;generalize dl.length=q' at *;unfold file at SA;go_wp2_with fail;have s0:=Qb.cell_by x0;have s1:=Qb.cell_by x1;have s2:=Qb.cell_by x2;have t0:=Qb.cell_by y0;have t1:=Qb.cell_by y1;have t2:=Qb.cell_by y2;clear x0 x1 x2 y0 y1 y2;have SB:=Lib.hid (fun (P:Qb.By wr)=>SA.out P.world (B.out.trans (P.below.mono B.out.size)));refine Qb.wp_region_by (by kernel_rfl) (by kernel_rfl) ?_
       repeat (quiet_step ((go_at_call 21;exact Qb.of_below (SB.out _))))
       refine wpQuiet_nil ?_
       intro _ hw'
       obtain ⟨pp,rfl⟩:=hw';clear s0 s1 s2 t0 t1 t2 SB SA;have BP:=Lib.hid (B.out.trans (pp.below.mono B.out.size));generalize pp.world=wp at *;go_wp2
       go_roundw
       case rel=>exact ⟨k+1,by omega,by go_num,ST,BP⟩
       case measure=>simp [intOf];omega
    ·have RES:Hid (decide (L.map Ent.abs=L'.map Ent.abs)=false):=decide_eq_false (NO.out fun h=>he h.1)
     clear NO YES RC RD SA;generalize cl.length=q at *;generalize dl.length=q' at *;go_wp2_with fail;have s0:=Qb.cell_by x0;have s1:=Qb.cell_by x1;have s2:=Qb.cell_by x2;have t0:=Qb.cell_by y0;have t1:=Qb.cell_by y1;have t2:=Qb.cell_by y2;clear x0 x1 x2 y0 y1 y2;refine Qb.wp_region_by (by kernel_rfl) (by kernel_rfl) ?_
     repeat (quiet_step (fail))
     refine wpQuiet_nil ?_
     intro _ hw'
     obtain ⟨pp,rfl⟩:=hw';go_wp2
     go_ret
     exact ⟨ret_bool RES.out.symm,B.out.trans (pp.below.mono B.out.size)⟩
   ·obtain rfl:k=N:=by omega
    have RES:Hid (decide (L.map Ent.abs=L'.map Ent.abs)=true):=by
     have e:=E.out;rw [List.take_of_length_le (by have:=HN.out;omega),List.take_of_length_le (by have:=HN.out;have:=HL.out;omega)] at e;exact decide_eq_true e
    go_wp2
    go_ret
    exact ⟨ret_bool RES.out.symm,B.out⟩
 ·have RES:Hid (decide (L.map Ent.abs=L'.map Ent.abs)=false):=decide_eq_false fun e=>hl (by have:=congrArg List.length e;rwa [List.length_map,List.length_map] at this)
  have h3:¬ ((L.length:Int)=L'.length):=by omega
  clear hl H3 H3' FL FL';generalize L.length=N at *;generalize L'.length=N' at *
  go_enter Tryd.func7,Tryd.ntmps7
  go_wp2
  go_ret
  exact ⟨ret_bool RES.out.symm,Below.refl _ _⟩
theorem same_is {w:World} {F F':Nat→Prop} {v v':Value} {A:Abs} (h:Ls F w v A) (h':Ls F' w v' A) (hlen:A.length≤64) :
 Calls Tryd.prog 7 #[v,v'] w fun e w'=>e = .returned (.bool true)∧Below w.heap.size w w':=by
 obtain ⟨L,hL,rfl⟩:=h;obtain ⟨L',hL',e⟩:=h';have:=same_any hL hL' (by rwa [List.length_map] at hlen)
 rwa [decide_eq_true e.symm] at this
end Go.Proofs.YtelgnhmcnfibnaaDoor.Fs
namespace Go.Proofs.YtelgnhmcnfibnaaDoor.Fs
open Go.RowKit Go.Maps
open Fl (R4 z4 K4 rec4 rat goodF goodFB okR okL file arr4 row_cell row_frozen)
open Rw (Rd Ow At)
structure Dd (w:World) (s r:Nat) (F:Nat→Prop) (A:Abs) (d:Int) (A':Abs) (d':Int) (W:World):Prop where
 st:St W s F A d
 rs:Rs W r F A' d'
 lo:∀ k,F k→w.heap.size≤k
 rlo:w.heap.size≤r
 bel:Below w.heap.size w W
section
variable {w W W':World} {s r:Nat} {F:Nat→Prop} {A A' A2:Abs} {d d' d2:Int}
theorem Dd.off (h:Dd w s r F A d A' d' W):¬ F r:=by obtain ⟨v,L,hh,_⟩:=h.rs;exact hh.off
theorem Dd.below (h:Dd w s r F A d A' d' W) (b:Below W.heap.size W W'):Dd w s r F A d A' d' W':=⟨h.st.below b,h.rs.below b,h.lo,h.rlo,h.bel.trans (b.mono h.bel.size)⟩
theorem Dd.glob (h:Dd w s r F A d A' d' W) (g:Glob w):Glob W∧¬ F 0:=⟨g.below h.bel,fun hk=>by have:=h.lo _ hk;have:_ < w.heap.size:=World.block_lt_of_cell? _ _ g;simp only at this;omega⟩
structure Cb (F:Nat→Prop) (r:Nat) (W:World) (g:Nat) (cs:Array Value) (t:TypeId):Prop where
 row:W.heap[g]? = some (.cells cs t (0,0))
 off:¬ F g
 ne:g≠r
theorem Cb.below {g:Nat} {cs:Array Value} {t:TypeId} (h:Cb F r W g cs t) (b:Below W.heap.size W W'):Cb F r W' g cs t:=⟨(b.block g (lt_of_block h.row)).trans h.row,h.off,h.ne⟩
theorem Dd.box (h:Dd w s r F A d A' d' W) (cs:Array Value) (t:TypeId):Cb F r (W.alloc (.cells cs t)) W.heap.size cs t:=⟨heap_alloc_new W _,fun hk=>by have:=h.st.low _ hk;omega,fun e=>by obtain ⟨v,L,hh,_⟩:=h.rs;have:=lt_of_block hh.row;omega⟩
end
end Go.Proofs.YtelgnhmcnfibnaaDoor.Fs
namespace Go.Proofs.YtelgnhmcnfibnaaDoor.Ua
open Go.RowKit
def arr (F:Nat→Bool):Array Value:=#[.bool (F 0),.bool (F 1),.bool (F 2),.bool (F 3),.bool (F 4),.bool (F 5),.bool (F 6),.bool (F 7),.bool (F 8),.bool (F 9),.bool (F 10)]
section
variable {w w':World} {g:Nat} {F:Nat→Bool}
end
theorem ret_bool {a b:Bool} (h:a=b):Ending.returned (.bool a) = .returned (.bool b):=by rw [h]
theorem ret_int {k:IntKind} {a b:Int} (h:a=b):Ending.returned (.int k a) = .returned (.int k b):=by rw [h]
end Go.Proofs.YtelgnhmcnfibnaaDoor.Ua
namespace Go.Proofs.YtelgnhmcnfibnaaDoor.Ck
open Go.RowKit
open Ro (E5 z5 eat ent K5)
open Rw (Rd Ow At)
abbrev Hd:=Option Addr×Nat×Nat
def sl (h:Hd):Value:=.slice h.1 h.2.1 h.2.2
def RdL (w:World) (v:Value) (L:LL):Prop:=∃ a cap,v = .slice a L.length cap∧(L.length≤cap∧(a=none→cap=0))∧cap≤maxLen ∧
 (0 < L.length→∃ b off,a=some ⟨b,off,none⟩∧∀ i,i < L.length→∃ u,w.cell? ⟨b,off+i,none⟩=some u∧Rd K5 w u (lat L i))
section
variable {w w':World} {v:Value} {L:LL}
theorem RdL.below (h:RdL w v L) (hb:Below w.heap.size w w'):RdL w' v L:=by
 obtain ⟨a,cap,e,h1,h2,h3⟩:=h;refine ⟨a,cap,e,h1,h2,fun hp=>?_⟩;obtain ⟨b,off,ea,hA⟩:=h3 hp;refine ⟨b,off,ea,fun i hi=>?_⟩;obtain ⟨u,c,r⟩:=hA i hi;exact ⟨u,(hb.cell (World.block_lt_of_cell? _ _ c)).trans c,r.below hb⟩
theorem RdL.slice (h:RdL w v L):∃ a cap,v = .slice a L.length cap∧cap≤maxLen:=by
 obtain ⟨a,cap,e,_,h2,_⟩:=h;exact ⟨a,cap,e,h2⟩
theorem RdL.one (h:RdL w v L) {k:Nat} (hk:k < L.length):∃ b off cap a' cap',v = .slice (some ⟨b,off,none⟩) L.length cap∧w.cell? ⟨b,off+k,none⟩=some (.slice a' (lat L k).length cap')∧cap'≤maxLen ∧
 (0 < (lat L k).length→∃ b' off',a'=some ⟨b',off',none⟩∧At K5 w b' off' (lat L k)):=by
 obtain ⟨a,cap,e,h1,h2,h3⟩:=h;obtain ⟨b,off,rfl,hA⟩:=h3 (by omega);obtain ⟨u,c,a',cap',rfl,g1,g2,g3⟩:=hA k hk;exact ⟨b,off,cap,a',cap',e,c,g2,g3⟩
theorem RdL.rd (h:RdL w v L) {k:Nat} (hk:k < L.length) {b off cap:Nat} (e:v = .slice (some ⟨b,off,none⟩) L.length cap) {u:Value} (c:w.cell? ⟨b,off+k,none⟩=some u):Rd K5 w u (lat L k):=by
 obtain ⟨a,cap',e',h1,h2,h3⟩:=h;obtain ⟨b',off',rfl,hA⟩:=h3 (by omega);rw [e] at e';injection e' with e1 _ _;injection e1 with e1;injection e1 with e1 e2 _;subst e1 e2;obtain ⟨u',c',r⟩:=hA k hk;rw [c] at c';injection c' with c';subst c';exact r
theorem RdL.take {a:Option Addr} {n cap:Nat} (h:RdL w (.slice a n cap) L) {k:Nat} (hk:k≤L.length):RdL w (.slice a k cap) (L.take k):=by
 obtain ⟨a',cap',e,h1,h2,h3⟩:=h;injection e with e1 e2 e3;subst e1 e2 e3;have hl:(L.take k).length=k:=by rw [List.length_take];omega
 refine ⟨a,cap,by rw [hl],⟨by omega,h1.2⟩,h2,fun hp=>?_⟩;rw [hl] at hp;obtain ⟨b,off,rfl,hA⟩:=h3 (by omega);refine ⟨b,off,rfl,fun i hi=>?_⟩;rw [hl] at hi;rw [lat_take hi];exact hA i (by omega)
end
section
variable {w w':World} {g:Nat} {F:Nat→Int}
end
end Go.Proofs.YtelgnhmcnfibnaaDoor.Ck
namespace Go.Proofs.YtelgnhmcnfibnaaDoor.Pa
open Go.RowKit Go.Maps
open Fl (R4 z4 K4 rec4 rat okR okL arr4 row_cell row_frozen)
open Fs (Abs St Rs Only Fx gB gV sB sA dA dE dD Wf OkA law keyI Rh)
open Rw (Rd Ow At)
open Ro (E5 z5 okE eat K5 ent)
open Ck (LL lat sN sE tE bI RdL)
def ptr (s:Nat):Value:=.pointer (some ⟨s,0,none⟩)
def KN:Rw.Kind Nat:=⟨fun s=>[ptr s],1,by decide,fun _=>rfl,fun _ u h=>by simp at h;subst h;rfl,0⟩
def KB:Rw.Kind Bool:=⟨fun b=>[.bool b],1,by decide,fun _=>rfl,fun _ u h=>by simp at h;subst h;rfl,false⟩
section
variable {w:World} {b off:Nat}
theorem atN {l:List Nat} (h:At KN w b off l) {i:Nat} (hi:i < l.length):w.cell? ⟨b,off+i,none⟩=some (ptr (l.getD i 0)):=by
 have c:=h i hi 0 _ rfl
 simpa [KN] using c
end
def Has (w:World) (s:Nat) (x:Abs×Int):Prop:=∃ F,St w s F x.1 x.2
def Hrf (w:World) (r:Nat) (x:Abs×Int):Prop:=Rs w r (fun _=>False) x.1 x.2
def Stl (w:World) (v:Value) (S:Sts):Prop:=∃ ps:List Nat,Rd KN w v ps∧ps.length=S.length∧∀ i,i < S.length→Has w (ps.getD i 0) (sat S i)
def Rfl (w:World) (v:Value) (S:Sts):Prop:=∃ ps:List Nat,Rd KN w v ps∧ps.length=S.length∧∀ i,i < S.length→Hrf w (ps.getD i 0) (sat S i)
section
variable {w w':World} {s:Nat} {x:Abs×Int} {v:Value} {S:Sts}
theorem Has.below (h:Has w s x) (b:Below w.heap.size w w'):Has w' s x:=by obtain ⟨F,h⟩:=h;exact ⟨F,h.below b⟩
theorem Hrf.below (h:Hrf w s x) (b:Below w.heap.size w w'):Hrf w' s x:=Fs.Rs.below h b
theorem Has.okA (h:Has w s x):OkA x.1:=by obtain ⟨F,h⟩:=h;exact h.okA
theorem Hrf.okA (h:Hrf w s x):OkA x.1:=by obtain ⟨v,L,h,e⟩:=h;rw [← e];exact h.ok
theorem Stl.below (h:Stl w v S) (b:Below w.heap.size w w'):Stl w' v S:=by obtain ⟨ps,h1,h2,h3⟩:=h;exact ⟨ps,h1.below b,h2,fun i hi=>(h3 i hi).below b⟩
theorem Rfl.below (h:Rfl w v S) (b:Below w.heap.size w w'):Rfl w' v S:=by obtain ⟨ps,h1,h2,h3⟩:=h;exact ⟨ps,h1.below b,h2,fun i hi=>(h3 i hi).below b⟩
theorem Stl.slice (h:Stl w v S):∃ a cap,v = .slice a S.length cap∧cap≤maxLen:=by obtain ⟨ps,h1,h2,_⟩:=h;rw [← h2];exact h1.slice
theorem Rfl.slice (h:Rfl w v S):∃ a cap,v = .slice a S.length cap∧cap≤maxLen:=by obtain ⟨ps,h1,h2,_⟩:=h;rw [← h2];exact h1.slice
theorem Stl.one (h:Stl w v S) {k:Nat} (hk:k < S.length):∃ b off cap s,v = .slice (some ⟨b,off,none⟩) S.length cap∧w.cell? ⟨b,off+k,none⟩=some (ptr s)∧Has w s (sat S k):=by
 obtain ⟨ps,h1,h2,h3⟩:=h;obtain ⟨a,cap,e,_,_,g⟩:=h1;obtain ⟨b,off,rfl,hA⟩:=g (by omega);exact ⟨b,off,cap,_,by rw [← h2];exact e,atN hA (by omega),h3 k hk⟩
theorem Rfl.one (h:Rfl w v S) {k:Nat} (hk:k < S.length):∃ b off cap s,v = .slice (some ⟨b,off,none⟩) S.length cap∧w.cell? ⟨b,off+k,none⟩=some (ptr s)∧Hrf w s (sat S k):=by
 obtain ⟨ps,h1,h2,h3⟩:=h;obtain ⟨a,cap,e,_,_,g⟩:=h1;obtain ⟨b,off,rfl,hA⟩:=g (by omega);exact ⟨b,off,cap,_,by rw [← h2];exact e,atN hA (by omega),h3 k hk⟩
end
structure Ns (w:World) (vs vt vl:Value) (S:Sts) (T:LL) (V:List Bool):Prop where
 st:Stl w vs S
 tb:RdL w vt T
 lv:Rd KB w vl V
 lt:T.length=S.length
 ll:V.length=S.length
 ok:tE T=0
structure Nr (w:World) (vs vt vl:Value) (S:Sts) (T:LL) (V:List Bool):Prop where
 st:Rfl w vs S
 tb:RdL w vt T
 lv:Rd KB w vl V
 lt:T.length=S.length
 ll:V.length=S.length
 ok:tE T=0
section
variable {w w':World} {vs vt vl:Value} {S:Sts} {T:LL} {V:List Bool}
theorem Ns.below (h:Ns w vs vt vl S T V) (b:Below w.heap.size w w'):Ns w' vs vt vl S T V:=⟨h.st.below b,h.tb.below b,h.lv.below b,h.lt,h.ll,h.ok⟩
theorem Nr.below (h:Nr w vs vt vl S T V) (b:Below w.heap.size w w'):Nr w' vs vt vl S T V:=⟨h.st.below b,h.tb.below b,h.lv.below b,h.lt,h.ll,h.ok⟩
end
end Go.Proofs.YtelgnhmcnfibnaaDoor.Pa
namespace Go.Proofs.YtelgnhmcnfibnaaDoor.Pa
open Go.RowKit Go.Maps
open Fs (Wf law keyI Rh)
open Rw (Rd Ow At)
open Ro (E5 z5 eat K5)
def bv (y:Int):Value:=.int .u8 y
structure HIs (D:DataW Value) (h:Hr):Prop where
 has:∀ n,Wf n→Maps.has D (.int .i64 n)=(h n).isSome
 val:∀ n y,Wf n→h n=some y→∀ z,D.atKey (.int .i64 n) z = .held (bv y)
def HBl (w:World) (b N:Nat) (h:Hr):Prop:=∃ D,w.ownsMap Tryd.prog 3 Rh b N D∧HIs D h
def HMap (w:World) (v:Value) (h:Hr):Prop:=∃ b N,v = .map (some b)∧HBl w b N h
theorem zeroB (w:World):(zeroValue 5).run Tryd.prog w = .ok (.int .u8 0) w:=by kernel_rfl
section
variable {w w':World} {v:Value} {h:Hr} {b N:Nat}
theorem HBl.lt (M:HBl w b N h):b < w.heap.size:=by obtain ⟨D,o,_⟩:=M;exact o.lt
theorem HBl.kept (M:HBl w b N h) (e:w'.heap[b]? = w.heap[b]?):HBl w' b N h:=by
 obtain ⟨D,⟨es,clock,hb,F,hs,hD⟩,I⟩:=M;exact ⟨D,⟨es,clock,e.trans hb,F,hs,hD⟩,I⟩
theorem HBl.below (M:HBl w b N h) (hb:Below w.heap.size w w'):HBl w' b N h:=M.kept (hb.block b M.lt)
theorem HMap.below (M:HMap w v h) (hb:Below w.heap.size w w'):HMap w' v h:=by
 obtain ⟨b,N,e,M⟩:=M;exact ⟨b,N,e,M.below hb⟩
theorem HMap.only {G:Nat→Prop} (M:HMap w v h) (ho:Fs.Only G w w') (hn:∀ b,v = .map (some b)→¬ G b):HMap w' v h:=by
 obtain ⟨b,N,e,M⟩:=M;exact ⟨b,N,e,M.kept (ho.block b M.lt (hn b e))⟩
def hput (h:Hr) (n y:Int):Hr:=fun m=>if m=n then some y else h m
theorem HIs.put {D:DataW Value} (I:HIs D h) (hD:IsMap D) {n y:Int} (hn:Wf n):HIs (D.put (.int .i64 n) (.held (bv y))) (hput h n y) where
 has m hm:=by
  unfold hput
  by_cases e:m=n
  ·subst e
   rw [has_put_same hD (law.key (keyI hn)),if_pos rfl]
   rfl
  ·rw [has_put_other (fun e2=>e (by injection e2)),if_neg e]
   exact I.has m hm
 val m z hm hz u:=by
  unfold hput at hz
  by_cases e:m=n
  ·subst e
   rw [if_pos rfl] at hz;injection hz with hz;subst hz;exact atKey_put_same hD (law.key (keyI hn)) _ _
  ·rw [if_neg e] at hz
   rw [atKey_put_other (fun e2=>e (by injection e2))];exact I.val m z hm hz u
theorem run_hput (M:HBl w b N h) (hN:N < maxLen) {n y:Int} (hn:Wf n):∃ w',(Instr.mapUpdate 35 (.map (some b)) (.int .i64 n) (bv y)).run Tryd.prog w = .ok () w'∧HBl w' b (N+1) (hput h n y)∧w.grownBy w' (some b):=by
 obtain ⟨D,o,I⟩:=M;obtain ⟨w',hr,h',hg⟩:=o.update law Tryd.underlying35 hN (keyI hn) (val:=bv y) (d:=.held (bv y)) (ps:=[]) rfl;exact ⟨w',hr,⟨_,h',I.put o.isMap hn⟩,hg⟩
theorem hbl_new (w:World):HBl (w.alloc (.map #[] 0)) w.heap.size 0 (fun _=>none):=⟨_,World.ownsMap_made _ _ _ _,fun _ _=>rfl,fun _ _ _ h=>by cases h⟩
end
section
variable {w w':World} {b N:Nat} {t:List E5} {vs:Int→Int→Value} {D:DataW Value}
end
end Go.Proofs.YtelgnhmcnfibnaaDoor.Pa
namespace Go.Proofs.YtelgnhmcnfibnaaDoor.Sv
open Go.RowKit Go.Maps
open Fl (R4 z4 rec4 arr4 row_cell row_frozen)
open Fs (Wf law keyI Rh Only)
open Pa (HMap HIs bv zeroB Hr)
attribute [local irreducible] Sd.wpSd wpQuiet Sz.wpSz
def Tm (w:World) (v:Value) (t:Nat→Int):Prop:=∃ h:Hr,(∀ i:Nat,(h i).getD 0=t i)∧(v = .map none∧(∀ n,h n=none)∨HMap w v h)
theorem Tm.below {w w':World} {v:Value} {t:Nat→Int} (M:Tm w v t) (hb:Below w.heap.size w w'):Tm w' v t:=by
 obtain ⟨h,e,m⟩:=M;exact ⟨h,e,m.imp id fun m=>m.below hb⟩
theorem Tm.only {w w':World} {v:Value} {t:Nat→Int} {G:Nat→Prop} (M:Tm w v t) (ho:Only G w w') (hn:∀ b,v = .map (some b)→¬ G b):Tm w' v t:=by
 obtain ⟨h,e,m⟩:=M;exact ⟨h,e,m.imp id fun m=>m.only ho hn⟩
theorem Tm.lt {w:World} {v:Value} {t:Nat→Int} (M:Tm w v t):∀ b,v = .map (some b)→b < w.heap.size:=by
 obtain ⟨h,e,⟨rfl,_⟩ | ⟨b,N,rfl,m⟩⟩:=M
 ·exact nofun
 ·intro b' e
  injection e with e;injection e with e;subst e;exact m.lt
theorem Tm.nil (w:World):Tm w (.map none) (fun _=>0):=⟨fun _=>none,fun _=>rfl,.inl ⟨rfl,fun _=>rfl⟩⟩
theorem run_turned {w:World} {v:Value} {t:Nat→Int} (M:Tm w v t) (i:Nat) (hi:i < 1000):(Instr.lookup 35 v (.int .i64 i) false).run Tryd.prog w = .ok (.int .u8 (t i)) w:=by
 have hn:Wf (i:Int):=WalkArith.wf_i64 (by omega);obtain ⟨h,e,⟨rfl,hz⟩ | M⟩:=M
 ·have:t i=0:=by rw [← e i,hz];rfl
  rw [this];exact Maps.look_nil false law Tryd.underlying35 (zeroB w) (keyI hn)
 ·obtain ⟨b,N,rfl,D,o,I⟩:=M
  obtain ⟨u,ps,hr,hu⟩:=o.lookup law Tryd.underlying35 (zeroB w) (zd:=.held (bv 0)) (zp:=[]) rfl (keyI hn);have:u = .int .u8 (t i):=by
   have e2:DataW.held u=D.atKey (.int .i64 (i:Int)) (.held (bv 0)):=by simp [Rh] at hu;exact hu.1
   rw [← e i]
   rcases ey:h (i:Int) with _ | y
   ·have:=I.has (i:Int) hn
    rw [ey] at this;rw [atKey_of_not_has this] at e2;injection e2
   ·rw [I.val (i:Int) y hn ey] at e2
    injection e2
  rw [hr,this]
def TurnPost (w:World) (g:Nat) (T:TypeId) (m:Nat) (F:Nat→Int) (e:Ending) (w':World):Prop:=e = .returned (.tuple #[])∧RowF w' g T m F∧Only (fun k=>k=g) w w'
set_option maxHeartbeats 1000000 in
theorem turn_any {w:World} {g m j:Nat} {T:TypeId} {F:Nat→Int} {v:Value} {t:Nat→Int} (R:RowF w g T m F) (M:Tm w v t) (hg:∀ b,v = .map (some b)→b≠g) (hm:m≤5) (hj:j≤9) :
 Calls Tryd.prog 17 #[.slice (some ⟨g,0,none⟩) m m,.int .i64 j,v] w (TurnPost w g T m (tF F t j m)):=by
 have R0:Hid (RowF w g T m (tF F t j 0)):=Lib.hid (R.to fun i _=>by unfold tF;rw [if_neg (by omega)]);have MM:=Lib.hid M;have HG:=Lib.hid hg;clear R M hg
 go_enter Tryd.func17,Tryd.ntmps17
 go_wp2
 go_loopw [9] (fun i wr=>∃ k:Nat,k≤m∧i = .int .i64 k∧Hid (RowF wr g T m (tF F t j k))∧Hid (Only (fun k=>k=g) w wr)) (fun i _=>m - (intOf i).toNat)
 case atStart=>exact ⟨0,Nat.zero_le _,rfl,R0,Lib.hid (Only.refl _ _)⟩
 case round =>
  obtain ⟨k,hk,rfl,RR,OO⟩:=hrel;clear R0
  by_cases hlt:k < m
  ·have hkm:(k:Int) < m:=by omega
   have TT:=Lib.hid (MM.out.only OO.out fun b e h=>HG.out b e h);have wk:IntKind.i64.wrap ((j:Int)+k)=(j:Int)+k:=IntWalk.i64_in _ (by omega);go_upto_region 3 with fail;have c0:=RR.out.cell hlt;rw [tF_at] at c0;have lt:=RR.out.lt;have x0:=Sc.cell_in (C:=Below wr.heap.size wr) (a:=⟨g,k,none⟩) (v:=.int .u8 (F k)) (fun W' h=>(h.cell lt).trans c0);have ne:Nonempty (Sc.In (Below wr.heap.size wr)):=⟨⟨_,Below.refl _ _⟩⟩;have rl:∀ p:Sc.In (Below wr.heap.size wr),(Instr.lookup 35 v (.int .i64 ((j:Int)+k)) false).run Tryd.prog p.world = .ok (.int .u8 (t (j+k))) p.world:=fun p=>run_turned (TT.out.below p.ok) (j+k) (by omega);have NX:=Lib.hid (fun W (h:RowF W g T m (tF F t j k))=>(h.set_ k (bx (F k) (t (j+k)))).to fun i _=>tF_next F t j k i);generalize t (j+k)=tk at *;refine Sz.start (Below wr.heap.size wr) [(false,0),(false,1),(false,2),(false,3),(false,4),(false,5),(false,6),(false,7),(false,8),(false,9),(false,10)] 11 (by kernel_rfl) (by kernel_rfl) (by kernel_rfl) rfl rfl (Below.refl _ _).drew ?_;dsimp only [Sd.picks,List.getElem?_cons_succ,List.getElem?_cons_zero]
   repeat (refine Sz.lit ?_;quiet_step (fail);refine wpQuiet_nil ?_)
   refine Sz.done ?_;clear x0 rl ne;have R1:Hid (RowF wr.drew g T m (tF F t j k)):=RR.out;have O1:Hid (Only (fun k=>k=g) w wr.drew):=Lib.hid (OO.out.then (Below.refl _ _).drew);have c1:wr.drew.cell? ⟨g,k,none⟩=some (.int .u8 (F k)):=c0;clear c0 RR OO;generalize wr.drew=W at *;have f1:=R1.out.frozen k;have R2:=Lib.hid (NX.out _ R1.out);have O2:=Lib.hid (O1.out.trans (Only.set (fun k=>k=g) W (a:=⟨g,k,none⟩) rfl (.int .u8 (bx (F k) tk))) fun _ _ h=>h);unfold bx at R2 O2;clear R1 O1 NX;go_simp;refine NoPanic.normal ?_;go_wp2
   go_roundw
   case rel=>exact ⟨k+1,by omega,by go_num,R2,O2⟩
   case measure=>simp [intOf];omega
  ·obtain rfl:k=m:=by omega
   go_wp2
   (try simp only [Exit.inBlock,Exit.then])
   exact bodyPost_ret (v:=.tuple #[]) (by simp [results,Tryd.f17]) rfl ⟨rfl,RR.out,OO.out⟩
end Go.Proofs.YtelgnhmcnfibnaaDoor.Sv
namespace Go.Proofs.YtelgnhmcnfibnaaDoor.Sv
open Go.RowKit Go.Maps
open Fl (R4 z4 rec4 arr4 okR row_cell row_frozen sto4 sto4_below okR_z)
open Fs (Abs Only Fx results_rec Glob)
open Ad (addr)
attribute [local irreducible] Sd.wpSd wpQuiet
theorem okR_tn4 (q:R4) (t:Nat→Int):okR (tn4 q t):=⟨bx_is _ _,bx_is _ _,bx_is _ _,bx_is _ _⟩
theorem is5_tn5 (b:B5) (t:Nat→Int) (k:Nat):is5 (tn5 b t k):=⟨bx_is _ _,bx_is _ _,bx_is _ _,bx_is _ _,bx_is _ _⟩
section
variable (z:Bool) (A:Abs) (n m o f r:Int) (v:R4) (t:Nat→Int)
def tyE:Int:=if askE m o f r=0 then (if obE z A n (trQ m o f r t) (trB v t)=0 then opnE (tn5 (datB (obV z A n (trQ m o f r t) (trB v t))) t 9) else 13) else askE m o f r
def tyV:R4:=if askE m o f r=0 then (if obE z A n (trQ m o f r t) (trB v t)=0 then opnV (tn5 (datB (obV z A n (trQ m o f r t) (trB v t))) t 9) else z4) else z4
def tyA:Abs:=if askE m o f r=0 then obA z A n (trQ m o f r t) (trB v t) else A
def tyD (d:Int):Int:=if askE m o f r=0 then obD z A n (trQ m o f r t) (trB v t) d else d
end
def TyPost (w:World) (p:Value) (F:Nat→Prop) (A:Abs) (d:Int) (z:Bool) (n m o f r:Int) (v:R4) (t:Nat→Int) (e:Ending) (w':World):Prop :=
 e = .returned (.tuple #[rec4 (tyV z A n m o f r v t),.int .i64 (tyE z A n m o f r v t)])∧Nd w' p (Fx F w w') (tyA z A n m o f r v t) (tyD z A n m o f r v t d) z∧Only F w w'
structure Ty0 (w:World) (o f r:Int) (v:R4) (W:World):Prop where
 a:W.heap[w.heap.size]? = some (.cells #[.int .i64 o,.int .i64 f,.int .i64 r] 24 (0,0))
 v:W.heap[w.heap.size+1]? = some (.cells (arr4 v) 26 (0,0))
 r:W.heap[w.heap.size+2]? = some (.cells (arr4 z4) 26 (0,0))
 bel:Below w.heap.size w W
 siz:w.heap.size+3≤W.heap.size
section
variable {w W W':World} {o f r:Int} {v:R4}
theorem Ty0.only (h:Ty0 w o f r v W) {G:Nat→Prop} (k:Only G W W') (hG:∀ j,G j→w.heap.size+3≤j):Ty0 w o f r v W' :=
 have s:=h.siz
 ⟨(k.block _ (by omega) (fun g=>by have:=hG _ g;omega)).trans h.a,(k.block _ (by omega) (fun g=>by have:=hG _ g;omega)).trans h.v,(k.block _ (by omega) (fun g=>by have:=hG _ g;omega)).trans h.r,h.bel.trans (k.below h.bel.size fun j g=>by have:=hG _ g;omega),Nat.le_trans h.siz k.size⟩
theorem Ty0.mono (h:Ty0 w o f r v W) (k:Below W.heap.size W W'):Ty0 w o f r v W':=h.only (G:=fun _=>False) (Only.of_below k) nofun
end
theorem ty0_of (w:World) (o f r:Int) (v:R4):Ty0 w o f r v (((w.alloc (.cells #[.int .i64 o,.int .i64 f,.int .i64 r] 24)).alloc (.cells (arr4 v) 26)).alloc (.cells (arr4 z4) 26)):=by
 have h1:∀ o,(w.alloc o).heap.size=w.heap.size+1:=fun o=>by simp
 have h2:∀ o o',((w.alloc o).alloc o').heap.size=w.heap.size+2:=fun o o'=>by simp
 have r1:=heap_alloc_new w (.cells #[.int .i64 o,.int .i64 f,.int .i64 r] 24);have r2:=heap_alloc_new (w.alloc (.cells #[.int .i64 o,.int .i64 f,.int .i64 r] 24)) (.cells (arr4 v) 26);have r3:=heap_alloc_new ((w.alloc (.cells #[.int .i64 o,.int .i64 f,.int .i64 r] 24)).alloc (.cells (arr4 v) 26)) (.cells (arr4 z4) 26);rw [h1] at r2;rw [h2] at r3
 exact ⟨(Below.heap_alloc _ _ _ (by rw [h2];omega)).trans ((Below.heap_alloc _ _ _ (by rw [h1];omega)).trans r1),(Below.heap_alloc _ _ _ (by rw [h2];omega)).trans r2,r3,
  (((Below.refl w.heap.size w).alloc (Nat.le_refl _) _).alloc (by rw [h1];omega) _).alloc (by rw [h2];omega) _,by simp⟩
set_option maxHeartbeats 4000000 in
theorem try_any {w:World} {p:Value} {F:Nat→Prop} {A:Abs} {d:Int} {z:Bool} (N:Nd w p F A d z) (hd:0≤d∧d < 1000000) (n m o f r:Int) (v:R4) {mv:Value} {t:Nat→Int} (M:Tm w mv t) (hM:∀ b,mv = .map (some b)→¬ F b) :
 Calls Tryd.prog 6 #[p,.int .i64 n,.int .i64 m,addr o f r,rec4 v,mv] w (TyPost w p F A d z n m o f r v t):=by
 have S0:Hid (Ty0 w o f r v (((w.alloc (.cells #[.int .i64 o,.int .i64 f,.int .i64 r] 24)).alloc (.cells #[.int .u8 v.1,.int .u8 v.2.1,.int .u8 v.2.2.1,.int .u8 v.2.2.2] 26)).alloc (.cells #[.int .u8 0,.int .u8 0,.int .u8 0,.int .u8 0] 26))):=Lib.hid (ty0_of w o f r v);have NN:=Lib.hid N;have HM:=Lib.hid hM;have MM:=Lib.hid M;have HLT:=Lib.hid M.lt;have AK:Hid (∀ W,Calls Tryd.prog 15 #[.int .i64 m,.agg #[.int .i64 o,.int .i64 f,.int .i64 r]] W (AskPost W m o f r)):=Lib.hid fun W=>sask_any W m o f r;have DA:Hid (∀ W,Calls Tryd.prog 16 #[.agg #[.int .u8 v.1,.int .u8 v.2.1,.int .u8 v.2.2.1,.int .u8 v.2.2.2]] W fun e w'=>e = .returned (val5 (datB v))∧Below W.heap.size W w'):=Lib.hid fun W=>data_any W v;have RP:=Lib.hid (fun W (h:Nd W p F A d z)=>reply_any h hd n (trQ m o f r t) (okR_tn4 _ _) (trB v t) (is5_tn5 _ _ _));have FIN:Hid (∀ e u w',e=tyE z A n m o f r v t→u=tyV z A n m o f r v t→(Nd w' p (Fx F w w') (tyA z A n m o f r v t) (tyD z A n m o f r v t d) z∧Only F w w')→TyPost w p F A d z n m o f r v t (.returned (.tuple #[rec4 u,.int .i64 e])) w'):=Lib.hid fun e u w' h1 h2 h=>by subst h1 h2;exact ⟨rfl,h⟩
 unfold tyE tyV tyA tyD at FIN;unfold AskPost at AK;unfold RpPost rpB rpX at RP;have TQ:Hid (trQ m o f r t=tn4 (askB m o f r) t):=Lib.hid rfl;have TB:Hid (trB v t=tn5 (datB v) t 4):=Lib.hid rfl;clear N hM M hd;generalize hq:trQ m o f r t=Q2 at *;generalize hb:trB v t=B2 at *;generalize askB m o f r=Q1 at *;generalize askE m o f r=E1 at *;generalize datB v=B1 at *;generalize obV z A n Q2 B2=V at *;generalize obE z A n Q2 B2=E at *;generalize obA z A n Q2 B2=A' at *;generalize obD z A n Q2 B2 d=D' at *;clear hq hb;unfold rec4 addr at *
 go_enter Tryd.func6,Tryd.ntmps6
 go_wp2_with fail;generalize ((w.alloc (.cells #[.int .i64 o,.int .i64 f,.int .i64 r] 24)).alloc (.cells #[.int .u8 v.1,.int .u8 v.2.1,.int .u8 v.2.2.1,.int .u8 v.2.2.2] 26)).alloc (.cells #[.int .u8 0,.int .u8 0,.int .u8 0,.int .u8 0] 26)=W at *;refine (AK.out W).mono ?_;rintro e w1 ⟨rfl,bw⟩;have S1:=Lib.hid ((S0.out.mono bw).mono ((Below.refl w1.heap.size w1).alloc (Nat.le_refl _) (.cells #[.int .u8 Q1.1,.int .u8 Q1.2.1,.int .u8 Q1.2.2.1,.int .u8 Q1.2.2.2] 25)));have QR1:Hid (RowF (w1.alloc (.cells #[.int .u8 Q1.1,.int .u8 Q1.2.1,.int .u8 Q1.2.2.1,.int .u8 Q1.2.2.2] 25)) w1.heap.size 25 4 (f4 Q1)):=Lib.hid (heap_alloc_new w1 _);have GQ:Hid (w.heap.size+3≤w1.heap.size):=Lib.hid (S0.out.mono bw).siz;clear bw S0 AK;go_upto_region 2 with fail;generalize w1.alloc (.cells #[.int .u8 Q1.1,.int .u8 Q1.2.1,.int .u8 Q1.2.2.1,.int .u8 Q1.2.2.2] 25)=W1 at *;generalize w1.heap.size=gq at *
 by_cases hE:E1=0
 ·subst hE
  simp only [if_true] at FIN;have v0:W1.cell? ⟨w.heap.size+1,0,none⟩=some (.int .u8 v.1):=row_cell S1.out.v 0;have v1:W1.cell? ⟨w.heap.size+1,1,none⟩=some (.int .u8 v.2.1):=row_cell S1.out.v 1;have v2:W1.cell? ⟨w.heap.size+1,2,none⟩=some (.int .u8 v.2.2.1):=row_cell S1.out.v 2;have v3:W1.cell? ⟨w.heap.size+1,3,none⟩=some (.int .u8 v.2.2.2):=row_cell S1.out.v 3;unfold val5 at DA;go_wp2_with fail;clear v0 v1 v2 v3;refine (DA.out W1).mono ?_;rintro e w2 ⟨rfl,bw⟩;have S2:=Lib.hid ((S1.out.mono bw).mono ((Below.refl w2.heap.size w2).alloc (Nat.le_refl _) (.cells #[.int .u8 B1.1,.int .u8 B1.2.1,.int .u8 B1.2.2.1,.int .u8 B1.2.2.2.1,.int .u8 B1.2.2.2.2] 60)));have QR2:=Lib.hid (QR1.out.kept ((Below.heap_alloc w2 (.cells #[.int .u8 B1.1,.int .u8 B1.2.1,.int .u8 B1.2.2.1,.int .u8 B1.2.2.2.1,.int .u8 B1.2.2.2.2] 60) gq (Nat.lt_of_lt_of_le QR1.out.lt bw.size)).trans (bw.block gq QR1.out.lt)));have BR2:Hid (RowF (w2.alloc (.cells #[.int .u8 B1.1,.int .u8 B1.2.1,.int .u8 B1.2.2.1,.int .u8 B1.2.2.2.1,.int .u8 B1.2.2.2.2] 60)) w2.heap.size 60 5 (f5 B1)):=Lib.hid (heap_alloc_new w2 _);have GB:Hid (gq < w2.heap.size):=Lib.hid (Nat.lt_of_lt_of_le QR1.out.lt bw.size);clear bw S1 DA QR1;go_upto_region 5 with fail;generalize w2.alloc (.cells #[.int .u8 B1.1,.int .u8 B1.2.1,.int .u8 B1.2.2.1,.int .u8 B1.2.2.2.1,.int .u8 B1.2.2.2.2] 60)=W2 at *;generalize w2.heap.size=gb at *;have T1:Calls Tryd.prog 17 #[.slice (some ⟨gq,0,none⟩) 4 4,.int .i64 0,mv] W2 (TurnPost W2 gq 25 4 (tF (f4 Q1) t 0 4)):=turn_any (j:=0) QR2.out (MM.out.below S2.out.bel) (fun b e=>by have:=HLT.out b e;have:=GQ.out;omega) (by omega) (by omega);have HT1:=Lib.hid T1;clear T1;go_wp2_with fail;refine HT1.out.mono ?_;rintro e w3 ⟨rfl,rw3,on3⟩;have QR3:Hid (RowF w3 gq 25 4 (f4 Q2)):=Lib.hid (by rw [TQ.out];exact rw3.to fun i hi=>tF_4 Q1 t i hi);have S3:=Lib.hid (S2.out.only on3 fun j e=>by have:=GQ.out;omega);have BR3:=Lib.hid (BR2.out.kept (on3.block gb BR2.out.lt (fun e=>by have:=GB.out;omega)));clear rw3 on3 S2 QR2 BR2 HT1 TQ;have T2:Calls Tryd.prog 17 #[.slice (some ⟨gb,0,none⟩) 5 5,.int .i64 4,mv] w3 (TurnPost w3 gb 60 5 (tF (f5 B1) t 4 5)):=turn_any (j:=4) BR3.out (MM.out.below S3.out.bel) (fun b e=>by have:=HLT.out b e;have:=GQ.out;have:=GB.out;omega) (by omega) (by omega);have HT2:=Lib.hid T2;clear T2;go_wp2_with fail;refine HT2.out.mono ?_;rintro e w4 ⟨rfl,rw4,on4⟩;have BR4:Hid (RowF w4 gb 60 5 (f5 B2)):=Lib.hid (by rw [TB.out];exact rw4.to fun i hi=>tF_5 B1 t 4 i hi);have S4:=Lib.hid (S3.out.only on4 fun j e=>by have:=GQ.out;have:=GB.out;omega);have QR4:=Lib.hid (QR3.out.kept (on4.block gq QR3.out.lt (fun e=>by have:=GB.out;omega)));clear rw4 on4 S3 QR3 BR3 HT2 TB;have q0:w4.cell? ⟨gq,0,none⟩=some (.int .u8 Q2.1):=QR4.out.cell (by decide);have q1:w4.cell? ⟨gq,1,none⟩=some (.int .u8 Q2.2.1):=QR4.out.cell (by decide);have q2:w4.cell? ⟨gq,2,none⟩=some (.int .u8 Q2.2.2.1):=QR4.out.cell (by decide);have q3:w4.cell? ⟨gq,3,none⟩=some (.int .u8 Q2.2.2.2):=QR4.out.cell (by decide);have b0:w4.cell? ⟨gb,0,none⟩=some (.int .u8 B2.1):=BR4.out.cell (by decide);have b1:w4.cell? ⟨gb,1,none⟩=some (.int .u8 B2.2.1):=BR4.out.cell (by decide);have b2:w4.cell? ⟨gb,2,none⟩=some (.int .u8 B2.2.2.1):=BR4.out.cell (by decide);have b3:w4.cell? ⟨gb,3,none⟩=some (.int .u8 B2.2.2.2.1):=BR4.out.cell (by decide);have b4:w4.cell? ⟨gb,4,none⟩=some (.int .u8 B2.2.2.2.2):=BR4.out.cell (by decide);unfold val5 at RP;go_wp2_with fail;clear q0 q1 q2 q3 b0 b1 b2 b3 b4
  by_cases h0:E=0
  ·have HRP:=Lib.hid (fun W h=>(RP.out W h))
   subst h0;simp only [if_true] at FIN HRP;generalize datB V=D at *;clear RP;clear QR4 BR4;refine (HRP.out w4 (NN.out.below S4.out.bel)).mono ?_;rintro e w5 ⟨rfl,nd,on⟩;have R5:=(on.block _ (lt_of_block S4.out.r) (fun g=>by have:=NN.out.low _ g;omega)).trans S4.out.r;have DONE:Hid (∀ w',Only (fun j=>w.heap.size≤j∧j < w4.heap.size) w5 w'→Nd w' p (Fx F w w') A' D' z∧Only F w w'):=Lib.hid fun w' k=>NN.out.fin S4.out.bel nd on k;have G5:Hid (Glob w5):=Lib.hid nd.glob;have M5:=Lib.hid ((MM.out.below S4.out.bel).only on HM.out);have L5:Hid (w.heap.size+3≤w4.heap.size∧w4.heap.size≤w5.heap.size):=Lib.hid ⟨S4.out.siz,on.size⟩;have B6:=Lib.hid ((Below.refl w5.heap.size w5).alloc (Nat.le_refl _) (.cells #[.int .u8 D.1,.int .u8 D.2.1,.int .u8 D.2.2.1,.int .u8 D.2.2.2.1,.int .u8 D.2.2.2.2] 60));have DR6:Hid (RowF (w5.alloc (.cells #[.int .u8 D.1,.int .u8 D.2.1,.int .u8 D.2.2.1,.int .u8 D.2.2.2.1,.int .u8 D.2.2.2.2] 60)) w5.heap.size 60 5 (f5 D)):=Lib.hid (heap_alloc_new w5 _);have R5':=Lib.hid R5;clear nd on S4 NN R5 HRP MM HM;go_upto_region 8 with fail;generalize w5.alloc (.cells #[.int .u8 D.1,.int .u8 D.2.1,.int .u8 D.2.2.1,.int .u8 D.2.2.2.1,.int .u8 D.2.2.2.2] 60)=W6 at *;have B7:=Lib.hid (B6.out.trans (((Below.refl W6.heap.size W6).alloc (Nat.le_refl _) (.cells #[.int .i64 0,.nilIface] 69)).mono B6.out.size));have H7:Hid ((W6.alloc (.cells #[.int .i64 0,.nilIface] 69)).heap[W6.heap.size]? = some (.cells #[.int .i64 0,.nilIface] 69 (0,0))):=Lib.hid (heap_alloc_new W6 _);have L6:Hid (w5.heap.size < W6.heap.size):=Lib.hid DR6.out.lt;have DR7:=Lib.hid (DR6.out.kept (Below.heap_alloc W6 (.cells #[.int .i64 0,.nilIface] 69) _ DR6.out.lt));clear B6 DR6;go_upto_region 9 with fail;generalize W6.alloc (.cells #[.int .i64 0,.nilIface] 69)=W7 at *;generalize hg6:W6.heap.size=g6 at *;clear hg6;generalize hg5:w5.heap.size=g5 at *;have HG5:=Lib.hid hg5;clear hg5;go_wp2_with fail;refine (as_none _ W7).mono ?_;rintro e w8 ⟨rfl,b8⟩;have B8:=Lib.hid (B7.out.trans (b8.mono (by rw [← HG5.out];exact B7.out.size)));have DR8:=Lib.hid (DR7.out.kept (b8.block _ DR7.out.lt));have T3:Calls Tryd.prog 17 #[.slice (some ⟨g5,0,none⟩) 5 5,.int .i64 9,mv] w8 (TurnPost w8 g5 60 5 (tF (f5 D) t 9 5)):=turn_any (j:=9) DR8.out (M5.out.below (by rw [HG5.out];exact B8.out)) (fun b e=>by have:=HLT.out b e;have:=L5.out;omega) (by omega) (by omega);have HT3:=Lib.hid T3;have R8:=Lib.hid ((B8.out.block _ (by have:=lt_of_block R5'.out;have:=HG5.out;omega)).trans R5'.out);clear T3 b8 B7 DR7 H7 G5 M5;go_wp2_with fail;refine HT3.out.mono ?_;rintro e w9 ⟨rfl,rw9,on9⟩;generalize hb3:tn5 D t 9=B3 at *;have DR9:Hid (RowF w9 g5 60 5 (f5 B3)):=Lib.hid (by rw [← hb3];exact rw9.to fun i hi=>tF_5 D t 9 i hi);clear hb3;have K9:Hid (Only (fun j=>w.heap.size≤j∧j < w4.heap.size) w5 w9):=Lib.hid ((Only.of_below (by rw [HG5.out];exact B8.out)).trans on9 fun j hj e=>by have:=HG5.out;omega);have R9:=Lib.hid ((on9.block _ (lt_of_block R8.out) (fun e=>by have:=HG5.out;have:=L5.out;omega)).trans R8.out);clear rw9 on9 HT3 DR8 B8 R8;have OP:=open_any w9 B3;unfold OpnPost val5 rec4 at OP;have b0:w9.cell? ⟨g5,0,none⟩=some (.int .u8 B3.1):=DR9.out.cell (by decide);have b1:w9.cell? ⟨g5,1,none⟩=some (.int .u8 B3.2.1):=DR9.out.cell (by decide);have b2:w9.cell? ⟨g5,2,none⟩=some (.int .u8 B3.2.2.1):=DR9.out.cell (by decide);have b3:w9.cell? ⟨g5,3,none⟩=some (.int .u8 B3.2.2.2.1):=DR9.out.cell (by decide);have b4:w9.cell? ⟨g5,4,none⟩=some (.int .u8 B3.2.2.2.2):=DR9.out.cell (by decide);generalize opnE B3=OE at *;generalize opnV B3=OV at *;have HOP:=Lib.hid OP;clear OP;go_wp2_with fail;clear b0 b1 b2 b3 b4;refine HOP.out.mono ?_;rintro e w10 ⟨rfl,b10⟩;have RA:=(b10.block _ (lt_of_block R9.out)).trans R9.out;have K10:=Lib.hid (DONE.out _ ((K9.out.then b10).trans (st4_only w10 (w.heap.size+2) OV) fun j _ e=>by have:=L5.out;subst e;exact ⟨by omega,by omega⟩));have R3:=Lib.hid (Fl.sto4_row RA OV);have d0:w10.cell? ⟨w.heap.size+2,0,none⟩=some (.int .u8 0):=row_cell RA 0;have d1:w10.cell? ⟨w.heap.size+2,1,none⟩=some (.int .u8 0):=row_cell RA 1;have d2:w10.cell? ⟨w.heap.size+2,2,none⟩=some (.int .u8 0):=row_cell RA 2;have d3:w10.cell? ⟨w.heap.size+2,3,none⟩=some (.int .u8 0):=row_cell RA 3;have k0:=row_frozen RA 0;have k1:=row_frozen RA 1;have k2:=row_frozen RA 2;have k3:=row_frozen RA 3;clear b10 K9 DONE HOP DR9 RA R5' R9;go_wp2
   (try simp only [Exit.inBlock,Exit.then])
   exact bodyPost_ret (results_rec (p:=12) (r:=13) rfl _ _ (w.heap.size+2) OV (.int .i64 OE) rfl rfl R3.out) rfl (FIN.out OE OV _ rfl rfl K10.out)
  ·have HRP:=Lib.hid (fun W h=>(RP.out W h))
   rw [if_neg h0,if_neg h0] at FIN;simp only [if_neg h0] at HRP;clear RP;generalize z5=D at HRP;clear QR4 BR4;refine (HRP.out w4 (NN.out.below S4.out.bel)).mono ?_;rintro e w5 ⟨rfl,nd,on⟩;have R5:=(on.block _ (lt_of_block S4.out.r) (fun g=>by have:=NN.out.low _ g;omega)).trans S4.out.r;have DONE:Hid (∀ w',Only (fun j=>w.heap.size≤j∧j < w4.heap.size) w5 w'→Nd w' p (Fx F w w') A' D' z∧Only F w w'):=Lib.hid fun w' k=>NN.out.fin S4.out.bel nd on k;have G5:Hid (Glob w5):=Lib.hid nd.glob;have M5:=Lib.hid ((MM.out.below S4.out.bel).only on HM.out);have L5:Hid (w.heap.size+3≤w4.heap.size∧w4.heap.size≤w5.heap.size):=Lib.hid ⟨S4.out.siz,on.size⟩;have B6:=Lib.hid ((Below.refl w5.heap.size w5).alloc (Nat.le_refl _) (.cells #[.int .u8 D.1,.int .u8 D.2.1,.int .u8 D.2.2.1,.int .u8 D.2.2.2.1,.int .u8 D.2.2.2.2] 60));have DR6:Hid (RowF (w5.alloc (.cells #[.int .u8 D.1,.int .u8 D.2.1,.int .u8 D.2.2.1,.int .u8 D.2.2.2.1,.int .u8 D.2.2.2.2] 60)) w5.heap.size 60 5 (f5 D)):=Lib.hid (heap_alloc_new w5 _);have R5':=Lib.hid R5;clear nd on S4 NN R5 HRP MM HM;go_upto_region 8 with fail;generalize w5.alloc (.cells #[.int .u8 D.1,.int .u8 D.2.1,.int .u8 D.2.2.1,.int .u8 D.2.2.2.1,.int .u8 D.2.2.2.2] 60)=W6 at *;have B7:=Lib.hid (B6.out.trans (((Below.refl W6.heap.size W6).alloc (Nat.le_refl _) (.cells #[.int .i64 0,.nilIface] 69)).mono B6.out.size));have H7:Hid ((W6.alloc (.cells #[.int .i64 0,.nilIface] 69)).heap[W6.heap.size]? = some (.cells #[.int .i64 0,.nilIface] 69 (0,0))):=Lib.hid (heap_alloc_new W6 _);have L6:Hid (w5.heap.size < W6.heap.size):=Lib.hid DR6.out.lt;have DR7:=Lib.hid (DR6.out.kept (Below.heap_alloc W6 (.cells #[.int .i64 0,.nilIface] 69) _ DR6.out.lt));clear B6 DR6;go_upto_region 9 with fail;generalize W6.alloc (.cells #[.int .i64 0,.nilIface] 69)=W7 at *;generalize hg6:W6.heap.size=g6 at *;clear hg6;generalize hg5:w5.heap.size=g5 at *;have HG5:=Lib.hid hg5;clear hg5;have AS:=Lib.hid (as_silent n E g6 W7 (G5.out.below (by rw [HG5.out];exact B7.out)) H7.out);have H7':=H7;clear h0 H7 M5 DR7;go_wp2_with fail;refine AS.out.mono ?_;rintro e w8 ⟨rfl,on8⟩;have K8:Hid (Only (fun j=>w.heap.size≤j∧j < w4.heap.size) w5 w8):=Lib.hid ((Only.of_below (by rw [HG5.out];exact B7.out)).trans on8 fun j hj e=>by have:=HG5.out;have:=L6.out;omega);have RA:=(on8.block _ (by have:=lt_of_block R5'.out;have:=HG5.out;have:=B7.out.size;have:=L6.out;have:=lt_of_block H7'.out;omega) (fun e=>by have:=HG5.out;have:=L5.out;have:=L6.out;omega)).trans ((B7.out.block _ (by have:=lt_of_block R5'.out;have:=HG5.out;omega)).trans R5'.out);have K10:=Lib.hid (DONE.out _ (K8.out.trans (st4_only w8 (w.heap.size+2) z4) fun j _ e=>by have:=L5.out;subst e;exact ⟨by omega,by omega⟩));have R3:=Lib.hid (Fl.sto4_row RA z4);have d0:w8.cell? ⟨w.heap.size+2,0,none⟩=some (.int .u8 0):=row_cell RA 0;have d1:w8.cell? ⟨w.heap.size+2,1,none⟩=some (.int .u8 0):=row_cell RA 1;have d2:w8.cell? ⟨w.heap.size+2,2,none⟩=some (.int .u8 0):=row_cell RA 2;have d3:w8.cell? ⟨w.heap.size+2,3,none⟩=some (.int .u8 0):=row_cell RA 3;have k0:=row_frozen RA 0;have k1:=row_frozen RA 1;have k2:=row_frozen RA 2;have k3:=row_frozen RA 3;clear on8 K8 DONE AS RA R5' B7 G5;go_wp2
   (try simp only [Exit.inBlock,Exit.then])
   exact bodyPost_ret (results_rec (p:=12) (r:=13) rfl _ _ (w.heap.size+2) z4 (.int .i64 13) rfl rfl R3.out) rfl (FIN.out 13 z4 _ rfl rfl K10.out)
 ·have R3:=Lib.hid (Fl.sto4_row S1.out.r z4)
  have B3:=Lib.hid (sto4_below (o:=0) (r:=z4) S1.out.bel (show w.heap.size≤w.heap.size+2 by omega));have d0:W1.cell? ⟨w.heap.size+2,0,none⟩=some (.int .u8 0):=row_cell S1.out.r 0;have d1:W1.cell? ⟨w.heap.size+2,1,none⟩=some (.int .u8 0):=row_cell S1.out.r 1;have d2:W1.cell? ⟨w.heap.size+2,2,none⟩=some (.int .u8 0):=row_cell S1.out.r 2;have d3:W1.cell? ⟨w.heap.size+2,3,none⟩=some (.int .u8 0):=row_cell S1.out.r 3;have k0:=row_frozen S1.out.r 0;have k1:=row_frozen S1.out.r 1;have k2:=row_frozen S1.out.r 2;have k3:=row_frozen S1.out.r 3;rw [if_neg hE,if_neg hE,if_neg hE,if_neg hE] at FIN;clear S1 QR1 DA RP;go_wp2
  (try simp only [Exit.inBlock,Exit.then])
  exact bodyPost_ret (results_rec (p:=12) (r:=13) rfl _ _ (w.heap.size+2) z4 (.int .i64 E1) rfl rfl R3.out) rfl (FIN.out E1 z4 _ rfl rfl (NN.out.stay B3.out))
end Go.Proofs.YtelgnhmcnfibnaaDoor.Sv
namespace Go.Proofs.YtelgnhmcnfibnaaDoor.Sv
open Fl (R4 z4 newL okR okL)
open Fs (Abs addE addA gV gB)
def h0:R4:=(1,7,165,163)
theorem new71:newL 7 (1:Nat) = [h0,z4]:=by decide +kernel
def A0:Abs:=[(2,7,[h0,z4])]
def A1:Abs:=[(2,7,[h0,(1,2,0,0)])]
theorem okL_0:okL [h0,z4]:=fun r hr=>by
 simp only [List.mem_cons,List.not_mem_nil,or_false] at hr
 rcases hr with rfl | rfl
 ·exact ⟨⟨by decide,by decide⟩,⟨by decide,by decide⟩,⟨by decide,by decide⟩,by decide,by decide⟩
 ·exact Fl.okR_z
theorem add_0:addE [] 2 7 [h0,z4]=0∧addA [] 2 7 [h0,z4]=A0:=⟨by kernel_rfl,by kernel_rfl⟩
theorem ask_0:askE 5 0 2 1=0∧askB 5 0 2 1=(5,2,1,92):=⟨by kernel_rfl,by kernel_rfl⟩
def o4:Nat→Int:=fun i=>if i=4 then 1 else 0
theorem try_1:tyE false A0 5 5 1 2 1 (1,2,0,0) (fun _=>0)=0∧tyV false A0 5 5 1 2 1 (1,2,0,0) (fun _=>0)=(1,2,0,0)∧tyA false A0 5 5 1 2 1 (1,2,0,0) (fun _=>0)=A1∧tyD false A0 5 5 1 2 1 (1,2,0,0) (fun _=>0) 0=0:=⟨by kernel_rfl,by kernel_rfl,by kernel_rfl,by kernel_rfl⟩
theorem try_2:tyE false A1 5 5 1 2 1 (3,0,0,0) o4=13∧tyV false A1 5 5 1 2 1 (3,0,0,0) o4=z4∧tyA false A1 5 5 1 2 1 (3,0,0,0) o4=A1∧tyD false A1 5 5 1 2 1 (3,0,0,0) o4 0=0:=⟨by kernel_rfl,by kernel_rfl,by kernel_rfl,by kernel_rfl⟩
theorem try_3:tyE false A1 5 6 0 2 1 z4 (fun _=>0)=13∧tyV false A1 5 6 0 2 1 z4 (fun _=>0)=z4∧tyA false A1 5 6 0 2 1 z4 (fun _=>0)=A1∧tyD false A1 5 6 0 2 1 z4 (fun _=>0) 0=0:=⟨by kernel_rfl,by kernel_rfl,by kernel_rfl,by kernel_rfl⟩
theorem get_1:gV A1 2 1=(1,2,0,0)∧gB A1 2 1=true:=⟨by kernel_rfl,by kernel_rfl⟩
end Go.Proofs.YtelgnhmcnfibnaaDoor.Sv
namespace Go.Proofs.YtelgnhmcnfibnaaDoor.Fl
open Go.RowKit
open Rw (Rd Ow At)
def RnewOwn (w:World) (p n:Int) (e:Ending) (w':World):Prop:=∃ v,e = .returned (.tuple #[file p v,.int .i64 0])∧Ow K4 w' w.heap.size 26 v (newL p n)∧Below w.heap.size w w'
set_option maxHeartbeats 1000000 in
theorem rnew_own (w:World) (p:Int) (m:Nat) (hp:newP p m):Calls Tryd.prog 22 #[.int .i64 p,.int .i64 m] w (RnewOwn w p m):=by
 have B0:=Lib.hid ((Below.refl w.heap.size w).alloc (Nat.le_refl _) (.cells #[.int .i64 0,.slice none 0 0] 46));have HPN:=Lib.hid hp;obtain ⟨p0,p1,n0,n1⟩:=hp;have HH:=Lib.hid (rhdr_any (w.alloc (.cells #[.int .i64 0,.slice none 0 0] 46)) p m p0 p1 (by omega) (by omega));have NL:Hid (newL p m=hdr p m :: List.replicate m z4):=rfl;unfold rec4 at HH;generalize hdr p m=h at *
 go_enter Tryd.func22,Tryd.ntmps22
 go_wp2_with fail;refine HH.out.mono ?_;rintro e w1 ⟨rfl,b1⟩;have z1:w.heap.size < w1.heap.size:=by have:=b1.size;simp at this;omega
 have B1:=Lib.hid (B0.out.trans (b1.mono B0.out.size));have r0:w1.heap[w.heap.size]? = some (.cells #[.int .i64 0,.slice none 0 0] 46 (0,0)):=(b1.block _ (by simp)).trans (heap_alloc_new w _);have hz:(w1.alloc (.cells #[.int .u8 h.1,.int .u8 h.2.1,.int .u8 h.2.2.1,.int .u8 h.2.2.2] 26)).heap.size=w1.heap.size+1:=by simp
 have N0:NRel w p h (w1.heap.size+1) 0 (.slice (some ⟨w1.heap.size,0,none⟩) 1 1) ((w1.alloc (.cells #[.int .u8 h.1,.int .u8 h.2.1,.int .u8 h.2.2.1,.int .u8 h.2.2.2] 26)).alloc (.cells #[.int .i64 p,.slice (some ⟨w1.heap.size,0,none⟩) 1 1] 46)):=by
  refine ⟨?_,?_,(Ow.lit (K:=K4) w1 (w.heap.size+1) 26 [h] (by omega) (by unfold maxLen;simp)).alloc _,(B1.out.alloc (by omega) _).alloc (by rw [hz];omega) _,by omega⟩
  ·have:=heap_alloc_new (w1.alloc (.cells #[.int .u8 h.1,.int .u8 h.2.1,.int .u8 h.2.2.1,.int .u8 h.2.2.2] 26)) (.cells #[.int .i64 p,.slice (some ⟨w1.heap.size,0,none⟩) 1 1] 46)
   rw [hz] at this;exact this
  ·exact (Below.heap_alloc _ _ _ (by rw [hz];omega)).trans ((Below.heap_alloc _ _ _ z1).trans r0)
 have NR:=Lib.hid N0;clear b1 N0 r0 HH hz;go_wp2;generalize (w1.alloc (.cells #[.int .u8 h.1,.int .u8 h.2.1,.int .u8 h.2.2.1,.int .u8 h.2.2.2] 26)).alloc (.cells #[.int .i64 p,.slice (some ⟨w1.heap.size,0,none⟩) 1 1] 46)=W at *;generalize w1.heap.size+1=g at *;generalize Value.slice (some ⟨w1.heap.size,0,none⟩) 1 1=v0 at *
 go_loopw [7] (fun i wr=>∃ (k:Nat) (v:Value),k≤m∧i = .int .i64 k∧Hid (NRel w p h g k v wr)) (fun i _=>m - (intOf i).toNat)
 case atStart=>exact ⟨0,v0,Nat.zero_le _,rfl,NR⟩
 case round =>
  obtain ⟨k,v,hk,rfl,R⟩:=hrel;obtain ⟨av,cv,ev,_,_⟩:=R.out.own.slice;generalize hL:(h :: List.replicate k z4).length=L at ev;clear hL;have gs:=lt_of_block R.out.row;have c1:wr.cell? ⟨g,1,none⟩=some v:=row_cell R.out.row 1;subst ev
  by_cases hlt:k < m
  ·go_wp2_with (at_builtin;refine Rw.push_far Tryd.underlying44 infoR rfl (by omega) rfl _ _ rfl (w.heap.size+1) _ _ rfl (R.out.own.alloc _) _ z4 rfl ?d1 ?d2 ?d3 ?_)
   case d1 =>
    intro j u hu
    match j,hu with
    | 0,hu=>simp [K4,z4] at hu;subst hu;go_simp
    | 1,hu=>simp [K4,z4] at hu;subst hu;go_simp
    | 2,hu=>simp [K4,z4] at hu;subst hu;go_simp
    | 3,hu=>simp [K4,z4] at hu;subst hu;go_simp
    | j+4,hu=>simp [K4] at hu
   case d2=>simp;omega
   case d3=>have:=R.out.lt;simp;omega
   intro v' w2 o2 b2 f2
   have rr:=f2 g _ _ ((Below.heap_alloc wr _ g gs).trans R.out.row) (by decide);have rs:=f2 w.heap.size _ _ ((Below.heap_alloc wr _ w.heap.size (lt_of_block R.out.res)).trans R.out.res) (by decide);have d1:w2.cell? ⟨g,1,none⟩=some (.slice av L cv):=row_cell rr 1;have e1:=row_frozen rr 1;have N2:Hid (NRel w p h g (k+1) v' (w2.setCell ⟨g,1,none⟩ v')):=by
    have hB:=R.out.bel.size;refine ⟨Rw.heap_setCell_same rr _,(Below.heap_setCell w2 _ _ w.heap.size (by have:=R.out.lt;simp;omega)).trans rs,?_,?_,R.out.lt⟩
    ·have e:(h :: List.replicate k z4) ++ [z4]=h :: List.replicate (k+1) z4:=by rw [List.replicate_succ'];rfl
     rw [← e];exact o2.far (p:=⟨g,1,none⟩) rr (by decide) _
    ·exact (((R.out.bel.alloc hB _).trans (b2.mono (by omega))).setCell (by have:=R.out.lt;simp;omega) _)
   obtain ⟨av',cv',L',rfl⟩:∃ a c L,v' = .slice a L c:=by obtain ⟨a,c,e,_,_⟩:=o2.slice;exact ⟨a,c,_,e⟩
   clear rr rs o2 b2 f2;go_wp2
   go_roundw
   case rel=>exact ⟨k+1,_,by omega,by go_num,N2⟩
   case measure=>simp [intOf];omega
  ·obtain rfl:k=m:=by omega
   have c0:wr.cell? ⟨g,0,none⟩=some (.int .i64 p):=row_cell R.out.row 0;have r0:wr.cell? ⟨w.heap.size,0,none⟩=some (.int .i64 0):=row_cell R.out.res 0;have r1:wr.cell? ⟨w.heap.size,1,none⟩=some (.slice none 0 0):=row_cell R.out.res 1;have s0:=row_frozen R.out.res 0;have s1:=row_frozen R.out.res 1;have E2:Hid (RnewOwn w p k (.returned (.tuple #[file p (.slice av L cv),.int .i64 0])) ((wr.setCell ⟨w.heap.size,0,none⟩ (.int .i64 p)).setCell ⟨w.heap.size,1,none⟩ (.slice av L cv))):=by
    have o1:=R.out.own.far (p:=⟨w.heap.size,0,none⟩) R.out.res (by decide) (.int .i64 p);have rr:=Rw.heap_setCell_same (j:=0) R.out.res (.int .i64 p);refine ⟨_,rfl,?_,(R.out.bel.setCell (Nat.le_refl _) _).setCell (Nat.le_refl _) _⟩;rw [NL.out];exact ((o1.far (p:=⟨w.heap.size,1,none⟩) rr (by decide) _)).low (by omega)
   go_wp2
   (try simp only [Exit.inBlock,Exit.then])
   refine bodyPost_ret (v:=.tuple #[file p (.slice av L cv),.int .i64 0]) ?_ rfl E2.out;rw [results_cell_tmp rfl];go_simp;rfl
end Go.Proofs.YtelgnhmcnfibnaaDoor.Fl
namespace Go.Proofs.YtelgnhmcnfibnaaDoor.Sv
open Go.RowKit Go.Maps
open Fs (Abs St Only Fx Wf Glob Aw addE addA gV gB get_st GetPost new_st below_new add_any AddPost Loc)
open Pa (hput HBl HMap hbl_new run_hput bv)
open Rw (Rd Ow At)
open Fl (R4 z4 K4 rec4 arr4 okR okL file newL newP row_cell row_frozen rnew_own RnewOwn eq_rec ret_bool)
theorem nd_of {w:World} {s:Nat} {F:Nat→Prop} {A:Abs} {d:Int} (S:St w s F A d) (hg:Glob w) (h0:¬ F 0):Nd w (.pointer (some ⟨s,0,none⟩)) F A d false:=⟨S.low,hg,h0,fun _=>⟨s,rfl,S⟩,nofun⟩
theorem Nd.store {w:World} {s:Nat} {F:Nat→Prop} {A:Abs} {d:Int} (h:Nd w (.pointer (some ⟨s,0,none⟩)) F A d false):St w s F A d:=by
 obtain ⟨s',e,S⟩:=h.st rfl;injection e with e;injection e with e;injection e with e;subst e;exact S
theorem one_map (W:World) (k:Nat) (hk:k < 1000) (y:Int):∃ w',(Instr.mapUpdate 35 (.map (some W.heap.size)) (.int .i64 (k:Int)) (.int .u8 y)).run Tryd.prog (W.alloc (.map #[] 0)) = .ok () w'∧Tm w' (.map (some W.heap.size)) (fun i=>if i=k then y else 0)∧Below W.heap.size W w':=by
 obtain ⟨w',hr,hb,gr⟩:=run_hput (hbl_new W) (by unfold maxLen;omega) (n:=(k:Int)) (y:=y) (WalkArith.wf_i64 (by omega));refine ⟨w',hr,⟨_,fun i=>?_,.inr ⟨_,_,rfl,hb⟩⟩,(below_new W _).grown gr (by simp) fun j e=>by injection e with e;omega⟩;unfold hput
 by_cases h:i=k
 ·subst h
  show (if (i:Int)=(i:Int) then some y else none).getD 0=if i=i then y else 0
  rw [if_pos rfl,if_pos rfl]
  rfl
 ·show (if (i:Int)=(k:Int) then some y else none).getD 0=if i=k then y else 0
  rw [if_neg (by omega),if_neg h]
  rfl
theorem try_st {w:World} {s:Nat} {F:Nat→Prop} {A:Abs} {d:Int} (S:St w s F A d) (hg:Glob w) (h0:¬ F 0) (hd:0≤d∧d < 1000000) (n m o f r:Int) (v:R4) {mv:Value} {t:Nat→Int} (M:Tm w mv t) (hM:∀ b,mv = .map (some b)→¬ F b) :
 Calls Tryd.prog 6 #[.pointer (some ⟨s,0,none⟩),.int .i64 n,.int .i64 m,Ad.addr o f r,rec4 v,mv] w fun e w' =>
  e = .returned (.tuple #[rec4 (tyV false A n m o f r v t),.int .i64 (tyE false A n m o f r v t)])∧St w' s (Fx F w w') (tyA false A n m o f r v t) (tyD false A n m o f r v t d)∧Only F w w' :=
 (try_any (nd_of S hg h0) hd n m o f r v M hM).mono fun _ _ ⟨h1,h2,h3⟩=>⟨h1,h2.store,h3⟩
set_option maxHeartbeats 4000000 in
theorem awake_any (w:World) (hg:Glob w):Calls Tryd.prog 8 #[] w fun e w'=>e = .returned (.bool true)∧Below w.heap.size w w':=by
 have HG:=Lib.hid hg;clear hg;have S0:Hid (Aw w w.heap.size (fun k=>k=w.heap.size) [] 0 (w.alloc (.cells #[.map none,.int .i64 0] 56))):=⟨new_st w,fun k hk=>by subst hk;exact Nat.le_refl _,below_new w _⟩;have NW:=Lib.hid (fun W=>rnew_own W 7 1 (by decide));unfold RnewOwn at NW;rw [new71] at NW;unfold file at NW
 go_enter Tryd.func8,Tryd.ntmps8
 go_wp2_with (go_at_call 9;refine (Fs.new_any _).mono ?_;rintro e w1 ⟨rfl,rfl⟩)
 go_wp2_with fail;refine (NW.out _).mono ?_;rintro e w2 ⟨fv,rfl,r2,b2⟩;obtain ⟨fa,fc,rfl,_⟩:=r2.slice;have S2:=Lib.hid ((S0.out.below b2).below (below_new w2 (.cells #[.int .i64 7,.slice fa 2 fc] 46)));have R2:=Lib.hid (r2.rd.below (below_new w2 (.cells #[.int .i64 7,.slice fa 2 fc] 46)));clear r2 b2 S0 NW;generalize hs:w.heap.size=s at *;go_wp2_with fail;generalize (w2.alloc (.cells #[.int .i64 7,.slice fa 2 fc] 46))=W2 at *;have AD:=add_any S2.out.st 2 7 (.slice fa 2 fc) [h0,z4] R2.out okL_0;rw [add_0.1,add_0.2] at AD;unfold file at AD;refine AD.mono ?_;rintro e w3 ⟨rfl,s3,o3⟩;have S3:=Lib.hid (S2.out.next s3 o3);clear AD s3 o3 S2 R2;generalize Fx (fun k=>k=s) W2 w3=F3 at *;go_wp2_with fail;have AK:=sask_any w3 5 0 2 1;unfold AskPost at AK;rw [ask_0.1,ask_0.2] at AK;unfold Ad.addr rec4 at AK;refine AK.mono ?_;rintro e w4 ⟨rfl,b4⟩;have S4:=Lib.hid ((S3.out.below b4).below (below_new w4 (.cells #[.int .u8 5,.int .u8 2,.int .u8 1,.int .u8 92] 25)));have L4:=Lib.hid (Loc.new (S3.out.below b4).st.low #[.int .u8 5,.int .u8 2,.int .u8 1,.int .u8 92] 25);clear AK b4 S3;go_wp2_with fail;generalize (w4.alloc (.cells #[.int .u8 5,.int .u8 2,.int .u8 1,.int .u8 92] 25))=W4 at *;generalize w4.heap.size=g4 at *;have TR:=try_st S4.out.st (S4.out.glob HG.out).1 (S4.out.glob HG.out).2 (by decide) 5 5 1 2 1 (1,2,0,0) (Tm.nil W4) nofun;rw [try_1.1,try_1.2.1,try_1.2.2.1,try_1.2.2.2] at TR;unfold Ad.addr rec4 at TR;refine TR.mono ?_;rintro e w5 ⟨rfl,st,on⟩;have T:=Lib.hid (S4.out.next st on);have S5:=Lib.hid (T.out.below (below_new w5 (.cells #[.int .u8 1,.int .u8 2,.int .u8 0,.int .u8 0] 26)));have L5:=Lib.hid ((L4.out.only on).below (below_new w5 (.cells #[.int .u8 1,.int .u8 2,.int .u8 0,.int .u8 0] 26)));have M5:=Lib.hid (Loc.new T.out.st.low #[.int .u8 1,.int .u8 2,.int .u8 0,.int .u8 0] 26);clear TR st on S4 T L4;generalize Fx F3 W4 w5=F5 at *;go_upto_region 6 with fail;generalize (w5.alloc (.cells #[.int .u8 1,.int .u8 2,.int .u8 0,.int .u8 0] 26))=W5 at *;generalize w5.heap.size=g5 at *;obtain ⟨W6,hr,tm,b6⟩:=one_map W5 4 (by decide) 1;have TM:Hid (Tm W6 (.map (some W5.heap.size)) o4):=Lib.hid tm;have HL6:Hid (∀ b,Value.map (some W5.heap.size) = .map (some b)→¬ F5 b):=Lib.hid fun b e g=>by
  injection e with e;injection e with e;subst e;have:=S5.out.st.low _ g
  omega
 have S6:=Lib.hid (S5.out.below b6);have L6:=Lib.hid (L5.out.below b6);have M6:=Lib.hid (M5.out.below b6);have hr':(Instr.mapUpdate 35 (.map (some W5.heap.size)) (.int .i64 4) (.int .u8 1)).run Tryd.prog (W5.alloc (.map #[] 0)) = .ok () W6:=hr;have hmm:=@run_makeMap Tryd.prog;clear hr tm b6 S5 L5 M5;go_wp2_with fail;clear hr' hmm;have TR:=try_st S6.out.st (S6.out.glob HG.out).1 (S6.out.glob HG.out).2 (by decide) 5 5 1 2 1 (3,0,0,0) TM.out HL6.out;rw [try_2.1,try_2.2.1,try_2.2.2.1,try_2.2.2.2] at TR;unfold Ad.addr rec4 z4 at TR;refine TR.mono ?_;rintro e w7 ⟨rfl,st,on⟩;have T:=Lib.hid (S6.out.next st on);have S7:=Lib.hid (T.out.below (below_new w7 (.cells #[.int .u8 0,.int .u8 0,.int .u8 0,.int .u8 0] 26)));have L7:=Lib.hid ((L6.out.only on).below (below_new w7 (.cells #[.int .u8 0,.int .u8 0,.int .u8 0,.int .u8 0] 26)));have M7:=Lib.hid ((M6.out.only on).below (below_new w7 (.cells #[.int .u8 0,.int .u8 0,.int .u8 0,.int .u8 0] 26)));clear TR st on S6 T L6 M6 TM HL6;generalize Fx F5 W6 w7=F7 at *;go_upto_region 7 with fail;generalize (w7.alloc (.cells #[.int .u8 0,.int .u8 0,.int .u8 0,.int .u8 0] 26))=W7 at *;generalize w7.heap.size=g7 at *;go_wp2_with fail;have TR:=try_st S7.out.st (S7.out.glob HG.out).1 (S7.out.glob HG.out).2 (by decide) 5 6 0 2 1 z4 (Tm.nil W7) nofun;rw [try_3.1,try_3.2.1,try_3.2.2.1,try_3.2.2.2] at TR;unfold Ad.addr rec4 z4 at TR;refine TR.mono ?_;rintro e w8 ⟨rfl,st,on⟩;have T:=Lib.hid (S7.out.next st on);have S8:=Lib.hid (T.out.below (below_new w8 (.cells #[.int .u8 0,.int .u8 0,.int .u8 0,.int .u8 0] 26)));have L8:=Lib.hid ((L7.out.only on).below (below_new w8 (.cells #[.int .u8 0,.int .u8 0,.int .u8 0,.int .u8 0] 26)));have M8:=Lib.hid ((M7.out.only on).below (below_new w8 (.cells #[.int .u8 0,.int .u8 0,.int .u8 0,.int .u8 0] 26)));clear TR st on S7 T L7 M7;generalize Fx F7 W7 w8=F8 at *;go_upto_region 8 with fail;generalize (w8.alloc (.cells #[.int .u8 0,.int .u8 0,.int .u8 0,.int .u8 0] 26))=W8 at *;generalize w8.heap.size=g8 at *;go_wp2_with fail;have GE:=get_st S8.out.st (n:=2) (WalkArith.wf_i64 (by decide)) 1;rw [get_1.1,get_1.2] at GE;unfold GetPost rec4 at GE;refine GE.mono ?_;rintro e w9 ⟨rfl,b9⟩;have S9:=Lib.hid ((S8.out.below b9).below (below_new w9 (.cells #[.int .u8 1,.int .u8 2,.int .u8 0,.int .u8 0] 26)));have L9:=Lib.hid ((L8.out.below b9).below (below_new w9 (.cells #[.int .u8 1,.int .u8 2,.int .u8 0,.int .u8 0] 26)));have M9:=Lib.hid ((M8.out.below b9).below (below_new w9 (.cells #[.int .u8 1,.int .u8 2,.int .u8 0,.int .u8 0] 26)));have N9:=Lib.hid (heap_alloc_new w9 (.cells #[.int .u8 1,.int .u8 2,.int .u8 0,.int .u8 0] 26));clear GE b9 S8 L8 M8;go_upto_region 9 with fail;generalize (w9.alloc (.cells #[.int .u8 1,.int .u8 2,.int .u8 0,.int .u8 0] 26))=W9 at *;generalize w9.heap.size=g9 at *;have x0:W9.cell? ⟨g4,0,none⟩=some (.int .u8 5):=row_cell L9.out.1 0;have x1:W9.cell? ⟨g4,1,none⟩=some (.int .u8 2):=row_cell L9.out.1 1;have x2:W9.cell? ⟨g4,2,none⟩=some (.int .u8 1):=row_cell L9.out.1 2;have x3:W9.cell? ⟨g4,3,none⟩=some (.int .u8 92):=row_cell L9.out.1 3;have y0:W9.cell? ⟨g5,0,none⟩=some (.int .u8 1):=row_cell M9.out.1 0;have y1:W9.cell? ⟨g5,1,none⟩=some (.int .u8 2):=row_cell M9.out.1 1;have y2:W9.cell? ⟨g5,2,none⟩=some (.int .u8 0):=row_cell M9.out.1 2;have y3:W9.cell? ⟨g5,3,none⟩=some (.int .u8 0):=row_cell M9.out.1 3;have z0:W9.cell? ⟨g9,0,none⟩=some (.int .u8 1):=row_cell N9.out 0;have z1:W9.cell? ⟨g9,1,none⟩=some (.int .u8 2):=row_cell N9.out 1;have z2:W9.cell? ⟨g9,2,none⟩=some (.int .u8 0):=row_cell N9.out 2;have z3:W9.cell? ⟨g9,3,none⟩=some (.int .u8 0):=row_cell N9.out 3;have ea:∀ w,(Op.equalIn 10000 25 (.agg #[.int .u8 5,.int .u8 2,.int .u8 1,.int .u8 92]) (.agg #[.int .u8 5,.int .u8 2,.int .u8 1,.int .u8 92])).run Tryd.prog w = .ok true w:=fun w=>by
  have:=eq_a4 (5,2,1,92) (5,2,1,92) w
  simpa using this
 have er:∀ w,(Op.equalIn 10000 26 (.agg #[.int .u8 1,.int .u8 2,.int .u8 0,.int .u8 0]) (.agg #[.int .u8 1,.int .u8 2,.int .u8 0,.int .u8 0])).run Tryd.prog w = .ok true w:=fun w=>by
  have:=eq_rec (1,2,0,0) (1,2,0,0) w
  simpa using this
 have BB:=Lib.hid S9.out.bel;clear S9 L9 M9 N9;go_wp2
 go_ret
 exact ⟨rfl,by have:=BB.out;rw [hs] at this ⊢;exact this⟩
end Go.Proofs.YtelgnhmcnfibnaaDoor.Sv
