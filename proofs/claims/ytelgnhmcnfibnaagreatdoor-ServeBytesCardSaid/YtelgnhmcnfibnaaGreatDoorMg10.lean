import Derived.Test.YtelgnhmcnfibnaaGreatDoorMg9
import Derived.Test.YtelgnhmcnfibnaaGreatDoorMg2
import Derived.ProofKit
import Derived.OpenShut
import Derived.ChangeOld
import Derived.Deep.SlicePairs
import Derived.WideShapes
import Derived.Test.YtelgnhmcnfibnaaGreatDoorMg3
set_option maxRecDepth 100000
namespace Go.Proofs.YtelgnhmcnfibnaaGreatDoor.Pa
open Go.ChangeShapes Go.WideShapes Go.ChangeAt Go.RowKit Go.Deep
open Rw (Rd Ow At)
open Fl (R4 z4 K4 okR okL)
open Fs (Ent E3 file_cells)
open Ro (E5 K5)
open Ck (Hd sl zh)
theorem open_rd {α:Type} {K:Rw.Kind α} (Q:α→Prop) {H:Type} {enc:TypeId×Value→H} {W:World} {u:Value} {base fuel:Nat} {sp:Nat→Bool} {held:Bool} {x:DataW H×List MemPlace} {T E:TypeId}
 (hu:Tryz.prog.underlying T=some (.slice E)) (hc:Tryz.prog.cellsOf E=K.n) (el:∀ {n:Nat} {cs:List Value} {y:DataW H×List MemPlace},DataW.trod enc Tryz.prog W base sp held n E cs=some y→∃ r:α,cs=K.enc r∧Q r)
 (h:DataW.trod enc Tryz.prog W base sp held fuel T [u]=some x):∃ l,Rd K W u l∧∀ r∈l,Q r:=by
 rcases open_slice hu h with ⟨e,_⟩ | ⟨a,len,cap,m,n,D,Pl,e,_,hl,hm,hmm,_,hx⟩
 ·simp at e
  subst e;exact ⟨[],Rw.Rd.nil _,fun r hr=>by cases hr⟩
 ·simp at e
  subst e;have hlm:len≤m:=by rw [hmm];split <;> omega
  have each:∀ i,i < m→∃ r:α,Q r∧∀ j u,(K.enc r)[j]? = some u→W.cell? (a.add (i * K.n+j))=some u:=fun i hi=>by
   obtain ⟨cs',h1,h2⟩:=hx i hi;rw [hc] at h1;obtain ⟨_,hlen,hcell⟩:=World.cells?_some h1;obtain ⟨r,rfl,ok⟩:=el h2;refine ⟨r,ok,fun j u hu=>?_⟩;have hj:j < K.n:=by have:=(List.getElem?_eq_some_iff.1 hu).1;rw [hlen] at this;exact this
   have e:=hcell j hj;rw [add_add] at e;exact e.trans hu
  haveI:Inhabited α:=⟨K.dft⟩
  obtain ⟨q,hq⟩:=choose_lt each;have hlen:((List.range len).map q).length=len:=by simp
  have get:∀ i,i < len→((List.range len).map q).getD i K.dft=q i:=fun i hi=>by simp [List.getD,hi]
  refine ⟨(List.range len).map q,⟨some a,cap,by rw [hlen],⟨by rw [hlen];exact hl,nofun⟩,hm,fun h0=>?_⟩,fun r hr=>?_⟩
  ·rw [hlen] at h0
   obtain ⟨b,off,spot⟩:=a;have hp:0 < (K.enc (q 0)).length:=by rw [K.len];exact K.pos
   have c0:=(hq 0 (by omega)).2 0 _ (List.getElem?_eq_getElem hp);have hs:spot=none:=by simpa [Addr.add] using World.cell?_spot c0
   subst hs;refine ⟨b,off,rfl,fun i hi j u hu=>?_⟩;rw [hlen] at hi;have hu':(K.enc (q i))[j]? = some u:=by rw [← get i hi];exact hu
   have c:=(hq i (by omega)).2 j u hu';rw [add_plain] at c
   show W.cell? ⟨b,off+i * K.n+j,none⟩=some u
   rw [Nat.add_assoc];exact c
  ·obtain ⟨i,hi,rfl⟩:=List.mem_map.1 hr
   exact (hq i (by have:=List.mem_range.1 hi;omega)).1
section
variable {H:Type} {enc:TypeId×Value→H} {W:World} {base fuel:Nat} {sp:Nat→Bool} {held:Bool} {cs:List Value} {x:DataW H×List MemPlace}
theorem named_cells (h:DataW.trod enc Tryz.prog W base sp held fuel 73 cs=some x):∃ c:Ent,cs=E3.enc c∧Rd K4 W c.sl c.l∧okL c.l:=by
 have c3:Tryz.prog.cellsOf 73=3:=by kernel_rfl
 have c1:Tryz.prog.cellsOf 3=1:=by kernel_rfl
 have c2:Tryz.prog.cellsOf 71=2:=by kernel_rfl
 obtain ⟨xs,m,_,_,hs,hx,hi⟩:=DataW.trod_struct Tryz.underlying73 h;rw [c3] at hs
 match cs,hs,xs,hx,hi with
 | [u0,u1,u2],_,[x0,x1],_,hi =>
   have e0:DataW.trod enc Tryz.prog W base sp held m 3 (([u0,u1,u2].drop 0).take (Tryz.prog.cellsOf 3))=some x0:=hi 0 _ rfl;have e1:DataW.trod enc Tryz.prog W base sp held m 71 (([u0,u1,u2].drop 1).take (Tryz.prog.cellsOf 71))=some x1:=hi 1 _ rfl;rw [c1] at e0;rw [c2] at e1;obtain ⟨k,hk,_,wk⟩:=DataW.trod_int Tryz.underlying3 (x:=x0) e0;obtain ⟨p,u,l,h3,R,okl⟩:=file_cells e1;obtain ⟨a,cap,rfl,_⟩:=R.slice;have k' : [u0] = [.int .i64 k]:=hk;have h3' : [u1,u2] = [.int .i64 p,.slice a l.length cap]:=h3;simp only [List.cons.injEq,and_true] at k' h3';obtain rfl:=k';obtain ⟨rfl,rfl⟩:=h3';exact ⟨⟨k,p,a,cap,l⟩,rfl,R,okl⟩
end
end Go.Proofs.YtelgnhmcnfibnaaGreatDoor.Pa
namespace Go.Proofs.YtelgnhmcnfibnaaGreatDoor.Ad
open Go.ChangeShapes Go.WideShapes Go.ChangeAt Go.RowKit Go.Deep
theorem okWide_array {P:Program} {w:World} {r:Reach} {base n:Nat} {t e:TypeId} {v:Value} (ht:P.underlying t=some (.array n e)) (h:Value.okWide P w r base t v):∃ cs,v = .agg cs∧cs.size=P.cellsOf t:=by
 simp only [Value.okWide,ht] at h;obtain ⟨cs,h1,h2,_⟩:=h;exact ⟨cs,h1,h2⟩
theorem addr_of {H:Type} {enc:TypeId×Value→H} {W:World} {v:Value} {base:Nat} {sp:Nat→Bool} {held:Bool} {d:DataW H} {p:List MemPlace} {r:Reach} {b0:Nat}
 (hv:Value.okWide Tryz.prog W r b0 24 v) (h:DataW.Trod enc Tryz.prog W base sp held 24 v d p):∃ o f r,v=addr o f r:=by
 obtain ⟨⟨l⟩,rfl,hs⟩:=WideShapes.okWide_struct Tryz.underlying24 hv;have c3:Tryz.prog.cellsOf 24=3:=by kernel_rfl
 have c1:Tryz.prog.cellsOf 3=1:=by kernel_rfl
 rw [c3] at hs;obtain ⟨fuel,hf⟩:=h;obtain ⟨xs,m,_,_,_,hx,hi⟩:=DataW.trod_struct Tryz.underlying24 hf
 match l,hs,xs,hx,hi with
 | [u,v,w],_,[x0,x1,x2],_,hi =>
   have e0:DataW.trod enc Tryz.prog W base sp held m 3 (([u,v,w].drop 0).take (Tryz.prog.cellsOf 3))=some x0:=hi 0 _ rfl;have e1:DataW.trod enc Tryz.prog W base sp held m 3 (([u,v,w].drop 1).take (Tryz.prog.cellsOf 3))=some x1:=hi 1 _ rfl;have e2:DataW.trod enc Tryz.prog W base sp held m 3 (([u,v,w].drop 2).take (Tryz.prog.cellsOf 3))=some x2:=hi 2 _ rfl;rw [c1] at e0 e1 e2;obtain ⟨a,ha,_⟩:=DataW.trod_int Tryz.underlying3 (x:=x0) e0;obtain ⟨b,hb,_⟩:=DataW.trod_int Tryz.underlying3 (x:=x1) e1;obtain ⟨c,hc,_⟩:=DataW.trod_int Tryz.underlying3 (x:=x2) e2
   simp at ha hb hc
   subst ha hb hc;exact ⟨a,b,c,rfl⟩
end Go.Proofs.YtelgnhmcnfibnaaGreatDoor.Ad
namespace Go.Proofs.YtelgnhmcnfibnaaGreatDoor.Sv
open Go.ChangeShapes Go.WideShapes Go.ChangeAt Go.RowKit Go.Deep
open Fs (E3)
open Pa (Fls eatF open_rd named_cells)
open Rw (Rd)
open Fl (K4 okL R4 okR rec4)
section
variable {H:Type} {enc:TypeId×Value→H} {W:World} {v:Value} {base:Nat} {sp:Nat→Bool} {held:Bool} {d:DataW H} {p:List MemPlace} {r:Reach} {b0:Nat}
theorem named_of (hv:Value.okWide Tryz.prog W r b0 22 v) (h:DataW.Trod enc Tryz.prog W base sp held 22 v d p):∃ L,Fls W v L W.heap.size:=by
 obtain ⟨a,len,cap,rfl⟩:=okWide_slice Tryz.underlying22 hv;obtain ⟨fuel,hf⟩:=h;obtain ⟨L,R,Q⟩:=open_rd (K:=E3) (fun e=>Rd K4 W e.sl e.l∧okL e.l) Tryz.underlying22 (by kernel_rfl) (fun h=>named_cells h) (u:=.slice a len cap) hf;have mem:∀ j,j < L.length→eatF L j∈L:=fun j hj=>by
  unfold eatF;rw [List.getD_eq_getElem?_getD,List.getElem?_eq_getElem hj];exact List.getElem_mem hj
 exact ⟨L,R,fun j hj=>Q _ (mem j hj),fun j hj h0 k hk=>Fs.rd_low (Q _ (mem j hj)).1 h0 k hk⟩
theorem rec_of (hv:Value.okWide Tryz.prog W r b0 26 v) (h:DataW.Trod enc Tryz.prog W base sp held 26 v d p):∃ x:R4,v=rec4 x∧okR x:=b4_of Tryz.underlying26 (by kernel_rfl) hv h
theorem q4_of (hv:Value.okWide Tryz.prog W r b0 25 v) (h:DataW.Trod enc Tryz.prog W base sp held 25 v d p):∃ x:R4,v=rec4 x∧okR x:=b4_of Tryz.underlying25 (by kernel_rfl) hv h
theorem q5_of (hv:Value.okWide Tryz.prog W r b0 27 v) (h:DataW.Trod enc Tryz.prog W base sp held 27 v d p):∃ x:B5,v=val5 x∧is5 x:=b5_of Tryz.underlying27 (by kernel_rfl) hv h
theorem q14_of (hv:Value.okWide Tryz.prog W r b0 52 v) (h:DataW.Trod enc Tryz.prog W base sp held 52 v d p):∃ t:Nat→Int,v = .agg (bs 14 t)∧∀ i,14≤i→t i=0:=by
 obtain ⟨b,hl,rfl,_⟩:=bytes_of Tryz.underlying52 (by kernel_rfl) hv h;refine ⟨fun i=>b.getD i 0,?_,fun i hi=>by show b.getD i 0=0;rw [List.getD_eq_getElem?_getD,List.getElem?_eq_none (by omega)];rfl⟩;unfold bs
 congr 2
 apply List.ext_getElem
 ·simp [hl]
 ·intro i h1 h2
  have hi:i < b.length:=by simpa using h1
  simp [List.getD,hi]
end
end Go.Proofs.YtelgnhmcnfibnaaGreatDoor.Sv
