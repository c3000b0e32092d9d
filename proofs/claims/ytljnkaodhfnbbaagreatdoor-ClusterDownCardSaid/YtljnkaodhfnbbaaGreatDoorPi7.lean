import Derived.Test.YtljnkaodhfnbbaaGreatDoorPi6
import Derived.Test.YtljnkaodhfnbbaaGreatDoorPi3
import Derived.Test.YtljnkaodhfnbbaaGreatDoorPi4
import Derived.Deep.Cut
import Derived.Test.YtljnkaodhfnbbaaGreatDoorPi1
import Derived.Test.YtljnkaodhfnbbaaGreatDoorPi5
set_option maxRecDepth 100000
namespace Go.Proofs.YtljnkaodhfnbbaaGreatDoor.Cu
open Go.RowKit Go.Maps
open Rw (Rd Ow At)
open Fl (R4 K4 okL okR row_cell row_frozen)
open Fs (Abs St OkA Only Fx ow_only)
open Pa (Sts S2 sat vat KN KB K2 ptr)
structure Nd where
 s:Nat
 live:Bool
 rate:Int
def ndD:Nd:=⟨0,false,0⟩
def KD:Rw.Kind Nd:=⟨fun x=>[ptr x.s,.bool x.live,.int .i64 x.rate],3,by decide,fun _=>rfl,fun _ u h=>by simp [ptr] at h;rcases h with rfl | rfl | rfl <;> rfl,ndD⟩
def nda (L:List Nd) (i:Nat):Nd:=L.getD i ndD
theorem infoD:(Tryz.prog.info? 139).map (fun i=>(i.zero,i.size,i.bytes))=some (some (.agg #[.pointer none,.bool false,.int .i64 0]),3,24):=by kernel_rfl
theorem atD {w:World} {b off:Nat} {L:List Nd} (h:At KD w b off L) {i:Nat} (hi:i < L.length):w.cell? ⟨b,off+i * 3,none⟩=some (ptr (nda L i).s)∧w.cell? ⟨b,off+i * 3+1,none⟩=some (.bool (nda L i).live)∧w.cell? ⟨b,off+i * 3+2,none⟩=some (.int .i64 (nda L i).rate) :=
 ⟨h i hi 0 _ rfl,h i hi 1 _ rfl,h i hi 2 _ rfl⟩
theorem nda_set {L:List Nd} {i:Nat} (hi:i < L.length) (x:Nd) (j:Nat):nda (L.set i x) j=if j=i then x else nda L j:=by
 unfold nda;rw [List.getD_eq_getElem?_getD,List.getD_eq_getElem?_getD,List.getElem?_set]
 by_cases e:j=i
 ·subst e;rw [if_pos rfl,if_pos rfl,if_pos hi];rfl
 ·rw [if_neg (by omega),if_neg e]
structure Cl (w:World) (s:Nat) (F:Nat→Prop) (c:Cs) (t:Nat) (vn:Value) (L:List Nd) (p:Nat) (vq:Value) (Fs:Nat→Nat→Prop):Prop where
 row:w.heap[s]? = some (.cells #[vn,ptr p,.int .i64 c.pl,vq] 137 (0,0))
 no:Ow KD w 0 139 vn L
 len:L.length=c.S.length
 st:∀ i,i < L.length→St w (nda L i).s (Fs i) (sat c.S i).1 (sat c.S i).2
 lv:∀ i:Nat,i < L.length→(nda L i).live=vat c.V i
 rt:∀ i,i < L.length→-2000≤(nda L i).rate∧(nda L i).rate≤2000
 pr:Wt.Pr w p c.P t
 sp:Ow K2 w 0 155 vq c.Q
 fs:F s
 fp:F p
 fv:∀ k,vn.ownBlock=some k∨vq.ownBlock=some k→F k
 ff:∀ i,i < L.length→∀ k,Fs i k→F k
 dis:∀ i j,i < L.length→j < L.length→i≠j→∀ k,Fs i k→¬ Fs j k
 off:∀ i,i < L.length→∀ k,Fs i k→k≠s∧k≠p∧vn.ownBlock≠some k∧vq.ownBlock≠some k
 low:∀ k,F k→k < w.heap.size
def ClE (w:World) (s:Nat) (F:Nat→Prop) (c:Cs) (t:Nat):Prop:=∃ vn L p vq Fs,Cl w s F c t vn L p vq Fs
section
variable {s t p:Nat} {F G:Nat→Prop} {c:Cs} {vn vq:Value} {L:List Nd} {Fs:Nat→Nat→Prop} {w w':World}
theorem Cl.slt (h:Cl w s F c t vn L p vq Fs):s < w.heap.size:=lt_of_block h.row
theorem pr_row {a:Wt.A} (h:Wt.Pr w p a t):∃ cs,w.heap[p]? = some (.cells cs 212 (0,0)):=by obtain ⟨_,_,h,_⟩:=h;exact ⟨_,h⟩
theorem Cl.sp_ne (h:Cl w s F c t vn L p vq Fs):s≠p:=fun e=>by
 obtain ⟨cs,hp⟩:=pr_row h.pr;have:=h.row;rw [e,hp] at this;injection this with this;injection this with _ h2 _;exact absurd h2 (by decide)
theorem Cl.vs (h:Cl w s F c t vn L p vq Fs):vn.ownBlock≠some s∧vq.ownBlock≠some s:=⟨h.no.apart h.row (by decide),h.sp.apart h.row (by decide)⟩
theorem Cl.vp (h:Cl w s F c t vn L p vq Fs):vn.ownBlock≠some p∧vq.ownBlock≠some p:=by
 obtain ⟨cs,hp⟩:=pr_row h.pr;exact ⟨h.no.apart hp (by decide),h.sp.apart hp (by decide)⟩
theorem Cl.vv (h:Cl w s F c t vn L p vq Fs):∀ k,vn.ownBlock=some k→vq.ownBlock≠some k:=fun k hk=>by
 obtain ⟨_,g⟩:=h.no
 rcases g with ⟨rfl,_⟩ | ⟨b,cap,cur,rfl,_,hh,_⟩
 ·simp [Value.ownBlock] at hk
 ·simp only [Value.ownBlock,Option.some.injEq] at hk
  subst hk;exact h.sp.apart hh (by decide)
theorem Cl.only (h:Cl w s F c t vn L p vq Fs) (hn:∀ k,F k→¬ G k) (o:Only G w w'):Cl w' s F c t vn L p vq Fs :=
 ⟨(o.block s h.slt (hn s h.fs)).trans h.row,ow_only h.no (fun k e=>hn k (h.fv k (.inl e))) o,h.len,fun i hi=>(h.st i hi).only (fun k g=>hn k (h.ff i hi k g)) o,h.lv,h.rt,h.pr.only o (hn p h.fp),ow_only h.sp (fun k e=>hn k (h.fv k (.inr e))) o,h.fs,h.fp,h.fv,h.ff,h.dis,h.off,fun k g=>Nat.lt_of_lt_of_le (h.low k g) o.size⟩
theorem Cl.below (h:Cl w s F c t vn L p vq Fs) (b:Below w.heap.size w w'):Cl w' s F c t vn L p vq Fs:=h.only (G:=fun _=>False) (fun _ _ g=>g) (Only.of_below b)
theorem Cl.wide (h:Cl w s F c t vn L p vq Fs) (hF:∀ k,F k→G k) (hl:∀ k,G k→k < w.heap.size):Cl w s G c t vn L p vq Fs :=
 ⟨h.row,h.no,h.len,h.st,h.lv,h.rt,h.pr,h.sp,hF s h.fs,hF p h.fp,fun k g=>hF k (h.fv k g),fun i hi k g=>hF k (h.ff i hi k g),h.dis,h.off,hl⟩
theorem Cl.fx (w0:World) (h:Cl w s F c t vn L p vq Fs):Cl w s (Fx F w0 w) c t vn L p vq Fs:=h.wide (fun k g=>.inl g) fun k g=>by
 rcases g with g | g
 ·exact h.low k g
 ·exact g.2
theorem Cl.cells (h:Cl w s F c t vn L p vq Fs):w.cell? ⟨s,0,none⟩=some vn∧w.cell? ⟨s,1,none⟩=some (ptr p)∧w.cell? ⟨s,2,none⟩=some (.int .i64 c.pl)∧w.cell? ⟨s,3,none⟩=some vq:=⟨row_cell h.row 0,row_cell h.row 1,row_cell h.row 2,row_cell h.row 3⟩
theorem Cl.frz (h:Cl w s F c t vn L p vq Fs) (k:Nat):w.frozen? ⟨s,k,none⟩=false:=row_frozen h.row k
theorem Cl.pair (h:Cl w s F c t vn L p vq Fs) {P:Wt.A} {t':Nat} (o:Only (fun k=>k=p) w w') (hp:Wt.Pr w' p P t'):Cl w' s F { c with P:=P } t' vn L p vq Fs :=
 ⟨(o.block s h.slt h.sp_ne).trans h.row,ow_only h.no (fun k e g=>h.vp.1 (by rw [e,g])) o,h.len,fun i hi=>(h.st i hi).only (fun k g e=>(h.off i hi k g).2.1 e) o,h.lv,h.rt,hp,ow_only h.sp (fun k e g=>h.vp.2 (by rw [e,g])) o,h.fs,h.fp,h.fv,h.ff,h.dis,h.off,fun k g=>Nat.lt_of_lt_of_le (h.low k g) o.size⟩
theorem pr_late {a:Wt.A} (h:Wt.Pr w p a t):Wt.Pr w p a (t+1):=by
 obtain ⟨z0,z1,hr,hv⟩:=h;exact ⟨z0,z1,hr,⟨by have:=hv.b0;omega,by have:=hv.b1;omega,hv.e0,hv.e1⟩⟩
theorem Cl.late (h:Cl w s F c t vn L p vq Fs):Cl w s F c (t+1) vn L p vq Fs:=⟨h.row,h.no,h.len,h.st,h.lv,h.rt,pr_late h.pr,h.sp,h.fs,h.fp,h.fv,h.ff,h.dis,h.off,h.low⟩
theorem Cl.place (h:Cl w s F c t vn L p vq Fs) (n:Nat):Cl (w.setCell ⟨s,2,none⟩ (.int .i64 n)) s F { c with pl:=n } t vn L p vq Fs:=by
 have o:Only (fun k=>k=s) w (w.setCell ⟨s,2,none⟩ (.int .i64 n)):=Only.set (fun k=>k=s) w (a:=⟨s,2,none⟩) rfl _;have rw_:(w.setCell ⟨s,2,none⟩ (.int .i64 n)).heap[s]? = some (.cells #[vn,ptr p,.int .i64 n,vq] 137 (0,0)):=Rw.heap_setCell_same (j:=2) h.row _;exact ⟨rw_,ow_only h.no (fun k e g=>h.vs.1 (by rw [e,g])) o,h.len,fun i hi=>(h.st i hi).only (fun k g e=>(h.off i hi k g).1 e) o,h.lv,h.rt,h.pr.only o (fun e=>h.sp_ne e.symm),ow_only h.sp (fun k e g=>h.vs.2 (by rw [e,g])) o,h.fs,h.fp,h.fv,h.ff,h.dis,h.off,fun k g=>Nat.lt_of_lt_of_le (h.low k g) o.size⟩
theorem Cl.spoils (h:Cl w s F c t vn L p vq Fs) {v:Value} {Q:List S2} (hq:Ow K2 w 0 155 v Q) (hF:∀ k,v.ownBlock=some k→F k) (hn:∀ i,i < L.length→∀ k,Fs i k→v.ownBlock≠some k):Cl (w.setCell ⟨s,3,none⟩ v) s F { c with Q:=Q } t vn L p v Fs:=by
 have o:Only (fun k=>k=s) w (w.setCell ⟨s,3,none⟩ v):=Only.set (fun k=>k=s) w (a:=⟨s,3,none⟩) rfl _;have rw_:(w.setCell ⟨s,3,none⟩ v).heap[s]? = some (.cells #[vn,ptr p,.int .i64 c.pl,v] 137 (0,0)):=Rw.heap_setCell_same (j:=3) h.row _;refine ⟨rw_,ow_only h.no (fun k e g=>h.vs.1 (by rw [e,g])) o,h.len,fun i hi=>(h.st i hi).only (fun k g e=>(h.off i hi k g).1 e) o,h.lv,h.rt,h.pr.only o (fun e=>h.sp_ne e.symm),ow_only hq (fun k e g=>hq.apart h.row (by decide) (by rw [e,g])) o,h.fs,h.fp,fun k g=>?_,h.ff,h.dis,fun i hi k g=>?_,fun k g=>Nat.lt_of_lt_of_le (h.low k g) o.size⟩
 ·rcases g with g | g
  ·exact h.fv k (.inl g)
  ·exact hF k g
 ·have:=h.off i hi k g
  exact ⟨this.1,this.2.1,this.2.2.1,hn i hi k g⟩
theorem Cl.store (h:Cl w s F c t vn L p vq Fs) {i:Nat} (hi:i < L.length) {x:Abs×Int} (hs:St w' (nda L i).s (Fx (Fs i) w w') x.1 x.2) (o:Only (Fs i) w w'):Cl w' s (Fx F w w') { c with S:=setS c.S i x } t vn L p vq (fun j=>if j=i then Fx (Fs i) w w' else Fs j):=by
 have of:=h.off i hi;have hz:=o.size;have lt:∀ j,j < L.length→∀ k,Fs j k→k < w.heap.size:=fun j hj=>(h.st j hj).low;have vl:∀ k,vn.ownBlock=some k∨vq.ownBlock=some k→k < w.heap.size:=fun k g=>h.low k (h.fv k g);refine ⟨(o.block s h.slt fun g=>(of s g).1 rfl).trans h.row,ow_only h.no (fun k e g=>(of k g).2.2.1 e) o,by show L.length=(setS c.S i x).length;rw [h.len];exact List.length_set.symm,fun j hj=>?_,h.lv,h.rt,h.pr.only o (fun g=>(of p g).2.1 rfl),ow_only h.sp (fun k e g=>(of k g).2.2.2 e) o,.inl h.fs,.inl h.fp,fun k g=>.inl (h.fv k g),fun j hj k g=>?_,fun a b ha hb hab k g=>?_,fun j hj k g=>?_,Fx.low h.low hz⟩
 ·show St w' _ _ (sat (setS c.S i x) j).1 (sat (setS c.S i x) j).2
  rw [sat_set (by omega) (by have:=h.len;omega)]
  by_cases e:j=i
  ·subst e
   rw [if_pos rfl,if_pos rfl];exact hs
  ·rw [if_neg e,if_neg (by omega)]
   exact (h.st j hj).only (fun k g q=>h.dis j i hj hi e k g q) o
 ·by_cases e:j=i
  ·rw [if_pos e] at g
   rcases g with g | g
   ·exact .inl (h.ff i hi k g)
   ·exact .inr g
  ·rw [if_neg e] at g
   exact .inl (h.ff j hj k g)
 ·by_cases ea:a=i
  ·rw [if_pos ea] at g
   rw [if_neg (fun q=>hab (ea.trans q.symm))]
   rcases g with g | g
   ·exact h.dis i b hi hb (fun q=>hab (ea.trans q)) k g
   ·intro q;have:=lt b hb k q;omega
  ·rw [if_neg ea] at g
   by_cases eb:b=i
   ·rw [if_pos eb]
    rintro (q | q)
    ·exact h.dis a i ha hi ea k g q
    ·have:=lt a ha k g;omega
   ·rw [if_neg eb]
    exact h.dis a b ha hb hab k g
 ·by_cases e:j=i
  ·rw [if_pos e] at g
   rcases g with g | g
   ·exact of k g
   ·have a1:=h.slt
    have a2:=h.pr.lt;exact ⟨by omega,by omega,fun q=>by have:=vl k (.inl q);omega,fun q=>by have:=vl k (.inr q);omega⟩
  ·rw [if_neg e] at g
   exact h.off j hj k g
theorem Cl.node (h:Cl w s F c t vn L p vq Fs) {g:Nat} (hg:vn.ownBlock=some g) {L':List Nd} {V:List Bool} (o:Only (fun k=>k=g) w w') (hno:Ow KD w' 0 139 vn L') (hl:L'.length=L.length) (hs:∀ i,i < L.length→(nda L' i).s=(nda L i).s) (hv:∀ i:Nat,i < L.length→(nda L' i).live=vat V i) (hr:∀ i,i < L.length→-2000≤(nda L' i).rate∧(nda L' i).rate≤2000):Cl w' s F { c with V:=V } t vn L' p vq Fs:=by
 refine ⟨(o.block s h.slt fun e=>h.vs.1 (by rw [hg,e])).trans h.row,hno,hl.trans h.len,fun i hi=>?_,fun i hi=>hv i (by omega),fun i hi=>hr i (by omega),h.pr.only o (fun e=>h.vp.1 (by rw [hg,e])),ow_only h.sp (fun k e q=>h.vv g hg (by rw [e,q])) o,h.fs,h.fp,h.fv,fun i hi=>h.ff i (by omega),fun i j hi hj=>h.dis i j (by omega) (by omega),fun i hi=>h.off i (by omega),fun k q=>Nat.lt_of_lt_of_le (h.low k q) o.size⟩;rw [hs i (by omega)];exact (h.st i (by omega)).only (fun k q e=>(h.off i (by omega) k q).2.2.1 (by rw [hg,e])) o
end
def DoC (w:World) (s:Nat) (F:Nat→Prop) (c:Cs) (t:Nat) (x:Int) (e:Ending) (w':World):Prop:=e = .returned (.int .i64 x)∧ClE w' s (Fx F w w') c t∧Only F w w'
section
variable {s t:Nat} {F:Nat→Prop} {c:Cs} {w w1 w':World}
theorem DoC.late {x:Int} {e:Ending} (h:DoC w s F c t x e w'):DoC w s F c (t+1) x e w':=by
 obtain ⟨h1,⟨vn,L,p,vq,Fs,h2⟩,h3⟩:=h;exact ⟨h1,⟨vn,L,p,vq,Fs,h2.late⟩,h3⟩
theorem DoC.preO {x:Int} {e:Ending} (h:DoC w1 s F c t x e w') (o:Only F w w1) (low:∀ k,F k→k < w.heap.size):DoC w s F c t x e w':=by
 obtain ⟨h1,⟨vn,L,p,vq,Fs,h2⟩,h3⟩:=h;have z1:=o.size;have z2:=h3.size;refine ⟨h1,⟨vn,L,p,vq,Fs,h2.wide (fun k g=>?_) (fun k g=>?_)⟩,o.trans h3 fun _ _ g=>g⟩
 ·rcases g with g | g
  ·exact .inl g
  ·exact .inr ⟨by omega,g.2⟩
 ·rcases g with g | g
  ·have:=low k g;omega
  ·exact g.2
theorem DoC.pre {x:Int} {e:Ending} (h:DoC w1 s F c t x e w') (b:Below w.heap.size w w1) (low:∀ k,F k→k < w.heap.size):DoC w s F c t x e w':=h.preO (Only.of_below b) low
end
end Go.Proofs.YtljnkaodhfnbbaaGreatDoor.Cu
namespace Go.Proofs.YtljnkaodhfnbbaaGreatDoor.Cu
open Go.RowKit Go.Maps
open Rw (Rd Ow At)
open Fl (R4 K4 okL okR row_cell row_frozen)
open Fs (Abs St OkA Only Fx ow_only FilesPost files_any)
open Pa (Sts S2 sat vat KN KB K2 ptr)
attribute [local irreducible] Sd.wpSd wpQuiet
section
variable {s t p:Nat} {F G:Nat→Prop} {c:Cs} {vn vq:Value} {L:List Nd} {Fs:Nat→Nat→Prop} {w w':World}
theorem Cl.one (h:Cl w s F c t vn L p vq Fs) {i:Nat} (hi:i < c.S.length):∃ g cap,vn = .slice (some ⟨g,0,none⟩) c.S.length cap∧c.S.length≤cap∧cap≤maxLen∧w.cell? ⟨g,i * 3,none⟩=some (ptr (nda L i).s)∧w.cell? ⟨g,i * 3+1,none⟩=some (.bool (vat c.V i))∧w.cell? ⟨g,i * 3+2,none⟩=some (.int .i64 (nda L i).rate)∧∀ k,w.frozen? ⟨g,k,none⟩=false:=by
 have hl:=h.len;obtain ⟨g,cap,e,_,_,h1,h2,fz,hA⟩:=h.no.form (by omega);have q:=atD hA (i:=i) (by omega);rw [Nat.zero_add,h.lv i (by omega)] at q;rw [hl] at e h1;exact ⟨g,cap,e,h1,h2,q.1,q.2.1,q.2.2,fz⟩
theorem Cl.nod {g cap:Nat} (h:Cl w s F c t (.slice (some ⟨g,0,none⟩) c.S.length cap) L p vq Fs) {i:Nat} (hi:i < c.S.length):w.cell? ⟨g,i * 3,none⟩=some (ptr (nda L i).s)∧w.cell? ⟨g,i * 3+1,none⟩=some (.bool (nda L i).live)∧w.cell? ⟨g,i * 3+2,none⟩=some (.int .i64 (nda L i).rate):=by
 have hl:=h.len;obtain ⟨g',cap',e,_,_,h1,h2,fz,hA⟩:=h.no.form (by omega);injection e with e1 _ _;injection e1 with e1;injection e1 with e1 _ _;subst e1;have q:=atD hA (i:=i) (by omega);rw [Nat.zero_add] at q;exact q
theorem Cl.slice (h:Cl w s F c t vn L p vq Fs):∃ a cap,vn = .slice a c.S.length cap∧c.S.length≤cap∧cap≤maxLen:=by
 obtain ⟨a,cap,e,h1,h2⟩:=h.no.slice;rw [h.len] at e h1;exact ⟨a,cap,e,h1,h2⟩
theorem Cl.sto (h:Cl w s F c t vn L p vq Fs) {i:Nat} (hi:i < c.S.length):St w (nda L i).s (Fs i) (sat c.S i).1 (sat c.S i).2:=h.st i (by rw [h.len];exact hi)
theorem chas_in (h:Cl w s F c t vn L p vq Fs) {n:Nat} (hn:n < c.S.length):Calls Tryz.prog 61 #[ptr s,.int .i64 n] w fun e w'=>e = .returned (.bool true)∧Below w.heap.size w w':=by
 obtain ⟨a,cap,rfl,_,_⟩:=h.slice;have d0:=h.cells.1;clear h;generalize c.S.length=ln at *;have p1:decide ((0:Int)≤(n:Int))=true:=decide_eq_true (by omega);have p2:decide ((n:Int) < (ln:Int))=true:=decide_eq_true (by omega);unfold ptr
 go_enter Tryz.func61,Tryz.ntmps61
 go_wp2
 go_ret
 exact ⟨rfl,Below.refl _ _⟩
theorem chas_out (h:Cl w s F c t vn L p vq Fs) {n:Int} (hn:no c n):Calls Tryz.prog 61 #[ptr s,.int .i64 n] w fun e w'=>e = .returned (.bool false)∧Below w.heap.size w w':=by
 obtain ⟨a,cap,rfl,_,_⟩:=h.slice;have d0:=h.cells.1;clear h;unfold no at hn;generalize c.S.length=ln at *;unfold ptr
 by_cases h0:0≤n
 ·have p2:decide (n < (ln:Int))=false:=decide_eq_false (by omega)
  clear hn
  go_enter Tryz.func61,Tryz.ntmps61
  go_wp2
  go_ret
  exact ⟨rfl,Below.refl _ _⟩
 ·have p1:decide (0≤n)=false:=decide_eq_false h0
  clear hn
  go_enter Tryz.func61,Tryz.ntmps61
  go_wp2
  go_ret
  exact ⟨rfl,Below.refl _ _⟩
theorem cnodes_any (h:Cl w s F c t vn L p vq Fs):Calls Tryz.prog 16 #[ptr s] w fun e w'=>e = .returned (.int .i64 c.S.length)∧Below w.heap.size w w':=by
 obtain ⟨a,cap,rfl,_,_⟩:=h.slice;have d0:=h.cells.1;clear h;generalize c.S.length=ln at *;unfold ptr
 go_enter Tryz.func16,Tryz.ntmps16
 go_wp2
 go_ret
 exact ⟨rfl,Below.refl _ _⟩
theorem cplace_any (h:Cl w s F c t vn L p vq Fs):Calls Tryz.prog 19 #[ptr s] w fun e w'=>e = .returned (.int .i64 c.pl)∧Below w.heap.size w w':=by
 have d2:=h.cells.2.2.1;clear h;generalize c.pl=pl at *;unfold ptr
 go_enter Tryz.func19,Tryz.ntmps19
 go_wp2
 go_ret
 exact ⟨rfl,Below.refl _ _⟩
theorem crole_any (h:Cl w s F c t vn L p vq Fs) (n:Int):Calls Tryz.prog 23 #[ptr s,.int .i64 n] w fun e w'=>e = .returned (.int .i64 (Wt.rl c.P n))∧Below w.heap.size w w':=by
 have d1:=h.cells.2.1;have C1:=Lib.hid (Wt.role_any h.pr n);clear h;generalize Wt.rl c.P n=r at *;unfold ptr at *
 go_enter Tryz.func23,Tryz.ntmps23
 go_wp2_with fail;refine C1.out.mono ?_;rintro e w1 ⟨rfl,b1⟩;go_wp2
 go_ret
 exact ⟨rfl,b1⟩
theorem clive_in (h:Cl w s F c t vn L p vq Fs) {n:Nat} (hn:n < c.S.length):Calls Tryz.prog 22 #[ptr s,.int .i64 n] w fun e w'=>e = .returned (.bool (vat c.V n))∧Below w.heap.size w w':=by
 have C1:=Lib.hid (chas_in h hn);have H:=Lib.hid h;obtain ⟨g,cap,rfl,_,hm,_⟩:=h.one hn;clear h;unfold ptr at *
 go_enter Tryz.func22,Tryz.ntmps22
 go_wp2_with fail;refine C1.out.mono ?_;rintro e w1 ⟨rfl,b1⟩;obtain ⟨g',cap',e',_,_,_,d1,_⟩:=(H.out.below b1).one hn;injection e' with e1 _ e3;injection e1 with e1;injection e1 with e1 _ _;subst e1 e3;have d0:=(H.out.below b1).cells.1;have B1:=Lib.hid b1;have p5:decide (c.S.length≤n)=false:=decide_eq_false (by omega);clear H C1 b1;generalize c.S.length=ln at *;go_wp2
 go_ret
 exact ⟨rfl,B1.out⟩
theorem cfiles_in (h:Cl w s F c t vn L p vq Fs) {n:Nat} (hn:n < c.S.length):Calls Tryz.prog 21 #[ptr s,.int .i64 n] w (FilesPost w (sat c.S n).1):=by
 have C1:=Lib.hid (chas_in h hn);have H:=Lib.hid h;obtain ⟨g,cap,rfl,_,hm,_⟩:=h.one hn;clear h;unfold ptr at *
 go_enter Tryz.func21,Tryz.ntmps21
 go_wp2_with fail;refine C1.out.mono ?_;rintro e w1 ⟨rfl,b1⟩;obtain ⟨g',cap',e',_,_,d1,_⟩:=(H.out.below b1).one hn;injection e' with e1 _ e3;injection e1 with e1;injection e1 with e1 _ _;subst e1 e3;have d0:=(H.out.below b1).cells.1;have B1:=Lib.hid b1;have C2:=Lib.hid (files_any ((H.out.below b1).sto hn));have p5:decide (c.S.length≤n)=false:=decide_eq_false (by omega);unfold FilesPost at C2;unfold ptr at *;clear H C1 b1;generalize c.S.length=ln at *;generalize (sat c.S n).1=A at *;generalize (nda L n).s=q at *;go_wp2_with fail;refine C2.out.mono ?_;rintro e w2 ⟨v,rfl,hv,b2⟩;have E:Hid (FilesPost w A (.returned v) w2):=Lib.hid ⟨v,rfl,fun F hF=>hv F fun k hk=>Nat.lt_of_lt_of_le (hF k hk) B1.out.size,B1.out.trans (b2.mono B1.out.size)⟩;clear hv b2 C2 B1;go_wp2
 go_ret
 exact E.out
end
end Go.Proofs.YtljnkaodhfnbbaaGreatDoor.Cu
namespace Go.Proofs.YtljnkaodhfnbbaaGreatDoor.Cu
open Pa (vat)
def Syn (c:Cs):Prop:=(vat c.V 0=true↔c.P.r0≠4)∧(vat c.V 1=true↔c.P.r1≠4)
theorem t1_4 (a:Wt.A):((Wt.t1 a).r0=4↔a.r0=4)∧(Wt.t1 a).r1=a.r1:=by
 unfold Wt.t1
 split
 ·rename_i g
  refine ⟨?_,rfl⟩
  show (1:Int)=4↔_
  omega
 ·exact ⟨Iff.rfl,rfl⟩
theorem t2_4 (a:Wt.A):((Wt.t2 a).r1=4↔a.r1=4)∧(Wt.t2 a).r0=a.r0:=by
 unfold Wt.t2
 split
 ·rename_i g
  refine ⟨?_,rfl⟩
  show (1:Int)=4↔_
  omega
 ·exact ⟨Iff.rfl,rfl⟩
theorem hdN_4 (r:Int):Wt.hdN r=4↔r=4:=by
 unfold Wt.hdN
 split <;> omega
theorem hd_4 (a:Wt.A):((Wt.hd a).r0=4↔a.r0=4)∧((Wt.hd a).r1=4↔a.r1=4):=by
 unfold Wt.hd
 split
 ·rename_i g
  refine ⟨?_,hdN_4 _⟩
  show (1:Int)=4↔_
  omega
 ·split
  ·rename_i g
   refine ⟨hdN_4 _,?_⟩
   show (1:Int)=4↔_
   omega
  ·exact ⟨Iff.rfl,Iff.rfl⟩
theorem rnd_4 (a:Wt.A):((Wt.rnd a).r0=4↔a.r0=4)∧((Wt.rnd a).r1=4↔a.r1=4):=by
 unfold Wt.rnd Wt.tk;have h1:=hd_4 (Wt.t2 (Wt.t1 a));have h2:=t2_4 (Wt.t1 a);have h3:=t1_4 a;rw [h1.1,h1.2,h2.1,h2.2,h3.1,h3.2];exact ⟨Iff.rfl,Iff.rfl⟩
theorem Syn.rnd {c:Cs} (h:Syn c):(vat c.V 0=true↔(Wt.rnd c.P).r0≠4)∧(vat c.V 1=true↔(Wt.rnd c.P).r1≠4):=by
 have q:=rnd_4 c.P;refine ⟨h.1.trans ?_,h.2.trans ?_⟩
 ·rw [Ne,Ne,q.1]
 ·rw [Ne,Ne,q.2]
theorem Syn.round {c:Cs} (h:Syn c):Syn (rC c):=by
 have q:=h.rnd;unfold rC
 split
 ·exact q
 ·split
  ·exact q
  ·exact q
theorem syn_new (L:List Pl) (h:2≤L.length):Syn (newC L):=by
 refine ⟨?_,?_⟩
 ·have:=new_vat (L:=L) (i:=0) (by omega)
  rw [show vat (newC L).V 0=true from this]
  show true=true↔(1:Int)≠4
  simp
 ·have:=new_vat (L:=L) (i:=1) (by omega)
  rw [show vat (newC L).V 1=true from this]
  show true=true↔(2:Int)≠4
  simp
theorem Syn.act {c:Cs} {t:Nat} (h:Syn c) (ok:OkC c t) (x:Ac):Syn (actC x c):=by
 unfold actC
 by_cases h1:x.k=1
 ·rw [if_pos h1];exact h.round
 ·rw [if_neg h1]
  by_cases he:actE x c≠0
  ·rw [if_pos he];exact h
  ·rw [if_neg he]
   have he:=Classical.not_not.1 he;unfold actE at he;rw [if_neg h1] at he
   by_cases h3:x.k=3
   ·rw [if_pos h3];exact h
   ·rw [if_neg h3]
    rw [if_neg h3] at he
    by_cases hn:x.k < 2∨6 < x.k∨no c x.n
    ·rw [if_pos hn] at he;omega
    ·rw [if_neg hn] at he
     have hin:0≤x.n∧x.n < c.S.length:=by
      have:¬ no c x.n:=fun g=>hn (.inr (.inr g));unfold no at this
      omega
     have hv:=ok.lv
     by_cases h2:x.k=2
     ·rw [if_pos h2];exact h
     ·rw [if_neg h2]
      by_cases h4:x.k=4
      ·rw [if_pos h4]
       have v0:vat (c.V.set x.n.toNat false) 0=_:=vat_set hin.1 (by omega) 0 (by omega);have v1:vat (c.V.set x.n.toNat false) 1=_:=vat_set hin.1 (by omega) 1 (by omega);refine ⟨?_,?_⟩
       ·show vat (c.V.set x.n.toNat false) 0=true↔(Wt.crA c.P x.n).r0≠4
        rw [v0];unfold Wt.crA
        by_cases e:x.n=0
        ·rw [if_pos e.symm,if_pos e];simp
        ·rw [if_neg (fun g=>e g.symm),if_neg e]
         split <;> exact h.1
       ·show vat (c.V.set x.n.toNat false) 1=true↔(Wt.crA c.P x.n).r1≠4
        rw [v1];unfold Wt.crA
        by_cases e:x.n=0
        ·rw [if_neg (by omega),if_pos e];exact h.2
        ·rw [if_neg e]
         by_cases e1:x.n=1
         ·rw [if_pos e1.symm,if_pos e1];simp
         ·rw [if_neg (fun g=>e1 g.symm),if_neg e1];exact h.2
      ·rw [if_neg h4]
       rw [if_neg h2,if_neg h4] at he
       by_cases h5:x.k=5
       ·rw [if_pos h5]
        rw [if_pos h5] at he;have hvn:vat c.V x.n=false:=by
         cases hb:vat c.V x.n with
         | false=>rfl
         | true=>rw [hb,if_pos rfl] at he;omega
        have v0:vat (c.V.set x.n.toNat true) 0=_:=vat_set hin.1 (by omega) 0 (by omega);have v1:vat (c.V.set x.n.toNat true) 1=_:=vat_set hin.1 (by omega) 1 (by omega);refine ⟨?_,?_⟩
        ·show vat (c.V.set x.n.toNat true) 0=true↔(Wt.rsA c.P x.n).r0≠4
         rw [v0];unfold Wt.rsA
         by_cases e:x.n=0
         ·rw [if_pos e.symm,if_pos e]
          have r4:c.P.r0=4:=Classical.not_not.1 fun g=>by have:=h.1.2 g;rw [e] at hvn;rw [hvn] at this;cases this
          rw [if_pos r4];simp
         ·rw [if_neg (fun g=>e g.symm),if_neg e]
          split
          ·split <;> exact h.1
          ·exact h.1
        ·show vat (c.V.set x.n.toNat true) 1=true↔(Wt.rsA c.P x.n).r1≠4
         rw [v1];unfold Wt.rsA
         by_cases e:x.n=0
         ·rw [if_neg (by omega),if_pos e]
          split <;> exact h.2
         ·rw [if_neg e]
          by_cases e1:x.n=1
          ·rw [if_pos e1.symm,if_pos e1]
           have r4:c.P.r1=4:=Classical.not_not.1 fun g=>by have:=h.2.2 g;rw [e1] at hvn;rw [hvn] at this;cases this
           rw [if_pos r4];simp
          ·rw [if_neg (fun g=>e1 g.symm),if_neg e1];exact h.2
       ·rw [if_neg h5];exact h
end Go.Proofs.YtljnkaodhfnbbaaGreatDoor.Cu
namespace Go.Proofs.YtljnkaodhfnbbaaGreatDoor.Cu
open Go.RowKit Go.Maps
open Rw (Rd Ow At)
open Fl (R4 K4 okL okR row_cell row_frozen)
open Fs (Abs St OkA Only Fx ow_only)
open Pa (Sts S2 sat vat KN KB K2 ptr)
attribute [local irreducible] Sd.wpSd wpQuiet
section
variable {s t p:Nat} {F G:Nat→Prop} {c:Cs} {vn vq:Value} {L:List Nd} {Fs:Nat→Nat→Prop} {w w':World}
theorem ow_node {g n cap i:Nat} (h:Ow KD w 0 139 (.slice (some ⟨g,0,none⟩) n cap) L) (hn:L.length=n) (hi:i < n) (j:Nat) (hj:j < 3) (u:Value) (x:Nd) (hx:KD.enc x=(KD.enc (nda L i)).set j u):Ow KD (w.setCell ⟨g,i * 3+j,none⟩ u) 0 139 (.slice (some ⟨g,0,none⟩) n cap) (L.set i x):=by
 subst hn;exact Rw.Ow.set h i j hi hj u x hx
theorem Cl.setLive {g cap n:Nat} (h:Cl w s F c t (.slice (some ⟨g,0,none⟩) n cap) L p vq Fs) (hn:c.S.length=n) (hv:c.V.length=n) {i:Nat} (hi:i < n) (b:Bool):Cl (w.setCell ⟨g,i * 3+1,none⟩ (.bool b)) s F { c with V:=c.V.set i b } t (.slice (some ⟨g,0,none⟩) n cap) (L.set i { nda L i with live:=b }) p vq Fs∧Only F w (w.setCell ⟨g,i * 3+1,none⟩ (.bool b)):=by
 have hl:=h.len.trans hn;have o:Only (fun k=>k=g) w (w.setCell ⟨g,i * 3+1,none⟩ (.bool b)):=Only.set (fun k=>k=g) w (a:=⟨g,i * 3+1,none⟩) rfl _;refine ⟨h.node (g:=g) rfl o (ow_node h.no hl hi 1 (by decide) (.bool b) { nda L i with live:=b } rfl) List.length_set (fun j hj=>?_) (fun j hj=>?_) (fun j hj=>?_),o.mono fun k _ e=>by rw [e];exact h.fv g (.inl rfl)⟩
 ·rw [nda_set (by omega)]
  split
  ·rename_i e;rw [e]
  ·rfl
 ·rw [nda_set (by omega)]
  have q:vat (c.V.set i b) j=if (j:Int)=(i:Int) then b else vat c.V j:=by
   have:=vat_set (V:=c.V) (n:=(i:Int)) (b:=b) (by omega) (by omega) j (by omega);rw [Int.toNat_natCast] at this;exact this
  rw [q]
  by_cases e:j=i
  ·rw [if_pos e,if_pos (by omega)]
  ·rw [if_neg e,if_neg (by omega)]
   exact h.lv j hj
 ·rw [nda_set (by omega)]
  split
  ·exact h.rt i (by omega)
  ·exact h.rt j hj
theorem Cl.setRate {g cap n:Nat} (h:Cl w s F c t (.slice (some ⟨g,0,none⟩) n cap) L p vq Fs) (hn:c.S.length=n) {i:Nat} (hi:i < n) {x:Int} (hx : -2000≤x∧x≤2000):Cl (w.setCell ⟨g,i * 3+2,none⟩ (.int .i64 x)) s F c t (.slice (some ⟨g,0,none⟩) n cap) (L.set i { nda L i with rate:=x }) p vq Fs∧Only F w (w.setCell ⟨g,i * 3+2,none⟩ (.int .i64 x)):=by
 have hl:=h.len.trans hn;have o:Only (fun k=>k=g) w (w.setCell ⟨g,i * 3+2,none⟩ (.int .i64 x)):=Only.set (fun k=>k=g) w (a:=⟨g,i * 3+2,none⟩) rfl _;refine ⟨h.node (g:=g) (V:=c.V) rfl o (ow_node h.no hl hi 2 (by decide) (.int .i64 x) { nda L i with rate:=x } rfl) List.length_set (fun j hj=>?_) (fun j hj=>?_) (fun j hj=>?_),o.mono fun k _ e=>by rw [e];exact h.fv g (.inl rfl)⟩
 ·rw [nda_set (by omega)]
  split
  ·rename_i e;rw [e]
  ·rfl
 ·rw [nda_set (by omega)]
  split
  ·rename_i e;rw [e];exact h.lv i (by omega)
  ·exact h.lv j hj
 ·rw [nda_set (by omega)]
  split
  ·exact hx
  ·exact h.rt j hj
theorem crA_far {a:Wt.A} {n:Int} (h:2≤n):Wt.crA a n=a:=by unfold Wt.crA;rw [if_neg (by omega),if_neg (by omega)]
theorem rsA_far {a:Wt.A} {n:Int} (h:2≤n):Wt.rsA a n=a:=by unfold Wt.rsA;rw [if_neg (by omega),if_neg (by omega)]
theorem Syn.cr0 (h:Syn c) {n:Nat} (hn:n < 2) (hv:vat c.V n=true):Wt.crE c.P n=0:=by
 unfold Wt.crE
 rcases (by omega:n=0∨n=1) with rfl | rfl
 ·rw [if_pos (by rfl),if_neg (h.1.1 hv)]
 ·rw [if_neg (by decide),if_pos (by rfl),if_neg (h.2.1 hv)]
theorem Syn.rs0 (h:Syn c) {n:Nat} (hn:n < 2) (hv:vat c.V n=false):Wt.rsE c.P n=0:=by
 unfold Wt.rsE
 rcases (by omega:n=0∨n=1) with rfl | rfl
 ·have r4:c.P.r0=4:=Classical.not_not.1 fun g=>by have:=h.1.2 g;rw [show vat c.V 0=false from hv] at this;cases this
  rw [if_pos (by rfl),if_pos r4]
 ·have r4:c.P.r1=4:=Classical.not_not.1 fun g=>by have:=h.2.2 g;rw [show vat c.V 1=false from hv] at this;cases this
  rw [if_neg (by decide),if_pos (by rfl),if_pos r4]
theorem doc_below (h:Cl w s F c t vn L p vq Fs) (b:Below w.heap.size w w') (x:Int):DoC w s F c t x (.returned (.int .i64 x)) w' :=
 ⟨rfl,⟨vn,L,p,vq,Fs,(h.below b).fx w⟩,Only.of_below b⟩
theorem doc_of {c':Cs} {vn' vq':Value} {L':List Nd} {p':Nat} {Fs':Nat→Nat→Prop} {t':Nat} (h:Cl w' s F c' t' vn' L' p' vq' Fs') (o:Only F w w') (x:Int):DoC w s F c' t' x (.returned (.int .i64 x)) w' :=
 ⟨rfl,⟨vn',L',p',vq',Fs',h.fx w⟩,o⟩
set_option maxHeartbeats 1000000 in
theorem ccrash_any (h:Cl w s F c t vn L p vq Fs) (ok:OkC c t) (sy:Syn c) {n:Nat} (hn:n < c.S.length) (hv:vat c.V n=true):Calls Tryz.prog 63 #[ptr s,.int .i64 n] w (DoC w s F { c with V:=c.V.set n false,P:=Wt.crA c.P n } t 0):=by
 obtain ⟨g,cap,rfl,hc,hm,_,y1,_,fz⟩:=h.one hn;have d0:=h.cells.1;have H:=Lib.hid (h.setLive rfl ok.lv hn false);have H0:=Lib.hid h;have CR:=Lib.hid (fun (w1:World) (P:Wt.Pr w1 p c.P t)=>Wt.crash_any P n);have E0:=Lib.hid (fun h2=>sy.cr0 (n:=n) h2 hv);have EF:=Lib.hid (fun h2=>crA_far (a:=c.P) (n:=(n:Int)) h2);have fy:=fz (n * 3+1);rw [hv] at y1;have p5:decide (c.S.length≤n)=false:=decide_eq_false (by omega);clear h ok sy hv fz;generalize c.S.length=ln at *;unfold ptr at *
 by_cases h2:n < 2
 ·have k1:=H.out.1.cells.2.1
  have CC:=Lib.hid (CR.out _ H.out.1.pr);unfold Wt.CdeedPost at CC;rw [E0.out h2] at CC;unfold ptr at k1;have p6:decide ((n:Int) < 2)=true:=decide_eq_true (by omega);clear CR E0 EF
  go_enter Tryz.func63,Tryz.ntmps63
  go_wp2_with fail;refine CC.out.mono ?_;rintro e w2 ⟨rfl,pr2,o2⟩;have E:=Lib.hid (doc_of (w:=w) (H.out.1.pair o2 pr2) (H.out.2.trans o2 fun k _ e=>by rw [e];exact H.out.1.fp) 0);clear pr2 o2 H CC;go_wp2
  go_ret
  exact E.out
 ·have E:=Lib.hid (doc_of (w:=w) H.out.1 H.out.2 0)
  rw [← EF.out (by omega)] at E;have p6:decide ((n:Int) < 2)=false:=decide_eq_false (by omega);clear CR E0 EF H
  go_enter Tryz.func63,Tryz.ntmps63
  go_wp2
  go_ret
  exact E.out
theorem ccrash_no (h:Cl w s F c t vn L p vq Fs) {n:Nat} (hn:n < c.S.length) (hv:vat c.V n=false):Calls Tryz.prog 63 #[ptr s,.int .i64 n] w (DoC w s F c t 10):=by
 obtain ⟨g,cap,rfl,_,hm,_,y1,_⟩:=h.one hn;have d0:=h.cells.1;have E:=Lib.hid (doc_below h (Below.refl _ _) 10);rw [hv] at y1;have p5:decide (c.S.length≤n)=false:=decide_eq_false (by omega);clear h hv;generalize c.S.length=ln at *;unfold ptr at *
 go_enter Tryz.func63,Tryz.ntmps63
 go_wp2
 go_ret
 exact E.out
set_option maxHeartbeats 1000000 in
theorem crestart_any (h:Cl w s F c t vn L p vq Fs) (ok:OkC c t) (sy:Syn c) {n:Nat} (hn:n < c.S.length) (hv:vat c.V n=false):Calls Tryz.prog 64 #[ptr s,.int .i64 n] w (DoC w s F { c with V:=c.V.set n true,P:=Wt.rsA c.P n } t 0):=by
 obtain ⟨g,cap,rfl,hc,hm,_,y1,_,fz⟩:=h.one hn;have d0:=h.cells.1;have H:=Lib.hid (h.setLive rfl ok.lv hn true);have H0:=Lib.hid h;have CR:=Lib.hid (fun (w1:World) (P:Wt.Pr w1 p c.P t)=>Wt.restart_any P n);have E0:=Lib.hid (fun h2=>sy.rs0 (n:=n) h2 hv);have EF:=Lib.hid (fun h2=>rsA_far (a:=c.P) (n:=(n:Int)) h2);have fy:=fz (n * 3+1);rw [hv] at y1;have p5:decide (c.S.length≤n)=false:=decide_eq_false (by omega);clear h ok sy hv fz;generalize c.S.length=ln at *;unfold ptr at *
 by_cases h2:n < 2
 ·have k1:=H.out.1.cells.2.1
  have CC:=Lib.hid (CR.out _ H.out.1.pr);unfold Wt.CdeedPost at CC;rw [E0.out h2] at CC;unfold ptr at k1;have p6:decide ((n:Int) < 2)=true:=decide_eq_true (by omega);clear CR E0 EF
  go_enter Tryz.func64,Tryz.ntmps64
  go_wp2_with fail;refine CC.out.mono ?_;rintro e w2 ⟨rfl,pr2,o2⟩;have E:=Lib.hid (doc_of (w:=w) (H.out.1.pair o2 pr2) (H.out.2.trans o2 fun k _ e=>by rw [e];exact H.out.1.fp) 0);clear pr2 o2 H CC;go_wp2
  go_ret
  exact E.out
 ·have E:=Lib.hid (doc_of (w:=w) H.out.1 H.out.2 0)
  rw [← EF.out (by omega)] at E;have p6:decide ((n:Int) < 2)=false:=decide_eq_false (by omega);clear CR E0 EF H
  go_enter Tryz.func64,Tryz.ntmps64
  go_wp2
  go_ret
  exact E.out
theorem crestart_no (h:Cl w s F c t vn L p vq Fs) {n:Nat} (hn:n < c.S.length) (hv:vat c.V n=true):Calls Tryz.prog 64 #[ptr s,.int .i64 n] w (DoC w s F c t 10):=by
 obtain ⟨g,cap,rfl,_,hm,_,y1,_⟩:=h.one hn;have d0:=h.cells.1;have E:=Lib.hid (doc_below h (Below.refl _ _) 10);rw [hv] at y1;have p5:decide (c.S.length≤n)=false:=decide_eq_false (by omega);clear h hv;generalize c.S.length=ln at *;unfold ptr at *
 go_enter Tryz.func64,Tryz.ntmps64
 go_wp2
 go_ret
 exact E.out
def cal (x:Int):Bool:=decide (-2000≤x) && decide (x≤2000)
theorem ciscalm_any (w:World) (x:Int):Calls Tryz.prog 110 #[.int .i64 x] w fun e w'=>e = .returned (.bool (cal x))∧w=w':=by
 have E:Hid (cal x=(decide (-2000≤x) && decide (x≤2000))):=Lib.hid rfl;generalize cal x=b at *
 by_cases h0 : -2000≤x
 ·by_cases h2:x≤2000
  ·obtain rfl:b=true:=by rw [E.out];simp [h0,h2]
   clear E
   go_enter Tryz.func110,Tryz.ntmps110
   go_wp2
   go_ret
   exact ⟨rfl,rfl⟩
  ·obtain rfl:b=false:=by rw [E.out];simp [h2]
   have q:decide (x≤2000)=false:=decide_eq_false h2;clear E
   go_enter Tryz.func110,Tryz.ntmps110
   go_wp2
   go_ret
   exact ⟨rfl,rfl⟩
 ·obtain rfl:b=false:=by rw [E.out];simp [h0]
  have q:decide (-2000≤x)=false:=decide_eq_false h0;clear E
  go_enter Tryz.func110,Tryz.ntmps110
  go_wp2
  go_ret
  exact ⟨rfl,rfl⟩
theorem cal_of {x:Int} : cal x=true↔-2000≤x∧x≤2000:=by unfold cal;simp
theorem cdrift_yes (w:World) (g o:Nat) (x:Int) (u:Value) (hu:w.cell? ⟨g,o+2,none⟩=some u) (hf:w.frozen? ⟨g,o+2,none⟩=false) (hx:cal x=true):Calls Tryz.prog 65 #[.pointer (some ⟨g,o,none⟩),.int .i64 x] w fun e w'=>e = .returned (.int .i64 0)∧w'=w.setCell ⟨g,o+2,none⟩ (.int .i64 x):=by
 have C:=Lib.hid (ciscalm_any w x);rw [hx] at C;clear hx
 go_enter Tryz.func65,Tryz.ntmps65
 go_wp2_with fail;refine C.out.mono ?_;rintro e w1 ⟨rfl,rfl⟩;go_wp2
 go_ret
 exact ⟨rfl,rfl⟩
theorem cdrift_no (w:World) (g o:Nat) (x:Int) (hx:cal x=false):Calls Tryz.prog 65 #[.pointer (some ⟨g,o,none⟩),.int .i64 x] w fun e w'=>e = .returned (.int .i64 1)∧w=w':=by
 have C:=Lib.hid (ciscalm_any w x);rw [hx] at C;clear hx
 go_enter Tryz.func65,Tryz.ntmps65
 go_wp2_with fail;refine C.out.mono ?_;rintro e w1 ⟨rfl,rfl⟩;go_wp2
 go_ret
 exact ⟨rfl,rfl⟩
end
end Go.Proofs.YtljnkaodhfnbbaaGreatDoor.Cu
namespace Go.Proofs.YtljnkaodhfnbbaaGreatDoor.Cu
open Go.RowKit
open Rw (Rd Ow At)
open Fl (R4 K4 okL file row_cell row_frozen)
open Fs (Ent Fil Abs St OkA Only Fx E3 at3 addE addA AddPost add_any new_any new_st)
open Pa (Fls eatF entD ptr)
open Ck (Hd sl zh)
attribute [local irreducible] Sd.wpSd wpQuiet
def sto3 (w:World) (g:Nat) (a b c:Value):World:=((w.setCell ⟨g,0,none⟩ a).setCell ⟨g,1,none⟩ b).setCell ⟨g,2,none⟩ c
theorem sto3_row {w:World} {g:Nat} {x y z:Value} (h:w.heap[g]? = some (.cells #[x,y,z] 139 (0,0))) (a b c:Value):(sto3 w g a b c).heap[g]? = some (.cells #[a,b,c] 139 (0,0)):=by
 have h1:=Rw.heap_setCell_same (j:=0) h a;have h2:=Rw.heap_setCell_same (j:=1) h1 b;exact Rw.heap_setCell_same (j:=2) h2 c
theorem sto3_only (w:World) (g:Nat) (a b c:Value):Only (fun k=>k=g) w (sto3 w g a b c) :=
 ((Only.set (fun k=>k=g) w (a:=⟨g,0,none⟩) rfl a).trans (Only.set (fun k=>k=g) _ (a:=⟨g,1,none⟩) rfl b) fun _ _ q=>q).trans (Only.set (fun k=>k=g) _ (a:=⟨g,2,none⟩) rfl c) fun _ _ q=>q
theorem results_nd {fn:Func} {p r:Tmp} (h:fn.results=#[.cell p 139,.tmp r]) (tmps:Array Value) (w:World) (g:Nat) (a b c v:Value)
 (hp:tmps.getD p undef = .pointer (some ⟨g,0,none⟩)) (hr:tmps.getD r undef=v) (h1:w.heap[g]? = some (.cells #[a,b,c] 139 (0,0))) :
 (results fn tmps).run Tryz.prog w = .ok (.tuple #[.agg #[a,b,c],v]) w:=by
 have e2:=run_loadVar_row (P:=Tryz.prog) w g 139 139 #[a,b,c] (0,0) _ h1 Tryz.underlying139 rfl (by show _=some 3;kernel_rfl);have hp':tmps[p]?.getD undef = .pointer (some ⟨g,0,none⟩):=by simpa using hp
 have hr':tmps[r]?.getD undef=v:=by simpa using hr
 simp only [results,h]
 simp [Result.andThen,hp',hr',asAddr,e2]
def lastN (A:Abs) (k:Nat):Int:=match k with | 0=>-1 | j+1=>(A.getD j (0,0,[])).1
def PlC (w:World) (x:Pl) (e:Ending) (w':World):Prop:=Below w.heap.size w w'∧((gdP x∧∃ q G,e = .returned (.tuple #[.agg #[ptr q,.bool true,.int .i64 x.2],.int .i64 0])∧St w' q G x.1 0∧∀ j,G j→w.heap.size≤j)∨(¬ gdP x∧e = .returned (.tuple #[.agg #[.pointer none,.bool false,.int .i64 0],.int .i64 2])))
structure PNI (w:World) (B:Nat) (q:Nat) (A:Abs) (k:Nat) (G:Nat→Prop) (wr:World):Prop where
 st:St wr q G (A.take k) 0
 lo:∀ j,G j→B≤j
 bel:Below w.heap.size w wr
 inn:Inn A k
theorem PNI.below {w wr w':World} {B q k:Nat} {A:Abs} {G:Nat→Prop} (h:PNI w B q A k G wr) (b:Below wr.heap.size wr w'):PNI w B q A k G w':=⟨h.st.below b,h.lo,h.bel.trans (b.mono h.bel.size),h.inn⟩
theorem PNI.step {w wr w':World} {B q k:Nat} {A:Abs} {G:Nat→Prop} (h:PNI w B q A k G wr) (hw:w.heap.size≤B) (hB:B≤wr.heap.size) (st:St w' q (Fx G wr w') (A.take (k+1)) 0) (o:Only G wr w') (i:Inn A (k+1)):PNI w B q A (k+1) (Fx G wr w') w' :=
 ⟨st,fun j g=>by
  rcases g with g | g
  ·exact h.lo j g
  ·omega,h.bel.trans (o.below h.bel.size fun j g=>Nat.le_trans hw (h.lo j g)),i⟩
theorem last_no {A:Abs} {k:Nat} {c:Fil} (hk:A[k]? = some c) (h:c.1≤lastN A k):¬ gdF A:=by
 cases k with
 | zero =>
   intro g
   have:=(g.2 c (List.mem_of_getElem? hk)).1.1;have h:c.1≤-1:=h
   omega
 | succ j =>
   have hl:=(List.getElem?_eq_some_iff.1 hk).1;have h1:A[j+1 - 1]? = some (A.getD j (0,0,[])):=by
    rw [Nat.add_sub_cancel,List.getD_eq_getElem?_getD,List.getElem?_eq_getElem (by omega)]
    rfl
   exact inn_no (Nat.succ_pos j) hk h1 h
theorem last_ord {A:Abs} {k:Nat} {n:Int} (h:¬ n≤lastN A k):∀ c,0 < k→A[k - 1]? = some c→Fs.key c < n:=fun c h0 hc=>by
 obtain ⟨j,rfl⟩:∃ j,k=j+1:=⟨k - 1,by omega⟩;rw [Nat.add_sub_cancel] at hc;have:lastN A (j+1)=c.1:=by
  show (A.getD j (0,0,[])).1=c.1
  rw [List.getD_eq_getElem?_getD,hc]
  rfl
 show c.1 < n
 omega
theorem last_next {A:Abs} {k:Nat} {c:Fil} (hk:A[k]? = some c):lastN A (k+1)=c.1:=by
 show (A.getD k (0,0,[])).1=c.1
 rw [List.getD_eq_getElem?_getD,hk]
 rfl
theorem abs_at {L:List Ent} {k:Nat} (hk:k < L.length):(L.map Ent.abs)[k]? = some (eatF L k).abs:=by
 unfold eatF;rw [List.getElem?_map,List.getElem?_eq_getElem hk,List.getD_eq_getElem?_getD,List.getElem?_eq_getElem hk]
 rfl
set_option maxHeartbeats 4000000 in
theorem cplanned_any {w:World} (c:PlD) {B:Nat} (hf:Fls w (sl c.files) c.F B):Calls Tryz.prog 51 #[.agg #[sl c.files,.int .i64 c.rate]] w (PlC w c.abs):=by
 show Calls _ _ _ w (PlC w (c.F.map Ent.abs,c.rate))
 obtain ⟨cf,cr,cF⟩:=c;simp only at hf ⊢;obtain ⟨a,cap,es,hm⟩:=hf.rd.slice;rw [es] at hf ⊢;clear es;have B1:=Lib.hid ((Below.refl w.heap.size w).alloc (Nat.le_refl _) (.cells #[.slice a cF.length cap,.int .i64 cr] 60));have B2:=Lib.hid (B1.out.alloc B1.out.size (.cells #[.pointer none,.bool false,.int .i64 0] 139));have Z2:Hid (((w.alloc (.cells #[.slice a cF.length cap,.int .i64 cr] 60)).alloc (.cells #[.pointer none,.bool false,.int .i64 0] 139)).heap.size=w.heap.size+2):=Lib.hid (by simp);have X1:Hid (((w.alloc (.cells #[.slice a cF.length cap,.int .i64 cr] 60)).alloc (.cells #[.pointer none,.bool false,.int .i64 0] 139)).heap[w.heap.size]? = some (.cells #[.slice a cF.length cap,.int .i64 cr] 60 (0,0))):=Lib.hid ((Below.heap_alloc _ _ _ (by simp)).trans (heap_alloc_new w _))
 have X2:Hid (((w.alloc (.cells #[.slice a cF.length cap,.int .i64 cr] 60)).alloc (.cells #[.pointer none,.bool false,.int .i64 0] 139)).heap[w.heap.size+1]? = some (.cells #[.pointer none,.bool false,.int .i64 0] 139 (0,0))):=Lib.hid (by
  have:=heap_alloc_new (w.alloc (.cells #[.slice a cF.length cap,.int .i64 cr] 60)) (.cells #[.pointer none,.bool false,.int .i64 0] 139);rw [show (w.alloc (.cells #[.slice a cF.length cap,.int .i64 cr] 60)).heap.size=w.heap.size+1 by simp] at this
  exact this)
 have BAD:Hid (¬ gdP (cF.map Ent.abs,cr)→∀ W,Below w.heap.size w W→PlC w (cF.map Ent.abs,cr) (.returned (.tuple #[.agg #[.pointer none,.bool false,.int .i64 0],.int .i64 2])) (sto3 W (w.heap.size+1) (.pointer none) (.bool false) (.int .i64 0))):=Lib.hid (fun h W b=>⟨b.trans ((sto3_only W _ _ _ _).below b.size fun k e=>by omega),.inr ⟨h,rfl⟩⟩);have CAL:=Lib.hid (fun W=>ciscalm_any W cr);have HF:=Lib.hid hf;clear hf
 cases hc:cal cr with
 | false =>
   have NG:=Lib.hid (BAD.out (fun g=>by
    have:=cal_of.2 g.2;rw [show ((cF.map Ent.abs,cr):Pl).2=cr from rfl,hc] at this
    cases this))
   rw [hc] at CAL;clear BAD HF hc;generalize ((cF.map Ent.abs,cr):Pl)=pp at *;generalize cF.length=N at *
   go_enter Tryz.func51,Tryz.ntmps51
   go_wp2_with fail;refine (CAL.out _).mono ?_;rintro e w1 ⟨rfl,rfl⟩;generalize ((w.alloc (.cells #[.slice a N cap,.int .i64 cr] 60)).alloc (.cells #[.pointer none,.bool false,.int .i64 0] 139))=W at *;have E:=Lib.hid (NG.out W B2.out);have z0:W.cell? ⟨w.heap.size+1,0,none⟩=some (.pointer none):=row_cell X2.out 0;have z1:W.cell? ⟨w.heap.size+1,1,none⟩=some (.bool false):=row_cell X2.out 1;have z2:W.cell? ⟨w.heap.size+1,2,none⟩=some (.int .i64 0):=row_cell X2.out 2;have f0:=row_frozen X2.out 0;have f1:=row_frozen X2.out 1;have f2:=row_frozen X2.out 2;have R:=Lib.hid (sto3_row X2.out (.pointer none) (.bool false) (.int .i64 0));clear NG CAL B1 B2 Z2 X1 X2;go_wp2
   (try simp only [Exit.inBlock,Exit.then])
   exact bodyPost_ret (results_nd (p:=2) (r:=3) rfl _ _ (w.heap.size+1) _ _ _ (.int .i64 2) rfl rfl R.out) rfl E.out
 | true =>
   have FI:=Lib.hid (fun i (hi:i < cF.length)=>(HF.out.file i hi).1);have FO:=Lib.hid (fun i (hi:i < cF.length)=>(HF.out.file i hi).2);obtain ⟨a',cap',e',_,_,h3⟩:=HF.out.rd;injection e' with e1 _ e3;subst e1 e3;have H3:=Lib.hid h3;have CR:Hid (-2000≤cr∧cr≤2000):=Lib.hid (cal_of.1 hc);have AT:=Lib.hid (fun k (hk:k < cF.length)=>abs_at hk)
   have OKL:Hid (∀ e∈cF.map Ent.abs,okL e.2.2):=Lib.hid (fun e he=>by
    obtain ⟨i,hi⟩:=List.getElem?_of_mem he;have hl:=(List.getElem?_eq_some_iff.1 hi).1;rw [List.length_map] at hl;rw [abs_at hl] at hi;injection hi with hi;rw [← hi]
    exact (HF.out.file i hl).2)
   rw [hc] at CAL;have AL:Hid ((cF.map Ent.abs).length=cF.length):=Lib.hid (List.length_map _);clear h3 hc HF;unfold maxLen at hm;generalize hA:cF.map Ent.abs=A at *;clear hA;generalize hN:cF.length=N at *;have HN:=Lib.hid hN;clear hN
   go_enter Tryz.func51,Tryz.ntmps51
   go_wp2_with fail;refine (CAL.out _).mono ?_;rintro e w1 ⟨rfl,rfl⟩;generalize ((w.alloc (.cells #[.slice a N cap,.int .i64 cr] 60)).alloc (.cells #[.pointer none,.bool false,.int .i64 0] 139))=W at *;clear B1;have P0:=Lib.hid (new_st W);have B3:=Lib.hid (B2.out.alloc B2.out.size (.cells #[.map none,.int .i64 0] 178));have BN:=Lib.hid ((Below.refl W.heap.size W).alloc (Nat.le_refl _) (.cells #[.map none,.int .i64 0] 178));have X3:=Lib.hid ((BN.out.block _ (lt_of_block X1.out)).trans X1.out);have X4:=Lib.hid ((BN.out.block _ (lt_of_block X2.out)).trans X2.out);have Z3:Hid ((W.alloc (.cells #[.map none,.int .i64 0] 178)).heap.size=w.heap.size+3):=Lib.hid (by have:=Z2.out;simp;omega);clear X1 X2 B2 BN
   go_upto_region 4 with (go_at_call 76;refine (new_any _).mono ?_;rintro e w1 ⟨rfl,rfl⟩)
   generalize (W.alloc (.cells #[.map none,.int .i64 0] 178))=W2 at *;rw [Z2.out] at *;have Q0:Hid (PNI w (w.heap.size+2) (w.heap.size+2) A 0 (fun k=>k=w.heap.size+2) W2):=Lib.hid ⟨P0.out,fun j e=>Nat.le_of_eq e.symm,B3.out,inn_zero A⟩;have d0:W2.cell? ⟨w.heap.size,0,none⟩=some (.slice a N cap):=row_cell X3.out 0;clear P0 B3 CAL;go_wp2;clear d0
   go_loopw [17,5] (fun i la wr=>∃ (k:Nat) (G:Nat→Prop),k≤N∧i = .int .i64 k∧la = .int .i64 (lastN A k)∧Hid (PNI w (w.heap.size+2) (w.heap.size+2) A k G wr)∧Hid (Below (w.heap.size+2) W2 wr)) (fun i _ _=>N - (intOf i).toNat)
   case atStart=>exact ⟨0,_,Nat.zero_le _,rfl,rfl,Q0,Lib.hid (Below.refl _ _)⟩
   case round =>
    clear Q0;obtain ⟨k,G,hk,rfl,rfl,I,BW⟩:=hrel
    by_cases hlt:k < N
    ·have hkL:k < cF.length:=by have:=HN.out;omega
     have hc:cF[k]? = some (eatF cF k):=by
      unfold eatF;rw [List.getElem?_eq_getElem hkL,List.getD_eq_getElem?_getD,List.getElem?_eq_getElem hkL]
      rfl
     obtain ⟨b,off,rfl,hA⟩:=H3.out (by omega);obtain ⟨x0,x1,x2⟩:=at3 (hA.below I.out.bel) hc;have HAA:=Lib.hid hA;have RF:=Lib.hid ((FI.out k hlt).below I.out.bel);have OF:=Lib.hid (FO.out k hlt);have AK:Hid (A[k]? = some ((eatF cF k).n,(eatF cF k).p,(eatF cF k).l)):=Lib.hid (AT.out k hlt);clear hc hA;unfold Ent.sl at x2 RF;generalize (eatF cF k).a=ca at *;generalize (eatF cF k).cap=ccap at *;generalize (eatF cF k).p=cp at *;generalize (eatF cF k).n=cn at *;generalize (eatF cF k).l=cl at *;have Y0:=Lib.hid (heap_alloc_new wr (.cells #[.int .i64 cn,.int .i64 cp,.slice ca cl.length ccap] 72));have BN:=Lib.hid ((Below.refl wr.heap.size wr).alloc (Nat.le_refl _) (.cells #[.int .i64 cn,.int .i64 cp,.slice ca cl.length ccap] 72));have GL:=Lib.hid I.out.st.low;go_upto_region 7 with fail;clear x0 x1 x2;generalize wr.alloc (.cells #[.int .i64 cn,.int .i64 cp,.slice ca cl.length ccap] 72)=W at *;have I2:=Lib.hid (I.out.below BN.out);have XW:=Lib.hid ((BN.out.block _ (by have:=I.out.bel.size;have:=lt_of_block X4.out;have:=BW.out.size;omega)).trans ((BW.out.block (w.heap.size+1) (by omega)).trans X4.out));have BW2:=Lib.hid (BW.out.trans (BN.out.mono (by have:=BW.out.size;have:=Z3.out;omega)));have RF2:=Lib.hid (RF.out.below BN.out);have GX:Hid (¬ G wr.heap.size∧¬ G (w.heap.size+1)):=Lib.hid ⟨fun g=>by have:=GL.out _ g;omega,fun g=>by have:=I.out.lo _ g;omega⟩;have LW:Hid (w.heap.size+2≤W.heap.size):=Lib.hid (by have:=BW2.out.size;have:=Z3.out;omega);generalize wr.heap.size=gx at *;have y0:W.cell? ⟨gx,0,none⟩=some (.int .i64 cn):=row_cell Y0.out 0;have y1:W.cell? ⟨gx,1,none⟩=some (.int .i64 cp):=row_cell Y0.out 1;have y2:W.cell? ⟨gx,2,none⟩=some (.slice ca cl.length ccap):=row_cell Y0.out 2;clear I BW BN RF GL;generalize hla:lastN A k=la at *;have HLA:=Lib.hid hla;clear hla
     by_cases hle:cn≤la
     ·have E:=Lib.hid (BAD.out (fun g=>last_no AK.out (by rw [HLA.out];exact hle) g.1) W I2.out.bel)
      have q:decide (cn≤la)=true:=decide_eq_true hle;have XR:=Lib.hid XW.out;have z0:W.cell? ⟨w.heap.size+1,0,none⟩=some (.pointer none):=row_cell XR.out 0;have z1:W.cell? ⟨w.heap.size+1,1,none⟩=some (.bool false):=row_cell XR.out 1;have z2:W.cell? ⟨w.heap.size+1,2,none⟩=some (.int .i64 0):=row_cell XR.out 2;have f0:=row_frozen XR.out 0;have f1:=row_frozen XR.out 1;have f2:=row_frozen XR.out 2;have R:=Lib.hid (sto3_row XR.out (.pointer none) (.bool false) (.int .i64 0));clear hle I2 BW2 RF2 BAD FI FO AT OKL OF AK;go_wp2
      (try simp only [Exit.inBlock,Exit.then])
      exact bodyPost_ret (results_nd (p:=2) (r:=3) rfl _ _ (w.heap.size+1) _ _ _ (.int .i64 2) rfl rfl R.out) rfl E.out
     ·have ADD:=Lib.hid (add_any I2.out.st cn cp (.slice ca cl.length ccap) cl RF2.out OF.out)
      have ST:=Lib.hid (inn_step I2.out.inn AK.out (last_ord (by rw [HLA.out];exact hle)));have NX:=Lib.hid (last_next AK.out);have q:decide (cn≤la)=false:=decide_eq_false hle;unfold AddPost file at ADD;generalize addE (A.take k) cn cp cl=ae at *;generalize addA (A.take k) cn cp cl=A' at *;generalize cl.length=cll at *;clear hle RF2 AK OF;go_wp2_with fail;refine ADD.out.mono ?_;rintro e w5 ⟨rfl,st5,o5⟩;have ST5:=Lib.hid st5;have O5:=Lib.hid o5;have YN:=Lib.hid ((o5.block gx (lt_of_block Y0.out) GX.out.1).trans Y0.out);have XR:=Lib.hid ((o5.block _ (lt_of_block XW.out) GX.out.2).trans XW.out);clear st5 o5 ADD y0 y1 y2 XW
      rcases ST.out with ⟨e0,e1,e2⟩ | ⟨e0,ng⟩
      ·have I5:=Lib.hid (I2.out.step (by omega) LW.out (by rw [← e1];exact ST5.out) O5.out e2)
       have BW5:=Lib.hid (BW2.out.trans (O5.out.below (B:=w.heap.size+2) LW.out I2.out.lo));subst e0;have y0:w5.cell? ⟨gx,0,none⟩=some (.int .i64 cn):=row_cell YN.out 0;clear ST e1 e2 ST5 O5 YN XR I2 BW2;go_wp2
       go_roundw
       case rel=>exact ⟨k+1,_,by omega,by go_num,by rw [NX.out],I5,BW5⟩
       case measure=>simp [intOf];omega
      ·have E:=Lib.hid (BAD.out (fun g=>ng g.1) w5 (I2.out.bel.trans (O5.out.below I2.out.bel.size fun j g=>by have:=I2.out.lo j g;omega)))
       have q1:(ae != 0)=true:=by simpa using e0
       have z0:w5.cell? ⟨w.heap.size+1,0,none⟩=some (.pointer none):=row_cell XR.out 0;have z1:w5.cell? ⟨w.heap.size+1,1,none⟩=some (.bool false):=row_cell XR.out 1;have z2:w5.cell? ⟨w.heap.size+1,2,none⟩=some (.int .i64 0):=row_cell XR.out 2;have f0:=row_frozen XR.out 0;have f1:=row_frozen XR.out 1;have f2:=row_frozen XR.out 2;have R:=Lib.hid (sto3_row XR.out (.pointer none) (.bool false) (.int .i64 0));clear ST ng ST5 O5 YN I2 BW2 BAD FI FO AT OKL e0;go_wp2
       (try simp only [Exit.inBlock,Exit.then])
       exact bodyPost_ret (results_nd (p:=2) (r:=3) rfl _ _ (w.heap.size+1) _ _ _ (.int .i64 2) rfl rfl R.out) rfl E.out
    ·obtain rfl:k=N:=by omega
     have GD:=Lib.hid (inn_end (A:=A) (by have:=I.out.inn;rw [AL.out];exact this));have ST:=I.out.st;have XR:=Lib.hid ((BW.out.block (w.heap.size+1) (by omega)).trans X4.out);have XP:=Lib.hid ((BW.out.block w.heap.size (by omega)).trans X3.out);rw [← AL.out,List.take_length] at ST;have E:Hid (PlC w (A,cr) (.returned (.tuple #[.agg #[.pointer (some ⟨w.heap.size+2,0,none⟩),.bool true,.int .i64 cr],.int .i64 0])) (sto3 wr (w.heap.size+1) (.pointer (some ⟨w.heap.size+2,0,none⟩)) (.bool true) (.int .i64 cr))):=Lib.hid
      ⟨I.out.bel.trans ((sto3_only wr _ _ _ _).below I.out.bel.size fun k e=>by omega),.inl ⟨⟨GD.out,CR.out⟩,w.heap.size+2,G,rfl,ST.only (G:=fun j=>j=w.heap.size+1) (fun j g e=>by have:=I.out.lo j g;omega) (sto3_only wr _ _ _ _),fun j g=>by have:=I.out.lo j g;omega⟩⟩
     have z0:wr.cell? ⟨w.heap.size+1,0,none⟩=some (.pointer none):=row_cell XR.out 0;have z1:wr.cell? ⟨w.heap.size+1,1,none⟩=some (.bool false):=row_cell XR.out 1;have z2:wr.cell? ⟨w.heap.size+1,2,none⟩=some (.int .i64 0):=row_cell XR.out 2;have p1:wr.cell? ⟨w.heap.size,1,none⟩=some (.int .i64 cr):=row_cell XP.out 1;have f0:=row_frozen XR.out 0;have f1:=row_frozen XR.out 1;have f2:=row_frozen XR.out 2;have R:=Lib.hid (sto3_row XR.out (.pointer (some ⟨w.heap.size+2,0,none⟩)) (.bool true) (.int .i64 cr));clear GD ST I BW BAD FI FO AT OKL XP;generalize lastN A k=la at *;go_wp2
     (try simp only [Exit.inBlock,Exit.then])
     exact bodyPost_ret (results_nd (p:=2) (r:=3) rfl _ _ (w.heap.size+1) _ _ _ (.int .i64 0) rfl rfl R.out) rfl E.out
end Go.Proofs.YtljnkaodhfnbbaaGreatDoor.Cu
namespace Go.Proofs.YtljnkaodhfnbbaaGreatDoor.Re
open Go.RowKit
open Rw (Rd Ow At)
open Fl (R4 z4 rec4 K4 okR hdr rat goodF ret_bool at_bool)
attribute [local irreducible] wpQuiet
set_option maxHeartbeats 1000000 in
theorem isseq_any (w:World) (v:Value) (l:List Int) (R:Rd KI w v l):Calls Tryz.prog 206 #[v] w fun e w'=>e = .returned (.bool (seqB l))∧Below w.heap.size w w':=by
 have HNO:Hid (∀ k,k < l.length→¬ okI (iat l k)→false=seqB l):=Lib.hid (fun k hk h=>seq_no hk h);have HLO:Hid (¬ (0 < l.length∧l.length≤64)→false=seqB l):=Lib.hid (fun h=>seq_long h);have HYES:Hid (0 < l.length∧l.length≤64→(∀ i,i < l.length→okI (iat l i))→true=seqB l):=Lib.hid (fun h g=>seq_yes h g);obtain ⟨a,cap,rfl,_,hm,hA⟩:=R;have HA:=Lib.hid hA;unfold maxLen at hm;clear hA;generalize hn:l.length=n at *;have HN:=Lib.hid hn;clear hn
 rcases (by omega:n=0∨64 < n∨(0 < n∧n≤64)) with h | h | h
 ·have E:=Lib.hid (HLO.out (by omega))
  have h0:((n:Int) == 0)=true:=by rw [h];rfl
  clear HNO HLO HYES HA HN h
  go_enter Tryz.func206,Tryz.ntmps206
  go_wp2
  go_ret
  exact ⟨ret_bool E.out,Below.refl _ _⟩
 ·have E:=Lib.hid (HLO.out (by omega))
  have h0:((n:Int) == 0)=false:=by simp;omega
  clear HNO HLO HYES HA HN
  go_enter Tryz.func206,Tryz.ntmps206
  go_wp2
  go_ret
  exact ⟨ret_bool E.out,Below.refl _ _⟩
 ·have h0:((n:Int) == 0)=false:=by simp;omega
  have h64:n≤64:=h.2;have HY:=Lib.hid (HYES.out h);clear HLO HYES h
  go_enter Tryz.func206,Tryz.ntmps206
  go_wp2
  go_loopw [15] (fun i wr=>∃ k:Nat,k≤n∧i = .int .i64 k∧Hid (Below w.heap.size w wr)∧Hid (∀ i,i < k→okI (iat l i))) (fun i _=>n - (intOf i).toNat)
  case atStart=>exact ⟨0,Nat.zero_le _,rfl,Lib.hid (Below.refl _ _),Lib.hid (fun i hi=>by omega)⟩
  case round =>
   obtain ⟨k,hk,rfl,bw,hs⟩:=hrel
   by_cases hlt:k < n
   ·obtain ⟨b,off,rfl,A⟩:=HA.out (by omega)
    have c0:=at1 (A.below bw.out) k (by have:=HN.out;omega);have P1:=Lib.hid (HNO.out k hlt)
    have P3:Hid (okI (iat l k)→∀ i,i < k+1→okI (iat l i)):=Lib.hid (fun g i hi=>by
     by_cases e:i=k
     ·rw [e];exact g
     ·exact hs.out i (by omega))
    have HAA:=Lib.hid A;clear A;unfold okI at P1 P3;generalize iat l k=x at *
    rcases (by omega:x < 0∨(0≤x∧6≤x)∨(0≤x∧x≤5)) with h | ⟨h,h2⟩ | ⟨h,h2⟩
    ·have E:=Lib.hid (P1.out (by omega))
     clear P1 P3;go_wp2
     go_ret
     exact ⟨ret_bool E.out,bw.out⟩
    ·have E:=Lib.hid (P1.out (by omega))
     clear P1 P3;go_wp2
     go_ret
     exact ⟨ret_bool E.out,bw.out⟩
    ·have ST:=Lib.hid (P3.out ⟨h,h2⟩)
     clear P1 P3;go_wp2
     go_roundw
     case rel=>exact ⟨k+1,by omega,by go_num,bw,ST⟩
     case measure=>simp [intOf];omega
   ·obtain rfl:k=n:=by omega
    have E:=Lib.hid (HY.out (fun i hi=>hs.out i hi));go_wp2
    go_ret
    exact ⟨ret_bool E.out,bw.out⟩
set_option maxHeartbeats 1000000 in
theorem rmay_any (w:World) (v:Value) (l:List Int) (R:Rd KI w v l):Calls Tryz.prog 115 #[v] w fun e w'=>e = .returned (.bool (seqB l))∧Below w.heap.size w w':=by
 have HNO:Hid (∀ k,k < l.length→¬ okI (iat l k)→false=seqB l):=Lib.hid (fun k hk h=>seq_no hk h);have HLO:Hid (¬ (0 < l.length∧l.length≤64)→false=seqB l):=Lib.hid (fun h=>seq_long h);have HYES:Hid (0 < l.length∧l.length≤64→(∀ i,i < l.length→okI (iat l i))→true=seqB l):=Lib.hid (fun h g=>seq_yes h g);obtain ⟨a,cap,rfl,_,hm,hA⟩:=R;have HA:=Lib.hid hA;unfold maxLen at hm;clear hA;generalize hn:l.length=n at *;have HN:=Lib.hid hn;clear hn
 go_enter Tryz.func115,Tryz.ntmps115
 go_wp2
 go_loopw [3] (fun i wr=>∃ k:Nat,k≤n∧i = .int .i64 k∧Hid (Below w.heap.size w wr)∧Hid (∀ i,i < k→okI (iat l i))) (fun i _=>n - (intOf i).toNat)
 case atStart=>exact ⟨0,Nat.zero_le _,rfl,Lib.hid (Below.refl _ _),Lib.hid (fun i hi=>by omega)⟩
 case round =>
  obtain ⟨k,hk,rfl,bw,hs⟩:=hrel
  by_cases hlt:k < n
  ·obtain ⟨b,off,rfl,A⟩:=HA.out (by omega)
   have c0:=at1 (A.below bw.out) k (by have:=HN.out;omega);have P1:=Lib.hid (HNO.out k hlt)
   have P3:Hid (okI (iat l k)→∀ i,i < k+1→okI (iat l i)):=Lib.hid (fun g i hi=>by
    by_cases e:i=k
    ·rw [e];exact g
    ·exact hs.out i (by omega))
   have HAA:=Lib.hid A;clear A;unfold okI at P1 P3;generalize iat l k=x at *
   rcases (by omega:x < 0∨(0≤x∧6≤x)∨(0≤x∧x≤5)) with h | ⟨h,h2⟩ | ⟨h,h2⟩
   ·have E:=Lib.hid (P1.out (by omega))
    clear P1 P3;go_wp2
    go_ret
    exact ⟨ret_bool E.out,bw.out⟩
   ·have E:=Lib.hid (P1.out (by omega))
    clear P1 P3;go_wp2
    go_ret
    exact ⟨ret_bool E.out,bw.out⟩
   ·have ST:=Lib.hid (P3.out ⟨h,h2⟩)
    clear P1 P3;go_wp2
    go_roundw
    case rel=>exact ⟨k+1,by omega,by go_num,bw,ST⟩
    case measure=>simp [intOf];omega
  ·obtain rfl:k=n:=by omega
   rcases (by omega:k=0∨64 < k∨(0 < k∧k≤64)) with h | h | h
   ·have E:=Lib.hid (HLO.out (by omega))
    have h0:¬ ((0:Int) < (k:Int)):=by omega
    clear HNO HLO HYES;go_wp2
    go_ret
    exact ⟨ret_bool E.out,bw.out⟩
   ·have E:=Lib.hid (HLO.out (by omega))
    have h0:(0:Int) < (k:Int):=by omega
    have h1:¬ ((k:Int) < 65):=by omega
    clear HNO HLO HYES;go_wp2
    go_ret
    exact ⟨ret_bool (by simpa [h1] using E.out),bw.out⟩
   ·have E:=Lib.hid (HYES.out h (fun i hi=>hs.out i hi))
    have h0:(0:Int) < (k:Int):=by omega
    have h1:(k:Int) < 65:=by omega
    clear HNO HLO HYES;go_wp2
    go_ret
    exact ⟨ret_bool (by simpa [h1] using E.out),bw.out⟩
set_option maxHeartbeats 1000000 in
theorem next_any (w:World) (v:Value) (l:List Int) (t:Int) (R:Rd KI w v l):Calls Tryz.prog 165 #[v,.int .i64 t] w (NextPost w l t):=by
 have R0:=Lib.hid R;have IS:=Lib.hid (fun w v R=>isseq_any w v l R)
 by_cases hs:seqP l
 ·have hb:seqB l=true:=decide_eq_true hs
  rw [hb] at IS;have HS:=Lib.hid hs;have hl:=hs.1;clear hb hs
  by_cases ht:0≤t∧t < l.length
  ·obtain ⟨k,rfl⟩:∃ k:Nat,t=k:=⟨t.toNat,by omega⟩
   have hk:k < l.length:=by omega
   have NP:nxP l k:=⟨HS.out,ht.1,ht.2⟩;have EL:=Lib.hid (fun h w' hb=>next_last (w:=w) (w':=w') NP h hb);have EM:=Lib.hid (fun h w' hb=>next_more (w:=w) (w':=w') NP h hb);obtain ⟨a,cap,rfl,_,hm,hA⟩:=R;obtain ⟨b,off,rfl,hA2⟩:=hA (by omega);have c0:=at1 hA2 k hk;clear hA hA2 NP HS ht;generalize iat l k=x at *;generalize hn:l.length=n at *;have W0:IntKind.i64.wrap ((n:Int) - 1)=(n:Int) - 1:=IntWalk.i64_in _ (by omega);have W1:IntKind.i64.wrap ((k:Int)+1)=(k:Int)+1:=IntWalk.i64_in _ (by omega);clear hn hm
   by_cases h1:k+1=n
   ·have E:=Lib.hid (EL.out h1)
    have t0:¬ ((k:Int) < 0):=by omega
    have t1:¬ ((n:Int) - 1 < k):=by omega
    have t2:¬ ((k:Int) < (n:Int) - 1):=by omega
    have H1:=Lib.hid h1;clear EL EM h1
    go_enter Tryz.func165,Tryz.ntmps165
    go_wp2_with fail;refine (IS.out _ _ R0.out).mono ?_;rintro e w1 ⟨rfl,b1⟩;have d0:=(b1.cell (World.block_lt_of_cell? _ _ c0)).trans c0;have E1:=Lib.hid (E.out _ b1);clear b1;go_wp2
    go_ret3
    exact E1.out
   ·have E:=Lib.hid (EM.out h1)
    have t0:¬ ((k:Int) < 0):=by omega
    have t1:¬ ((n:Int) - 1 < k):=by omega
    have t2:(k:Int) < (n:Int) - 1:=by omega
    have H1:=Lib.hid h1;clear EL EM h1
    go_enter Tryz.func165,Tryz.ntmps165
    go_wp2_with fail;refine (IS.out _ _ R0.out).mono ?_;rintro e w1 ⟨rfl,b1⟩;have d0:=(b1.cell (World.block_lt_of_cell? _ _ c0)).trans c0;have E1:=Lib.hid (E.out _ b1);clear b1;go_wp2
    go_ret3
    exact E1.out
  ·have NP:¬ nxP l t:=fun h=>ht h.2
   have E:=Lib.hid (fun w' hb=>next_no (w:=w) NP w' hb);obtain ⟨a,cap,rfl,_,hm,hA⟩:=R;clear hA HS NP;generalize hn:l.length=n at *;have W0:IntKind.i64.wrap ((n:Int) - 1)=(n:Int) - 1:=IntWalk.i64_in _ (by omega);clear hn hm
   rcases (by omega:t < 0∨(0≤t∧(n:Int) - 1 < t)) with h | ⟨h,h2⟩
   all_goals
    clear ht
    go_enter Tryz.func165,Tryz.ntmps165
    go_wp2_with fail;refine (IS.out _ _ R0.out).mono ?_;rintro e w1 ⟨rfl,b1⟩;have E1:=Lib.hid (E.out _ b1);clear b1;go_wp2
    go_ret3
    exact E1.out
 ·have hb:seqB l=false:=decide_eq_false hs
  rw [hb] at IS;have NP:¬ nxP l t:=fun h=>hs h.1;have E:=Lib.hid (fun w' hb=>next_no (w:=w) NP w' hb);obtain ⟨a,cap,rfl,_,hm,hA⟩:=R;clear hA hs NP hb;unfold maxLen at hm;generalize l.length=n at *;have W0:IntKind.i64.wrap ((n:Int) - 1)=(n:Int) - 1:=IntWalk.i64_in _ (by omega)
  go_enter Tryz.func165,Tryz.ntmps165
  go_wp2_with fail;refine (IS.out _ _ R0.out).mono ?_;rintro e w1 ⟨rfl,b1⟩;have E1:=Lib.hid (E.out _ b1);clear b1;go_wp2
  go_ret3
  exact E1.out
end Go.Proofs.YtljnkaodhfnbbaaGreatDoor.Re
namespace Go.Proofs.YtljnkaodhfnbbaaGreatDoor.Re
open Go.RowKit
open Rw (Rd Ow At)
open Fl (R4 z4 rec4 K4 okR hdr rat file ret_bool at_bool at4 row_cell row_frozen sto2_row sto2_below sto2_off results_new rhdr_any infoR)
attribute [local irreducible] Sd.wpSd wpQuiet Sz.wpSz
theorem wp_push {α:Type} {Kd:Rw.Kind α} {P:Program} {K:Act→World→Prop} {w:World} {E:TypeId} {o:Oper} {a:Act} {Q:Exit→Act→World→Prop} {T:TypeId} {z:Value} {bytes:Nat} (ht:P.underlying T=some (.slice E))
 (hi:(P.info? E).map (fun i=>(i.zero,i.size,i.bytes))=some (some z,Kd.n,bytes)) (hz:z.cells.size=Kd.n) (hby:bytes≤64) (s x:Operand)
 (ho:o.op = .call { callee:=.builtin .append,args:=#[s,x],argTypes:=#[T,T] }) (B:Nat) (v:Value) (l:List α) (hs:a.eval s=v) (hown:Ow Kd w B E v l)
 (ad:Addr) (c:α) (hx:a.eval x = .slice (some ad) 1 1) (hc:∀ j u,(Kd.enc c)[j]? = some u→w.cell? (ad.add j)=some u) (hlen:l.length < 2199023255552) (hB:B≤w.heap.size)
 (h:∀ v' w',Ow Kd w' B E v' (l ++ [c])→Below B w w'→Rw.Far E w w'→K (a.put o.dst v') w'):o.wp P a w K Q:=by
 obtain ⟨i0,hi0,hz0,hz1,hz2⟩:=info_parts hi;have hb:(l.length+1) * bytes≤140737488355328:=Nat.le_trans (Nat.mul_le_mul (show l.length+1≤2199023255552 by omega) hby) (by omega);refine wp_append_own _ s x T ho B E i0 z Kd.n bytes ht hi0 hz0 hz1 hz2 hz Kd.pos v l.length (Kd.flat l) hs hown ad 1 1 (Kd.enc c) hx (by rw [Kd.len,Nat.one_mul]) hc (Kd.one c) (by unfold maxLen;omega) hb hB ?_
 intro v' w' h2 h3 _
 exact h v' w' (Rw.Ow.push h2) ((Below.refl B w).grown h3 hB fun k hk=>(World.ownsRow.lt hown k hk).1) (Rw.far_grown hown h3)
structure GRel (w:World) (m:List R4) (gF:Nat) (v:Value) (wr:World):Prop where
 row:wr.heap[gF]? = some (.cells #[.int .i64 3,v] 70 (0,0))
 res:wr.heap[w.heap.size]? = some (.cells #[.int .i64 0,.slice none 0 0] 70 (0,0))
 own:Ow K4 wr (w.heap.size+1) 42 v m
 bel:Below w.heap.size w wr
 lt:w.heap.size < gF
def GC (gF:Nat) (v:Value) (ad:Addr) (x:Int) (W:World):Prop:=W.heap[gF]? = some (.cells #[.int .i64 3,v] 70 (0,0))∧W.cell? ad=some (.int .i64 x)
set_option maxHeartbeats 2000000 in
theorem rfile_any (w:World) (v:Value) (l:List Int) (R:Rd KI w v l):Calls Tryz.prog 58 #[v] w (FilePost w l):=by
 have B0:=Lib.hid ((Below.refl w.heap.size w).alloc (Nat.le_refl _) (.cells #[.int .i64 0,.slice none 0 0] 70));have R0:=Lib.hid (R.below B0.out)
 by_cases hm:seqP l
 ·have GA:=Lib.hid (at_bool (show seqB l=true from decide_eq_true hm) (rmay_any _ v l R0.out))
  have HE:=Lib.hid (fun u w'=>file_yes (w:=w) hm u w');have hl:=hm.1.2;have OK:Hid (∀ i,i < l.length→okI (iat l i)):=Lib.hid hm.2;clear hm R0;obtain ⟨a,cap0,rfl,_,hm,hA⟩:=R;have HA:=Lib.hid hA;unfold maxLen at hm;clear hA;have HF:Hid (fileL l=hdr 3 (l.length:Int) :: l.map putI):=Lib.hid rfl;have PS:=Lib.hid (fun h k=>own_next (k:=k) (l:=l) h);have PE:Hid (∀ h:R4,(h :: (l.take l.length).map putI)=h :: l.map putI):=Lib.hid (fun h=>by rw [List.take_length]);have PL:Hid (∀ (h:R4) k,k≤l.length→(h :: (l.take k).map putI).length=k+1):=Lib.hid (fun h k hk=>by simp [List.length_take];omega);have HH:=Lib.hid (fun w=>rhdr_any w 3 (l.length:Int) (by omega) (by omega) (by omega) (by omega));unfold rec4 at HH;generalize hdr 3 (l.length:Int)=h at *;generalize hn:l.length=n at *;have HN:=Lib.hid hn;clear hn
  go_enter Tryz.func58,Tryz.ntmps58
  go_wp2_with fail;refine GA.out.mono ?_;rintro e w0 ⟨rfl,b1⟩;have z0:w.heap.size+1≤w0.heap.size:=by have:=b1.size;simp at this;omega
  have B1:=Lib.hid (B0.out.trans (b1.mono B0.out.size));have S1:Hid (w0.heap[w.heap.size]? = some (.cells #[.int .i64 0,.slice none 0 0] 70 (0,0))):=Lib.hid ((b1.block _ (by simp)).trans (heap_alloc_new w _));clear b1 GA B0;go_wp2_with fail;refine (HH.out _).mono ?_;rintro e w1 ⟨rfl,b1⟩;have z1:w.heap.size < w1.heap.size:=by have:=b1.size;omega
  have B2:=Lib.hid (B1.out.trans (b1.mono B1.out.size));have r0:=(b1.block _ (by omega)).trans S1.out;have hz:(w1.alloc (.cells #[.int .u8 h.1,.int .u8 h.2.1,.int .u8 h.2.2.1,.int .u8 h.2.2.2] 42)).heap.size=w1.heap.size+1:=by simp
  have N0:Hid (GRel w [h] (w1.heap.size+1) (.slice (some ⟨w1.heap.size,0,none⟩) 1 1) ((w1.alloc (.cells #[.int .u8 h.1,.int .u8 h.2.1,.int .u8 h.2.2.1,.int .u8 h.2.2.2] 42)).alloc (.cells #[.int .i64 3,.slice (some ⟨w1.heap.size,0,none⟩) 1 1] 70))):=by
   refine Lib.hid ⟨?_,?_,(Rw.Ow.lit (K:=K4) w1 (w.heap.size+1) 42 [h] (by omega) (by unfold maxLen;simp)).alloc _,(B2.out.alloc (by omega) _).alloc (by rw [hz];omega) _,by omega⟩
   ·have:=heap_alloc_new (w1.alloc (.cells #[.int .u8 h.1,.int .u8 h.2.1,.int .u8 h.2.2.1,.int .u8 h.2.2.2] 42)) (.cells #[.int .i64 3,.slice (some ⟨w1.heap.size,0,none⟩) 1 1] 70)
    rw [hz] at this;exact this
   ·exact (Below.heap_alloc _ _ _ (by rw [hz];omega)).trans ((Below.heap_alloc _ _ _ z1).trans r0)
  clear b1 r0 HH hz S1 B1;go_wp2;generalize (w1.alloc (.cells #[.int .u8 h.1,.int .u8 h.2.1,.int .u8 h.2.2.1,.int .u8 h.2.2.2] 42)).alloc (.cells #[.int .i64 3,.slice (some ⟨w1.heap.size,0,none⟩) 1 1] 70)=W at *;generalize w1.heap.size+1=g at *;generalize Value.slice (some ⟨w1.heap.size,0,none⟩) 1 1=v0 at *
  go_loopw [5] (fun i wr=>∃ (k:Nat) (v:Value),k≤n∧i = .int .i64 k∧Hid (GRel w (h :: (l.take k).map putI) g v wr)) (fun i _=>n - (intOf i).toNat)
  case atStart=>exact ⟨0,v0,Nat.zero_le _,rfl,N0⟩
  case round =>
   obtain ⟨k,v,hk,rfl,RR⟩:=hrel;obtain ⟨av,cv,ev,_,_⟩:=RR.out.own.slice;rw [PL.out h k hk] at ev;generalize k+1=L at ev;subst ev;have glt:=RR.out.lt
   by_cases hlt:k < n
   ·obtain ⟨b,off,rfl,A⟩:=HA.out (by omega)
    have cw:=at1 A k (by rw [HN.out];exact hlt);have bw:=World.block_lt_of_cell? _ _ cw;have CW:=Lib.hid cw;have ok:=OK.out k hlt;have PK:=Lib.hid (PS.out h k hlt);have PLK:=Lib.hid (PL.out h k hk);have AA:=Lib.hid A;clear A cw;unfold okI at ok;generalize iat l k=x at *;have W2:IntKind.u8.wrap x=x:=by rw [IntKind.wrap];simp [IntKind.signed,IntKind.bits];omega
    go_upto_region 7 with fail;have C0:GC g (.slice av L cv) ⟨b,off+k,none⟩ x wr.drew:=⟨RR.out.row,(RR.out.bel.cell bw).trans CW.out⟩;have c0:=Sc.cell_in (C:=GC g (.slice av L cv) ⟨b,off+k,none⟩ x) (a:=⟨b,off+k,none⟩) (fun W' h=>h.2);have c1:=Sc.cell_in (C:=GC g (.slice av L cv) ⟨b,off+k,none⟩ x) (a:=⟨g,1,none⟩) (fun W' h=>row_cell h.1 1);have ne:Nonempty (Sc.In (GC g (.slice av L cv) ⟨b,off+k,none⟩ x)):=⟨⟨_,C0⟩⟩;have GG:Hid (GRel w (h :: (l.take k).map putI) g (.slice av L cv) wr.drew):=Lib.hid ⟨RR.out.row,RR.out.res,RR.out.own,RR.out.bel.drew,RR.out.lt⟩;clear RR;refine Sz.start (GC g (.slice av L cv) ⟨b,off+k,none⟩ x) [(false,0),(false,1),(false,2),(false,3),(false,4),(false,5),(false,6),(false,7),(true,8),(true,9),(false,10)] 11 (by kernel_rfl) (by kernel_rfl) (by kernel_rfl) rfl rfl C0 ?_;dsimp only [Sd.picks,List.getElem?_cons_succ,List.getElem?_cons_zero]
    repeat (refine Sz.lit ?_;quiet_step (fail);refine wpQuiet_nil ?_)
    have C1:=Lib.hid C0;clear C0 c0 c1;generalize wr.drew=w4 at *;refine Sz.call (by rfl) (fun K hK=>?_);go_simp;have zB:=GG.out.bel.size;have ba:=Below.heap_alloc w4 (.cells #[.int .u8 x,.int .u8 0,.int .u8 0,.int .u8 0] 42);have C5:GC g (.slice av L cv) ⟨b,off+k,none⟩ x (w4.alloc (.cells #[.int .u8 x,.int .u8 0,.int .u8 0,.int .u8 0] 42)):=⟨(ba g (lt_of_block C1.out.1)).trans C1.out.1,(((Below.refl w4.heap.size w4).alloc (Nat.le_refl _) _).cell (World.block_lt_of_cell? _ _ C1.out.2)).trans C1.out.2⟩;have B5:=Lib.hid (GG.out.bel.alloc zB (.cells #[.int .u8 x,.int .u8 0,.int .u8 0,.int .u8 0] 42));have O5:=Lib.hid (GG.out.own.alloc (.cells #[.int .u8 x,.int .u8 0,.int .u8 0,.int .u8 0] 42));have S5:=Lib.hid ((ba w.heap.size (lt_of_block GG.out.res)).trans GG.out.res);have Y5:=Lib.hid (heap_alloc_new w4 (.cells #[.int .u8 x,.int .u8 0,.int .u8 0,.int .u8 0] 42));have hz5:Hid (w.heap.size+1≤(w4.alloc (.cells #[.int .u8 x,.int .u8 0,.int .u8 0,.int .u8 0] 42)).heap.size):=Lib.hid (by simp;omega);refine hK _ _ (Sc.Cl.of C5) ?_;have C5':=Lib.hid C5;clear hK K ba C5 C1 GG;generalize (w4.alloc (.cells #[.int .u8 x,.int .u8 0,.int .u8 0,.int .u8 0] 42))=w5 at *;generalize w4.heap.size=g4 at *;refine Sz.call (by rfl) (fun K hK=>?_);refine wp_push (Kd:=K4) Tryz.underlying68 infoR rfl (by omega) _ _ rfl (w.heap.size+1) _ _ rfl O5.out ⟨g4,0,none⟩ (putI x) rfl ?a1 ?a2 hz5.out ?_
    case a1 =>
     intro j u hu
     have c:=row_cell Y5.out j
     match j,hu with
     | 0,hu=>simp [K4,putI] at hu;subst hu;exact c
     | 1,hu=>simp [K4,putI] at hu;subst hu;exact c
     | 2,hu=>simp [K4,putI] at hu;subst hu;exact c
     | 3,hu=>simp [K4,putI] at hu;subst hu;exact c
     | j+4,hu=>simp [K4] at hu
    case a2=>rw [PLK.out];omega
    intro v6 w6 o6 b6 f6
    rw [PK.out] at o6;have rr:=f6 g _ _ C5'.out.1 (by decide);have rs:=f6 w.heap.size _ _ S5.out (by decide);have C6:GC g (.slice av L cv) ⟨b,off+k,none⟩ x w6:=⟨rr,((B5.out.trans (b6.mono (Nat.le_succ _))).cell bw).trans CW.out⟩;obtain ⟨v6a,v6c,n6,rfl⟩:∃ a c n,v6 = .slice a n c:=by obtain ⟨a,c,e,_⟩:=o6.slice;exact ⟨a,c,_,e⟩
    have N6:Hid (GRel w (h :: (l.take (k+1)).map putI) g (.slice v6a n6 v6c) (w6.setCell ⟨g,1,none⟩ (.slice v6a n6 v6c))):=by
     refine Lib.hid ⟨Rw.heap_setCell_same rr _,(Below.heap_setCell w6 ⟨g,1,none⟩ _ w.heap.size (show w.heap.size≠g by omega)).trans rs,o6.far (p:=⟨g,1,none⟩) rr (by decide) _,?_,glt⟩;exact (B5.out.trans (b6.mono (Nat.le_succ _))).setCell (by simp;omega) _
    have c6:w6.cell? ⟨g,1,none⟩=some (.slice av L cv):=row_cell rr 1;have e6:=row_frozen rr 1;refine hK _ _ (Sc.Cl.of C6) ?_;have c1:=Sc.cell_in (C:=GC g (.slice av L cv) ⟨b,off+k,none⟩ x) (a:=⟨g,1,none⟩) (fun W' h=>row_cell h.1 1);clear hK K rr rs b6 f6 o6 B5 O5 S5 Y5 C5' hz5 C6
    repeat (refine Sz.lit ?_;quiet_step (fail);refine wpQuiet_nil ?_)
    refine Sz.done ?_;clear c1;go_simp;clear c6 e6;generalize (w6.setCell ⟨g,1,none⟩ (.slice v6a n6 v6c))=w8 at *;refine NoPanic.normal ?_;go_wp2
    go_roundw
    case rel=>exact ⟨k+1,_,by omega,by go_num,N6⟩
    case measure=>simp [intOf];omega
   ·obtain rfl:k=n:=by omega
    have PEK:=Lib.hid (PE.out h);clear PE PL PS OK;have O5:=Lib.hid (show Ow K4 wr (w.heap.size+1) 42 (.slice av L cv) (fileL l) by rw [HF.out,← PEK.out];exact RR.out.own);have d0:wr.cell? ⟨g,0,none⟩=some (.int .i64 3):=row_cell RR.out.row 0;have d1:wr.cell? ⟨g,1,none⟩=some (.slice av L cv):=row_cell RR.out.row 1;have r0:wr.cell? ⟨w.heap.size,0,none⟩=some (.int .i64 0):=row_cell RR.out.res 0;have r1:wr.cell? ⟨w.heap.size,1,none⟩=some (.slice none 0 0):=row_cell RR.out.res 1;have s0:=row_frozen RR.out.res 0;have s1:=row_frozen RR.out.res 1;have hne:(Value.slice av L cv).ownBlock≠some w.heap.size:=O5.out.range (.inl (by omega));have RV:=Lib.hid (sto2_row RR.out.res 3 (.slice av L cv));have O6:=Lib.hid (sto2_off (u:=.slice av L cv) O5.out hne 3);have B6:=Lib.hid (sto2_below (p:=3) (v:=.slice av L cv) RR.out.bel (Nat.le_refl _));clear RR O5 hne PEK;go_wp2
    (try simp only [Exit.inBlock,Exit.then])
    exact bodyPost_ret (v:=.tuple #[file 3 _,.int .i64 0]) (results_new (p:=2) (r:=3) rfl _ _ w.heap.size 3 _ 0 rfl rfl RV.out) rfl (HE.out _ _ O6.out.rd B6.out)
 ·have GA:=Lib.hid (at_bool (show seqB l=false from decide_eq_false hm) (rmay_any _ v l R0.out))
  have E:=Lib.hid (file_no (w:=w) hm);clear hm;obtain ⟨a,cap,rfl,_,hm,_⟩:=R;clear R0;generalize l.length=n at *
  go_enter Tryz.func58,Tryz.ntmps58
  go_wp2_with fail;refine GA.out.mono ?_;rintro e w1 ⟨rfl,b1⟩;have z1:w.heap.size < w1.heap.size:=by have:=b1.size;simp at this;omega
  have B1:=Lib.hid (B0.out.trans (b1.mono B0.out.size));have r0:w1.heap[w.heap.size]? = some (.cells #[.int .i64 0,.slice none 0 0] 70 (0,0)):=(b1.block _ (by simp)).trans (heap_alloc_new w _);have c0:w1.cell? ⟨w.heap.size,0,none⟩=some (.int .i64 0):=row_cell r0 0;have c1:w1.cell? ⟨w.heap.size,1,none⟩=some (.slice none 0 0):=row_cell r0 1;have f0:=row_frozen r0 0;have f1:=row_frozen r0 1;have RR:=Lib.hid (sto2_row r0 0 (.slice none 0 0));clear b1 B0 r0 GA;go_wp2
  (try simp only [Exit.inBlock,Exit.then])
  exact bodyPost_ret (v:=.tuple #[file 0 (.slice none 0 0),.int .i64 1]) (results_new (p:=2) (r:=3) rfl _ _ w.heap.size 0 _ 1 rfl rfl RR.out) rfl (E.out _ (sto2_below B1.out (Nat.le_refl _)))
end Go.Proofs.YtljnkaodhfnbbaaGreatDoor.Re
namespace Go.Proofs.YtljnkaodhfnbbaaGreatDoor.Re
open Go.RowKit
open Rw (Rd Ow At)
open Fl (R4 z4 rec4 K4 okR hdr rat file ret_bool at_bool at4 row_cell row_frozen newP newL NewOwn new_own sto4 sto4_own sto4_other sto4_below sto2 sto2_row sto2_below sto2_off results_new)
structure FRel (w:World) (h:R4) (l:List Int) (g gF N cap k:Nat) (wr:World):Prop where
 row:wr.heap[gF]? = some (.cells #[.int .i64 3,.slice (some ⟨g,0,none⟩) N cap] 70 (0,0))
 res:wr.heap[w.heap.size]? = some (.cells #[.int .i64 0,.slice none 0 0] 70 (0,0))
 own:Ow K4 wr (w.heap.size+1) 42 (.slice (some ⟨g,0,none⟩) N cap) (part h l k)
 bel:Below w.heap.size w wr
set_option maxHeartbeats 2000000 in
theorem file_any (w:World) (v:Value) (l:List Int) (R:Rd KI w v l):Calls Tryz.prog 198 #[v] w (FilePost w l):=by
 have B0:=Lib.hid ((Below.refl w.heap.size w).alloc (Nat.le_refl _) (.cells #[.int .i64 0,.slice none 0 0] 70));have R0:=Lib.hid (R.below B0.out)
 by_cases hm:seqP l
 ·have GA:=Lib.hid (at_bool (show seqB l=true from decide_eq_true hm) (isseq_any _ v l R0.out))
  have HE:=Lib.hid (fun u w'=>file_yes (w:=w) hm u w');have hl:=hm.1.2;have OK:Hid (∀ i,i < l.length→okI (iat l i)):=Lib.hid hm.2;clear hm R0;obtain ⟨a,cap0,rfl,_,hm,hA⟩:=R;have HA:=Lib.hid hA;unfold maxLen at hm;clear hA;have HF:Hid (fileL l=hdr 3 (l.length:Int) :: l.map putI):=Lib.hid rfl;have PS:=Lib.hid (fun h k=>part_set (k:=k) h (l:=l));have PE:=Lib.hid (fun h=>part_end h l);have PL:=Lib.hid (fun h k=>part_len h l k);have NL:Hid (newL 3 (l.length:Int)=part (hdr 3 (l.length:Int)) l 0):=Lib.hid (by rw [part_start];rfl);have NO:=Lib.hid (fun w=>new_own w 3 (l.length:Int) ⟨by omega,by omega,by omega,by omega⟩);unfold NewOwn at NO;rw [NL.out] at NO;clear NL;generalize hdr 3 (l.length:Int)=h at *;generalize hn:l.length=n at *;have HN:=Lib.hid hn;clear hn;unfold file at NO
  go_enter Tryz.func198,Tryz.ntmps198
  go_wp2_with fail;refine GA.out.mono ?_;rintro e w1 ⟨rfl,b1⟩;have z1:w.heap.size+1≤w1.heap.size:=by have:=b1.size;simp at this;omega
  have B1:=Lib.hid (B0.out.trans (b1.mono B0.out.size));have r1:w1.heap[w.heap.size]? = some (.cells #[.int .i64 0,.slice none 0 0] 70 (0,0)):=(b1.block _ (by simp)).trans (heap_alloc_new w _);have S1:=Lib.hid r1;clear b1 GA B0 r1;go_wp2_with fail;refine (NO.out _).mono ?_;rintro e w2 ⟨u,rfl,o2,b2⟩;obtain ⟨g,cap,rfl,hg1,hg2,hcc,hcm,_,_⟩:=o2.form (by rw [PL.out _ _ (Nat.zero_le _)];omega);rw [PL.out _ _ (Nat.zero_le _)] at o2 hcc ⊢;have hz:∀ o,(w2.alloc o).heap.size=w2.heap.size+1:=fun o=>by simp
  have F0:Hid (FRel w h l g w2.heap.size (n+1) cap 0 (w2.alloc (.cells #[.int .i64 3,.slice (some ⟨g,0,none⟩) (n+1) cap] 70))):=Lib.hid
   ⟨heap_alloc_new w2 _,(Below.heap_alloc _ _ _ (by have:=b2.size;omega)).trans ((b2.block _ (by omega)).trans S1.out),(o2.alloc _).low (by omega),(B1.out.trans (b2.mono (by omega))).alloc (by have:=b2.size;omega) _⟩
  have hgF:w.heap.size < w2.heap.size:=by have:=b2.size;omega
  have hg0:w.heap.size < g:=by omega
  clear b2 o2 S1 B1 NO hz;go_wp2;generalize w2.alloc (.cells #[.int .i64 3,.slice (some ⟨g,0,none⟩) (n+1) cap] 70)=W at *;generalize w2.heap.size=gF at *;generalize hN2:n+1=N at *;have HN2:=Lib.hid hN2;clear hN2
  go_loopw [20] (fun i wr=>∃ k:Nat,k≤n∧i = .int .i64 k∧Hid (FRel w h l g gF N cap k wr)) (fun i _=>n - (intOf i).toNat)
  case atStart=>exact ⟨0,Nat.zero_le _,rfl,F0⟩
  case round =>
   obtain ⟨k,hk,rfl,RR⟩:=hrel
   by_cases hlt:k < n
   ·obtain ⟨b,off,rfl,A⟩:=HA.out (by omega)
    have c0:=at1 (A.below RR.out.bel) k (by rw [HN.out];exact hlt);have PK:=Lib.hid (PS.out h k hlt);have PLK:=Lib.hid (PL.out h k hk);have ok:=OK.out k hlt;have AA:=Lib.hid A;clear A;unfold okI at ok;generalize iat l k=x at *;have W2:IntKind.u8.wrap x=x:=by rw [IntKind.wrap];simp [IntKind.signed,IntKind.bits];omega
    obtain ⟨K1,hK1⟩:∃ K1,K1=k+1:=⟨_,rfl⟩;have W1:IntKind.i64.wrap (1+(k:Int))=(K1:Int):=by rw [IntWalk.i64_in _ (by omega)];omega
    have hkN:K1 < N:=by have:=HN2.out;omega
    obtain ⟨g',cap',eg,_,_,_,_,hfr,hat⟩:=RR.out.own.form (by rw [PLK.out];omega);have eg':g'=g:=by
     injection eg with e1;injection e1 with e1;injection e1 with e1 _ _;exact e1.symm
    subst eg';have hKL:K1 < (part h l k).length:=by rw [PLK.out];have:=HN2.out;omega
    have eK:K1=1+k:=by omega
    have O5:=Lib.hid (sto4_own (i:=K1) RR.out.own (by rw [PLK.out]) hKL (putI x));rw [show (part h l k).set K1 (putI x)=part h l (k+1) by rw [eK];exact PK.out] at O5;clear eK;have HK:=Lib.hid hK1;clear hK1;obtain ⟨d0,d1,d2,d3⟩:=at4 hat K1 hKL;rw [Nat.zero_add] at d0 d1 d2 d3;have f0:=hfr (K1 * 4);have f1:=hfr (K1 * 4+1);have f2:=hfr (K1 * 4+2);have f3:=hfr (K1 * 4+3);have k1:wr.cell? ⟨gF,1,none⟩=some (.slice (some ⟨g',0,none⟩) N cap):=row_cell RR.out.row 1;have hne:gF≠g':=fun e=>by
     have:=RR.out.own.apart RR.out.row (by decide);exact this (by simp [Value.ownBlock,e])
    have row5:=sto4_other (g:=g') (o:=K1 * 4) (r:=putI x) RR.out.row hne;have r5:=sto4_other (g:=g') (o:=K1 * 4) (r:=putI x) RR.out.res (by omega);have B5:=Lib.hid (sto4_below (o:=K1 * 4) (r:=putI x) RR.out.bel (show w.heap.size≤g' by omega));have N5:Hid (FRel w h l g' gF N cap (k+1) (sto4 wr g' (K1 * 4) (putI x))):=Lib.hid ⟨row5,r5,O5.out,B5.out⟩;clear hfr hat eg O5 B5 row5 r5 RR hne;unfold sto4 putI at N5;go_wp2
    go_roundw
    case rel=>exact ⟨k+1,by omega,by go_num,N5⟩
    case measure=>simp [intOf];omega
   ·obtain rfl:k=n:=by omega
    have PK:=Lib.hid (PE.out h);have PLK:=Lib.hid (PL.out h k (Nat.le_refl _));clear PS PE PL OK;have O5:=Lib.hid (show Ow K4 wr (w.heap.size+1) 42 (.slice (some ⟨g,0,none⟩) N cap) (fileL l) by rw [HF.out,← PK.out];exact RR.out.own);have d0:wr.cell? ⟨gF,0,none⟩=some (.int .i64 3):=row_cell RR.out.row 0;have d1:wr.cell? ⟨gF,1,none⟩=some (.slice (some ⟨g,0,none⟩) N cap):=row_cell RR.out.row 1;have e0:wr.cell? ⟨w.heap.size,0,none⟩=some (.int .i64 0):=row_cell RR.out.res 0;have e1:wr.cell? ⟨w.heap.size,1,none⟩=some (.slice none 0 0):=row_cell RR.out.res 1;have f0:=row_frozen RR.out.res 0;have f1:=row_frozen RR.out.res 1;have hne:(Value.slice (some ⟨g,0,none⟩) N cap).ownBlock≠some w.heap.size:=O5.out.range (.inl (by omega));have RV:=Lib.hid (sto2_row RR.out.res 3 (.slice (some ⟨g,0,none⟩) N cap));have O6:=Lib.hid (sto2_off (u:=.slice (some ⟨g,0,none⟩) N cap) O5.out hne 3);have B6:=Lib.hid (sto2_below (p:=3) (v:=.slice (some ⟨g,0,none⟩) N cap) RR.out.bel (Nat.le_refl _));clear RR O5 hne PK PLK;go_wp2
    (try simp only [Exit.inBlock,Exit.then])
    exact bodyPost_ret (v:=.tuple #[file 3 _,.int .i64 0]) (results_new (p:=2) (r:=3) rfl _ _ w.heap.size 3 _ 0 rfl rfl RV.out) rfl (HE.out _ _ O6.out.rd B6.out)
 ·have GA:=Lib.hid (at_bool (show seqB l=false from decide_eq_false hm) (isseq_any _ v l R0.out))
  have E:=Lib.hid (file_no (w:=w) hm);clear hm;obtain ⟨a,cap,rfl,_,hm,_⟩:=R;clear R0;generalize l.length=n at *
  go_enter Tryz.func198,Tryz.ntmps198
  go_wp2_with fail;refine GA.out.mono ?_;rintro e w1 ⟨rfl,b1⟩;have z1:w.heap.size < w1.heap.size:=by have:=b1.size;simp at this;omega
  have B1:=Lib.hid (B0.out.trans (b1.mono B0.out.size));have r0:w1.heap[w.heap.size]? = some (.cells #[.int .i64 0,.slice none 0 0] 70 (0,0)):=(b1.block _ (by simp)).trans (heap_alloc_new w _);have c0:w1.cell? ⟨w.heap.size,0,none⟩=some (.int .i64 0):=row_cell r0 0;have c1:w1.cell? ⟨w.heap.size,1,none⟩=some (.slice none 0 0):=row_cell r0 1;have f0:=row_frozen r0 0;have f1:=row_frozen r0 1;have RR:=Lib.hid (sto2_row r0 0 (.slice none 0 0));clear b1 B0 r0 GA;go_wp2
  (try simp only [Exit.inBlock,Exit.then])
  exact bodyPost_ret (v:=.tuple #[file 0 (.slice none 0 0),.int .i64 1]) (results_new (p:=2) (r:=3) rfl _ _ w.heap.size 0 _ 1 rfl rfl RR.out) rfl (E.out _ (sto2_below B1.out (Nat.le_refl _)))
end Go.Proofs.YtljnkaodhfnbbaaGreatDoor.Re
namespace Go.Proofs.YtljnkaodhfnbbaaGreatDoor.Fl
open Go.RowKit
open Rw (Rd Ow At)
def eqB (l l':List R4):Bool:=decide (l=l')
set_option maxHeartbeats 1000000 in
theorem equal_any (w:World) (v v':Value) (l l':List R4) (R:Rd K4 w v l) (R':Rd K4 w v' l'):Calls Tryz.prog 230 #[v,v'] w fun e w'=>e = .returned (.bool (eqB l l'))∧Below w.heap.size w w':=by
 have HNO:Hid (¬ l=l'→false=eqB l l'):=fun h=>(decide_eq_false h).symm;have HYES:Hid (l=l'→true=eqB l l'):=fun b=>(decide_eq_true b).symm;have HL:Hid (l.length=l'.length→(∀ i,i < l.length→rat l i=rat l' i)→l=l'):=fun a b=>list_same a b;obtain ⟨a,cap,rfl,_,hm,hA⟩:=R;obtain ⟨a',cap',rfl,_,hm',hA'⟩:=R';have HA:=Lib.hid hA;have HA':=Lib.hid hA';unfold maxLen at hm hm';clear hA hA';have HNE:Hid (l.length≠l'.length→¬ (l=l')):=fun h2 h=>h2 (by rw [h]);generalize hn:l.length=n at *;generalize hn':l'.length=n' at *;have HN:=Lib.hid hn;have HN':=Lib.hid hn';clear hn hn'
 by_cases h2:n=n'
 ·subst h2
  go_enter Tryz.func230,Tryz.ntmps230
  go_wp2
  go_loopw [13,5] (fun i j wr=>∃ k:Nat,k≤n∧i = .int .i64 k∧Hid (Below w.heap.size w wr)∧Hid (∀ i,i < k→rat l i=rat l' i)) (fun i j _=>n - (intOf i).toNat)
  case atStart=>exact ⟨0,Nat.zero_le _,rfl,Below.refl _ _,fun i hi=>by omega⟩
  case round =>
   obtain ⟨j,hj,rfl,bw,hs⟩:=hrel
   by_cases hlt:j < n
   ·obtain ⟨b,off,rfl,A⟩:=HA.out (by omega)
    obtain ⟨b',off',rfl,A'⟩:=HA'.out (by omega);obtain ⟨c0,c1,c2,c3⟩:=at4 (A.below bw.out) j (by have:=HN.out;omega);obtain ⟨d0,d1,d2,d3⟩:=at4 (A'.below bw.out) j (by have:=HN'.out;omega);have HAA:=Lib.hid A;have HAA':=Lib.hid A';clear A A';have es:=eq_rec (rat l j) (rat l' j)
    by_cases he:rat l j=rat l' j
    ·have ST:Hid (∀ i,i < j+1→rat l i=rat l' i):=fun i hi=>by
      by_cases e:i=j
      ·rw [e];exact he
      ·exact hs.out i (by omega)
     rw [decide_eq_true he] at es;clear he;generalize rat l j=r at *;generalize rat l' j=r' at *;go_wp2
     go_quiet (fail)
     go_wp2
     go_roundw
     case rel=>exact ⟨j+1,by omega,by go_num,below_drewN bw.out _,ST⟩
     case measure=>simp [intOf];omega
    ·have E:=Lib.hid (HNO.out (fun h=>he (by rw [h])))
     rw [decide_eq_false he] at es;clear he;generalize rat l j=r at *;generalize rat l' j=r' at *;go_wp2
     go_quiet (fail)
     go_wp2
     go_ret
     exact ⟨ret_bool E.out,below_drewN bw.out _⟩
   ·obtain rfl:j=n:=by omega
    have E:=Lib.hid (HYES.out (HL.out (by trivial) (fun i hi=>hs.out i hi)));go_wp2
    go_ret
    exact ⟨ret_bool E.out,bw.out⟩
 ·have E:=Lib.hid (HNO.out (HNE.out h2))
  have h3:¬ ((n:Int)=n'):=by omega
  clear HL HA HA' HYES HNO
  go_enter Tryz.func230,Tryz.ntmps230
  go_wp2
  go_ret
  exact ⟨ret_bool E.out,Below.refl _ _⟩
set_option maxHeartbeats 400000 in
theorem same_any (w:World) (p p':Int) (v v':Value) (l l':List R4) (R:Rd K4 w v l) (R':Rd K4 w v' l'):Calls Tryz.prog 199 #[file p v,file p' v'] w fun e w'=>e = .returned (.bool (sameF p l p' l'))∧Below w.heap.size w w':=by
 have bb:=((Below.refl w.heap.size w).alloc (Nat.le_refl _) (.cells #[.int .i64 p,v] 70)).alloc (by simp) (.cells #[.int .i64 p',v'] 70);have B0:=Lib.hid bb;have Q:=Lib.hid (equal_any _ v v' l l' (R.below bb) (R'.below bb));obtain ⟨a,cap,rfl,_⟩:=R;obtain ⟨a',cap',rfl,_⟩:=R';clear bb;generalize l.length=n at *;generalize l'.length=n' at *;unfold file
 by_cases h:p=p'
 ·subst h
  have E:Hid (eqB l l'=sameF p l p l'):=Lib.hid (by unfold eqB sameF;rw [decide_eq_decide];exact ⟨fun h=>⟨rfl,h⟩,fun h=>h.2⟩)
  go_enter Tryz.func199,Tryz.ntmps199
  go_wp2_with fail;refine Q.out.mono ?_;rintro e w1 ⟨rfl,b1⟩;have B1:=Lib.hid (B0.out.trans (b1.mono B0.out.size));clear b1 Q;generalize eqB l l'=bq at *;go_wp2
  go_ret
  exact ⟨ret_bool E.out,B1.out⟩
 ·have E:Hid (false=sameF p l p' l'):=Lib.hid (decide_eq_false (fun k=>h k.1)).symm
  go_enter Tryz.func199,Tryz.ntmps199
  go_wp2
  go_ret
  exact ⟨ret_bool E.out,B0.out⟩
end Go.Proofs.YtljnkaodhfnbbaaGreatDoor.Fl
namespace Go.Proofs.YtljnkaodhfnbbaaGreatDoor.Re
open Go.RowKit
open Rw (Rd Ow At)
open Fl (R4 z4 rec4 K4 okR okL okR_at hdr rat goodF goodFB file ret_bool at_bool at4 row_cell row_frozen sameF)
structure TRel (w1:World) (L:List Int) (k:Nat) (u:Value) (wr:World):Prop where
 own:Ow KI wr w1.heap.size 3 u (L.take k)
 bel:Below w1.heap.size w1 wr
theorem at_drop {w:World} {b off:Nat} {l:List R4} (h:At K4 w b off l):At K4 w b (off+4) (l.drop 1):=fun i hi j u hu=>by
 rw [List.length_drop] at hi;have e:=h (i+1) (by omega) j u (by rw [← hu];congr 1;simp [List.getD]);rw [show off+(i+1) * K4.n+j=off+4+i * K4.n+j by show off+(i+1) * 4+j=off+4+i * 4+j;omega] at e;exact e
theorem at_none {w:World} {b off:Nat} {l:List R4} (h:l.length≤1):At K4 w b off (l.drop 1):=fun i hi=>by rw [List.length_drop] at hi;omega
theorem okL_drop {l:List R4} (h:okL l) (k:Nat):okL (l.drop k):=fun r hr=>h r (List.mem_of_mem_drop hr)
theorem rat_drop (l:List R4) (k:Nat):rat (l.drop 1) k=rat l (k+1):=by unfold rat;simp only [List.getD_eq_getElem?_getD,List.getElem?_drop];rw [Nat.add_comm 1 k]
set_option maxHeartbeats 2000000 in
theorem sequence_any (w:World) (p:Int) (v:Value) (l:List R4) (R:Rd K4 w v l) (ok:okL l):Calls Tryz.prog 158 #[file p v] w (SeqPost w p l):=by
 have B0:=Lib.hid ((Below.refl w.heap.size w).alloc (Nat.le_refl _) (.cells #[.int .i64 p,v] 70));have R0:=Lib.hid (R.below B0.out);clear R
 by_cases hg:goodF p l
 ·have GA:=Lib.hid (at_bool (show goodFB p l=true from decide_eq_true hg) (Fl.good_any _ p v l R0.out))
  have hl:=hg.2.2.1;have hl2:=hg.2.2.2.1;have HG:=Lib.hid hg;have OK:=Lib.hid ok;clear hg ok;have SA:=Lib.hid (fun w v' l' R R'=>Fl.same_any w p 3 v v' l l' R R');obtain ⟨a,cap,rfl,⟨hc,_⟩,hm,hA⟩:=R0.out;obtain ⟨b,off,rfl,hA⟩:=hA (by omega);have HA:=Lib.hid hA;unfold maxLen at hm;clear hA;have FA:=Lib.hid (fun w v R=>file_any w v (takL l) R);have YES:=Lib.hid (fun h u w'=>sq_yes (w:=w) (p:=p) (l:=l) (w':=w') h u);have NO:=Lib.hid (fun h w'=>sq_no (w:=w) (p:=p) (l:=l) (w':=w') h);have RN:Hid (∀ k,k+1 < l.length→(takL l).take k ++ [(rat (l.drop 1) k).1]=(takL l).take (k+1)):=Lib.hid (fun k h=>by rw [rat_drop];exact tak_next h);have RA:Hid ((takL l).take (l.length - 1)=takL l):=Lib.hid (by rw [← tak_len,List.take_length]);have RL:Hid (∀ k,k≤l.length - 1→((takL l).take k).length=k):=Lib.hid (fun k h=>by rw [List.length_take,tak_len];omega);have IS:Hid (isS p l↔seqP (takL l)∧(p=3∧l=fileL (takL l))):=Lib.hid ⟨fun h=>h.2,fun h=>⟨HG.out,h⟩⟩;generalize hn:l.length=n at *;have HN:=Lib.hid hn;clear hn;unfold file at *
  go_enter Tryz.func158,Tryz.ntmps158
  go_wp2_with fail;refine GA.out.mono ?_;rintro e w1 ⟨rfl,b1⟩;have B1:=Lib.hid (B0.out.trans (b1.mono B0.out.size));have A1:=Lib.hid (HA.out.below b1);have R1:=Lib.hid (R0.out.below b1);have X1:w1.heap[w.heap.size]? = some (.cells #[.int .i64 p,.slice (some ⟨b,off,none⟩) n cap] 70 (0,0)):=(b1.block _ (by simp)).trans (heap_alloc_new w _);have c1:w1.cell? ⟨w.heap.size,1,none⟩=some (.slice (some ⟨b,off,none⟩) n cap):=row_cell X1 1;have Y1:=Lib.hid X1;clear b1 GA B0 HA R0 X1;have AI:Hid (n≤1→At K4 w1 b off (l.drop 1)):=Lib.hid (fun h=>at_none (by rw [HN.out];exact h));have AR:Hid (At K4 w1 b (off+4) (l.drop 1)):=Lib.hid (at_drop A1.out);have KR:Hid (okL (l.drop 1)):=Lib.hid (okL_drop OK.out 1);have LR:Hid ((l.drop 1).length=n - 1):=Lib.hid (by rw [List.length_drop,HN.out]);clear HG OK A1;have hn1:n - 1≤255:=by omega
  have RN2:Hid (∀ k,k < n - 1→(takL l).take k ++ [(rat (l.drop 1) k).1]=(takL l).take (k+1)):=Lib.hid (fun k h=>RN.out k (by omega));clear RN;generalize l.drop 1=r at *;generalize takL l=L at *;go_wp2
  case' inl =>
   have A2:Hid (At K4 w1 b off r):=Lib.hid (AI.out (by omega));clear AI AR
  case' inr =>
   have A2:=AR;clear AI AR;generalize off+4=off2 at *
  all_goals
   generalize n - 1=m at *;clear c1
   go_loopw [16,4] (fun i u wr=>∃ (k:Nat),k≤m∧i = .int .i64 k∧Hid (TRel w1 L k u wr)) (fun i _ _=>m - (intOf i).toNat)
   case atStart=>exact ⟨0,Nat.zero_le _,rfl,Lib.hid ⟨by rw [List.take_zero];exact Rw.Ow.nil _ _ _,Below.refl _ _⟩⟩
   case round =>
    obtain ⟨k,hk,rfl,RR⟩:=hrel;obtain ⟨av,cv,ev,hcv,hmv⟩:=RR.out.own.slice;rw [RL.out k hk] at ev hcv;subst ev
    by_cases hlt:k < m
    ·obtain ⟨c0,c1',c2,c3⟩:=at4 (A2.out.below RR.out.bel) k (by rw [LR.out];exact hlt)
     have kv:=(okR_at KR.out k).1;have RX:=Lib.hid (RN2.out k hlt);have RK:=Lib.hid (RL.out k hk);generalize rat r k=y at *;have W0:IntKind.i64.wrap y.1=y.1:=IntWalk.i64_in _ (by omega);have zb:=RR.out.bel.size
     go_wp2_with (at_builtin;refine Rw.push_step Tryz.underlying146 infoI rfl (by omega) rfl _ _ rfl w1.heap.size _ _ rfl ((RR.out.own.alloc _).alloc _) _ y.1 rfl ?d1 ?d2 ?d3 ?_)
     case d1 =>
      intro j u hu
      match j,hu with
      | 0,hu=>simp [KI,Rw.int] at hu;subst hu;rw [addr_zero];go_simp
     case d2=>rw [RK.out];omega
     case d3=>simp;omega
     intro v' w3 o3 b3
     rw [RX.out] at o3;have N3:Hid (TRel w1 L (k+1) v' w3):=Lib.hid ⟨o3,((RR.out.bel.alloc zb _).alloc (by simp;omega) _).trans (b3.mono (Nat.le_refl _))⟩;obtain ⟨av',cv',ev',_,_⟩:=o3.slice;rw [RL.out _ (by omega)] at ev';subst ev';clear o3 b3 RR RX RK kv;go_wp2
     go_roundw
     case rel=>exact ⟨k+1,by omega,by go_num,N3⟩
     case measure=>simp [intOf];omega
    ·obtain rfl:k=m:=by omega
     have O2:=RR.out.own;rw [RA.out] at O2;have RL2:=Lib.hid O2.rd;have BW:Hid (Below w.heap.size w wr):=Lib.hid (B1.out.trans (RR.out.bel.mono B1.out.size));have RF:=Lib.hid (R1.out.below RR.out.bel);have XF:=(RR.out.bel.block _ (lt_of_block Y1.out)).trans Y1.out;clear RR O2 RN2 RL RA A2 KR LR R1 Y1 B1;unfold FilePost file at FA;go_wp2_with fail;refine (FA.out _ _ RL2.out).mono ?_;rintro e w4 ⟨u4,rfl,r4,b4⟩;obtain ⟨a4,n4,k4,rfl⟩:∃ a n c,u4 = .slice a n c:=by obtain ⟨a,c,e,_⟩:=r4;exact ⟨a,_,c,e⟩
     have B4:=Lib.hid (BW.out.trans (b4.mono BW.out.size));have RF4:=Lib.hid (RF.out.below b4);have RL4:=Lib.hid (RL2.out.below b4);have X4:=(b4.block _ (lt_of_block XF)).trans XF;have r4h:=Lib.hid r4;have BB:Hid (Below w4.heap.size w4 (w4.alloc (.cells #[.int .i64 (fP L),.slice a4 n4 k4] 70))):=Lib.hid ((Below.refl _ _).alloc (Nat.le_refl _) _);have B5:=Lib.hid (B4.out.trans (BB.out.mono B4.out.size));have RF5:=Lib.hid (RF4.out.below BB.out);have RL5:=Lib.hid (RL4.out.below BB.out);have RU5:=Lib.hid (r4.below BB.out);have X5:=(BB.out.block _ (lt_of_block X4)).trans X4;have Y5:=heap_alloc_new w4 (.cells #[.int .i64 (fP L),.slice a4 n4 k4] 70);clear b4 BW RF RL2 XF r4 r4h FA BB B4 RF4 RL4 X4
     by_cases hs:seqP L
     ·have e1:fP L=3:=if_pos hs
      have e2:fN L=0:=if_pos hs;have e3:fL L=fileL L:=if_pos hs;rw [e1] at B5 RF5 RL5 RU5 X5 Y5 ⊢;rw [e3] at RU5;rw [e2];clear e1 e2 e3
      by_cases hq:p=3∧l=fileL L
      ·have E:=Lib.hid (YES.out (IS.out.2 ⟨hs,hq⟩))
       have S4:=Lib.hid (fun w v' R R'=>at_bool (show sameF p l 3 (fileL L)=true from decide_eq_true hq) (SA.out w v' (fileL L) R R'));clear YES NO IS SA hs hq;go_upto_region 10 with fail
       (try (rename cap=1=>hc1;subst hc1))
       generalize w4.alloc (.cells #[.int .i64 3,.slice a4 n4 k4] 70)=W at *;generalize w4.heap.size=gF at *;have d0:W.cell? ⟨w.heap.size,0,none⟩=some (.int .i64 p):=row_cell X5 0;have d1:W.cell? ⟨w.heap.size,1,none⟩=some (.slice (some ⟨b,off,none⟩) n _):=row_cell X5 1;have e0:W.cell? ⟨gF,0,none⟩=some (.int .i64 3):=row_cell Y5 0;have e1:W.cell? ⟨gF,1,none⟩=some (.slice a4 n4 k4):=row_cell Y5 1;go_wp2_with fail;refine (S4.out _ _ RF5.out RU5.out).mono ?_;rintro e w6 ⟨rfl,b6⟩;have E6:=Lib.hid (E.out _ _ (RL5.out.below b6) (B5.out.trans (b6.mono B5.out.size)));clear b6 S4 d0 d1 e0 e1;go_wp2
       go_ret2
       exact E6.out
      ·have E:=Lib.hid (NO.out (fun h=>hq (IS.out.1 h).2))
       have S4:=Lib.hid (fun w v' R R'=>at_bool (show sameF p l 3 (fileL L)=false from decide_eq_false hq) (SA.out w v' (fileL L) R R'));clear YES NO IS SA hs hq;go_upto_region 10 with fail
       (try (rename cap=1=>hc1;subst hc1))
       generalize w4.alloc (.cells #[.int .i64 3,.slice a4 n4 k4] 70)=W at *;generalize w4.heap.size=gF at *;have d0:W.cell? ⟨w.heap.size,0,none⟩=some (.int .i64 p):=row_cell X5 0;have d1:W.cell? ⟨w.heap.size,1,none⟩=some (.slice (some ⟨b,off,none⟩) n _):=row_cell X5 1;have e0:W.cell? ⟨gF,0,none⟩=some (.int .i64 3):=row_cell Y5 0;have e1:W.cell? ⟨gF,1,none⟩=some (.slice a4 n4 k4):=row_cell Y5 1;go_wp2_with fail;refine (S4.out _ _ RF5.out RU5.out).mono ?_;rintro e w6 ⟨rfl,b6⟩;have E6:=Lib.hid (E.out _ (B5.out.trans (b6.mono B5.out.size)));clear b6 S4 d0 d1 e0 e1;go_wp2
       go_ret2
       exact E6.out
     ·have e2:fN L=1:=if_neg hs
      rw [e2];have E:=Lib.hid (NO.out (fun h=>hs (IS.out.1 h).1));clear YES NO IS SA hs e2 RU5 RL5 RF5 X5 Y5;go_wp2
      go_ret2
      exact E.out _ B5.out
 ·have GA:=Lib.hid (at_bool (show goodFB p l=false from decide_eq_false hg) (Fl.good_any _ p v l R0.out))
  have E:=Lib.hid (fun w'=>sq_no (w:=w) (p:=p) (l:=l) (w':=w') (fun h=>hg h.1));clear hg ok;obtain ⟨a,cap,rfl,_,hm,hA⟩:=R0.out;clear hA R0;generalize l.length=n at *;unfold file at *
  go_enter Tryz.func158,Tryz.ntmps158
  go_wp2_with fail;refine GA.out.mono ?_;rintro e w1 ⟨rfl,b1⟩;have B1:=Lib.hid (B0.out.trans (b1.mono B0.out.size));clear b1 GA B0;go_wp2
  go_ret2
  exact E.out _ B1.out
end Go.Proofs.YtljnkaodhfnbbaaGreatDoor.Re
namespace Go.Proofs.YtljnkaodhfnbbaaGreatDoor.Cu
open Go.RowKit Go.Maps
open Rw (Rd Ow At)
open Fl (R4 K4 okL file row_cell sto2 sto2_row sto2_below)
open Fs (Abs Rs Rst Ent E3 at3 key abs_look OkA)
open Re (KI SeqPost)
theorem f_none {L:List Ent} {n:Int} (h:∀ j,j < L.length→∀ e,L[j]? = some e→e.n≠n):fB (L.map Ent.abs) n=false∧fP (L.map Ent.abs) n=0∧fR (L.map Ent.abs) n = []:=by
 have e:Fs.look key n (L.map Ent.abs)=none:=by
  rw [abs_look]
  rw [Fs.look_none.2 fun x hx=>by
   obtain ⟨i,hi⟩:=List.getElem?_of_mem hx
   exact h i (List.getElem?_eq_some_iff.1 hi).1 x hi]
  rfl
 unfold fB fP fR;rw [e];exact ⟨rfl,rfl,rfl⟩
theorem f_some {L:List Ent} {n:Int} {k:Nat} {c:Ent} (hc:L[k]? = some c) (hn:c.n=n) (h:∀ j,j < k→∀ e,L[j]? = some e→e.n≠n):fB (L.map Ent.abs) n=true∧fP (L.map Ent.abs) n=c.p∧fR (L.map Ent.abs) n=c.l:=by
 have e:Fs.look Ent.n n L=some c:=by
  unfold Fs.look;rw [List.find?_eq_some_iff_getElem];obtain ⟨hk,hc2⟩:=List.getElem?_eq_some_iff.1 hc;refine ⟨by simpa using hn,k,hk,hc2,fun j hj=>?_⟩;have:=h j hj _ (List.getElem?_eq_getElem (by omega))
  simpa using this
 have e2:Fs.look key n (L.map Ent.abs)=some c.abs:=by rw [abs_look,e];rfl
 unfold fB fP fR;rw [e2];exact ⟨rfl,rfl,rfl⟩
end Go.Proofs.YtljnkaodhfnbbaaGreatDoor.Cu
namespace Go.Proofs.YtljnkaodhfnbbaaGreatDoor.Ro
open Go.RowKit
open Rw (Rd Ow At)
open Fl (R4 z4 rec4 K4 okR okL okR_at hdr rat goodF goodFB file ret_bool at_bool at4 row_cell row_frozen)
def TabPostO (w:World) (p:Int) (l:List R4) (e:Ending) (w':World):Prop:=∃ u,e = .returned (.tuple #[u,.int .i64 (tabN p l)])∧Ow K5 w' w.heap.size 87 u (tabL p l)∧Below w.heap.size w w'
structure TRel (w:World) (r:List R4) (k:Nat) (u:Value) (L:List E5) (wr:World):Prop where
 own:Ow K5 wr w.heap.size 87 u L
 red:Read r k L
 bel:Below w.heap.size w wr
theorem at_drop {w:World} {b off:Nat} {l:List R4} (h:At K4 w b off l):At K4 w b (off+4) (l.drop 1):=fun i hi j u hu=>by
 rw [List.length_drop] at hi;have e:=h (i+1) (by omega) j u (by rw [← hu];congr 1;simp [List.getD]);rw [show off+(i+1) * K4.n+j=off+4+i * K4.n+j by show off+(i+1) * 4+j=off+4+i * 4+j;omega] at e;exact e
theorem at_none {w:World} {b off:Nat} {l:List R4} (h:l.length≤1):At K4 w b off (l.drop 1):=fun i hi=>by rw [List.length_drop] at hi;omega
theorem okL_drop {l:List R4} (h:okL l) (k:Nat):okL (l.drop k):=fun r hr=>h r (List.mem_of_mem_drop hr)
def TabEnd (w:World) (p:Int) (l:List R4) (L:List E5):Prop:=(mayP L→∀ u w',Ow K5 w' w.heap.size 87 u L→Below w.heap.size w w'→TabPostO w p l (.returned (.tuple #[u,.int .i64 0])) w')∧(¬ mayP L→∀ w',Below w.heap.size w w'→TabPostO w p l (.returned (.tuple #[.slice none 0 0,.int .i64 2])) w')
theorem tab_end {w:World} {p:Int} {l:List R4} {L:List E5} (hg:goodF p l) (h:scan (l.drop 1)=some L):TabEnd w p l L :=
 ⟨fun hm u w' hu hb=>by
  have e:=tab_yes hg h hm;exact ⟨u,by rw [e.2],by rw [e.1];exact hu,hb⟩,fun hm w' hb=>by
  have e:=tab_no (p:=p) h hm
  exact ⟨_,by rw [e.2],by rw [e.1];exact Rw.Ow.nil _ _ _,hb⟩⟩
set_option maxHeartbeats 2000000 in
theorem tableO_any (w:World) (p:Int) (v:Value) (l:List R4) (R:Rd K4 w v l) (ok:okL l):Calls Tryz.prog 205 #[file p v] w (TabPostO w p l):=by
 have B0:=Lib.hid ((Below.refl w.heap.size w).alloc (Nat.le_refl _) (.cells #[.int .i64 p,v] 70));have R0:=Lib.hid (R.below B0.out);have HE:Hid (tabL p l = []∧tabN p l=2→∀ w',Below w.heap.size w w'→TabPostO w p l (.returned (.tuple #[.slice none 0 0,.int .i64 2])) w'):=Lib.hid (fun h w' hb=>⟨_,by rw [h.2],by rw [h.1];exact Rw.Ow.nil _ _ _,hb⟩);clear R
 by_cases hg:goodF p l
 ·have GA:=Lib.hid (at_bool (show goodFB p l=true from decide_eq_true hg) (Fl.good_any _ p v l R0.out))
  have hl:=hg.2.2.1;have hl2:=hg.2.2.2.1;have HG:=Lib.hid hg;have OK:=Lib.hid ok;clear hg ok;obtain ⟨a,cap,rfl,⟨hc,_⟩,hm,hA⟩:=R0.out;obtain ⟨b,off,rfl,hA⟩:=hA (by omega);have HA:=Lib.hid hA;unfold maxLen at hm;clear hA R0;generalize hn:l.length=n at *;have HN:=Lib.hid hn;clear hn;unfold file at *
  go_enter Tryz.func205,Tryz.ntmps205
  go_wp2_with fail;refine GA.out.mono ?_;rintro e w1 ⟨rfl,b1⟩;have B1:=Lib.hid (B0.out.trans (b1.mono B0.out.size));have A1:=Lib.hid (HA.out.below b1);have c1:w1.cell? ⟨w.heap.size,1,none⟩=some (.slice (some ⟨b,off,none⟩) n cap):=(b1.cell (by simp)).trans (by go_simp);clear b1 GA B0 HA;have HS:Hid (scan (l.drop 1)=none→∀ w',Below w.heap.size w w'→TabPostO w p l (.returned (.tuple #[.slice none 0 0,.int .i64 2])) w'):=Lib.hid (fun h=>HE.out (tab_stop h));have HT:Hid (∀ L,scan (l.drop 1)=some L→TabEnd w p l L):=Lib.hid (fun L h=>tab_end HG.out h);have AI:Hid (n≤1→At K4 w1 b off (l.drop 1)):=Lib.hid (fun h=>at_none (by rw [HN.out];exact h));have AR:Hid (At K4 w1 b (off+4) (l.drop 1)):=Lib.hid (at_drop A1.out);have KR:Hid (okL (l.drop 1)):=Lib.hid (okL_drop OK.out 1);have LR:Hid ((l.drop 1).length=n - 1):=Lib.hid (by rw [List.length_drop,HN.out]);clear HE HG OK A1;have hn1:n - 1≤255:=by omega
  generalize l.drop 1=r at *;go_wp2
  case' inl =>
   have A2:Hid (At K4 w1 b off r):=Lib.hid (AI.out (by omega));clear AI AR;generalize off=off2 at *
  case' inr =>
   have A2:=AR;clear AI AR;generalize off+4=off2 at *
  all_goals
   generalize n - 1=m at *
   go_loopw [16,4] (fun i u wr=>∃ (k:Nat) (L:List E5),k≤m∧i = .int .i64 k∧Hid (TRel w1 r k u L wr)) (fun i _ _=>m - (intOf i).toNat)
   case atStart=>exact ⟨0,[],Nat.zero_le _,rfl,Lib.hid ⟨Rw.Ow.nil _ _ _,read_start r,Below.refl _ _⟩⟩
   case round =>
    obtain ⟨k,L,hk,rfl,RR⟩:=hrel;obtain ⟨av,cv,ev,hcv,hmv⟩:=RR.out.own.slice;have LL:Hid (L.length=k):=Lib.hid RR.out.red.1;generalize L.length=Ln at ev hcv LL;subst ev
    by_cases hlt:k < m
    ·obtain ⟨c0,c1',c2,c3⟩:=at4 (A2.out.below RR.out.bel) k (by rw [LR.out];exact hlt)
     have kv:=okR_at KR.out k;have TA:=Lib.hid (fun w=>take_any w (rat r k) kv);have Q1:Hid (¬ okE (takeX (rat r k))→scan r=none):=Lib.hid (read_bad RR.out.red (by rw [LR.out];exact hlt));have Q2:Hid (okE (takeX (rat r k))→(takeX (rat r k)).1=4→scan r=some L):=Lib.hid (read_end RR.out.red (by rw [LR.out];exact hlt));have Q3:Hid (okE (takeX (rat r k))→(takeX (rat r k)).1≠4→Read r (k+1) (L ++ [takeX (rat r k)])):=Lib.hid (read_next RR.out.red (by rw [LR.out];exact hlt));clear kv
     by_cases h1:okE (takeX (rat r k))
     ·have e1:takeE (rat r k)=takeX (rat r k):=if_pos h1
      have e2:takeN (rat r k)=0:=if_pos h1;rw [e1,e2] at TA;have P2:=Lib.hid (Q2.out h1);have P3:=Lib.hid (Q3.out h1);clear e1 e2 Q1 Q2 Q3 h1;unfold ent rec4 at TA;generalize takeX (rat r k)=x at *;generalize rat r k=y at *
      by_cases h4:x.1=4
      ·have TE:=Lib.hid (HT.out L (P2.out h4))
       clear P2 P3 HS HT;go_wp2_with fail;refine (TA.out _).mono ?_;rintro e w2 ⟨rfl,b2⟩;have BA:=RR.out.bel.alloc RR.out.bel.size (.cells #[.int .u8 y.1,.int .u8 y.2.1,.int .u8 y.2.2.1,.int .u8 y.2.2.2] 42);have B2:Hid (Below w1.heap.size w1 w2):=Lib.hid (BA.trans (b2.mono BA.size));have O2:=Lib.hid ((RR.out.own.alloc (.cells #[.int .u8 y.1,.int .u8 y.2.1,.int .u8 y.2.2.1,.int .u8 y.2.2.2] 42)).keep b2);have BW:Hid (∀ o,Below w.heap.size w (w2.alloc o)):=Lib.hid (fun o=>B1.out.trans ((B2.out.alloc B2.out.size o).mono B1.out.size));have RW:Hid (∀ o,Ow K5 (w2.alloc o) w.heap.size 87 (.slice av Ln cv) L):=Lib.hid (fun o=>(O2.out.alloc o).low B1.out.size);clear BA b2 B2 O2 RR c0 c1' c2 c3 TA
       by_cases hm:mayP L
       ·have E:=Lib.hid (TE.out.1 hm)
        have IT:=Lib.hid (fun w v R=>at_bool (show mayB L=true from decide_eq_true hm) (istable_any w v L R));clear TE hm;go_wp2_with fail;refine (IT.out _ _ (Rw.Ow.rd (RW.out _))).mono ?_;rintro e w4 ⟨rfl,b4⟩;have E4:=Lib.hid (E.out _ _ (Rw.Ow.keep (RW.out _) b4) (Below.trans (BW.out _) (b4.mono (Below.size (BW.out _)))));clear b4 E IT;go_wp2
        go_ret2
        exact E4.out
       ·have E:=Lib.hid (TE.out.2 hm)
        have IT:=Lib.hid (fun w v R=>at_bool (show mayB L=false from decide_eq_false hm) (istable_any w v L R));clear TE hm;go_wp2_with fail;refine (IT.out _ _ (Rw.Ow.rd (RW.out _))).mono ?_;rintro e w4 ⟨rfl,b4⟩;have E4:=Lib.hid (E.out _ (Below.trans (BW.out _) (b4.mono (Below.size (BW.out _)))));clear b4 E IT;go_wp2
        go_ret2
        exact E4.out
      ·have PR:=Lib.hid (P3.out h4)
       clear P2 P3 HS HT;go_wp2_with fail;refine (TA.out _).mono ?_;rintro e w2 ⟨rfl,b2⟩;have BA:=RR.out.bel.alloc RR.out.bel.size (.cells #[.int .u8 y.1,.int .u8 y.2.1,.int .u8 y.2.2.1,.int .u8 y.2.2.2] 42);have B2:Hid (Below w1.heap.size w1 w2):=Lib.hid (BA.trans (b2.mono BA.size));have O2:=Lib.hid ((RR.out.own.alloc (.cells #[.int .u8 y.1,.int .u8 y.2.1,.int .u8 y.2.2.1,.int .u8 y.2.2.2] 42)).keep b2);have LN:=Lib.hid RR.out.red.1;have z2:=B2.out.size;clear BA b2 RR c0 c1' c2 c3 TA
       go_wp2_with (at_builtin;refine Rw.push_step Tryz.underlying85 infoE rfl (by omega) rfl _ _ rfl w1.heap.size _ _ rfl ((O2.out.alloc _).alloc _) _ x rfl ?d1 ?d2 ?d3 ?_)
       case d1 =>
        intro j u hu
        match j,hu with
        | 0,hu=>simp [K5] at hu;subst hu;go_simp
        | 1,hu=>simp [K5] at hu;subst hu;go_simp
        | 2,hu=>simp [K5] at hu;subst hu;go_simp
        | 3,hu=>simp [K5] at hu;subst hu;go_simp
        | 4,hu=>simp [K5] at hu;subst hu;go_simp
        | j+5,hu=>simp [K5] at hu
       case d2=>rw [LN.out];omega
       case d3=>simp;omega
       intro v' w3 o3 b3
       have N3:Hid (TRel w1 r (k+1) v' (L ++ [x]) w3):=Lib.hid ⟨o3,PR.out,((B2.out.alloc z2 _).alloc (by simp;omega) _).trans (b3.mono (Nat.le_refl _))⟩;obtain ⟨av',cv',ev',_,_⟩:=o3.slice;generalize (L ++ [x]).length=Ln' at ev';subst ev';clear o3 b3 O2 B2 PR LN;go_wp2
       go_roundw
       case rel=>exact ⟨k+1,L ++ [x],by omega,by go_num,N3⟩
       case measure=>simp [intOf];omega
     ·have e1:takeE (rat r k)=z5:=if_neg h1
      have e2:takeN (rat r k)=2:=if_neg h1;rw [e1,e2] at TA;have E:=Lib.hid (HS.out (Q1.out h1));clear e1 e2 Q1 Q2 Q3 h1 HS HT;unfold ent rec4 at TA;simp only [z5] at TA;generalize rat r k=y at *;go_wp2_with fail;refine (TA.out _).mono ?_;rintro e w2 ⟨rfl,b2⟩;have BA:=RR.out.bel.alloc RR.out.bel.size (.cells #[.int .u8 y.1,.int .u8 y.2.1,.int .u8 y.2.2.1,.int .u8 y.2.2.2] 42);have B2:Hid (Below w1.heap.size w1 w2):=Lib.hid (BA.trans (b2.mono BA.size));have O2:=Lib.hid ((RR.out.own.alloc (.cells #[.int .u8 y.1,.int .u8 y.2.1,.int .u8 y.2.2.1,.int .u8 y.2.2.2] 42)).keep b2);have BW:Hid (∀ o,Below w.heap.size w (w2.alloc o)):=Lib.hid (fun o=>B1.out.trans ((B2.out.alloc B2.out.size o).mono B1.out.size));clear BA b2 B2 O2 RR c0 c1' c2 c3 TA;go_wp2
      go_ret2
      exact E.out _ (BW.out _)
    ·obtain rfl:k=m:=by omega
     have TE:=Lib.hid (HT.out L (read_all (by rw [LR.out];exact RR.out.red)));have BW:Hid (Below w.heap.size w wr):=Lib.hid (B1.out.trans (RR.out.bel.mono B1.out.size));have RW:Hid (Ow K5 wr w.heap.size 87 (.slice av Ln cv) L):=Lib.hid (RR.out.own.low B1.out.size);clear RR HS HT
     by_cases hm:mayP L
     ·have E:=Lib.hid (TE.out.1 hm)
      have IT:=Lib.hid (fun w v R=>at_bool (show mayB L=true from decide_eq_true hm) (istable_any w v L R));clear TE hm;go_wp2_with fail;refine (IT.out _ _ (Rw.Ow.rd RW.out)).mono ?_;rintro e w4 ⟨rfl,b4⟩;have E4:=Lib.hid (E.out _ _ (Rw.Ow.keep RW.out b4) (Below.trans BW.out (b4.mono (Below.size BW.out))));clear b4 E IT;go_wp2
      go_ret2
      exact E4.out
     ·have E:=Lib.hid (TE.out.2 hm)
      have IT:=Lib.hid (fun w v R=>at_bool (show mayB L=false from decide_eq_false hm) (istable_any w v L R));clear TE hm;go_wp2_with fail;refine (IT.out _ _ (Rw.Ow.rd RW.out)).mono ?_;rintro e w4 ⟨rfl,b4⟩;have E4:=Lib.hid (E.out _ (Below.trans BW.out (b4.mono (Below.size BW.out))));clear b4 E IT;go_wp2
      go_ret2
      exact E4.out
 ·have GA:=Lib.hid (at_bool (show goodFB p l=false from decide_eq_false hg) (Fl.good_any _ p v l R0.out))
  have E:=Lib.hid (HE.out (tab_bad hg));clear hg HE ok;obtain ⟨a,cap,rfl,_,hm,hA⟩:=R0.out;clear hA R0;generalize l.length=n at *;unfold file at *
  go_enter Tryz.func205,Tryz.ntmps205
  go_wp2_with fail;refine GA.out.mono ?_;rintro e w1 ⟨rfl,b1⟩;have B1:=Lib.hid (B0.out.trans (b1.mono B0.out.size));clear b1 GA B0;go_wp2
  go_ret2
  exact E.out _ B1.out
end Go.Proofs.YtljnkaodhfnbbaaGreatDoor.Ro
namespace Go.Proofs.YtljnkaodhfnbbaaGreatDoor.Cu
open Go.RowKit Go.Maps
open Rw (Rd Ow At)
open Fl (R4 K4 okL okR file row_cell row_frozen sto2 sto2_row sto2_below results_file)
open Fs (Abs St OkA Only Fx ow_only rd_only FilesPost Ent E3 at3)
open Pa (Sts S2 sat vat KN KB K2 ptr)
open Ro (E5 K5 tabL tabN tableO_any TabPostO)
attribute [local irreducible] Sd.wpSd wpQuiet
def FilC (w:World) (A:Abs) (n:Int) (e:Ending) (w':World):Prop:=∃ v,e = .returned (file (fP A n) v)∧Rd K4 w' v (fR A n)∧Below w.heap.size w w'
section
variable {s t p:Nat} {F G:Nat→Prop} {c:Cs} {vn vq:Value} {L:List Nd} {Fs:Nat→Nat→Prop} {w w':World}
set_option maxHeartbeats 1000000 in
theorem cfile_any (h:Cl w s F c t vn L p vq Fs) {nn:Nat} (hn:nn < c.S.length) (n:Int):Calls Tryz.prog 159 #[ptr s,.int .i64 nn,.int .i64 n] w (FilC w (sat c.S nn).1 n):=by
 have B0:=Lib.hid ((Below.refl w.heap.size w).alloc (Nat.le_refl _) (.cells #[.int .i64 0,.slice none 0 0] 70));have X0:=Lib.hid (heap_alloc_new w (.cells #[.int .i64 0,.slice none 0 0] 70));have C1:=Lib.hid (cfiles_in (h.below B0.out) hn);unfold FilesPost at C1;clear h hn;generalize (sat c.S nn).1=A at *;unfold ptr at *
 go_enter Tryz.func159,Tryz.ntmps159
 go_wp2_with fail;refine C1.out.mono ?_;rintro e w1 ⟨v,rfl,hv,b1⟩;obtain ⟨L,hL,rfl⟩:=hv (fun k=>k=w.heap.size) (fun k e=>by rw [e];simp);have FO:=Lib.hid hL.foff;have X1:Hid (w1.heap[w.heap.size]? = some (.cells #[.int .i64 0,.slice none 0 0] 70 (0,0))):=Lib.hid ((b1.block _ (lt_of_block X0.out)).trans X0.out);have B1:=Lib.hid (B0.out.trans (b1.mono B0.out.size));have FI:=Lib.hid hL.file;have hlen:L.length≤9223372036854775807:=by
  obtain ⟨_,_,_,⟨_,_⟩,hm,_⟩:=hL.rd;unfold maxLen at hm
  omega
 obtain ⟨a,cap,rfl,_,_,h3⟩:=hL.rd;have H3:=Lib.hid h3;have NO:Hid ((∀ j,j < L.length→∀ e,L[j]? = some e→e.n≠n)→fB (L.map Ent.abs) n=false∧fP (L.map Ent.abs) n=0∧fR (L.map Ent.abs) n = []):=Lib.hid f_none;have YES:Hid (∀ (k:Nat) (c:Ent),L[k]? = some c→c.n=n→(∀ j,j < k→∀ e,L[j]? = some e→e.n≠n)→fB (L.map Ent.abs) n=true∧fP (L.map Ent.abs) n=c.p∧fR (L.map Ent.abs) n=c.l):=Lib.hid (fun _ _=>f_some);have BB:=Lib.hid (Below.refl w1.heap.size w1);clear hv hL h3 b1 C1 X0 B0;generalize hN:L.length=N at *;have HN:=Lib.hid hN;clear hN;go_wp2
 go_loopw [13] (fun i wr=>∃ k:Nat,k≤N∧i = .int .i64 k∧Hid (∀ j,j < k→∀ e,L[j]? = some e→e.n≠n)∧Hid (Below w1.heap.size w1 wr)) (fun i _=>N - (intOf i).toNat)
 case atStart=>exact ⟨0,Nat.zero_le _,rfl,fun j hj=>by omega,BB⟩
 case round =>
  clear BB;obtain ⟨k,hk,rfl,hb,B⟩:=hrel
  by_cases hlt:k < N
  ·have hkL:k < L.length:=by have:=HN.out;omega
   obtain ⟨c,hc⟩:∃ c,L[k]? = some c:=⟨_,List.getElem?_eq_getElem hkL⟩;obtain ⟨b,off,rfl,hA⟩:=H3.out (by omega);obtain ⟨x0,x1,x2⟩:=at3 (hA.below B.out) hc;have HAA:=Lib.hid hA;have RF:=Lib.hid (FI.out c (List.mem_of_getElem? hc));have FF:=Lib.hid (FO.out c (List.mem_of_getElem? hc));have Y:=Lib.hid (YES.out k c hc)
   have NB:Hid (c.n≠n→∀ j,j < k+1→∀ e,L[j]? = some e→e.n≠n):=Lib.hid (fun he j hj e hje=>by
    by_cases ej:j=k
    ·subst ej
     rw [hc] at hje;obtain rfl:=Option.some.inj hje;exact he
    ·exact hb.out j (by omega) e hje)
   clear hc hkL hA;unfold Ent.sl at x2 RF FF;generalize c.a=ca at *;generalize c.cap=ccap at *;generalize c.p=cp at *;generalize c.n=cn at *;generalize c.l=cl at *;have Z0:=Lib.hid (heap_alloc_new wr (.cells #[.int .i64 cn,.int .i64 cp,.slice ca cl.length ccap] 72));have BN:=Lib.hid ((Below.refl wr.heap.size wr).alloc (Nat.le_refl _) (.cells #[.int .i64 cn,.int .i64 cp,.slice ca cl.length ccap] 72));go_upto_region 4 with fail;clear x0 x1 x2;generalize wr.alloc (.cells #[.int .i64 cn,.int .i64 cp,.slice ca cl.length ccap] 72)=W at *;have B2:=Lib.hid (B.out.trans (BN.out.mono B.out.size));clear BN B;generalize wr.heap.size=gx at *;have y0:W.cell? ⟨gx,0,none⟩=some (.int .i64 cn):=row_cell Z0.out 0;have y1:W.cell? ⟨gx,1,none⟩=some (.int .i64 cp):=row_cell Z0.out 1;have y2:W.cell? ⟨gx,2,none⟩=some (.slice ca cl.length ccap):=row_cell Z0.out 2
   by_cases he:cn=n
   ·have Y1:=Lib.hid (Y.out he hb.out)
    subst he;have XW:=Lib.hid ((B2.out.block _ (lt_of_block X1.out)).trans X1.out);have z0:W.cell? ⟨w.heap.size,0,none⟩=some (.int .i64 0):=row_cell XW.out 0;have z1:W.cell? ⟨w.heap.size,1,none⟩=some (.slice none 0 0):=row_cell XW.out 1;have f0:=row_frozen XW.out 0;have f1:=row_frozen XW.out 1;have R1:=Lib.hid (sto2_row XW.out cp (.slice ca cl.length ccap));have BS:=Lib.hid (sto2_below (p:=cp) (v:=.slice ca cl.length ccap) (B1.out.trans (B2.out.mono B1.out.size)) (Nat.le_refl _));have RS:=Lib.hid (rd_only (RF.out.below B2.out) (G:=fun k=>k=w.heap.size) FF.out ((Only.set (fun k=>k=w.heap.size) W (a:=⟨w.heap.size,0,none⟩) rfl (.int .i64 cp)).trans (Only.set (fun k=>k=w.heap.size) _ (a:=⟨w.heap.size,1,none⟩) rfl (.slice ca cl.length ccap)) fun _ _ g=>g))
    have E:Hid (FilC w (L.map Ent.abs) cn (.returned (file cp (.slice ca cl.length ccap))) (sto2 W w.heap.size cp (.slice ca cl.length ccap))):=Lib.hid (by
     obtain ⟨y1,y2,y3⟩:=Y1.out;refine ⟨_,by rw [y2],?_,BS.out⟩;rw [y3]
     exact RS.out)
    clear Y Y1 RF FF NO YES hb NB X1 Z0 B2 BS RS;generalize w.heap.size=g0 at *;go_wp2
    (try simp only [Exit.inBlock,Exit.then])
    exact bodyPost_ret (results_file (p:=6) rfl _ _ g0 cp (.slice ca cl.length ccap) rfl R1.out) rfl E.out
   ·have NB1:=Lib.hid (NB.out he)
    clear Y RF FF NB hb;go_wp2
    go_roundw
    case rel=>exact ⟨k+1,by omega,by go_num,NB1,B2⟩
    case measure=>simp [intOf];omega
  ·obtain rfl:k=N:=by omega
   have E:=Lib.hid (NO.out (fun j hj=>hb.out j (by have:=HN.out;omega)));have XW:=Lib.hid ((B.out.block _ (lt_of_block X1.out)).trans X1.out);have z0:wr.cell? ⟨w.heap.size,0,none⟩=some (.int .i64 0):=row_cell XW.out 0;have z1:wr.cell? ⟨w.heap.size,1,none⟩=some (.slice none 0 0):=row_cell XW.out 1;have f0:=row_frozen XW.out 0;have f1:=row_frozen XW.out 1;have R1:=Lib.hid (sto2_row XW.out 0 (.slice none 0 0));have BS:=Lib.hid (sto2_below (p:=0) (v:=.slice none 0 0) (B1.out.trans (B.out.mono B1.out.size)) (Nat.le_refl _))
   have E1:Hid (FilC w (L.map Ent.abs) n (.returned (file 0 (.slice none 0 0))) (sto2 wr w.heap.size 0 (.slice none 0 0))):=Lib.hid (by
    obtain ⟨y1,y2,y3⟩:=E.out;refine ⟨_,by rw [y2],?_,BS.out⟩;rw [y3]
    exact Rw.Rd.nil _)
   clear NO YES hb E BS B X1;generalize w.heap.size=g0 at *;go_wp2
   (try simp only [Exit.inBlock,Exit.then])
   exact bodyPost_ret (results_file (p:=6) rfl _ _ g0 0 (.slice none 0 0) rfl R1.out) rfl E1.out
def TbC (w:World) (l:List E5) (e:Ending) (w':World):Prop:=∃ u,e = .returned u∧Ow K5 w' w.heap.size 87 u l∧Below w.heap.size w w'
set_option maxHeartbeats 1000000 in
theorem ctable_any (h:Cl w s F c t vn L p vq Fs) {nn:Nat} (hn:nn < c.S.length) {k:Int} (hk:0≤k∧k≤100):Calls Tryz.prog 164 #[ptr s,.int .i64 nn,.int .i64 k] w (TbC w (tabL (fP (sat c.S nn).1 (32+k)) (fR (sat c.S nn).1 (32+k)))):=by
 have C1:=Lib.hid (cfile_any h hn (32+k));have OK:=Lib.hid (fR_ok (h.sto hn).okA (32+k));have hw:IntKind.i64.wrap (32+k)=32+k:=IntWalk.i64_in (32+k) (by omega);unfold FilC at C1;clear h hn;generalize (sat c.S nn).1=A at *;generalize fP A (32+k)=fp at *;generalize fR A (32+k)=fr at *;unfold ptr at *
 go_enter Tryz.func164,Tryz.ntmps164
 go_wp2_with fail;refine C1.out.mono ?_;rintro e w1 ⟨v,rfl,rv,b1⟩;have C2:=Lib.hid (tableO_any w1 fp v fr rv OK.out);have B1:=Lib.hid b1;obtain ⟨a,cap,rfl,_⟩:=rv.slice;unfold TabPostO at C2;clear C1 rv b1 OK;generalize tabL fp fr=l at *;generalize tabN fp fr=z at *;generalize fr.length=n at *;unfold file at *;go_wp2_with fail;refine C2.out.mono ?_;rintro e w2 ⟨u,rfl,ow,b2⟩;have E:Hid (TbC w l (.returned u) w2):=Lib.hid ⟨u,rfl,ow.low B1.out.size,B1.out.trans (b2.mono B1.out.size)⟩;clear C2 ow b2 B1;go_wp2
 go_ret
 exact E.out
end
end Go.Proofs.YtljnkaodhfnbbaaGreatDoor.Cu
namespace Go.Proofs.YtljnkaodhfnbbaaGreatDoor.Cu
open Go.RowKit Go.Extern.Stop Go.Stop Go.Extern
open Fl (row_cell row_frozen)
open Fs (Glob Only isTypeOf valP valE typP mKind mElem mImp mAsg kindP kindE elemP impE asgE elvP nilP setE valF typF nilF kinF eleF impF asgF elvF AsPost)
def flw (n e:Int):Value:=.agg #[.int .i64 n,.iface 25 (.int .i64 e)]
def flaw (n e:Int):Value:=.iface 267 (flw n e)
theorem isTypeOfW (v:Value) (w:World):(Extern.ReflectliteType.typeOf #[.iface 267 v]).run Tryz.prog w = .ok (.iface 337 (.agg #[.pointer (some ⟨2,267,none⟩)])) w:=by kernel_rfl
theorem hasUnwrapW (v:Value) (xT:TypeId) (w:World):(Instr.typeAssert (.iface 267 v) xT 342 true).run Tryz.prog w = .ok (.tuple #[.iface 267 v,.bool true]) w:=run_typeAssert_hasB Tryz.underlying342 (by kernel_rfl) v xT w
theorem methodUnwrapW (v : Value) (w : World) : (Go.method 526 267 v "Unwrap").run Tryz.prog w = .ok (295, v) w := by kernel_rfl
theorem wunwrap_any (w:World) (n:Int) (x:Value):Calls Tryz.prog 295 #[.agg #[.int .i64 n,x]] w fun e w'=>e = .returned x∧Below w.heap.size w w':=by
 go_enter Tryz.func295,Tryz.ntmps295
 go_wp2
 go_ret
 exact ⟨rfl,(Below.refl w.heap.size w).alloc (Nat.le_refl _) _⟩
theorem asgW (w:World):(asgF #[.agg #[.pointer (some ⟨2,267,none⟩)],.iface 337 (.agg #[.pointer (some ⟨2,25,none⟩)])]).run Tryz.prog w = .ok (.bool false) w:=by kernel_rfl
theorem noAsW (v:Value) (xT:TypeId) (w:World):(Instr.typeAssert (.iface 267 v) xT 363 true).run Tryz.prog w = .ok (.tuple #[.nilIface,.bool false]) w:=run_typeAssert_lacksB Tryz.underlying363 (by kernel_rfl) (by kernel_rfl) v xT w
set_option maxHeartbeats 4000000 in
theorem was_loop (n e:Int) (tb b:Nat) (w:World) (hb:w.cell? ⟨b,0,none⟩=some (.pointer (some ⟨tb,0,none⟩))) (ht:w.heap[tb]? = some (.cells #[.int .i64 0] 25 (0,0))) :
 Calls Tryz.prog 204 #[flaw n e,.iface 273 (.pointer (some ⟨tb,0,none⟩)),.agg #[.pointer (some ⟨2,273,none⟩),.pointer (some ⟨b,0,none⟩),.int .u64 150],.iface 337 (.agg #[.pointer (some ⟨2,25,none⟩)])] w (AsPost w tb e):=by
 have h42:=@run_callFunc_extern Tryz.prog 179 _ Extern.ReflectliteType.typeOf Tryz.func179 (by kernel_rfl) (by kernel_rfl) (by kernel_rfl) (by kernel_rfl);have h102:=@run_callFunc_extern Tryz.prog 304 _ asgF Tryz.func304 (by kernel_rfl) (by kernel_rfl) (by kernel_rfl) (by kernel_rfl);have h60:=@run_callFunc_extern Tryz.prog 231 _ elvF Tryz.func231 (by kernel_rfl) (by kernel_rfl) (by kernel_rfl) (by kernel_rfl);have h50:=@run_callFunc_extern Tryz.prog 201 _ valF Tryz.func201 (by kernel_rfl) (by kernel_rfl) (by kernel_rfl) (by kernel_rfl);have h61:=@run_callFunc_extern Tryz.prog 232 _ ReflectliteValue.set Tryz.func232 (by kernel_rfl) (by kernel_rfl) (by kernel_rfl) (by kernel_rfl);have tF:=isTypeOfW;have tE:=isTypeOf;have mA:=mAsg;have aF:=asgW;have aE:=asgE;have nA:=noAsW;have uF:=hasUnwrapW;have mU:=methodUnwrapW;have vE:=valE;have HB:=Lib.hid hb;have HT:=Lib.hid ht;have B0:=Lib.hid ((Below.refl w.heap.size w).alloc (Nat.le_refl _) (.cells #[.pointer (some ⟨2,273,none⟩),.pointer (some ⟨b,0,none⟩),.int .u64 150] 319));clear hb ht;unfold flaw flw
 go_enter Tryz.func204,Tryz.ntmps204
 go_wp2;refine wp_loop_rounds 2 ?_;rw [rounds_succ]
 go_wp2_with (go_at_call 295;refine (wunwrap_any _ _ _).mono ?_;rintro ev w1 ⟨rfl,b1⟩)
 have B1:=Lib.hid (B0.out.trans (b1.mono B0.out.size));have G0:w1.heap[w.heap.size]? = some (.cells #[.pointer (some ⟨2,273,none⟩),.pointer (some ⟨b,0,none⟩),.int .u64 150] 319 (0,0)):=(b1.block _ (by simp)).trans (heap_alloc_new w _);have e0:w1.cell? ⟨w.heap.size,0,none⟩=some (.pointer (some ⟨2,273,none⟩)):=row_cell G0 0;have e1:w1.cell? ⟨w.heap.size,1,none⟩=some (.pointer (some ⟨b,0,none⟩)):=row_cell G0 1;have e2:w1.cell? ⟨w.heap.size,2,none⟩=some (.int .u64 150):=row_cell G0 2;have hbl:=World.block_lt_of_cell? _ _ HB.out;have el:=elvP ⟨b,0,none⟩ ⟨tb,0,none⟩ w1 ((B1.out.cell hbl).trans HB.out);have htl:=lt_of_block HT.out;have T1:=(B1.out.block tb htl).trans HT.out;have T2:=(Below.heap_alloc w1 (.cells #[.int .i64 e] 25) tb (by have:=B1.out.size;omega)).trans T1;have st:=setE ⟨tb,0,none⟩ ⟨w1.heap.size,0,none⟩ e (.int .i64 0) (w1.alloc (.cells #[.int .i64 e] 25)) (by simp) (row_cell T2 0) (row_frozen T2 0);have RES:Hid (AsPost w tb e (.returned (.bool true)) ((w1.alloc (.cells #[.int .i64 e] 25)).setCell ⟨tb,0,none⟩ (.int .i64 e))):=by
  refine ⟨rfl,?_,?_⟩
  ·have:=Rw.heap_setCell_same (j:=0) T2 (.int .i64 e)
   rw [this]
   simp
  ·exact (Only.of_below (B1.out.alloc B1.out.size _)).trans (Only.set (fun k=>k=tb) _ (a:=⟨tb,0,none⟩) rfl _) fun _ _ g=>g
 clear b1 G0 T1 T2 HB HT B0 B1 hbl htl;rw [rounds_succ];go_wp2
 go_ret
 exact RES.out
set_option maxHeartbeats 4000000 in
theorem was_any (n e:Int) (tb:Nat) (w:World) (hg:Glob w) (ht:w.heap[tb]? = some (.cells #[.int .i64 0] 25 (0,0))) :
 Calls Tryz.prog 163 #[flaw n e,.iface 273 (.pointer (some ⟨tb,0,none⟩))] w (AsPost w tb e):=by
 have h50:=@run_callFunc_extern Tryz.prog 201 _ valF Tryz.func201 (by kernel_rfl) (by kernel_rfl) (by kernel_rfl) (by kernel_rfl);have h51:=@run_callFunc_extern Tryz.prog 202 _ typF Tryz.func202 (by kernel_rfl) (by kernel_rfl) (by kernel_rfl) (by kernel_rfl);have h52:=@run_callFunc_extern Tryz.prog 203 _ nilF Tryz.func203 (by kernel_rfl) (by kernel_rfl) (by kernel_rfl) (by kernel_rfl);have h95:=@run_callFunc_extern Tryz.prog 289 _ kinF Tryz.func289 (by kernel_rfl) (by kernel_rfl) (by kernel_rfl) (by kernel_rfl);have h104:=@run_callFunc_extern Tryz.prog 306 _ eleF Tryz.func306 (by kernel_rfl) (by kernel_rfl) (by kernel_rfl) (by kernel_rfl);have h105:=@run_callFunc_extern Tryz.prog 307 _ impF Tryz.func307 (by kernel_rfl) (by kernel_rfl) (by kernel_rfl) (by kernel_rfl);have f6:=valP;have f7:=typP;have mK:=mKind;have mE:=mElem;have mI:=mImp;have kP:=kindP;have kE:=kindE;have eP:=elemP;have iE:=impE;have hlt:0 < w.heap.size:=Nat.lt_of_le_of_lt (Nat.zero_le _) (World.block_lt_of_cell? _ _ hg);have htl:=lt_of_block ht;have B2:Below w.heap.size w ((w.alloc (.cells #[.pointer (some ⟨tb,0,none⟩)] 273)).alloc (.cells #[.pointer (some ⟨2,273,none⟩),.pointer (some ⟨w.heap.size,0,none⟩),.int .u64 150] 319)):=((Below.refl w.heap.size w).alloc (Nat.le_refl _) _).alloc (by simp) _;have n8:=nilP ⟨w.heap.size,0,none⟩ ⟨tb,0,none⟩ ((w.alloc (.cells #[.pointer (some ⟨tb,0,none⟩)] 273)).alloc (.cells #[.pointer (some ⟨2,273,none⟩),.pointer (some ⟨w.heap.size,0,none⟩),.int .u64 150] 319)) (by simp);have hg2:((w.alloc (.cells #[.pointer (some ⟨tb,0,none⟩)] 273)).alloc (.cells #[.pointer (some ⟨2,273,none⟩),.pointer (some ⟨w.heap.size,0,none⟩),.int .u64 150] 319)).cell? ⟨1,0,none⟩=some (.iface 337 (.agg #[.pointer (some ⟨2,214,none⟩)])):=hg.below B2;have AL:=Lib.hid (was_loop n e tb w.heap.size ((w.alloc (.cells #[.pointer (some ⟨tb,0,none⟩)] 273)).alloc (.cells #[.pointer (some ⟨2,273,none⟩),.pointer (some ⟨w.heap.size,0,none⟩),.int .u64 150] 319)) (by simp) ((B2.block tb htl).trans ht));have BB:=Lib.hid B2;have HTL:=Lib.hid htl;clear hg ht B2 htl;unfold flaw flw at *
 go_enter Tryz.func163,Tryz.ntmps163
 go_wp2_with (go_at_call 204;refine AL.out.mono ?_;rintro ev w1 ⟨rfl,r1,o1⟩)
 go_ret
 exact ⟨rfl,r1,(Only.of_below BB.out).trans o1 fun _ _ g=>g⟩
set_option maxHeartbeats 1000000 in
theorem cnumber_any (n e:Int) (w:World) (hg:Glob w):Calls Tryz.prog 117 #[flaw n e] w fun ev w'=>ev = .returned (.int .i64 e)∧Below w.heap.size w w':=by
 have B0:=Lib.hid ((Below.refl w.heap.size w).alloc (Nat.le_refl _) (.cells #[.int .i64 0] 25));have AS:=Lib.hid (was_any n e w.heap.size (w.alloc (.cells #[.int .i64 0] 25)) (hg.below B0.out) (heap_alloc_new w _));clear hg;unfold flaw flw at *
 go_enter Tryz.func117,Tryz.ntmps117
 go_wp2_with fail;refine AS.out.mono ?_;rintro ev w1 ⟨rfl,r1,o1⟩;have c1:w1.cell? ⟨w.heap.size,0,none⟩=some (.int .i64 e):=row_cell r1 0;have BB:=Lib.hid (B0.out.trans (o1.below (by simp) fun k hk=>by rw [hk];exact Nat.le_refl _));clear r1 o1 B0 AS;go_wp2
 go_ret
 exact ⟨rfl,BB.out⟩
end Go.Proofs.YtljnkaodhfnbbaaGreatDoor.Cu
