import Derived.Test.YtdbdacceecnpmaaGreatDoorQo6
set_option maxRecDepth 100000
set_option maxHeartbeats 4000000
namespace Go.Proofs.YtdbdacceecnpmaaGreatDoor
open Go.Proofs.Tryz Go.RowKit
open Ck (Hd KS dH lX sl zh)
open Fl (GJ K4 R4 aG aH aI aJ aL aM aY ah aj ak at4 bG bJ bf dF dW dh fD fG file hdr iR jP kK newL newP rU rat vG yZ z4)
open Fs (BC Dr E3 Fx IM Only St aA aB aT at3 bZ dN eY ig jq key oh)
open Pa (K2 KB KN S2 bW bX ptr sat)
open Re (JO JZ KI fC fU j4 nC nE nR nT sL sN)
open Ro (E5 Ih K5 SF dJ ent gT iC kY qX z5)
open Rw (At Kind Ow Rd)
namespace Cu
open Go.Maps
structure Nd where
 s:Nat
 live:Bool
 rate:Int
def ndD:Nd:=⟨0,false,0⟩
def KD:Rw.Kind Nd:=⟨fun x=>[ptr x.s,.bool x.live,.int .i64 x.rate],3,by decide,fun _=>rfl,fun _ u h=>by simp [ptr] at h;rcases h with rfl | rfl | rfl <;> rfl,ndD⟩
def eX (L:List Nd) (i:Nat):Nd:=L.getD i ndD
theorem ab2:(prog.info? 78).map (fun i=>(i.zero,i.size,i.bytes))=some (some (.agg #[.pointer none,.bool false,.int .i64 0]),3,24):=by kernel_rfl
variable {b off i:Nat} {L:List Nd}
theorem atD {w:World} (h:At KD w b off L) (hi:i < L.length):w.cell? ⟨b,off+i * 3,none⟩=some (ptr (eX L i).s)/\w.cell? ⟨b,off+i * 3+1,none⟩=some (.bool (eX L i).live)/\w.cell? ⟨b,off+i * 3+2,none⟩=some (.int .i64 (eX L i).rate) :=
 ⟨h i hi 0 _ rfl,h i hi 1 _ rfl,h i hi 2 _ rfl⟩
theorem kN (hi:i < L.length) (x:Nd) (j:Nat):eX (L.set i x) j=if j=i then x else eX L j:=by
 unfold eX;rw [an,an,ip]
 by_cases e:j=i
 ·subst e;rw [az rfl,az rfl,az hi];rfl
 ·rw [aq (by omega),aq e]
structure Cl (w:World) (s:Nat) (F:Nat->Prop) (c:Cs) (t:Nat) (vn:Value) (L:List Nd) (p:Nat) (vq:Value) (Fs:Nat->Nat->Prop):Prop where
 row:w.heap[s]? = some (.cells #[vn,ptr p,.int .i64 c.pl,vq] 73 (0,0))
 no:Ow KD w 0 78 vn L
 len:L.length=c.S.length
 st:∀ i,i < L.length->St w (eX L i).s (Fs i) (sat c.S i).1 (sat c.S i).2
 lv:∀ i:Nat,i < L.length->(eX L i).live=bX c.V i
 rt:∀ i,i < L.length->-2000<=(eX L i).rate/\(eX L i).rate<=2000
 pr:Wt.Pr w p c.P t
 sp:Ow K2 w 0 96 vq c.Q
 fs:F s
 fp:F p
 fv:∀ k,vn.ownBlock=some k\/vq.ownBlock=some k->F k
 ff:∀ i,i < L.length->∀ k,Fs i k->F k
 jZ:∀ i j,i < L.length->j < L.length->i≠j->∀ k,Fs i k->¬ Fs j k
 off:∀ i,i < L.length->∀ k,Fs i k->k≠s/\k≠p/\vn.ownBlock≠some k/\vq.ownBlock≠some k
 low:∀ k,F k->k < w.heap.size
def lQ (w:World) (s:Nat) (F:Nat->Prop) (c:Cs) (t:Nat):Prop:=∃ vn L p vq Fs,Cl w s F c t vn L p vq Fs
section
variable {s t p:Nat} {F G:Nat->Prop} {c:Cs} {vn vq:Value} {L:List Nd} {Fs:Nat->Nat->Prop} {w w':World}
theorem Cl.slt (h:Cl w s F c t vn L p vq Fs):s < w.heap.size:=bp h.row
variable {a P:Wt.A}
theorem SL (h:Wt.Pr w p a t):∃ cs,w.heap[p]? = some (.cells cs 118 (0,0)):=by obtain ⟨_,_,h,_⟩:=h;exact ⟨_,h⟩
theorem Cl.GK (h:Cl w s F c t vn L p vq Fs):s≠p:=fun e=>by
 obtain ⟨cs,hp⟩:=SL h.pr;have:=h.row;rw [e,hp] at this;injection this with this;injection this with _ h2 _;exact absurd h2 (by decide)
theorem Cl.vs (h:Cl w s F c t vn L p vq Fs):vn.ownBlock≠some s/\vq.ownBlock≠some s:=⟨h.no.apart h.row (by decide),h.sp.apart h.row (by decide)⟩
theorem Cl.vp (h:Cl w s F c t vn L p vq Fs):vn.ownBlock≠some p/\vq.ownBlock≠some p:=by
 obtain ⟨cs,hp⟩:=SL h.pr;exact ⟨h.no.apart hp (by decide),h.sp.apart hp (by decide)⟩
theorem Cl.vv (h:Cl w s F c t vn L p vq Fs):∀ k,vn.ownBlock=some k->vq.ownBlock≠some k:=fun k hk=>by
 obtain ⟨_,g⟩:=h.no
 rcases g with ⟨rfl,_⟩ | ⟨b,cap,cur,rfl,_,hh,_⟩
 ·simp [Value.ownBlock] at hk
 ·simp only [Value.ownBlock,fw] at hk
  subst hk;exact h.sp.apart hh (by decide)
theorem Cl.only (h:Cl w s F c t vn L p vq Fs) (hn:∀ k,F k->¬ G k) (o:Only G w w'):Cl w' s F c t vn L p vq Fs :=
 ⟨(o.block s h.slt (hn s h.fs)).trans h.row,aA h.no (fun k e=>hn k (h.fv k (.inl e))) o,h.len,fun i hi=>(h.st i hi).only (fun k g=>hn k (h.ff i hi k g)) o,h.lv,h.rt,h.pr.only o (hn p h.fp),aA h.sp (fun k e=>hn k (h.fv k (.inr e))) o,h.fs,h.fp,h.fv,h.ff,h.jZ,h.off,fun k g=>cL (h.low k g) o.size⟩
theorem Cl.below (h:Cl w s F c t vn L p vq Fs) (b:Below w.heap.size w w'):Cl w' s F c t vn L p vq Fs:=h.only (G:=fun _=>False) (fun _ _ g=>g) (Only.of_below b)
theorem Cl.wide (h:Cl w s F c t vn L p vq Fs) (hF:∀ k,F k->G k) (hl:∀ k,G k->k < w.heap.size):Cl w s G c t vn L p vq Fs :=
 ⟨h.row,h.no,h.len,h.st,h.lv,h.rt,h.pr,h.sp,hF s h.fs,hF p h.fp,fun k g=>hF k (h.fv k g),fun i hi k g=>hF k (h.ff i hi k g),h.jZ,h.off,hl⟩
theorem Cl.fx (w0:World) (h:Cl w s F c t vn L p vq Fs):Cl w s (Fx F w0 w) c t vn L p vq Fs:=h.wide (fun k g=>.inl g) fun k g=>by
 rcases g with g | g
 ·exact h.low k g
 ·exact g.2
theorem Cl.cells (h:Cl w s F c t vn L p vq Fs):w.cell? ⟨s,0,none⟩=some vn/\w.cell? ⟨s,1,none⟩=some (ptr p)/\w.cell? ⟨s,2,none⟩=some (.int .i64 c.pl)/\w.cell? ⟨s,3,none⟩=some vq:=⟨ah h.row 0,ah h.row 1,ah h.row 2,ah h.row 3⟩
theorem Cl.frz (h:Cl w s F c t vn L p vq Fs) (k:Nat):w.frozen? ⟨s,k,none⟩=false:=aj h.row k
theorem Cl.pair (h:Cl w s F c t vn L p vq Fs) {t':Nat} (o:Only (fun k=>k=p) w w') (hp:Wt.Pr w' p P t'):Cl w' s F { c with P:=P } t' vn L p vq Fs :=
 ⟨(o.block s h.slt h.GK).trans h.row,aA h.no (fun k e g=>h.vp.1 (by rw [e,g])) o,h.len,fun i hi=>(h.st i hi).only (fun k g e=>(h.off i hi k g).2.1 e) o,h.lv,h.rt,hp,aA h.sp (fun k e g=>h.vp.2 (by rw [e,g])) o,h.fs,h.fp,h.fv,h.ff,h.jZ,h.off,fun k g=>cL (h.low k g) o.size⟩
theorem YM (h:Wt.Pr w p a t):Wt.Pr w p a (t+1):=by
 obtain ⟨z0,z1,hr,hv⟩:=h;exact ⟨z0,z1,hr,⟨by have:=hv.b0;omega,by have:=hv.b1;omega,hv.e0,hv.e1⟩⟩
theorem Cl.late (h:Cl w s F c t vn L p vq Fs):Cl w s F c (t+1) vn L p vq Fs:=⟨h.row,h.no,h.len,h.st,h.lv,h.rt,YM h.pr,h.sp,h.fs,h.fp,h.fv,h.ff,h.jZ,h.off,h.low⟩
theorem Cl.place (h:Cl w s F c t vn L p vq Fs) (n:Nat):Cl (w.setCell ⟨s,2,none⟩ (.int .i64 n)) s F { c with pl:=n } t vn L p vq Fs:=by
 have o:Only (fun k=>k=s) w (w.setCell ⟨s,2,none⟩ (.int .i64 n)):=Only.set (fun k=>k=s) w (a:=⟨s,2,none⟩) rfl _;have rw_:(w.setCell ⟨s,2,none⟩ (.int .i64 n)).heap[s]? = some (.cells #[vn,ptr p,.int .i64 n,vq] 73 (0,0)):=Rw.heap_setCell_same (j:=2) h.row _;exact ⟨rw_,aA h.no (fun k e g=>h.vs.1 (by rw [e,g])) o,h.len,fun i hi=>(h.st i hi).only (fun k g e=>(h.off i hi k g).1 e) o,h.lv,h.rt,h.pr.only o (fun e=>h.GK e.symm),aA h.sp (fun k e g=>h.vs.2 (by rw [e,g])) o,h.fs,h.fp,h.fv,h.ff,h.jZ,h.off,fun k g=>cL (h.low k g) o.size⟩
theorem Cl.S9 (h:Cl w s F c t vn L p vq Fs) {v:Value} {Q:List S2} (hq:Ow K2 w 0 96 v Q) (hF:∀ k,v.ownBlock=some k->F k) (hn:∀ i,i < L.length->∀ k,Fs i k->v.ownBlock≠some k):Cl (w.setCell ⟨s,3,none⟩ v) s F { c with Q:=Q } t vn L p v Fs:=by
 have o:Only (fun k=>k=s) w (w.setCell ⟨s,3,none⟩ v):=Only.set (fun k=>k=s) w (a:=⟨s,3,none⟩) rfl _;have rw_:(w.setCell ⟨s,3,none⟩ v).heap[s]? = some (.cells #[vn,ptr p,.int .i64 c.pl,v] 73 (0,0)):=Rw.heap_setCell_same (j:=3) h.row _;refine ⟨rw_,aA h.no (fun k e g=>h.vs.1 (by rw [e,g])) o,h.len,fun i hi=>(h.st i hi).only (fun k g e=>(h.off i hi k g).1 e) o,h.lv,h.rt,h.pr.only o (fun e=>h.GK e.symm),aA hq (fun k e g=>hq.apart h.row (by decide) (by rw [e,g])) o,h.fs,h.fp,fun k g=>?_,h.ff,h.jZ,fun i hi k g=>?_,fun k g=>cL (h.low k g) o.size⟩
 ·rcases g with g | g
  ·exact h.fv k (.inl g)
  ·exact hF k g
 ·have:=h.off i hi k g
  exact ⟨this.1,this.2.1,this.2.2.1,hn i hi k g⟩
theorem Cl.store (h:Cl w s F c t vn L p vq Fs) (hi:i < L.length) {x:aT×Int} (hs:St w' (eX L i).s (Fx (Fs i) w w') x.1 x.2) (o:Only (Fs i) w w'):Cl w' s (Fx F w w') { c with S:=iX c.S i x } t vn L p vq (fun j=>if j=i then Fx (Fs i) w w' else Fs j):=by
 have of:=h.off i hi;have hz:=o.size;have lt:∀ j,j < L.length->∀ k,Fs j k->k < w.heap.size:=fun j hj=>(h.st j hj).low;have vl:∀ k,vn.ownBlock=some k\/vq.ownBlock=some k->k < w.heap.size:=fun k g=>h.low k (h.fv k g);refine ⟨(o.block s h.slt fun g=>(of s g).1 rfl).trans h.row,aA h.no (fun k e g=>(of k g).2.2.1 e) o,by show L.length=(iX c.S i x).length;rw [h.len];exact List.length_set.symm,fun j hj=>?_,h.lv,h.rt,h.pr.only o (fun g=>(of p g).2.1 rfl),aA h.sp (fun k e g=>(of k g).2.2.2 e) o,.inl h.fs,.inl h.fp,fun k g=>.inl (h.fv k g),fun j hj k g=>?_,fun a b ha hb hab k g=>?_,fun j hj k g=>?_,Fx.low h.low hz⟩
 ·show St w' _ _ (sat (iX c.S i x) j).1 (sat (iX c.S i x) j).2
  rw [KH (by omega) (by have:=h.len;omega)]
  by_cases e:j=i
  ·subst e
   rw [az rfl,az rfl];exact hs
  ·rw [aq e,aq (by omega)]
   exact (h.st j hj).only (fun k g q=>h.jZ j i hj hi e k g q) o
 ·by_cases e:j=i
  ·rw [az e] at g
   rcases g with g | g
   ·exact .inl (h.ff i hi k g)
   ·exact .inr g
  ·rw [aq e] at g
   exact .inl (h.ff j hj k g)
 ·by_cases ea:a=i
  ·rw [az ea] at g
   rw [aq (fun q=>hab (ea.trans q.symm))]
   rcases g with g | g
   ·exact h.jZ i b hi hb (fun q=>hab (ea.trans q)) k g
   ·intro q;have:=lt b hb k q;omega
  ·rw [aq ea] at g
   by_cases eb:b=i
   ·rw [az eb]
    rintro (q | q)
    ·exact h.jZ a i ha hi ea k g q
    ·have:=lt a ha k g;omega
   ·rw [aq eb]
    exact h.jZ a b ha hb hab k g
 ·by_cases e:j=i
  ·rw [az e] at g
   rcases g with g | g
   ·exact of k g
   ·have a1:=h.slt
    have a2:=h.pr.lt;exact ⟨by omega,by omega,fun q=>by have:=vl k (.inl q);omega,fun q=>by have:=vl k (.inr q);omega⟩
  ·rw [aq e] at g
   exact h.off j hj k g
theorem Cl.node (h:Cl w s F c t vn L p vq Fs) {g:Nat} (hg:vn.ownBlock=some g) {L':List Nd} {V:List Bool} (o:Only (fun k=>k=g) w w') (hno:Ow KD w' 0 78 vn L') (hl:L'.length=L.length) (hs:∀ i,i < L.length->(eX L' i).s=(eX L i).s) (hv:∀ i:Nat,i < L.length->(eX L' i).live=bX V i) (hr:∀ i,i < L.length->-2000<=(eX L' i).rate/\(eX L' i).rate<=2000):Cl w' s F { c with V:=V } t vn L' p vq Fs:=by
 refine ⟨(o.block s h.slt fun e=>h.vs.1 (by rw [hg,e])).trans h.row,hno,hl.trans h.len,fun i hi=>?_,fun i hi=>hv i (by omega),fun i hi=>hr i (by omega),h.pr.only o (fun e=>h.vp.1 (by rw [hg,e])),aA h.sp (fun k e q=>h.vv g hg (by rw [e,q])) o,h.fs,h.fp,h.fv,fun i hi=>h.ff i (by omega),fun i j hi hj=>h.jZ i j (by omega) (by omega),fun i hi=>h.off i (by omega),fun k q=>cL (h.low k q) o.size⟩;rw [hs i (by omega)];exact (h.st i (by omega)).only (fun k q e=>(h.off i (by omega) k q).2.2.1 (by rw [hg,e])) o
end
def jw (w:World) (s:Nat) (F:Nat->Prop) (c:Cs) (t:Nat) (x:Int) (e:Ending) (w':World):Prop:=e = .returned (.int .i64 x)/\lQ w' s (Fx F w w') c t/\Only F w w'
section
variable {s t:Nat} {F:Nat->Prop} {c:Cs} {w w1 w':World}
theorem jw.late {x:Int} {e:Ending} (h:jw w s F c t x e w'):jw w s F c (t+1) x e w':=by
 obtain ⟨h1,⟨vn,L,p,vq,Fs,h2⟩,h3⟩:=h;exact ⟨h1,⟨vn,L,p,vq,Fs,h2.late⟩,h3⟩
variable {x:Int} {e:Ending}
theorem jw.preO (h:jw w1 s F c t x e w') (o:Only F w w1) (low:∀ k,F k->k < w.heap.size):jw w s F c t x e w':=by
 obtain ⟨h1,⟨vn,L,p,vq,Fs,h2⟩,h3⟩:=h;have z1:=o.size;have z2:=h3.size;refine ⟨h1,⟨vn,L,p,vq,Fs,h2.wide (fun k g=>?_) (fun k g=>?_)⟩,o.trans h3 fun _ _ g=>g⟩
 ·rcases g with g | g
  ·exact .inl g
  ·exact .inr ⟨by omega,g.2⟩
 ·rcases g with g | g
  ·have:=low k g;omega
  ·exact g.2
theorem jw.pre (h:jw w1 s F c t x e w') (b:Below w.heap.size w w1) (low:∀ k,F k->k < w.heap.size):jw w s F c t x e w':=h.preO (Only.of_below b) low
end
open Fs (AB)
attribute [local irreducible] Sd.aU wpQuiet
section
variable {s t p:Nat} {F G:Nat->Prop} {c:Cs} {vn vq:Value} {L:List Nd} {Fs:Nat->Nat->Prop} {w w':World}
theorem Cl.one (h:Cl w s F c t vn L p vq Fs) (hi:i < c.S.length):∃ g cap,vn = .slice (some ⟨g,0,none⟩) c.S.length cap/\c.S.length<=cap/\cap<=maxLen/\w.cell? ⟨g,i * 3,none⟩=some (ptr (eX L i).s)/\w.cell? ⟨g,i * 3+1,none⟩=some (.bool (bX c.V i))/\w.cell? ⟨g,i * 3+2,none⟩=some (.int .i64 (eX L i).rate)/\∀ k,w.frozen? ⟨g,k,none⟩=false:=by
 have hl:=h.len;obtain ⟨g,cap,e,_,_,h1,h2,fz,hA⟩:=h.no.form (by omega);have q:=atD hA (i:=i) (by omega);rw [fd,h.lv i (by omega)] at q;rw [hl] at e h1;exact ⟨g,cap,e,h1,h2,q.1,q.2.1,q.2.2,fz⟩
variable {g cap n:Nat}
theorem Cl.nod (h:Cl w s F c t (.slice (some ⟨g,0,none⟩) c.S.length cap) L p vq Fs) (hi:i < c.S.length):w.cell? ⟨g,i * 3,none⟩=some (ptr (eX L i).s)/\w.cell? ⟨g,i * 3+1,none⟩=some (.bool (eX L i).live)/\w.cell? ⟨g,i * 3+2,none⟩=some (.int .i64 (eX L i).rate):=by
 have hl:=h.len;obtain ⟨g',cap',e,_,_,h1,h2,fz,hA⟩:=h.no.form (by omega);injection e with e1 _ _;injection e1 with e1;injection e1 with e1 _ _;subst e1;have q:=atD hA (i:=i) (by omega);rw [fd] at q;exact q
theorem Cl.slice (h:Cl w s F c t vn L p vq Fs):∃ a cap,vn = .slice a c.S.length cap/\c.S.length<=cap/\cap<=maxLen:=by
 obtain ⟨a,cap,e,h1,h2⟩:=h.no.slice;rw [h.len] at e h1;exact ⟨a,cap,e,h1,h2⟩
theorem Cl.VD (h:Cl w s F c t vn L p vq Fs) (hi:i < c.S.length):St w (eX L i).s (Fs i) (sat c.S i).1 (sat c.S i).2:=h.st i (by rw [h.len];exact hi)
theorem gZ (h:Cl w s F c t vn L p vq Fs) (hn:n < c.S.length):Calls prog 32 #[ptr s,.int .i64 n] w fun e w'=>e = .returned (.bool true)/\Below w.heap.size w w':=by
 obtain ⟨a,cap,rfl,_,_⟩:=h.slice;have d0:=h.cells.1;clear h;generalize c.S.length=ln at *;have p1:decide ((0:Int)<=(n:Int))=true:=bj (by omega);have p2:decide ((n:Int) < (ln:Int))=true:=bj (by omega);unfold ptr
 go_enter func32,ntmps32
 go_wp2
 go_ret
 exact ⟨rfl,af _ _⟩
theorem xR (h:Cl w s F c t vn L p vq Fs) {n:Int} (hn:no c n):Calls prog 32 #[ptr s,.int .i64 n] w fun e w'=>e = .returned (.bool false)/\Below w.heap.size w w':=by
 obtain ⟨a,cap,rfl,_,_⟩:=h.slice;have d0:=h.cells.1;clear h;unfold no at hn;generalize c.S.length=ln at *;unfold ptr
 by_cases h0:0<=n
 ·have p2:decide (n < (ln:Int))=false:=bh (by omega)
  clear hn
  go_enter func32,ntmps32
  go_wp2
  go_ret
  exact ⟨rfl,af _ _⟩
 ·have p1:decide (0<=n)=false:=bh h0
  clear hn
  go_enter func32,ntmps32
  go_wp2
  go_ret
  exact ⟨rfl,af _ _⟩
theorem wR (h:Cl w s F c t vn L p vq Fs):Calls prog 13 #[ptr s] w fun e w'=>e = .returned (.int .i64 c.S.length)/\Below w.heap.size w w':=by
 obtain ⟨a,cap,rfl,_,_⟩:=h.slice;have d0:=h.cells.1;clear h;generalize c.S.length=ln at *;unfold ptr
 go_enter func13,ntmps13
 go_wp2
 go_ret
 exact ⟨rfl,af _ _⟩
theorem Io (h:Cl w s F c t vn L p vq Fs):Calls prog 121 #[ptr s] w fun e w'=>e = .returned (.int .i64 c.pl)/\Below w.heap.size w w':=by
 have d2:=h.cells.2.2.1;clear h;generalize c.pl=pl at *;unfold ptr
 go_enter func121,ntmps121
 go_wp2
 go_ret
 exact ⟨rfl,af _ _⟩
theorem Nl (h:Cl w s F c t vn L p vq Fs) (n:Int):Calls prog 120 #[ptr s,.int .i64 n] w fun e w'=>e = .returned (.int .i64 (Wt.rl c.P n))/\Below w.heap.size w w':=by
 have d1:=h.cells.2.1;have C1:=Hh (Wt.Vj h.pr n);clear h;generalize Wt.rl c.P n=r at *;unfold ptr at *
 go_enter func120,ntmps120
 go_wp2_with fail;refine C1.mono ?_;rintro e w1 ⟨rfl,b1⟩;go_wp2
 go_ret
 exact ⟨rfl,b1⟩
theorem UJ (h:Cl w s F c t vn L p vq Fs) (hn:n < c.S.length):Calls prog 22 #[ptr s,.int .i64 n] w fun e w'=>e = .returned (.bool (bX c.V n))/\Below w.heap.size w w':=by
 have C1:=Hh (gZ h hn);have H:=Hh h;obtain ⟨g,cap,rfl,_,hm,_⟩:=h.one hn;clear h;unfold ptr at *
 go_enter func22,ntmps22
 go_wp2_with fail;refine C1.mono ?_;rintro e w1 ⟨rfl,b1⟩;obtain ⟨g',cap',e',_,_,_,d1,_⟩:=(H.below b1).one hn;injection e' with e1 _ e3;injection e1 with e1;injection e1 with e1 _ _;subst e1 e3;have d0:=(H.below b1).cells.1;have B1:=Hh b1;have p5:decide (c.S.length<=n)=false:=bh (by omega);clear H C1 b1;generalize c.S.length=ln at *;go_wp2
 go_ret
 exact ⟨rfl,B1⟩
theorem Am (h:Cl w s F c t vn L p vq Fs) (hn:n < c.S.length):Calls prog 14 #[ptr s,.int .i64 n] w (bZ w (sat c.S n).1):=by
 have C1:=Hh (gZ h hn);have H:=Hh h;obtain ⟨g,cap,rfl,_,hm,_⟩:=h.one hn;clear h;unfold ptr at *
 go_enter func14,ntmps14
 go_wp2_with fail;refine C1.mono ?_;rintro e w1 ⟨rfl,b1⟩;obtain ⟨g',cap',e',_,_,d1,_⟩:=(H.below b1).one hn;injection e' with e1 _ e3;injection e1 with e1;injection e1 with e1 _ _;subst e1 e3;have d0:=(H.below b1).cells.1;have B1:=Hh b1;have C2:=Hh (AB ((H.below b1).VD hn));have p5:decide (c.S.length<=n)=false:=bh (by omega);unfold bZ at C2;unfold ptr at *;clear H C1 b1;generalize c.S.length=ln at *;generalize (sat c.S n).1=A at *;generalize (eX L n).s=q at *;go_wp2_with fail;refine C2.mono ?_;rintro e w2 ⟨v,rfl,hv,b2⟩;have E:Hid (bZ w A (.returned v) w2):=Hh ⟨v,rfl,fun F hF=>hv F fun k hk=>cL (hF k hk) B1.size,aN B1 b2⟩;clear hv b2 C2 B1;go_wp2
 go_ret
 exact E
end
section
variable {s t p:Nat} {F G:Nat->Prop} {c:Cs} {vn vq:Value} {L:List Nd} {Fs:Nat->Nat->Prop} {w w':World}
variable {g n cap p' t':Nat}
theorem K7 (h:Ow KD w 0 78 (.slice (some ⟨g,0,none⟩) n cap) L) (hn:L.length=n) (hi:i < n) (j:Nat) (hj:j < 3) (u:Value) (x:Nd) (hx:KD.enc x=(KD.enc (eX L i)).set j u):Ow KD (w.setCell ⟨g,i * 3+j,none⟩ u) 0 78 (.slice (some ⟨g,0,none⟩) n cap) (L.set i x):=by
 subst hn;exact Rw.Ow.set h i j hi hj u x hx
theorem Cl.My (h:Cl w s F c t (.slice (some ⟨g,0,none⟩) n cap) L p vq Fs) (hn:c.S.length=n) (hv:c.V.length=n) (hi:i < n) (b:Bool):Cl (w.setCell ⟨g,i * 3+1,none⟩ (.bool b)) s F { c with V:=c.V.set i b } t (.slice (some ⟨g,0,none⟩) n cap) (L.set i { eX L i with live:=b }) p vq Fs/\Only F w (w.setCell ⟨g,i * 3+1,none⟩ (.bool b)):=by
 have hl:=h.len.trans hn;have o:Only (fun k=>k=g) w (w.setCell ⟨g,i * 3+1,none⟩ (.bool b)):=Only.set (fun k=>k=g) w (a:=⟨g,i * 3+1,none⟩) rfl _;refine ⟨h.node (g:=g) rfl o (K7 h.no hl hi 1 (by decide) (.bool b) { eX L i with live:=b } rfl) cI (fun j hj=>?_) (fun j hj=>?_) (fun j hj=>?_),o.mono fun k _ e=>by rw [e];exact h.fv g (.inl rfl)⟩
 ·rw [kN (by omega)]
  split
  ·rename_i e;rw [e]
  ·rfl
 ·rw [kN (by omega)]
  have q:bX (c.V.set i b) j=if (j:Int)=(i:Int) then b else bX c.V j:=by
   have:=pU (V:=c.V) (n:=(i:Int)) (b:=b) (by omega) (by omega) j (by omega);rw [cU] at this;exact this
  rw [q]
  by_cases e:j=i
  ·rw [az e,az (by omega)]
  ·rw [aq e,aq (by omega)]
   exact h.lv j hj
 ·rw [kN (by omega)]
  split
  ·exact h.rt i (by omega)
  ·exact h.rt j hj
variable {x:Int}
theorem Cl.Wm (h:Cl w s F c t (.slice (some ⟨g,0,none⟩) n cap) L p vq Fs) (hn:c.S.length=n) (hi:i < n) (hx : -2000<=x/\x<=2000):Cl (w.setCell ⟨g,i * 3+2,none⟩ (.int .i64 x)) s F c t (.slice (some ⟨g,0,none⟩) n cap) (L.set i { eX L i with rate:=x }) p vq Fs/\Only F w (w.setCell ⟨g,i * 3+2,none⟩ (.int .i64 x)):=by
 have hl:=h.len.trans hn;have o:Only (fun k=>k=g) w (w.setCell ⟨g,i * 3+2,none⟩ (.int .i64 x)):=Only.set (fun k=>k=g) w (a:=⟨g,i * 3+2,none⟩) rfl _;refine ⟨h.node (g:=g) (V:=c.V) rfl o (K7 h.no hl hi 2 (by decide) (.int .i64 x) { eX L i with rate:=x } rfl) cI (fun j hj=>?_) (fun j hj=>?_) (fun j hj=>?_),o.mono fun k _ e=>by rw [e];exact h.fv g (.inl rfl)⟩
 ·rw [kN (by omega)]
  split
  ·rename_i e;rw [e]
  ·rfl
 ·rw [kN (by omega)]
  split
  ·rename_i e;rw [e];exact h.lv i (by omega)
  ·exact h.lv j hj
 ·rw [kN (by omega)]
  split
  ·exact hx
  ·exact h.rt j hj
variable {a:Wt.A}
theorem VZ {n:Int} (h:2<=n):Wt.sI a n=a:=by unfold Wt.sI;rw [aq (by omega),aq (by omega)]
theorem XU {n:Int} (h:2<=n):Wt.sD a n=a:=by unfold Wt.sD;rw [aq (by omega),aq (by omega)]
theorem oO.cr0 (h:oO c) (hn:n < 2) (hv:bX c.V n=true):Wt.Fb c.P n=0:=by
 unfold Wt.Fb
 rcases (by omega:n=0\/n=1) with rfl | rfl
 ·rw [az (by rfl),aq (h.1.1 hv)]
 ·rw [aq (by decide),az (by rfl),aq (h.2.1 hv)]
theorem oO.rs0 (h:oO c) (hn:n < 2) (hv:bX c.V n=false):Wt.rsE c.P n=0:=by
 unfold Wt.rsE
 rcases (by omega:n=0\/n=1) with rfl | rfl
 ·have r4:c.P.r0=4:=Classical.not_not.1 fun g=>by have:=h.1.2 g;rw [show bX c.V 0=false from hv] at this;cases this
  rw [az (by rfl),az r4]
 ·have r4:c.P.r1=4:=Classical.not_not.1 fun g=>by have:=h.2.2 g;rw [show bX c.V 1=false from hv] at this;cases this
  rw [aq (by decide),az (by rfl),az r4]
theorem fZ (h:Cl w s F c t vn L p vq Fs) (b:Below w.heap.size w w') (x:Int):jw w s F c t x (.returned (.int .i64 x)) w' :=
 ⟨rfl,⟨vn,L,p,vq,Fs,(h.below b).fx w⟩,Only.of_below b⟩
theorem nX {c':Cs} {vn' vq':Value} {L':List Nd} {Fs':Nat->Nat->Prop} (h:Cl w' s F c' t' vn' L' p' vq' Fs') (o:Only F w w') (x:Int):jw w s F c' t' x (.returned (.int .i64 x)) w' :=
 ⟨rfl,⟨vn',L',p',vq',Fs',h.fx w⟩,o⟩
theorem Km (h:Cl w s F c t vn L p vq Fs) (ok:jm c t) (sy:oO c) (hn:n < c.S.length) (hv:bX c.V n=true):Calls prog 34 #[ptr s,.int .i64 n] w (jw w s F { c with V:=c.V.set n false,P:=Wt.sI c.P n } t 0):=by
 obtain ⟨g,cap,rfl,hc,hm,_,y1,_,fz⟩:=h.one hn;have d0:=h.cells.1;have H:=Hh (h.My rfl ok.lv hn false);have H0:=Hh h;have CR:=Hh (fun (w1:World) (P:Wt.Pr w1 p c.P t)=>Wt.NT P n);have E0:=Hh (fun h2=>sy.cr0 (n:=n) h2 hv);have EF:=Hh (fun h2=>VZ (a:=c.P) (n:=(n:Int)) h2);have fy:=fz (n * 3+1);rw [hv] at y1;have p5:decide (c.S.length<=n)=false:=bh (by omega);clear h ok sy hv fz;generalize c.S.length=ln at *;unfold ptr at *
 by_cases h2:n < 2
 ·have k1:=H.out.1.cells.2.1
  have CC:=Hh (CR _ H.out.1.pr);unfold Wt.aW at CC;rw [E0.out h2] at CC;unfold ptr at k1;have p6:decide ((n:Int) < 2)=true:=bj (by omega);clear CR E0 EF
  go_enter func34,ntmps34
  go_wp2_with fail;refine CC.mono ?_;rintro e w2 ⟨rfl,pr2,o2⟩;have E:=Hh (nX (w:=w) (H.out.1.pair o2 pr2) (H.out.2.trans o2 fun k _ e=>by rw [e];exact H.out.1.fp) 0);clear pr2 o2 H CC;go_wp2
  go_ret
  exact E
 ·have E:=Hh (nX (w:=w) H.out.1 H.out.2 0)
  rw [← EF.out (by omega)] at E;have p6:decide ((n:Int) < 2)=false:=bh (by omega);clear CR E0 EF H
  go_enter func34,ntmps34
  go_wp2
  go_ret
  exact E
theorem Pp (h:Cl w s F c t vn L p vq Fs) (hn:n < c.S.length) (hv:bX c.V n=false):Calls prog 34 #[ptr s,.int .i64 n] w (jw w s F c t 10):=by
 obtain ⟨g,cap,rfl,_,hm,_,y1,_⟩:=h.one hn;have d0:=h.cells.1;have E:=Hh (fZ h (af _ _) 10);rw [hv] at y1;have p5:decide (c.S.length<=n)=false:=bh (by omega);clear h hv;generalize c.S.length=ln at *;unfold ptr at *
 go_enter func34,ntmps34
 go_wp2
 go_ret
 exact E
theorem BM (h:Cl w s F c t vn L p vq Fs) (ok:jm c t) (sy:oO c) (hn:n < c.S.length) (hv:bX c.V n=false):Calls prog 35 #[ptr s,.int .i64 n] w (jw w s F { c with V:=c.V.set n true,P:=Wt.sD c.P n } t 0):=by
 obtain ⟨g,cap,rfl,hc,hm,_,y1,_,fz⟩:=h.one hn;have d0:=h.cells.1;have H:=Hh (h.My rfl ok.lv hn true);have H0:=Hh h;have CR:=Hh (fun (w1:World) (P:Wt.Pr w1 p c.P t)=>Wt.Ed P n);have E0:=Hh (fun h2=>sy.rs0 (n:=n) h2 hv);have EF:=Hh (fun h2=>XU (a:=c.P) (n:=(n:Int)) h2);have fy:=fz (n * 3+1);rw [hv] at y1;have p5:decide (c.S.length<=n)=false:=bh (by omega);clear h ok sy hv fz;generalize c.S.length=ln at *;unfold ptr at *
 by_cases h2:n < 2
 ·have k1:=H.out.1.cells.2.1
  have CC:=Hh (CR _ H.out.1.pr);unfold Wt.aW at CC;rw [E0.out h2] at CC;unfold ptr at k1;have p6:decide ((n:Int) < 2)=true:=bj (by omega);clear CR E0 EF
  go_enter func35,ntmps35
  go_wp2_with fail;refine CC.mono ?_;rintro e w2 ⟨rfl,pr2,o2⟩;have E:=Hh (nX (w:=w) (H.out.1.pair o2 pr2) (H.out.2.trans o2 fun k _ e=>by rw [e];exact H.out.1.fp) 0);clear pr2 o2 H CC;go_wp2
  go_ret
  exact E
 ·have E:=Hh (nX (w:=w) H.out.1 H.out.2 0)
  rw [← EF.out (by omega)] at E;have p6:decide ((n:Int) < 2)=false:=bh (by omega);clear CR E0 EF H
  go_enter func35,ntmps35
  go_wp2
  go_ret
  exact E
theorem EH (h:Cl w s F c t vn L p vq Fs) (hn:n < c.S.length) (hv:bX c.V n=true):Calls prog 35 #[ptr s,.int .i64 n] w (jw w s F c t 10):=by
 obtain ⟨g,cap,rfl,_,hm,_,y1,_⟩:=h.one hn;have d0:=h.cells.1;have E:=Hh (fZ h (af _ _) 10);rw [hv] at y1;have p5:decide (c.S.length<=n)=false:=bh (by omega);clear h hv;generalize c.S.length=ln at *;unfold ptr at *
 go_enter func35,ntmps35
 go_wp2
 go_ret
 exact E
def Vy (x:Int):Bool:=decide (-2000<=x) && decide (x<=2000)
theorem mq (w:World) (x:Int):Calls prog 50 #[.int .i64 x] w fun e w'=>e = .returned (.bool (Vy x))/\w=w':=by
 have E:Hid (Vy x=(decide (-2000<=x) && decide (x<=2000))):=Hh rfl;generalize Vy x=b at *
 by_cases h0 : -2000<=x
 ·by_cases h2:x<=2000
  ·obtain rfl:b=true:=by rw [E.out];simp [h0,h2]
   clear E
   go_enter func50,ntmps50
   go_wp2
   go_ret
   exact ⟨rfl,rfl⟩
  ·obtain rfl:b=false:=by rw [E.out];simp [h2]
   have q:decide (x<=2000)=false:=bh h2;clear E
   go_enter func50,ntmps50
   go_wp2
   go_ret
   exact ⟨rfl,rfl⟩
 ·obtain rfl:b=false:=by rw [E.out];simp [h0]
  have q:decide (-2000<=x)=false:=bh h0;clear E
  go_enter func50,ntmps50
  go_wp2
  go_ret
  exact ⟨rfl,rfl⟩
theorem Cf : Vy x=true↔-2000<=x/\x<=2000:=by unfold Vy;simp
theorem IX (w:World) (g o:Nat) (x:Int) (u:Value) (hu:w.cell? ⟨g,o+2,none⟩=some u) (hf:w.frozen? ⟨g,o+2,none⟩=false) (hx:Vy x=true):Calls prog 36 #[.pointer (some ⟨g,o,none⟩),.int .i64 x] w fun e w'=>e = .returned (.int .i64 0)/\w'=w.setCell ⟨g,o+2,none⟩ (.int .i64 x):=by
 have C:=Hh (mq w x);rw [hx] at C;clear hx
 go_enter func36,ntmps36
 go_wp2_with fail;refine C.mono ?_;rintro e w1 ⟨rfl,rfl⟩;go_wp2
 go_ret
 exact ⟨rfl,rfl⟩
theorem ON (w:World) (g o:Nat) (x:Int) (hx:Vy x=false):Calls prog 36 #[.pointer (some ⟨g,o,none⟩),.int .i64 x] w fun e w'=>e = .returned (.int .i64 1)/\w=w':=by
 have C:=Hh (mq w x);rw [hx] at C;clear hx
 go_enter func36,ntmps36
 go_wp2_with fail;refine C.mono ?_;rintro e w1 ⟨rfl,rfl⟩;go_wp2
 go_ret
 exact ⟨rfl,rfl⟩
end
end Cu
namespace Pa
open Go.Maps
open Fs (SY qU)
attribute [local irreducible] Sd.aU wpQuiet
def aa1:aB:=⟨0,0,none,0,[]⟩
def eD (L:List aB) (i:Nat):aB:=L.getD i aa1
structure Dw (w:World) (v:Value) (L:List aB) (B:Nat):Prop where
 rd:Rd E3 w v L
 file:∀ i,i < L.length->Rd K4 w (eD L i).sl (eD L i).l/\dF (eD L i).l
 low:∀ i,i < L.length->0 < (eD L i).l.length->∀ k,(eD L i).sl.ownBlock=some k->k < B
theorem Dw.below {w w':World} {v:Value} {L:List aB} {B:Nat} (h:Dw w v L B) (b:Below w.heap.size w w'):Dw w' v L B:=⟨h.rd.below b,fun i hi=>⟨(h.file i hi).1.below b,(h.file i hi).2⟩,h.low⟩
end Pa
namespace Ck
theorem KJ:(prog.info? 175).map (fun i=>(i.zero,i.size,i.bytes))=some (some (.slice none 0 0),1,24):=by kernel_rfl
end Ck
namespace Pa
open Go.Maps
open Fs (put ins)
open Ck (LL)
structure Cel where
 files:Hd
 table:Hd
 live:Bool
 steps:Hd
 F:List aB
 T:List E5
 S:List S2
def ady:Cel:=⟨zh,zh,false,zh,[],[],[]⟩
def Vz (L:List Cel) (i:Nat):Cel:=L.getD i ady
theorem aZ {α β:Type} {K:Kind α} {J:Kind β} {w:World} {B B' E E':Nat} {v v':Value} {l:List α} {l':List β} (h:Ow K w B E v l) (h':Ow J w B' E' v' l') (hE:E≠E'):∀ k,v.ownBlock=some k->v'.ownBlock≠some k:=fun k hk=>by
 obtain ⟨_,h⟩:=h
 rcases h with ⟨rfl,_⟩ | ⟨g,cap,cur,rfl,_,hh,_⟩
 ·simp [Value.ownBlock] at hk
 ·simp only [Value.ownBlock,fw] at hk
  subst hk;exact h'.apart hh hE
section
end
section
end
end Pa
namespace Cu
open Fs (sH qB)
open Pa (Dw eD aa1)
structure jO where
 files:Hd
 rate:Int
 F:List aB
def plD:jO:=⟨zh,0,[]⟩
def KP:Kind jO:=⟨fun c=>[sl c.files,.int .i64 c.rate],2,by decide,fun _=>rfl,fun _ u h=>by simp [sl] at h;rcases h with rfl | rfl <;> rfl,plD⟩
def zJ (L:List jO) (i:Nat):jO:=L.getD i plD
structure Dk (w:World) (v:Value) (L:List jO) (B:Nat):Prop where
 rd:Rd KP w v L
 file:∀ i,i < L.length->Dw w (sl (zJ L i).files) (zJ L i).F B
theorem Dk.below {w w':World} {v:Value} {L:List jO} {B:Nat} (h:Dk w v L B) (b:Below w.heap.size w w'):Dk w' v L B:=⟨h.rd.below b,fun i hi=>(h.file i hi).below b⟩
def jO.abs (c:jO):Pl:=(c.F.map aB.abs,c.rate)
def fV (L:List jO):List Pl:=L.map jO.abs
theorem fq (L:List jO):(fV L).length=L.length:=cm _
variable {i b off k:Nat}
theorem aa2 {L:List jO} (h:i < L.length):fH (fV L) i=(zJ L i).abs:=by
 unfold fH fV zJ;rw [an,cX,aw h,an,aw h]
 rfl
theorem ZG {w:World} {L:List jO} (h:At KP w b off L) (hi:i < L.length):w.cell? ⟨b,off+i * 2,none⟩=some (sl (zJ L i).files)/\w.cell? ⟨b,off+i * 2+1,none⟩=some (.int .i64 (zJ L i).rate):=⟨h i hi 0 _ rfl,h i hi 1 _ rfl⟩
def abq (x:Ac):List Value:=[.int .i64 x.k,.int .i64 x.n,.int .i64 x.f,.int .i64 x.r,.int .u8 x.v.1,.int .u8 x.v.2.1,.int .u8 x.v.2.2.1,.int .u8 x.v.2.2.2,.int .i64 x.s,.int .i64 x.m,.int .i64 x.t]
def acD:Ac:=⟨0,0,0,0,z4,0,0,0⟩
def KA:Kind Ac:=⟨abq,11,by decide,fun _=>rfl,fun _ u h=>by simp [abq] at h;rcases h with rfl | rfl | rfl | rfl | rfl | rfl | rfl | rfl | rfl | rfl | rfl <;> rfl,acD⟩
def Inn (A:aT) (k:Nat):Prop:=qB key (A.take k)/\∀ e∈A.take k,(0<=e.1/\e.1<=63)/\aL e.2.1 e.2.2
theorem UX (A:aT):Inn A 0:=⟨ik,nofun⟩
variable {A:aT}
theorem YU (h:Inn A A.length):gdF A:=by
 unfold Inn at h;rw [df] at h;exact h
theorem Sv {n p:Int} {l:List R4} (h:Inn A k) (hk:A[k]? = some (n,p,l)) (ord:∀ c,0 < k->A[k - 1]? = some c->key c < n) :
 (jq (A.take k) n p l=0/\oh (A.take k) n p l=A.take (k+1)/\Inn A (k+1))\/(jq (A.take k) n p l≠0/\¬ gdF A):=by
 have hkl:=(cA.1 hk).1;have hm:(n,p,l)∈A:=di hk;have lt:∀ x∈A.take k,key x < n:=fun x hx=>by
  obtain ⟨i,hi⟩:=List.mem_iff_getElem?.1 hx;have hil:=(cA.1 hi).1;rw [cM] at hil;have h1:A[k - 1]? = some A[k - 1]:=aw (by omega);have o:=ord _ (by omega) h1;rw [i2,az (by omega)] at hi
  by_cases e:i=k - 1
  ·subst e
   rw [h1] at hi;injection hi with hi;rw [← hi];exact o
  ·have q:=f8.1 h.1 i (k - 1) (by rw [cM];omega) (by rw [cM];omega) (by omega)
   rw [List.getElem_take,List.getElem_take] at q;rw [aw (by omega)] at hi;injection hi with hi;rw [hi] at q
   omega
 have hn:Fs.look key n (A.take k)=none:=dN.2 fun x hx=>by have:=lt x hx;omega
 have tk:A.take (k+1)=A.take k ++ [(n,p,l)]:=by rw [ed,hk];rfl
 by_cases g1:0<=n/\n<=63
 ·by_cases g2:aL p l
  ·have e0:jq (A.take k) n p l=0:=by
    unfold jq;rw [az g1,az g2,hn]
    rfl
   refine .inl ⟨e0,?_,?_,?_⟩
   ·unfold oh
    rw [az e0,BC (c:=(n,p,l)) hn,Dr (k:=(A.take k).length) (fun x hx=>lt x (List.mem_of_mem_take hx)) (fun x hx=>by rw [hM (am _)] at hx;cases hx),df,List.drop_length,tk]
   ·rw [tk]
    refine List.pairwise_append.2 ⟨h.1,List.pairwise_singleton _ _,fun x hx y hy=>?_⟩;rw [dg] at hy;subst hy;exact lt x hx
   ·rw [tk]
    intro e he
    rcases eC.1 he with he | he
    ·exact h.2 e he
    ·rw [dg] at he
     subst he;exact ⟨g1,g2⟩
  ·refine .inr ⟨?_,fun g=>g2 (g.2 _ hm).2⟩
   unfold jq;rw [az g1,aq g2]
   decide
 ·refine .inr ⟨?_,fun g=>g1 (g.2 _ hm).1⟩
  unfold jq;rw [aq g1]
  decide
theorem aas {c d:sH} (h0:0 < k) (hk:A[k]? = some c) (h1:A[k - 1]? = some d) (hle:key c<=key d):¬ gdF A:=fun g=>by
 have a:=(cA.1 hk);have b:=(cA.1 h1);obtain ⟨a1,rfl⟩:=a;obtain ⟨b1,rfl⟩:=b;have q:=f8.1 g.1 (k - 1) k b1 a1 (by omega)
 omega
def Gds (L:List Pl) (i:Nat):Prop:=∀ j,j < i->P6 (fH L j)
theorem Sl (L:List Pl):Gds L 0:=fun j hj=>by omega
variable {L:List Pl}
theorem Tg (h:Gds L i) (g:P6 (fH L i)):Gds L (i+1):=fun j hj=>by
 by_cases e:j=i
 ·rw [e];exact g
 ·exact h j (by omega)
theorem Yi (h:Gds L L.length):∀ p∈L,P6 p:=fun p hp=>by
 obtain ⟨i,hi,rfl⟩:=ew hp;have:=h i hi;unfold fH at this;rw [an,aw hi] at this;exact this
theorem Pw (h:L.length < 2\/32 < L.length):newE L=1:=by unfold newE;rw [az h]
theorem WH (h:¬ (L.length < 2\/32 < L.length)) (hi:i < L.length) (g:¬ P6 (fH L i)):newE L=2:=by
 unfold newE;rw [aq h,aq]
 intro a
 refine g (a _ ?_);unfold fH;rw [an,aw hi];exact dy hi
theorem Yw (h:¬ (L.length < 2\/32 < L.length)) (g:∀ p∈L,P6 p):(agree L->newE L=0)/\(¬ agree L->newE L=10):=by
 unfold newE;rw [aq h,az g];exact ⟨fun a=>az a,fun a=>aq a⟩
theorem Ni (h:i < L.length):(newC (L.take (i+1))).S=(newC (L.take i)).S ++ [((fH L i).1,0)]/\(newC (L.take (i+1))).V=(newC (L.take i)).V ++ [true]:=by
 have tk:L.take (i+1)=L.take i ++ [fH L i]:=by
  rw [ed];unfold fH;rw [an,aw h]
  rfl
 unfold newC;rw [tk]
 simp
open Fs (MB nS Ti)
attribute [local irreducible] Sd.aU wpQuiet
def Ws (w:World) (g:Nat) (a b c:Value):World:=((w.setCell ⟨g,0,none⟩ a).setCell ⟨g,1,none⟩ b).setCell ⟨g,2,none⟩ c
variable {w wr w':World} {g B q:Nat}
theorem pX {x y z:Value} (h:w.heap[g]? = some (.cells #[x,y,z] 78 (0,0))) (a b c:Value):(Ws w g a b c).heap[g]? = some (.cells #[a,b,c] 78 (0,0)):=by
 have h1:=Rw.heap_setCell_same (j:=0) h a;have h2:=Rw.heap_setCell_same (j:=1) h1 b;exact Rw.heap_setCell_same (j:=2) h2 c
theorem rH (w:World) (g:Nat) (a b c:Value):Only (fun k=>k=g) w (Ws w g a b c) :=
 ((Only.set (fun k=>k=g) w (a:=⟨g,0,none⟩) rfl a).trans (Only.set (fun k=>k=g) _ (a:=⟨g,1,none⟩) rfl b) fun _ _ q=>q).trans (Only.set (fun k=>k=g) _ (a:=⟨g,2,none⟩) rfl c) fun _ _ q=>q
theorem lF {fn:Func} {p r:Tmp} (h:fn.results=#[.cell p 78,.tmp r]) (tmps:Array Value) (w:World) (g:Nat) (a b c v:Value)
 (hp:tmps.getD p undef = .pointer (some ⟨g,0,none⟩)) (hr:tmps.getD r undef=v) (h1:w.heap[g]? = some (.cells #[a,b,c] 78 (0,0))) :
 (results fn tmps).run prog w = .ok (.tuple #[.agg #[a,b,c],v]) w:=by
 have e2:=fW (P:=prog) w g 78 78 #[a,b,c] (0,0) _ h1 underlying78 rfl (by show _=some 3;kernel_rfl);have hp':tmps[p]?.getD undef = .pointer (some ⟨g,0,none⟩):=by simpa using hp
 have hr':tmps[r]?.getD undef=v:=by simpa using hr
 simp only [results,h]
 simp [Result.andThen,hp',hr',asAddr,e2]
def yN (A:aT) (k:Nat):Int:=match k with | 0=>-1 | j+1=>(A.getD j (0,0,[])).1
def PlC (w:World) (x:Pl) (e:Ending) (w':World):Prop:=Below w.heap.size w w'/\((P6 x/\∃ q G,e = .returned (.tuple #[.agg #[ptr q,.bool true,.int .i64 x.2],.int .i64 0])/\St w' q G x.1 0/\∀ j,G j->w.heap.size<=j)\/(¬ P6 x/\e = .returned (.tuple #[.agg #[.pointer none,.bool false,.int .i64 0],.int .i64 2])))
structure ZO (w:World) (B:Nat) (q:Nat) (A:aT) (k:Nat) (G:Nat->Prop) (wr:World):Prop where
 st:St wr q G (A.take k) 0
 lo:∀ j,G j->B<=j
 aD:Below w.heap.size w wr
 inn:Inn A k
theorem ZO.below {w wr w':World} {B q k:Nat} {A:aT} {G:Nat->Prop} (h:ZO w B q A k G wr) (b:Below wr.heap.size wr w'):ZO w B q A k G w':=⟨h.st.below b,h.lo,h.aD.trans (b.mono h.aD.size),h.inn⟩
theorem ZO.step {G:Nat->Prop} (h:ZO w B q A k G wr) (hw:w.heap.size<=B) (hB:B<=wr.heap.size) (st:St w' q (Fx G wr w') (A.take (k+1)) 0) (o:Only G wr w') (i:Inn A (k+1)):ZO w B q A (k+1) (Fx G wr w') w' :=
 ⟨st,fun j g=>by
  rcases g with g | g
  ·exact h.lo j g
  ·omega,h.aD.trans (o.below h.aD.size fun j g=>cP hw (h.lo j g)),i⟩
variable {c:sH}
theorem WI (hk:A[k]? = some c) (h:c.1<=yN A k):¬ gdF A:=by
 cases k with
 | zero =>
   intro g
   have:=(g.2 c (di hk)).1.1;have h:c.1<=-1:=h
   omega
 | succ j =>
   have hl:=(cA.1 hk).1;have h1:A[j+1 - 1]? = some (A.getD j (0,0,[])):=by
    rw [Nat.add_sub_cancel,an,aw (by omega)]
    rfl
   exact aas (Nat.succ_pos j) hk h1 h
theorem Tj {n:Int} (h:¬ n<=yN A k):∀ c,0 < k->A[k - 1]? = some c->Fs.key c < n:=fun c h0 hc=>by
 obtain ⟨j,rfl⟩:∃ j,k=j+1:=⟨k - 1,by omega⟩;rw [Nat.add_sub_cancel] at hc;have:yN A (j+1)=c.1:=by
  show (A.getD j (0,0,[])).1=c.1
  rw [an,hc]
  rfl
 show c.1 < n
 omega
theorem MZ (hk:A[k]? = some c):yN A (k+1)=c.1:=by
 show (A.getD k (0,0,[])).1=c.1
 rw [an,hk]
 rfl
theorem Vf {L:List aB} (hk:k < L.length):(L.map aB.abs)[k]? = some (eD L k).abs:=by
 unfold eD;rw [cX,aw hk,an,aw hk]
 rfl
theorem BG (c:jO) (hf:Dw w (sl c.files) c.F B):Calls prog 25 #[.agg #[sl c.files,.int .i64 c.rate]] w (PlC w c.abs):=by
 show Calls _ _ _ w (PlC w (c.F.map aB.abs,c.rate))
 obtain ⟨cf,cr,cF⟩:=c;simp only at hf ⊢;obtain ⟨a,cap,es,hm⟩:=hf.rd.slice;rw [es] at hf ⊢;clear es;have B1:=Hh ((af w.heap.size w).alloc (am _) (.cells #[.slice a cF.length cap,.int .i64 cr] 75));have B2:=Hh (B1.alloc B1.size (.cells #[.pointer none,.bool false,.int .i64 0] 78));have Z2:Hid (((w.alloc (.cells #[.slice a cF.length cap,.int .i64 cr] 75)).alloc (.cells #[.pointer none,.bool false,.int .i64 0] 78)).heap.size=w.heap.size+2):=Hh (by simp);have X1:Hid (((w.alloc (.cells #[.slice a cF.length cap,.int .i64 cr] 75)).alloc (.cells #[.pointer none,.bool false,.int .i64 0] 78)).heap[w.heap.size]? = some (.cells #[.slice a cF.length cap,.int .i64 cr] 75 (0,0))):=Hh ((cD _ _ _ (by simp)).trans (bi w _))
 have X2:Hid (((w.alloc (.cells #[.slice a cF.length cap,.int .i64 cr] 75)).alloc (.cells #[.pointer none,.bool false,.int .i64 0] 78)).heap[w.heap.size+1]? = some (.cells #[.pointer none,.bool false,.int .i64 0] 78 (0,0))):=Hh (by
  have:=bi (w.alloc (.cells #[.slice a cF.length cap,.int .i64 cr] 75)) (.cells #[.pointer none,.bool false,.int .i64 0] 78);rw [show (w.alloc (.cells #[.slice a cF.length cap,.int .i64 cr] 75)).heap.size=w.heap.size+1 by simp] at this
  exact this)
 have BAD:Hid (¬ P6 (cF.map aB.abs,cr)->∀ W,Below w.heap.size w W->PlC w (cF.map aB.abs,cr) (.returned (.tuple #[.agg #[.pointer none,.bool false,.int .i64 0],.int .i64 2])) (Ws W (w.heap.size+1) (.pointer none) (.bool false) (.int .i64 0))):=Hh (fun h W b=>⟨b.trans ((rH W _ _ _ _).below b.size fun k e=>by omega),.inr ⟨h,rfl⟩⟩);have CAL:=Hh (fun W=>mq W cr);have HF:=Hh hf;clear hf
 cases hc:Vy cr with
 | false =>
   have NG:=Hh (BAD (fun g=>by
    have:=Cf.2 g.2;rw [show ((cF.map aB.abs,cr):Pl).2=cr from rfl,hc] at this
    cases this))
   rw [hc] at CAL;clear BAD HF hc;generalize ((cF.map aB.abs,cr):Pl)=pp at *;generalize cF.length=N at *
   go_enter func25,ntmps25
   go_wp2_with fail;refine (CAL _).mono ?_;rintro e w1 ⟨rfl,rfl⟩;generalize ((w.alloc (.cells #[.slice a N cap,.int .i64 cr] 75)).alloc (.cells #[.pointer none,.bool false,.int .i64 0] 78))=W at *;have E:=Hh (NG W B2);obtain ⟨z0,z1,z2⟩:=Dx X2;have f0:=aj X2 0;have f1:=aj X2 1;have f2:=aj X2 2;have R:=Hh (pX X2 (.pointer none) (.bool false) (.int .i64 0));clear NG CAL B1 B2 Z2 X1 X2;go_wp2
   (try simp only [Exit.inBlock,Exit.then])
   exact bs (lF (p:=2) (r:=3) rfl _ _ (w.heap.size+1) _ _ _ (.int .i64 2) rfl rfl R) rfl E
 | true =>
   have FI:=Hh (fun i (hi:i < cF.length)=>(HF.file i hi).1);have FO:=Hh (fun i (hi:i < cF.length)=>(HF.file i hi).2);obtain ⟨a',cap',e',_,_,h3⟩:=HF.rd;injection e' with e1 _ e3;subst e1 e3;have H3:=Hh h3;have CR:=Hh (Cf.1 hc);have AT:=Hh (fun k (hk:k < cF.length)=>Vf hk)
   have OKL:Hid (∀ e∈cF.map aB.abs,dF e.2.2):=Hh (fun e he=>by
    obtain ⟨i,hi⟩:=ef he;have hl:=(cA.1 hi).1;rw [cm] at hl;rw [Vf hl] at hi;injection hi with hi;rw [← hi]
    exact (HF.file i hl).2)
   rw [hc] at CAL;have AL:Hid ((cF.map aB.abs).length=cF.length):=Hh (cm _);clear h3 hc HF;unfold maxLen at hm;generalize hA:cF.map aB.abs=A at *;clear hA;generalize hN:cF.length=N at *;have HN:=Hh hN;clear hN
   go_enter func25,ntmps25
   go_wp2_with fail;refine (CAL _).mono ?_;rintro e w1 ⟨rfl,rfl⟩;generalize ((w.alloc (.cells #[.slice a N cap,.int .i64 cr] 75)).alloc (.cells #[.pointer none,.bool false,.int .i64 0] 78))=W at *;clear B1;have P0:=Hh (Ti W);have B3:=Hh (B2.alloc B2.size (.cells #[.map none,.int .i64 0] 150));have BN:=Hh ((af W.heap.size W).alloc (am _) (.cells #[.map none,.int .i64 0] 150));have X3:=Hh (bU BN X1);have X4:=Hh (bU BN X2);have Z3:Hid ((W.alloc (.cells #[.map none,.int .i64 0] 150)).heap.size=w.heap.size+3):=Hh (by have:=Z2.out;simp;omega);clear X1 X2 B2 BN
   go_upto_region 4 with (go_at_call 51;refine (nS _).mono ?_;rintro e w1 ⟨rfl,rfl⟩)
   generalize (W.alloc (.cells #[.map none,.int .i64 0] 150))=W2 at *;rw [Z2.out] at *;have Q0:Hid (ZO w (w.heap.size+2) (w.heap.size+2) A 0 (fun k=>k=w.heap.size+2) W2):=Hh ⟨P0,fun j e=>Nat.le_of_eq e.symm,B3,UX A⟩;have d0:=Fl.rc X3 0;clear P0 B3 CAL;go_wp2;clear d0
   go_loopw [17,5] (fun i la wr=>∃ (k:Nat) (G:Nat->Prop),k<=N/\i = .int .i64 k/\la = .int .i64 (yN A k)/\Hid (ZO w (w.heap.size+2) (w.heap.size+2) A k G wr)/\Hid (Below (w.heap.size+2) W2 wr)) (fun i _ _=>N - (intOf i).toNat)
   case atStart=>exact ⟨0,_,cx _,rfl,rfl,Q0,Hh (af _ _)⟩
   case round =>
    clear Q0;obtain ⟨k,G,hk,rfl,rfl,I,BW⟩:=hrel
    by_cases hlt:k < N
    ·have hkL:k < cF.length:=by have:=HN.out;omega
     have hc:cF[k]? = some (eD cF k):=by
      unfold eD;rw [aw hkL,an,aw hkL]
      rfl
     obtain ⟨b,off,rfl,hA⟩:=H3 (by omega);obtain ⟨x0,x1,x2⟩:=at3 (hA.below I.aD) hc;have HAA:=Hh hA;have RF:=Hh ((FI k hlt).below I.aD);have OF:=Hh (FO k hlt);have AK:Hid (A[k]? = some ((eD cF k).n,(eD cF k).p,(eD cF k).l)):=Hh (AT k hlt);clear hc hA;unfold aB.sl at x2 RF;generalize (eD cF k).a=ca at *;generalize (eD cF k).cap=ccap at *;generalize (eD cF k).p=cp at *;generalize (eD cF k).n=cn at *;generalize (eD cF k).l=cl at *;have Y0:=Hh (bi wr (.cells #[.int .i64 cn,.int .i64 cp,.slice ca cl.length ccap] 85));have BN:=Hh ((af wr.heap.size wr).alloc (am _) (.cells #[.int .i64 cn,.int .i64 cp,.slice ca cl.length ccap] 85));have GL:=Hh I.st.low;go_upto_region 7 with fail;clear x0 x1 x2;generalize wr.alloc (.cells #[.int .i64 cn,.int .i64 cp,.slice ca cl.length ccap] 85)=W at *;have I2:=Hh (I.below BN);have XW:=Hh ((BN.block _ (by have:=I.out.aD.size;have:=bp X4.out;have:=BW.out.size;omega)).trans ((BW.out.block (w.heap.size+1) (by omega)).trans X4.out));have BW2:=Hh (BW.trans (BN.mono (by have:=BW.out.size;have:=Z3.out;omega)));have RF2:=Hh (RF.below BN);have GX:Hid (¬ G wr.heap.size/\¬ G (w.heap.size+1)):=Hh ⟨fun g=>by have:=GL.out _ g;omega,fun g=>by have:=I.out.lo _ g;omega⟩;have LW:Hid (w.heap.size+2<=W.heap.size):=Hh (by have:=BW2.out.size;have:=Z3.out;omega);generalize wr.heap.size=gx at *;obtain ⟨y0,y1,y2⟩:=Dx Y0;clear I BW BN RF GL;generalize hla:yN A k=la at *;have HLA:=Hh hla;clear hla
     by_cases hle:cn<=la
     ·have E:=Hh (BAD (fun g=>WI AK (by rw [HLA.out];exact hle) g.1) W I2.out.aD)
      have q:decide (cn<=la)=true:=bj hle;have XR:=Hh XW;obtain ⟨z0,z1,z2⟩:=Dx XR;have f0:=aj XR 0;have f1:=aj XR 1;have f2:=aj XR 2;have R:=Hh (pX XR (.pointer none) (.bool false) (.int .i64 0));clear hle I2 BW2 RF2 BAD FI FO AT OKL OF AK;go_wp2
      (try simp only [Exit.inBlock,Exit.then])
      exact bs (lF (p:=2) (r:=3) rfl _ _ (w.heap.size+1) _ _ _ (.int .i64 2) rfl rfl R) rfl E
     ·have ADD:=Hh (MB I2.st cn cp (.slice ca cl.length ccap) cl RF2 OF)
      have ST:=Hh (Sv I2.inn AK (Tj (by rw [HLA.out];exact hle)));have NX:=Hh (MZ AK);have q:decide (cn<=la)=false:=bh hle;unfold ig file at ADD;generalize jq (A.take k) cn cp cl=ae at *;generalize oh (A.take k) cn cp cl=A' at *;generalize cl.length=cll at *;clear hle RF2 AK OF;go_wp2_with fail;refine ADD.mono ?_;rintro e w5 ⟨rfl,Ic,o5⟩;have ST5:=Hh Ic;have O5:=Hh o5;have YN:=Hh ((o5.block gx (bp Y0) GX.out.1).trans Y0);have XR:=Hh ((o5.block _ (bp XW) GX.out.2).trans XW);clear Ic o5 ADD y0 y1 y2 XW
      rcases ST.out with ⟨e0,e1,e2⟩ | ⟨e0,ng⟩
      ·have I5:=Hh (I2.step (by omega) LW.out (by rw [← e1];exact ST5.out) O5.out e2)
       have BW5:=Hh (BW2.trans (O5.below (B:=w.heap.size+2) LW I2.lo));subst e0;have y0:=Fl.rc YN 0;clear ST e1 e2 ST5 O5 YN XR I2 BW2;go_wp2
       go_roundw
       case rel=>exact ⟨k+1,_,by omega,by go_num,by rw [NX.out],I5,BW5⟩
       case measure=>simp [intOf];omega
      ·have E:=Hh (BAD (fun g=>ng g.1) w5 (I2.aD.trans (O5.below I2.aD.size fun j g=>by have:=I2.out.lo j g;omega)))
       have q1:(ae != 0)=true:=by simpa using e0
       obtain ⟨z0,z1,z2⟩:=Dx XR;have f0:=aj XR 0;have f1:=aj XR 1;have f2:=aj XR 2;have R:=Hh (pX XR (.pointer none) (.bool false) (.int .i64 0));clear ST ng ST5 O5 YN I2 BW2 BAD FI FO AT OKL e0;go_wp2
       (try simp only [Exit.inBlock,Exit.then])
       exact bs (lF (p:=2) (r:=3) rfl _ _ (w.heap.size+1) _ _ _ (.int .i64 2) rfl rfl R) rfl E
    ·obtain rfl:k=N:=by omega
     have GD:=Hh (YU (A:=A) (by have:=I.out.inn;rw [AL.out];exact this));have ST:=I.st;have XR:=Hh ((BW.block (w.heap.size+1) (by omega)).trans X4.out);have XP:=Hh ((BW.block w.heap.size (by omega)).trans X3.out);rw [← AL.out,df] at ST;have E:Hid (PlC w (A,cr) (.returned (.tuple #[.agg #[.pointer (some ⟨w.heap.size+2,0,none⟩),.bool true,.int .i64 cr],.int .i64 0])) (Ws wr (w.heap.size+1) (.pointer (some ⟨w.heap.size+2,0,none⟩)) (.bool true) (.int .i64 cr))):=Hh
      ⟨I.aD.trans ((rH wr _ _ _ _).below I.aD.size fun k e=>by omega),.inl ⟨⟨GD.out,CR.out⟩,w.heap.size+2,G,rfl,ST.only (G:=fun j=>j=w.heap.size+1) (fun j g e=>by have:=I.out.lo j g;omega) (rH wr _ _ _ _),fun j g=>by have:=I.out.lo j g;omega⟩⟩
     obtain ⟨z0,z1,z2⟩:=Dx XR;have p1:=Fl.rc XP 1;have f0:=aj XR 0;have f1:=aj XR 1;have f2:=aj XR 2;have R:=Hh (pX XR (.pointer (some ⟨w.heap.size+2,0,none⟩)) (.bool true) (.int .i64 cr));clear GD ST I BW BAD FI FO AT OKL XP;generalize yN A k=la at *;go_wp2
     (try simp only [Exit.inBlock,Exit.then])
     exact bs (lF (p:=2) (r:=3) rfl _ _ (w.heap.size+1) _ _ _ (.int .i64 0) rfl rfl R) rfl E
end Cu
namespace Re
attribute [local irreducible] wpQuiet
theorem rz (w:World) (v:Value) (l:List Int) (R:Rd KI w v l):Calls prog 119 #[v] w fun e w'=>e = .returned (.bool (seqB l))/\Below w.heap.size w w':=by
 have HNO:Hid (∀ k,k < l.length->¬ zD (fC l k)->false=seqB l):=Hh (fun k hk h=>Vk hk h);have HLO:Hid (¬ (0 < l.length/\l.length<=64)->false=seqB l):=Hh (fun h=>Gb h);have HYES:Hid (0 < l.length/\l.length<=64->(∀ i,i < l.length->zD (fC l i))->true=seqB l):=Hh (fun h g=>Kv h g);obtain ⟨a,cap,rfl,_,hm,hA⟩:=R;have HA:=Hh hA;unfold maxLen at hm;clear hA;generalize hn:l.length=n at *;have HN:=Hh hn;clear hn
 rcases (by omega:n=0\/64 < n\/(0 < n/\n<=64)) with h | h | h
 ·have E:=Hh (HLO (by omega))
  have h0:((n:Int) == 0)=true:=by rw [h];rfl
  clear HNO HLO HYES HA HN h
  go_enter func119,ntmps119
  go_wp2
  go_ret
  exact ⟨ak E,af _ _⟩
 ·have E:=Hh (HLO (by omega))
  have h0:((n:Int) == 0)=false:=by simp;omega
  clear HNO HLO HYES HA HN
  go_enter func119,ntmps119
  go_wp2
  go_ret
  exact ⟨ak E,af _ _⟩
 ·have h0:((n:Int) == 0)=false:=by simp;omega
  have h64:n<=64:=h.2;have HY:=Hh (HYES h);clear HLO HYES h
  go_enter func119,ntmps119
  go_wp2
  go_loopw [15] (fun i wr=>∃ k:Nat,k<=n/\i = .int .i64 k/\Hid (Below w.heap.size w wr)/\Hid (∀ i,i < k->zD (fC l i))) (fun i _=>n - (intOf i).toNat)
  case atStart=>exact ⟨0,cx _,rfl,Hh (af _ _),Hh (fun i hi=>by omega)⟩
  case round =>
   obtain ⟨k,hk,rfl,bw,hs⟩:=hrel
   by_cases hlt:k < n
   ·obtain ⟨b,off,rfl,A⟩:=HA (by omega)
    have c0:=tH (A.below bw) k (by have:=HN.out;omega);have P1:=Hh (HNO k hlt)
    have P3:Hid (zD (fC l k)->∀ i,i < k+1->zD (fC l i)):=Hh (fun g i hi=>by
     by_cases e:i=k
     ·rw [e];exact g
     ·exact hs i (by omega))
    have HAA:=Hh A;clear A;unfold zD at P1 P3;generalize fC l k=x at *
    rcases (by omega:x < 0\/(0<=x/\6<=x)\/(0<=x/\x<=5)) with h | ⟨h,h2⟩ | ⟨h,h2⟩
    ·have E:=Hh (P1 (by omega))
     clear P1 P3;go_wp2
     go_ret
     exact ⟨ak E,bw⟩
    ·have E:=Hh (P1 (by omega))
     clear P1 P3;go_wp2
     go_ret
     exact ⟨ak E,bw⟩
    ·have ST:=Hh (P3 ⟨h,h2⟩)
     clear P1 P3;go_wp2
     go_roundw
     case rel=>exact ⟨k+1,by omega,by go_num,bw,ST⟩
     case measure=>simp [intOf];omega
   ·obtain rfl:k=n:=by omega
    have E:=Hh (HY (fun i hi=>hs i hi));go_wp2
    go_ret
    exact ⟨ak E,bw⟩
theorem Ec (w:World) (v:Value) (l:List Int) (R:Rd KI w v l):Calls prog 56 #[v] w fun e w'=>e = .returned (.bool (seqB l))/\Below w.heap.size w w':=by
 have HNO:Hid (∀ k,k < l.length->¬ zD (fC l k)->false=seqB l):=Hh (fun k hk h=>Vk hk h);have HLO:Hid (¬ (0 < l.length/\l.length<=64)->false=seqB l):=Hh (fun h=>Gb h);have HYES:Hid (0 < l.length/\l.length<=64->(∀ i,i < l.length->zD (fC l i))->true=seqB l):=Hh (fun h g=>Kv h g);obtain ⟨a,cap,rfl,_,hm,hA⟩:=R;have HA:=Hh hA;unfold maxLen at hm;clear hA;generalize hn:l.length=n at *;have HN:=Hh hn;clear hn
 go_enter func56,ntmps56
 go_wp2
 go_loopw [3] (fun i wr=>∃ k:Nat,k<=n/\i = .int .i64 k/\Hid (Below w.heap.size w wr)/\Hid (∀ i,i < k->zD (fC l i))) (fun i _=>n - (intOf i).toNat)
 case atStart=>exact ⟨0,cx _,rfl,Hh (af _ _),Hh (fun i hi=>by omega)⟩
 case round =>
  obtain ⟨k,hk,rfl,bw,hs⟩:=hrel
  by_cases hlt:k < n
  ·obtain ⟨b,off,rfl,A⟩:=HA (by omega)
   have c0:=tH (A.below bw) k (by have:=HN.out;omega);have P1:=Hh (HNO k hlt)
   have P3:Hid (zD (fC l k)->∀ i,i < k+1->zD (fC l i)):=Hh (fun g i hi=>by
    by_cases e:i=k
    ·rw [e];exact g
    ·exact hs i (by omega))
   have HAA:=Hh A;clear A;unfold zD at P1 P3;generalize fC l k=x at *
   rcases (by omega:x < 0\/(0<=x/\6<=x)\/(0<=x/\x<=5)) with h | ⟨h,h2⟩ | ⟨h,h2⟩
   ·have E:=Hh (P1 (by omega))
    clear P1 P3;go_wp2
    go_ret
    exact ⟨ak E,bw⟩
   ·have E:=Hh (P1 (by omega))
    clear P1 P3;go_wp2
    go_ret
    exact ⟨ak E,bw⟩
   ·have ST:=Hh (P3 ⟨h,h2⟩)
    clear P1 P3;go_wp2
    go_roundw
    case rel=>exact ⟨k+1,by omega,by go_num,bw,ST⟩
    case measure=>simp [intOf];omega
  ·obtain rfl:k=n:=by omega
   rcases (by omega:k=0\/64 < k\/(0 < k/\k<=64)) with h | h | h
   ·have E:=Hh (HLO (by omega))
    have h0:¬ ((0:Int) < (k:Int)):=by omega
    clear HNO HLO HYES;go_wp2
    go_ret
    exact ⟨ak E,bw⟩
   ·have E:=Hh (HLO (by omega))
    have h0:(0:Int) < (k:Int):=by omega
    have h1:¬ ((k:Int) < 65):=by omega
    clear HNO HLO HYES;go_wp2
    go_ret
    exact ⟨ak (by simpa [h1] using E.out),bw.out⟩
   ·have E:=Hh (HYES h (fun i hi=>hs i hi))
    have h0:(0:Int) < (k:Int):=by omega
    have h1:(k:Int) < 65:=by omega
    clear HNO HLO HYES;go_wp2
    go_ret
    exact ⟨ak (by simpa [h1] using E.out),bw.out⟩
theorem xX (w:World) (v:Value) (l:List Int) (t:Int) (R:Rd KI w v l):Calls prog 89 #[v,.int .i64 t] w (j4 w l t):=by
 have R0:=Hh R;have IS:=Hh (fun w v R=>rz w v l R)
 by_cases hs:fU l
 ·have hb:seqB l=true:=bj hs
  rw [hb] at IS;have HS:=Hh hs;have hl:=hs.1;clear hb hs
  by_cases ht:0<=t/\t < l.length
  ·obtain ⟨k,rfl⟩:∃ k:Nat,t=k:=⟨t.toNat,by omega⟩
   have hk:k < l.length:=by omega
   have NP:JO l k:=⟨HS,ht.1,ht.2⟩;have EL:=Hh (fun h w' hb=>PD (w:=w) (w':=w') NP h hb);have EM:=Hh (fun h w' hb=>OJ (w:=w) (w':=w') NP h hb);obtain ⟨a,cap,rfl,_,hm,hA⟩:=R;obtain ⟨b,off,rfl,hA2⟩:=hA (by omega);have c0:=tH hA2 k hk;clear hA hA2 NP HS ht;generalize fC l k=x at *;generalize hn:l.length=n at *;have W0:IntKind.i64.wrap ((n:Int) - 1)=(n:Int) - 1:=cH _ (by omega);have W1:IntKind.i64.wrap ((k:Int)+1)=(k:Int)+1:=cH _ (by omega);clear hn hm
   by_cases h1:k+1=n
   ·have E:=Hh (EL h1)
    have t0:¬ ((k:Int) < 0):=by omega
    have t1:¬ ((n:Int) - 1 < k):=by omega
    have t2:¬ ((k:Int) < (n:Int) - 1):=by omega
    have H1:=Hh h1;clear EL EM h1
    go_enter func89,ntmps89
    go_wp2_with fail;refine (IS _ _ R0).mono ?_;rintro e w1 ⟨rfl,b1⟩;have d0:=d9 b1 c0;have E1:=Hh (E _ b1);clear b1;go_wp2
    go_ret3
    exact E1
   ·have E:=Hh (EM h1)
    have t0:¬ ((k:Int) < 0):=by omega
    have t1:¬ ((n:Int) - 1 < k):=by omega
    have t2:(k:Int) < (n:Int) - 1:=by omega
    have H1:=Hh h1;clear EL EM h1
    go_enter func89,ntmps89
    go_wp2_with fail;refine (IS _ _ R0).mono ?_;rintro e w1 ⟨rfl,b1⟩;have d0:=d9 b1 c0;have E1:=Hh (E _ b1);clear b1;go_wp2
    go_ret3
    exact E1
  ·have NP:¬ JO l t:=fun h=>ht h.2
   have E:=Hh (fun w' hb=>MI (w:=w) NP w' hb);obtain ⟨a,cap,rfl,_,hm,hA⟩:=R;clear hA HS NP;generalize hn:l.length=n at *;have W0:IntKind.i64.wrap ((n:Int) - 1)=(n:Int) - 1:=cH _ (by omega);clear hn hm
   rcases (by omega:t < 0\/(0<=t/\(n:Int) - 1 < t)) with h | ⟨h,h2⟩
   all_goals
    clear ht
    go_enter func89,ntmps89
    go_wp2_with fail;refine (IS _ _ R0).mono ?_;rintro e w1 ⟨rfl,b1⟩;have E1:=Hh (E _ b1);clear b1;go_wp2
    go_ret3
    exact E1
 ·have hb:seqB l=false:=bh hs
  rw [hb] at IS;have NP:¬ JO l t:=fun h=>hs h.1;have E:=Hh (fun w' hb=>MI (w:=w) NP w' hb);obtain ⟨a,cap,rfl,_,hm,hA⟩:=R;clear hA hs NP hb;unfold maxLen at hm;generalize l.length=n at *;have W0:IntKind.i64.wrap ((n:Int) - 1)=(n:Int) - 1:=cH _ (by omega)
  go_enter func89,ntmps89
  go_wp2_with fail;refine (IS _ _ R0).mono ?_;rintro e w1 ⟨rfl,b1⟩;have E1:=Hh (E _ b1);clear b1;go_wp2
  go_ret3
  exact E1
attribute [local irreducible] Sd.aU Sz.lU
theorem YD {α:Type} {Kd:Rw.Kind α} {P:Program} {K:Act->World->Prop} {w:World} {E:TypeId} {o:Oper} {a:Act} {Q:Exit->Act->World->Prop} {T:TypeId} {z:Value} {bytes:Nat} (ht:P.underlying T=some (.slice E))
 (hi:(P.info? E).map (fun i=>(i.zero,i.size,i.bytes))=some (some z,Kd.n,bytes)) (hz:z.cells.size=Kd.n) (hby:bytes<=64) (s x:Operand)
 (ho:o.op = .call { callee:=.builtin .append,args:=#[s,x],argTypes:=#[T,T] }) (B:Nat) (v:Value) (l:List α) (hs:a.eval s=v) (hown:Ow Kd w B E v l)
 (ad:Addr) (c:α) (hx:a.eval x = .slice (some ad) 1 1) (hc:∀ j u,(Kd.enc c)[j]? = some u->w.cell? (ad.add j)=some u) (hlen:l.length < 2199023255552) (hB:B<=w.heap.size)
 (h:∀ v' w',Ow Kd w' B E v' (l ++ [c])->Below B w w'->Rw.Far E w w'->K (a.put o.dst v') w'):o.wp P a w K Q:=by
 obtain ⟨i0,hi0,hz0,hz1,hz2⟩:=gg hi;have hb:(l.length+1) * bytes<=140737488355328:=cP (ix (show l.length+1<=2199023255552 by omega) hby) (by omega);refine wp_append_own _ s x T ho B E i0 z Kd.n bytes ht hi0 hz0 hz1 hz2 hz Kd.pos v l.length (Kd.flat l) hs hown ad 1 1 (Kd.enc c) hx (by rw [Kd.len,Nat.one_mul]) hc (Kd.one c) (by unfold maxLen;omega) hb hB ?_
 intro v' w' h2 h3 _
 exact h v' w' (Rw.Ow.push h2) ((af B w).grown h3 hB fun k hk=>(cJ hown k hk).1) (Rw.A7 hown h3)
structure Wk (w:World) (m:List R4) (gF:Nat) (v:Value) (wr:World):Prop where
 row:wr.heap[gF]? = some (.cells #[.int .i64 3,v] 83 (0,0))
 res:wr.heap[w.heap.size]? = some (.cells #[.int .i64 0,.slice none 0 0] 83 (0,0))
 own:Ow K4 wr (w.heap.size+1) 36 v m
 aD:Below w.heap.size w wr
 lt:w.heap.size < gF
def GC (gF:Nat) (v:Value) (ad:Addr) (x:Int) (W:World):Prop:=W.heap[gF]? = some (.cells #[.int .i64 3,v] 83 (0,0))/\W.cell? ad=some (.int .i64 x)
theorem mZ (w:World) (v:Value) (l:List Int) (R:Rd KI w v l):Calls prog 27 #[v] w (dL w l):=by
 have B0:=Hh ((af w.heap.size w).alloc (am _) (.cells #[.int .i64 0,.slice none 0 0] 83));have R0:=Hh (R.below B0)
 by_cases hm:fU l
 ·have GA:=Hh (aI (show seqB l=true from bj hm) (Ec _ v l R0))
  have HE:=Hh (fun u w'=>oZ (w:=w) hm u w');have hl:=hm.1.2;have OK:=Hh hm.2;clear hm R0;obtain ⟨a,cap0,rfl,_,hm,hA⟩:=R;have HA:=Hh hA;unfold maxLen at hm;clear hA;have HF:Hid (bE l=hdr 3 (l.length:Int) :: l.map gI):=Hh rfl;have PS:=Hh (fun h k=>Te (k:=k) (l:=l) h);have PE:Hid (∀ h:R4,(h :: (l.take l.length).map gI)=h :: l.map gI):=Hh (fun h=>by rw [df]);have PL:Hid (∀ (h:R4) k,k<=l.length->(h :: (l.take k).map gI).length=k+1):=Hh (fun h k hk=>by simp [List.length_take];omega);have HH:=Hh (fun w=>yZ w 3 (l.length:Int) (by omega) (by omega) (by omega) (by omega));unfold aG at HH;generalize hdr 3 (l.length:Int)=h at *;generalize hn:l.length=n at *;have HN:=Hh hn;clear hn
  go_enter func27,ntmps27
  go_wp2_with fail;refine GA.mono ?_;rintro e w0 ⟨rfl,b1⟩;have z0:w.heap.size+1<=w0.heap.size:=by have:=b1.size;simp at this;omega
  have B1:=aN B0 b1;have S1:=Hh ((b1.block _ (by simp)).trans (bi w _));clear b1 GA B0;go_wp2_with fail;refine (HH _).mono ?_;rintro e w1 ⟨rfl,b1⟩;have z1:w.heap.size < w1.heap.size:=by have:=b1.size;omega
  have B2:=aN B1 b1;have r0:=(b1.block _ (by omega)).trans S1.out;have hz:(w1.alloc (.cells #[.int .u8 h.1,.int .u8 h.2.1,.int .u8 h.2.2.1,.int .u8 h.2.2.2] 36)).heap.size=w1.heap.size+1:=by simp
  have N0:Hid (Wk w [h] (w1.heap.size+1) (.slice (some ⟨w1.heap.size,0,none⟩) 1 1) ((w1.alloc (.cells #[.int .u8 h.1,.int .u8 h.2.1,.int .u8 h.2.2.1,.int .u8 h.2.2.2] 36)).alloc (.cells #[.int .i64 3,.slice (some ⟨w1.heap.size,0,none⟩) 1 1] 83))):=by
   refine Hh ⟨?_,?_,(Rw.Ow.lit (K:=K4) w1 (w.heap.size+1) 36 [h] (by omega) (by unfold maxLen;simp)).alloc _,(B2.out.alloc (by omega) _).alloc (by rw [hz];omega) _,by omega⟩
   ·have:=bi (w1.alloc (.cells #[.int .u8 h.1,.int .u8 h.2.1,.int .u8 h.2.2.1,.int .u8 h.2.2.2] 36)) (.cells #[.int .i64 3,.slice (some ⟨w1.heap.size,0,none⟩) 1 1] 83)
    rw [hz] at this;exact this
   ·exact (cD _ _ _ (by rw [hz];omega)).trans ((cD _ _ _ z1).trans r0)
  clear b1 r0 HH hz S1 B1;go_wp2;generalize (w1.alloc (.cells #[.int .u8 h.1,.int .u8 h.2.1,.int .u8 h.2.2.1,.int .u8 h.2.2.2] 36)).alloc (.cells #[.int .i64 3,.slice (some ⟨w1.heap.size,0,none⟩) 1 1] 83)=W at *;generalize w1.heap.size+1=g at *;generalize Value.slice (some ⟨w1.heap.size,0,none⟩) 1 1=v0 at *
  go_loopw [5] (fun i wr=>∃ (k:Nat) (v:Value),k<=n/\i = .int .i64 k/\Hid (Wk w (h :: (l.take k).map gI) g v wr)) (fun i _=>n - (intOf i).toNat)
  case atStart=>exact ⟨0,v0,cx _,rfl,N0⟩
  case round =>
   obtain ⟨k,v,hk,rfl,RR⟩:=hrel;obtain ⟨av,cv,ev,_,_⟩:=RR.own.slice;rw [PL.out h k hk] at ev;generalize k+1=L at ev;subst ev;have glt:=RR.lt
   by_cases hlt:k < n
   ·obtain ⟨b,off,rfl,A⟩:=HA (by omega)
    have cw:=tH A k (by rw [HN.out];exact hlt);have bw:=cd _ _ cw;have CW:=Hh cw;have ok:=OK.out k hlt;have PK:=Hh (PS h k hlt);have PLK:=Hh (PL h k hk);have AA:=Hh A;clear A cw;unfold zD at ok;generalize fC l k=x at *;have W2:IntKind.u8.wrap x=x:=by rw [IntKind.wrap];simp [IntKind.signed,IntKind.bits];omega
    go_upto_region 7 with fail;have C0:GC g (.slice av L cv) ⟨b,off+k,none⟩ x wr.drew:=⟨RR.row,(RR.aD.cell bw).trans CW⟩;have c0:=Sc.ay (C:=GC g (.slice av L cv) ⟨b,off+k,none⟩ x) (a:=⟨b,off+k,none⟩) (fun W' h=>h.2);have c1:=Sc.ay (C:=GC g (.slice av L cv) ⟨b,off+k,none⟩ x) (a:=⟨g,1,none⟩) (fun W' h=>ah h.1 1);have ne:Nonempty (Sc.In (GC g (.slice av L cv) ⟨b,off+k,none⟩ x)):=⟨⟨_,C0⟩⟩;have GG:Hid (Wk w (h :: (l.take k).map gI) g (.slice av L cv) wr.drew):=Hh ⟨RR.row,RR.res,RR.own,RR.aD.drew,RR.lt⟩;clear RR;refine Sz.start (GC g (.slice av L cv) ⟨b,off+k,none⟩ x) [(false,0),(false,1),(false,2),(false,3),(false,4),(false,5),(false,6),(false,7),(true,8),(true,9),(false,10)] 11 (by kernel_rfl) (by kernel_rfl) (by kernel_rfl) rfl rfl C0 ?_;dsimp only [Sd.aK,List.getElem?_cons_succ,List.getElem?_cons_zero]
    repeat (refine Sz.lit ?_;quiet_step (fail);refine br ?_)
    have C1:=Hh C0;clear C0 c0 c1;generalize wr.drew=w4 at *;refine Sz.call (by rfl) (fun K hK=>?_);go_simp;have zB:=GG.aD.size;have ba:=cD w4 (.cells #[.int .u8 x,.int .u8 0,.int .u8 0,.int .u8 0] 36);have C5:GC g (.slice av L cv) ⟨b,off+k,none⟩ x (w4.alloc (.cells #[.int .u8 x,.int .u8 0,.int .u8 0,.int .u8 0] 36)):=⟨(ba g (bp C1.out.1)).trans C1.out.1,(((af w4.heap.size w4).alloc (am _) _).cell (cd _ _ C1.out.2)).trans C1.out.2⟩;have B5:=Hh (GG.aD.alloc zB (.cells #[.int .u8 x,.int .u8 0,.int .u8 0,.int .u8 0] 36));have O5:=Hh (GG.own.alloc (.cells #[.int .u8 x,.int .u8 0,.int .u8 0,.int .u8 0] 36));have S5:=Hh ((ba w.heap.size (bp GG.res)).trans GG.res);have Y5:=Hh (bi w4 (.cells #[.int .u8 x,.int .u8 0,.int .u8 0,.int .u8 0] 36));have hz5:Hid (w.heap.size+1<=(w4.alloc (.cells #[.int .u8 x,.int .u8 0,.int .u8 0,.int .u8 0] 36)).heap.size):=Hh (by simp;omega);refine hK _ _ (Sc.Cl.of C5) ?_;have C5':=Hh C5;clear hK K ba C5 C1 GG;generalize (w4.alloc (.cells #[.int .u8 x,.int .u8 0,.int .u8 0,.int .u8 0] 36))=w5 at *;generalize w4.heap.size=g4 at *;refine Sz.call (by rfl) (fun K hK=>?_);refine YD (Kd:=K4) underlying81 GJ rfl (by omega) _ _ rfl (w.heap.size+1) _ _ rfl O5.out ⟨g4,0,none⟩ (gI x) rfl ?a1 ?a2 hz5.out ?_
    case a1 =>
     intro j u hu
     have c:=ah Y5 j
     match j,hu with
     | 0,hu=>simp [K4,gI] at hu;subst hu;exact c
     | 1,hu=>simp [K4,gI] at hu;subst hu;exact c
     | 2,hu=>simp [K4,gI] at hu;subst hu;exact c
     | 3,hu=>simp [K4,gI] at hu;subst hu;exact c
     | j+4,hu=>simp [K4] at hu
    case a2=>rw [PLK.out];omega
    intro v6 w6 o6 b6 f6
    rw [PK.out] at o6;have rr:=f6 g _ _ C5'.out.1 (by decide);have rs:=f6 w.heap.size _ _ S5 (by decide);have C6:GC g (.slice av L cv) ⟨b,off+k,none⟩ x w6:=⟨rr,((B5.trans (b6.mono (Nat.le_succ _))).cell bw).trans CW⟩;obtain ⟨v6a,v6c,n6,rfl⟩:∃ a c n,v6 = .slice a n c:=by obtain ⟨a,c,e,_⟩:=o6.slice;exact ⟨a,c,_,e⟩
    have N6:Hid (Wk w (h :: (l.take (k+1)).map gI) g (.slice v6a n6 v6c) (w6.setCell ⟨g,1,none⟩ (.slice v6a n6 v6c))):=by
     refine Hh ⟨Rw.heap_setCell_same rr _,(cj w6 ⟨g,1,none⟩ _ w.heap.size (show w.heap.size≠g by omega)).trans rs,o6.far (p:=⟨g,1,none⟩) rr (by decide) _,?_,glt⟩;exact (B5.trans (b6.mono (Nat.le_succ _))).setCell (by simp;omega) _
    have c6:=Fl.rc rr 1;have e6:=aj rr 1;refine hK _ _ (Sc.Cl.of C6) ?_;have c1:=Sc.ay (C:=GC g (.slice av L cv) ⟨b,off+k,none⟩ x) (a:=⟨g,1,none⟩) (fun W' h=>ah h.1 1);clear hK K rr rs b6 f6 o6 B5 O5 S5 Y5 C5' hz5 C6
    repeat (refine Sz.lit ?_;quiet_step (fail);refine br ?_)
    refine Sz.done ?_;clear c1;go_simp;clear c6 e6;generalize (w6.setCell ⟨g,1,none⟩ (.slice v6a n6 v6c))=w8 at *;refine NoPanic.normal ?_;go_wp2
    go_roundw
    case rel=>exact ⟨k+1,_,by omega,by go_num,N6⟩
    case measure=>simp [intOf];omega
   ·obtain rfl:k=n:=by omega
    have PEK:=Hh (PE h);clear PE PL PS OK;have O5:=Hh (show Ow K4 wr (w.heap.size+1) 36 (.slice av L cv) (bE l) by rw [HF.out,← PEK.out];exact RR.out.own);obtain ⟨d0,d1⟩:=BO RR.row;obtain ⟨r0,r1,s0,s1⟩:=Bw RR.res;have hne:(Value.slice av L cv).ownBlock≠some w.heap.size:=O5.range (.inl (by omega));have RV:=Hh (aY RR.res 3 (.slice av L cv));have O6:=Hh (dW (u:=.slice av L cv) O5 hne 3);have B6:=Hh (aM (p:=3) (v:=.slice av L cv) RR.aD (am _));clear RR O5 hne PEK;go_wp2
    (try simp only [Exit.inBlock,Exit.then])
    exact bs (v:=.tuple #[file 3 _,.int .i64 0]) (dh (p:=2) (r:=3) rfl _ _ w.heap.size 3 _ 0 rfl rfl RV) rfl (HE _ _ O6.rd B6)
 ·have GA:=Hh (aI (show seqB l=false from bh hm) (Ec _ v l R0))
  have E:=Hh (tX (w:=w) hm);clear hm;obtain ⟨a,cap,rfl,_,hm,_⟩:=R;clear R0;generalize l.length=n at *
  go_enter func27,ntmps27
  go_wp2_with fail;refine GA.mono ?_;rintro e w1 ⟨rfl,b1⟩;have z1:w.heap.size < w1.heap.size:=by have:=b1.size;simp at this;omega
  have B1:=aN B0 b1;have r0:=(b1.block _ (by simp)).trans (bi w _);obtain ⟨c0,c1,f0,f1⟩:=Bw r0;have RR:=Hh (aY r0 0 (.slice none 0 0));clear b1 B0 r0 GA;go_wp2
  (try simp only [Exit.inBlock,Exit.then])
  exact bs (v:=.tuple #[file 0 (.slice none 0 0),.int .i64 1]) (dh (p:=2) (r:=3) rfl _ _ w.heap.size 0 _ 1 rfl rfl RR) rfl (E _ (aM B1 (am _)))
end Re
namespace Re
structure xN (w:World) (h:R4) (l:List Int) (g gF N cap k:Nat) (wr:World):Prop where
 row:wr.heap[gF]? = some (.cells #[.int .i64 3,.slice (some ⟨g,0,none⟩) N cap] 83 (0,0))
 res:wr.heap[w.heap.size]? = some (.cells #[.int .i64 0,.slice none 0 0] 83 (0,0))
 own:Ow K4 wr (w.heap.size+1) 36 (.slice (some ⟨g,0,none⟩) N cap) (part h l k)
 aD:Below w.heap.size w wr
theorem wL (w:World) (v:Value) (l:List Int) (R:Rd KI w v l):Calls prog 109 #[v] w (dL w l):=by
 have B0:=Hh ((af w.heap.size w).alloc (am _) (.cells #[.int .i64 0,.slice none 0 0] 83));have R0:=Hh (R.below B0)
 by_cases hm:fU l
 ·have GA:=Hh (aI (show seqB l=true from bj hm) (rz _ v l R0))
  have HE:=Hh (fun u w'=>oZ (w:=w) hm u w');have hl:=hm.1.2;have OK:=Hh hm.2;clear hm R0;obtain ⟨a,cap0,rfl,_,hm,hA⟩:=R;have HA:=Hh hA;unfold maxLen at hm;clear hA;have HF:Hid (bE l=hdr 3 (l.length:Int) :: l.map gI):=Hh rfl;have PS:=Hh (fun h k=>yD (k:=k) h (l:=l));have PE:=Hh (fun h=>wO h l);have PL:=Hh (fun h k=>zi h l k);have NL:Hid (newL 3 (l.length:Int)=part (hdr 3 (l.length:Int)) l 0):=Hh (by rw [nZ];rfl);have NO:=Hh (fun w=>vG w 3 (l.length:Int) ⟨by omega,by omega,by omega,by omega⟩);unfold rU at NO;rw [NL.out] at NO;clear NL;generalize hdr 3 (l.length:Int)=h at *;generalize hn:l.length=n at *;have HN:=Hh hn;clear hn;unfold file at NO
  go_enter func109,ntmps109
  go_wp2_with fail;refine GA.mono ?_;rintro e w1 ⟨rfl,b1⟩;have z1:w.heap.size+1<=w1.heap.size:=by have:=b1.size;simp at this;omega
  have B1:=aN B0 b1;have r1:=(b1.block _ (by simp)).trans (bi w _);have S1:=Hh r1;clear b1 GA B0 r1;go_wp2_with fail;refine (NO _).mono ?_;rintro e w2 ⟨u,rfl,o2,b2⟩;obtain ⟨g,cap,rfl,hg1,hg2,hcc,hcm,_,_⟩:=o2.form (by rw [PL.out _ _ (cx _)];omega);rw [PL.out _ _ (cx _)] at o2 hcc ⊢;have hz:∀ o,(w2.alloc o).heap.size=w2.heap.size+1:=fun o=>by simp
  have F0:Hid (xN w h l g w2.heap.size (n+1) cap 0 (w2.alloc (.cells #[.int .i64 3,.slice (some ⟨g,0,none⟩) (n+1) cap] 83))):=Hh
   ⟨bi w2 _,(cD _ _ _ (by have:=b2.size;omega)).trans ((b2.block _ (by omega)).trans S1.out),(o2.alloc _).low (by omega),(B1.out.trans (b2.mono (by omega))).alloc (by have:=b2.size;omega) _⟩
  have hgF:w.heap.size < w2.heap.size:=by have:=b2.size;omega
  have hg0:w.heap.size < g:=by omega
  clear b2 o2 S1 B1 NO hz;go_wp2;generalize w2.alloc (.cells #[.int .i64 3,.slice (some ⟨g,0,none⟩) (n+1) cap] 83)=W at *;generalize w2.heap.size=gF at *;generalize hN2:n+1=N at *;have HN2:=Hh hN2;clear hN2
  go_loopw [20] (fun i wr=>∃ k:Nat,k<=n/\i = .int .i64 k/\Hid (xN w h l g gF N cap k wr)) (fun i _=>n - (intOf i).toNat)
  case atStart=>exact ⟨0,cx _,rfl,F0⟩
  case round =>
   obtain ⟨k,hk,rfl,RR⟩:=hrel
   by_cases hlt:k < n
   ·obtain ⟨b,off,rfl,A⟩:=HA (by omega)
    have c0:=tH (A.below RR.aD) k (by rw [HN.out];exact hlt);have PK:=Hh (PS h k hlt);have PLK:=Hh (PL h k hk);have ok:=OK.out k hlt;have AA:=Hh A;clear A;unfold zD at ok;generalize fC l k=x at *;have W2:IntKind.u8.wrap x=x:=by rw [IntKind.wrap];simp [IntKind.signed,IntKind.bits];omega
    obtain ⟨K1,hK1⟩:∃ K1,K1=k+1:=⟨_,rfl⟩;have W1:IntKind.i64.wrap (1+(k:Int))=(K1:Int):=by rw [cH _ (by omega)];omega
    have hkN:K1 < N:=by have:=HN2.out;omega
    obtain ⟨g',cap',eg,_,_,_,_,hfr,hat⟩:=RR.own.form (by rw [PLK.out];omega);have eg':g'=g:=by
     injection eg with e1;injection e1 with e1;injection e1 with e1 _ _;exact e1.symm
    subst eg';have hKL:K1 < (part h l k).length:=by rw [PLK.out];have:=HN2.out;omega
    have eK:K1=1+k:=by omega
    have O5:=Hh (fG (i:=K1) RR.own (by rw [PLK.out]) hKL (gI x));rw [show (part h l k).set K1 (gI x)=part h l (k+1) by rw [eK];exact PK.out] at O5;clear eK;have HK:=Hh hK1;clear hK1;obtain ⟨d0,d1,d2,d3⟩:=at4 hat K1 hKL;rw [fd] at d0 d1 d2 d3;have f0:=hfr (K1 * 4);have f1:=hfr (K1 * 4+1);have f2:=hfr (K1 * 4+2);have f3:=hfr (K1 * 4+3);have k1:=Fl.rc RR.row 1;have hne:gF≠g':=fun e=>by
     have:=RR.own.apart RR.row (by decide);exact this (by simp [Value.ownBlock,e])
    have fF:=aH (g:=g') (o:=K1 * 4) (r:=gI x) RR.row hne;have r5:=aH (g:=g') (o:=K1 * 4) (r:=gI x) RR.res (by omega);have B5:=Hh (aJ (o:=K1 * 4) (r:=gI x) RR.aD (show w.heap.size<=g' by omega));have N5:Hid (xN w h l g' gF N cap (k+1) (bf wr g' (K1 * 4) (gI x))):=Hh ⟨fF,r5,O5,B5⟩;clear hfr hat eg O5 B5 fF r5 RR hne;unfold bf gI at N5;go_wp2
    go_roundw
    case rel=>exact ⟨k+1,by omega,by go_num,N5⟩
    case measure=>simp [intOf];omega
   ·obtain rfl:k=n:=by omega
    have PK:=Hh (PE h);have PLK:=Hh (PL h k (am _));clear PS PE PL OK;have O5:=Hh (show Ow K4 wr (w.heap.size+1) 36 (.slice (some ⟨g,0,none⟩) N cap) (bE l) by rw [HF.out,← PK.out];exact RR.out.own);obtain ⟨d0,d1⟩:=BO RR.row;obtain ⟨e0,e1,f0,f1⟩:=Bw RR.res;have hne:(Value.slice (some ⟨g,0,none⟩) N cap).ownBlock≠some w.heap.size:=O5.range (.inl (by omega));have RV:=Hh (aY RR.res 3 (.slice (some ⟨g,0,none⟩) N cap));have O6:=Hh (dW (u:=.slice (some ⟨g,0,none⟩) N cap) O5 hne 3);have B6:=Hh (aM (p:=3) (v:=.slice (some ⟨g,0,none⟩) N cap) RR.aD (am _));clear RR O5 hne PK PLK;go_wp2
    (try simp only [Exit.inBlock,Exit.then])
    exact bs (v:=.tuple #[file 3 _,.int .i64 0]) (dh (p:=2) (r:=3) rfl _ _ w.heap.size 3 _ 0 rfl rfl RV) rfl (HE _ _ O6.rd B6)
 ·have GA:=Hh (aI (show seqB l=false from bh hm) (rz _ v l R0))
  have E:=Hh (tX (w:=w) hm);clear hm;obtain ⟨a,cap,rfl,_,hm,_⟩:=R;clear R0;generalize l.length=n at *
  go_enter func109,ntmps109
  go_wp2_with fail;refine GA.mono ?_;rintro e w1 ⟨rfl,b1⟩;have z1:w.heap.size < w1.heap.size:=by have:=b1.size;simp at this;omega
  have B1:=aN B0 b1;have r0:=(b1.block _ (by simp)).trans (bi w _);obtain ⟨c0,c1,f0,f1⟩:=Bw r0;have RR:=Hh (aY r0 0 (.slice none 0 0));clear b1 B0 r0 GA;go_wp2
  (try simp only [Exit.inBlock,Exit.then])
  exact bs (v:=.tuple #[file 0 (.slice none 0 0),.int .i64 1]) (dh (p:=2) (r:=3) rfl _ _ w.heap.size 0 _ 1 rfl rfl RR) rfl (E _ (aM B1 (am _)))
end Re
namespace Fl
def eqB (l l':List R4):Bool:=decide (l=l')
theorem je (w:World) (v v':Value) (l l':List R4) (R:Rd K4 w v l) (R':Rd K4 w v' l'):Calls prog 130 #[v,v'] w fun e w'=>e = .returned (.bool (eqB l l'))/\Below w.heap.size w w':=by
 have HNO:Hid (¬ l=l'->false=eqB l l'):=fun h=>(bh h).symm;have HYES:Hid (l=l'->true=eqB l l'):=fun b=>(bj b).symm;have HL:Hid (l.length=l'.length->(∀ i,i < l.length->rat l i=rat l' i)->l=l'):=fun a b=>Ba a b;obtain ⟨a,cap,rfl,_,hm,hA⟩:=R;obtain ⟨a',cap',rfl,_,hm',hA'⟩:=R';have HA:=Hh hA;have HA':=Hh hA';unfold maxLen at hm hm';clear hA hA';have HNE:Hid (l.length≠l'.length->¬ (l=l')):=fun h2 h=>h2 (by rw [h]);generalize hn:l.length=n at *;generalize hn':l'.length=n' at *;have HN:=Hh hn;have HN':=Hh hn';clear hn hn'
 by_cases h2:n=n'
 ·subst h2
  go_enter func130,ntmps130
  go_wp2
  go_loopw [13,5] (fun i j wr=>∃ k:Nat,k<=n/\i = .int .i64 k/\Hid (Below w.heap.size w wr)/\Hid (∀ i,i < k->rat l i=rat l' i)) (fun i j _=>n - (intOf i).toNat)
  case atStart=>exact ⟨0,cx _,rfl,af _ _,fun i hi=>by omega⟩
  case round =>
   obtain ⟨j,hj,rfl,bw,hs⟩:=hrel
   by_cases hlt:j < n
   ·obtain ⟨b,off,rfl,A⟩:=HA (by omega)
    obtain ⟨b',off',rfl,A'⟩:=HA' (by omega);obtain ⟨c0,c1,c2,c3⟩:=at4 (A.below bw) j (by have:=HN.out;omega);obtain ⟨d0,d1,d2,d3⟩:=at4 (A'.below bw) j (by have:=HN'.out;omega);have HAA:=Hh A;have HAA':=Hh A';clear A A';have es:=qW (rat l j) (rat l' j)
    by_cases he:rat l j=rat l' j
    ·have ST:Hid (∀ i,i < j+1->rat l i=rat l' i):=fun i hi=>by
      by_cases e:i=j
      ·rw [e];exact he
      ·exact hs i (by omega)
     rw [bj he] at es;clear he;generalize rat l j=r at *;generalize rat l' j=r' at *;go_wp2
     go_quiet (fail)
     go_wp2
     go_roundw
     case rel=>exact ⟨j+1,by omega,by go_num,ii bw.out _,ST⟩
     case measure=>simp [intOf];omega
    ·have E:=Hh (HNO (fun h=>he (by rw [h])))
     rw [bh he] at es;clear he;generalize rat l j=r at *;generalize rat l' j=r' at *;go_wp2
     go_quiet (fail)
     go_wp2
     go_ret
     exact ⟨ak E,ii bw _⟩
   ·obtain rfl:j=n:=by omega
    have E:=Hh (HYES (HL (by trivial) (fun i hi=>hs i hi)));go_wp2
    go_ret
    exact ⟨ak E,bw⟩
 ·have E:=Hh (HNO (HNE h2))
  have h3:¬ ((n:Int)=n'):=by omega
  clear HL HA HA' HYES HNO
  go_enter func130,ntmps130
  go_wp2
  go_ret
  exact ⟨ak E,af _ _⟩
theorem vU (w:World) (p p':Int) (v v':Value) (l l':List R4) (R:Rd K4 w v l) (R':Rd K4 w v' l'):Calls prog 110 #[file p v,file p' v'] w fun e w'=>e = .returned (.bool (kK p l p' l'))/\Below w.heap.size w w':=by
 have bb:=((af w.heap.size w).alloc (am _) (.cells #[.int .i64 p,v] 83)).alloc (by simp) (.cells #[.int .i64 p',v'] 83);have B0:=Hh bb;have Q:=Hh (je _ v v' l l' (R.below bb) (R'.below bb));obtain ⟨a,cap,rfl,_⟩:=R;obtain ⟨a',cap',rfl,_⟩:=R';clear bb;generalize l.length=n at *;generalize l'.length=n' at *;unfold file
 by_cases h:p=p'
 ·subst h
  have E:Hid (eqB l l'=kK p l p l'):=Hh (by unfold eqB kK;rw [cY];exact ⟨fun h=>⟨rfl,h⟩,fun h=>h.2⟩)
  go_enter func110,ntmps110
  go_wp2_with fail;refine Q.mono ?_;rintro e w1 ⟨rfl,b1⟩;have B1:=aN B0 b1;clear b1 Q;generalize eqB l l'=bq at *;go_wp2
  go_ret
  exact ⟨ak E,B1⟩
 ·have E:Hid (false=kK p l p' l'):=Hh (bh (fun k=>h k.1)).symm
  go_enter func110,ntmps110
  go_wp2
  go_ret
  exact ⟨ak E,B0⟩
end Fl
namespace Re
structure Sj (w1:World) (L:List Int) (k:Nat) (u:Value) (wr:World):Prop where
 own:Ow KI wr w1.heap.size 3 u (L.take k)
 aD:Below w1.heap.size w1 wr
variable {w:World} {b off:Nat} {l:List R4}
theorem Bi (h:At K4 w b off l):At K4 w b (off+4) (l.drop 1):=fun i hi j u hu=>by
 rw [gE] at hi;have e:=h (i+1) (by omega) j u (by rw [← hu];congr 1;simp [List.getD]);rw [show off+(i+1) * K4.n+j=off+4+i * K4.n+j by show off+(i+1) * 4+j=off+4+i * 4+j;omega] at e;exact e
theorem Br (h:l.length<=1):At K4 w b off (l.drop 1):=fun i hi=>by rw [gE] at hi;omega
theorem xC (h:dF l) (k:Nat):dF (l.drop k):=fun r hr=>h r (List.mem_of_mem_drop hr)
theorem Uc (l:List R4) (k:Nat):rat (l.drop 1) k=rat l (k+1):=by unfold rat;simp only [an,List.getElem?_drop];rw [Nat.add_comm 1 k]
theorem pI (w:World) (p:Int) (v:Value) (l:List R4) (R:Rd K4 w v l) (ok:dF l):Calls prog 82 #[file p v] w (nC w p l):=by
 have B0:=Hh ((af w.heap.size w).alloc (am _) (.cells #[.int .i64 p,v] 83));have R0:=Hh (R.below B0);clear R
 by_cases hg:aL p l
 ·have GA:=Hh (aI (show bG p l=true from bj hg) (Fl.aQ _ p v l R0.out))
  have hl:=hg.2.2.1;have hl2:=hg.2.2.2.1;have HG:=Hh hg;have OK:=Hh ok;clear hg ok;have SA:=Hh (fun w v' l' R R'=>Fl.vU w p 3 v v' l l' R R');obtain ⟨a,cap,rfl,⟨hc,_⟩,hm,hA⟩:=R0.out;obtain ⟨b,off,rfl,hA⟩:=hA (by omega);have HA:=Hh hA;unfold maxLen at hm;clear hA;have FA:=Hh (fun w v R=>wL w v (gU l) R);have YES:=Hh (fun h u w'=>Jk (w:=w) (p:=p) (l:=l) (w':=w') h u);have NO:=Hh (fun h w'=>Md (w:=w) (p:=p) (l:=l) (w':=w') h);have RN:Hid (∀ k,k+1 < l.length->(gU l).take k ++ [(rat (l.drop 1) k).1]=(gU l).take (k+1)):=Hh (fun k h=>by rw [Uc];exact UN h);have RA:Hid ((gU l).take (l.length - 1)=gU l):=Hh (by rw [← Dh,df]);have RL:Hid (∀ k,k<=l.length - 1->((gU l).take k).length=k):=Hh (fun k h=>by rw [cM,Dh];omega);have IS:Hid (JZ p l↔fU (gU l)/\(p=3/\l=bE (gU l))):=Hh ⟨fun h=>h.2,fun h=>⟨HG.out,h⟩⟩;generalize hn:l.length=n at *;have HN:=Hh hn;clear hn;unfold file at *
  go_enter func82,ntmps82
  go_wp2_with fail;refine GA.out.mono ?_;rintro e w1 ⟨rfl,b1⟩;have B1:=Hh (B0.out.trans (b1.mono B0.out.size));have A1:=Hh (HA.out.below b1);have R1:=Hh (R0.out.below b1);have X1:=(b1.block _ (by simp)).trans (bi w _);have c1:=Fl.rc X1 1;have Y1:=Hh X1;clear b1 GA B0 HA R0 X1;have AI:Hid (n<=1->At K4 w1 b off (l.drop 1)):=Hh (fun h=>Br (by rw [HN.out];exact h));have AR:=Hh (Bi A1);have KR:=Hh (xC OK 1);have LR:Hid ((l.drop 1).length=n - 1):=Hh (by rw [gE,HN.out]);clear HG OK A1;have hn1:n - 1<=255:=by omega
  have RN2:Hid (∀ k,k < n - 1->(gU l).take k ++ [(rat (l.drop 1) k).1]=(gU l).take (k+1)):=Hh (fun k h=>RN k (by omega));clear RN;generalize l.drop 1=r at *;generalize gU l=L at *;go_wp2
  case' inl =>
   have A2:=Hh (AI (by omega));clear AI AR
  case' inr =>
   have A2:=AR;clear AI AR;generalize off+4=off2 at *
  all_goals
   generalize n - 1=m at *;clear c1
   go_loopw [16,4] (fun i u wr=>∃ (k:Nat),k<=m/\i = .int .i64 k/\Hid (Sj w1 L k u wr)) (fun i _ _=>m - (intOf i).toNat)
   case atStart=>exact ⟨0,cx _,rfl,Hh ⟨by rw [List.take_zero];exact Rw.Ow.nil _ _ _,af _ _⟩⟩
   case round =>
    obtain ⟨k,hk,rfl,RR⟩:=hrel;obtain ⟨av,cv,ev,hcv,hmv⟩:=RR.own.slice;rw [RL.out k hk] at ev hcv;subst ev
    by_cases hlt:k < m
    ·obtain ⟨c0,c1',c2,c3⟩:=at4 (A2.below RR.aD) k (by rw [LR.out];exact hlt)
     have kv:=(jP KR k).1;have RX:=Hh (RN2 k hlt);have RK:=Hh (RL k hk);generalize rat r k=y at *;have W0:IntKind.i64.wrap y.1=y.1:=cH _ (by omega);have zb:=RR.aD.size
     go_wp2_with (at_builtin;refine Rw.dZ underlying33 yg rfl (by omega) rfl _ _ rfl w1.heap.size _ _ rfl ((RR.out.own.alloc _).alloc _) _ y.1 rfl ?d1 ?d2 ?d3 ?_)
     case d1 =>
      intro j u hu
      match j,hu with
      | 0,hu=>simp [KI,Rw.int] at hu;subst hu;rw [qI];go_simp
     case d2=>rw [RK.out];omega
     case d3=>simp;omega
     intro v' w3 o3 b3
     rw [RX.out] at o3;have N3:Hid (Sj w1 L (k+1) v' w3):=Hh ⟨o3,((RR.aD.alloc zb _).alloc (by simp;omega) _).trans (b3.mono (am _))⟩;obtain ⟨av',cv',ev',_,_⟩:=o3.slice;rw [RL.out _ (by omega)] at ev';subst ev';clear o3 b3 RR RX RK kv;go_wp2
     go_roundw
     case rel=>exact ⟨k+1,by omega,by go_num,N3⟩
     case measure=>simp [intOf];omega
    ·obtain rfl:k=m:=by omega
     have O2:=RR.own;rw [RA.out] at O2;have RL2:=Hh O2.rd;have BW:=Hh (B1.trans (RR.aD.mono B1.size));have RF:=Hh (R1.below RR.aD);have XF:=bU RR.aD Y1;clear RR O2 RN2 RL RA A2 KR LR R1 Y1 B1;unfold dL file at FA;go_wp2_with fail;refine (FA _ _ RL2).mono ?_;rintro e w4 ⟨u4,rfl,r4,b4⟩;obtain ⟨a4,n4,k4,rfl⟩:∃ a n c,u4 = .slice a n c:=by obtain ⟨a,c,e,_⟩:=r4;exact ⟨a,_,c,e⟩
     have B4:=aN BW b4;have RF4:=Hh (RF.below b4);have RL4:=Hh (RL2.below b4);have X4:=bU b4 XF;have r4h:=Hh r4;have BB:Hid (Below w4.heap.size w4 (w4.alloc (.cells #[.int .i64 (fP L),.slice a4 n4 k4] 83))):=Hh ((af _ _).alloc (am _) _);have B5:=aN B4 BB;have RF5:=Hh (RF4.below BB);have RL5:=Hh (RL4.below BB);have RU5:=Hh (r4.below BB);have X5:=bU BB X4;have Y5:=bi w4 (.cells #[.int .i64 (fP L),.slice a4 n4 k4] 83);clear b4 BW RF RL2 XF r4 r4h FA BB B4 RF4 RL4 X4
     by_cases hs:fU L
     ·have e1:fP L=3:=az hs
      have e2:fN L=0:=az hs;have e3:fL L=bE L:=az hs;rw [e1] at B5 RF5 RL5 RU5 X5 Y5 ⊢;rw [e3] at RU5;rw [e2];clear e1 e2 e3
      by_cases hq:p=3/\l=bE L
      ·have E:=Hh (YES (IS.out.2 ⟨hs,hq⟩))
       have S4:=Hh (fun w v' R R'=>aI (show kK p l 3 (bE L)=true from bj hq) (SA w v' (bE L) R R'));clear YES NO IS SA hs hq;go_upto_region 10 with fail
       (try (rename cap=1=>hc1;subst hc1))
       generalize w4.alloc (.cells #[.int .i64 3,.slice a4 n4 k4] 83)=W at *;generalize w4.heap.size=gF at *;obtain ⟨d0,d1⟩:=BO X5;obtain ⟨e0,e1⟩:=BO Y5;go_wp2_with fail;refine (S4 _ _ RF5 RU5).mono ?_;rintro e w6 ⟨rfl,b6⟩;have E6:=Hh (E _ _ (RL5.below b6) (aN B5 b6));clear b6 S4 d0 d1 e0 e1;go_wp2
       go_ret2
       exact E6
      ·have E:=Hh (NO (fun h=>hq (IS.out.1 h).2))
       have S4:=Hh (fun w v' R R'=>aI (show kK p l 3 (bE L)=false from bh hq) (SA w v' (bE L) R R'));clear YES NO IS SA hs hq;go_upto_region 10 with fail
       (try (rename cap=1=>hc1;subst hc1))
       generalize w4.alloc (.cells #[.int .i64 3,.slice a4 n4 k4] 83)=W at *;generalize w4.heap.size=gF at *;obtain ⟨d0,d1⟩:=BO X5;obtain ⟨e0,e1⟩:=BO Y5;go_wp2_with fail;refine (S4 _ _ RF5 RU5).mono ?_;rintro e w6 ⟨rfl,b6⟩;have E6:=Hh (E.out _ (B5.out.trans (b6.mono B5.out.size)));clear b6 S4 d0 d1 e0 e1;go_wp2
       go_ret2
       exact E6.out
     ·have e2:fN L=1:=aq hs
      rw [e2];have E:=Hh (NO.out (fun h=>hs (IS.out.1 h).1));clear YES NO IS SA hs e2 RU5 RL5 RF5 X5 Y5;go_wp2
      go_ret2
      exact E.out _ B5.out
 ·have GA:=Hh (aI (show bG p l=false from bh hg) (Fl.aQ _ p v l R0.out))
  have E:=Hh (fun w'=>Md (w:=w) (p:=p) (l:=l) (w':=w') (fun h=>hg h.1));clear hg ok;obtain ⟨a,cap,rfl,_,hm,hA⟩:=R0.out;clear hA R0;generalize l.length=n at *;unfold file at *
  go_enter func82,ntmps82
  go_wp2_with fail;refine GA.mono ?_;rintro e w1 ⟨rfl,b1⟩;have B1:=aN B0 b1;clear b1 GA B0;go_wp2
  go_ret2
  exact E _ B1
end Re
namespace Cu
open Go.Maps
open Fs (gQ)
variable {L:List aB} {n:Int}
theorem abk (h:∀ j,j < L.length->∀ e,L[j]? = some e->e.n≠n):fB (L.map aB.abs) n=false/\fP (L.map aB.abs) n=0/\fR (L.map aB.abs) n = []:=by
 have e:Fs.look key n (L.map aB.abs)=none:=by
  rw [gQ]
  rw [Fs.dN.2 fun x hx=>by
   obtain ⟨i,hi⟩:=ef hx
   exact h i (cA.1 hi).1 x hi]
  rfl
 unfold fB fP fR;rw [e];exact ⟨rfl,rfl,rfl⟩
theorem aao {k:Nat} {c:aB} (hc:L[k]? = some c) (hn:c.n=n) (h:∀ j,j < k->∀ e,L[j]? = some e->e.n≠n):fB (L.map aB.abs) n=true/\fP (L.map aB.abs) n=c.p/\fR (L.map aB.abs) n=c.l:=by
 have e:Fs.look aB.n n L=some c:=by
  unfold Fs.look;rw [List.find?_eq_some_iff_getElem];obtain ⟨hk,hc2⟩:=cA.1 hc;refine ⟨by simpa using hn,k,hk,hc2,fun j hj=>?_⟩;have:=h j hj _ (aw (by omega))
  simpa using this
 have e2:Fs.look key n (L.map aB.abs)=some c.abs:=by rw [gQ,e];rfl
 unfold fB fP fR;rw [e2];exact ⟨rfl,rfl,rfl⟩
end Cu
namespace Ro
def jl (w:World) (p:Int) (l:List R4) (e:Ending) (w':World):Prop:=∃ u,e = .returned (.tuple #[u,.int .i64 (qX p l)])/\Ow K5 w' w.heap.size 244 u (kY p l)/\Below w.heap.size w w'
structure Sj (w:World) (r:List R4) (k:Nat) (u:Value) (L:List E5) (wr:World):Prop where
 own:Ow K5 wr w.heap.size 244 u L
 red:Read r k L
 aD:Below w.heap.size w wr
variable {w:World} {b off:Nat} {l:List R4}
theorem Bi (h:At K4 w b off l):At K4 w b (off+4) (l.drop 1):=fun i hi j u hu=>by
 rw [gE] at hi;have e:=h (i+1) (by omega) j u (by rw [← hu];congr 1;simp [List.getD]);rw [show off+(i+1) * K4.n+j=off+4+i * K4.n+j by show off+(i+1) * 4+j=off+4+i * 4+j;omega] at e;exact e
theorem Br (h:l.length<=1):At K4 w b off (l.drop 1):=fun i hi=>by rw [gE] at hi;omega
theorem xC (h:dF l) (k:Nat):dF (l.drop k):=fun r hr=>h r (List.mem_of_mem_drop hr)
def Ug (w:World) (p:Int) (l:List R4) (L:List E5):Prop:=(gW L->∀ u w',Ow K5 w' w.heap.size 244 u L->Below w.heap.size w w'->jl w p l (.returned (.tuple #[u,.int .i64 0])) w')/\(¬ gW L->∀ w',Below w.heap.size w w'->jl w p l (.returned (.tuple #[.slice none 0 0,.int .i64 2])) w')
theorem Xr {p:Int} {L:List E5} (hg:aL p l) (h:scan (l.drop 1)=some L):Ug w p l L :=
 ⟨fun hm u w' hu hb=>by
  have e:=YQ hg h hm;exact ⟨u,by rw [e.2],by rw [e.1];exact hu,hb⟩,fun hm w' hb=>by
  have e:=aba (p:=p) h hm
  exact ⟨_,by rw [e.2],by rw [e.1];exact Rw.Ow.nil _ _ _,hb⟩⟩
theorem wU (w:World) (p:Int) (v:Value) (l:List R4) (R:Rd K4 w v l) (ok:dF l):Calls prog 112 #[file p v] w (jl w p l):=by
 have B0:=Hh ((af w.heap.size w).alloc (am _) (.cells #[.int .i64 p,v] 83));have R0:=Hh (R.below B0);have HE:Hid (kY p l = []/\qX p l=2->∀ w',Below w.heap.size w w'->jl w p l (.returned (.tuple #[.slice none 0 0,.int .i64 2])) w'):=Hh (fun h w' hb=>⟨_,by rw [h.2],by rw [h.1];exact Rw.Ow.nil _ _ _,hb⟩);clear R
 by_cases hg:aL p l
 ·have GA:=Hh (aI (show bG p l=true from bj hg) (Fl.aQ _ p v l R0.out))
  have hl:=hg.2.2.1;have hl2:=hg.2.2.2.1;have HG:=Hh hg;have OK:=Hh ok;clear hg ok;obtain ⟨a,cap,rfl,⟨hc,_⟩,hm,hA⟩:=R0.out;obtain ⟨b,off,rfl,hA⟩:=hA (by omega);have HA:=Hh hA;unfold maxLen at hm;clear hA R0;generalize hn:l.length=n at *;have HN:=Hh hn;clear hn;unfold file at *
  go_enter func112,ntmps112
  go_wp2_with fail;refine GA.mono ?_;rintro e w1 ⟨rfl,b1⟩;have B1:=aN B0 b1;have A1:=Hh (HA.below b1);have c1:w1.cell? ⟨w.heap.size,1,none⟩=some (.slice (some ⟨b,off,none⟩) n cap):=(b1.cell (by simp)).trans (by go_simp);clear b1 GA B0 HA;have HS:Hid (scan (l.drop 1)=none->∀ w',Below w.heap.size w w'->jl w p l (.returned (.tuple #[.slice none 0 0,.int .i64 2])) w'):=Hh (fun h=>HE (Vs h));have HT:Hid (∀ L,scan (l.drop 1)=some L->Ug w p l L):=Hh (fun L h=>Xr HG h);have AI:Hid (n<=1->At K4 w1 b off (l.drop 1)):=Hh (fun h=>Br (by rw [HN.out];exact h));have AR:=Hh (Bi A1);have KR:=Hh (xC OK 1);have LR:Hid ((l.drop 1).length=n - 1):=Hh (by rw [gE,HN.out]);clear HE HG OK A1;have hn1:n - 1<=255:=by omega
  generalize l.drop 1=r at *;go_wp2
  case' inl =>
   have A2:=Hh (AI (by omega));clear AI AR;generalize off=off2 at *
  case' inr =>
   have A2:=AR;clear AI AR;generalize off+4=off2 at *
  all_goals
   generalize n - 1=m at *
   go_loopw [16,4] (fun i u wr=>∃ (k:Nat) (L:List E5),k<=m/\i = .int .i64 k/\Hid (Sj w1 r k u L wr)) (fun i _ _=>m - (intOf i).toNat)
   case atStart=>exact ⟨0,[],cx _,rfl,Hh ⟨Rw.Ow.nil _ _ _,J4 r,af _ _⟩⟩
   case round =>
    obtain ⟨k,L,hk,rfl,RR⟩:=hrel;obtain ⟨av,cv,ev,hcv,hmv⟩:=RR.own.slice;have LL:=Hh RR.red.1;generalize L.length=Ln at ev hcv LL;subst ev
    by_cases hlt:k < m
    ·obtain ⟨c0,c1',c2,c3⟩:=at4 (A2.below RR.aD) k (by rw [LR.out];exact hlt)
     have kv:=jP KR k;have TA:=Hh (fun w=>dX w (rat r k) kv);have Q1:=Hh (UA RR.red (by rw [LR.out];exact hlt));have Q2:=Hh (TU RR.red (by rw [LR.out];exact hlt));have Q3:=Hh (OE RR.red (by rw [LR.out];exact hlt));clear kv
     by_cases h1:gT (gL (rat r k))
     ·have e1:DW (rat r k)=gL (rat r k):=az h1
      have e2:takeN (rat r k)=0:=az h1;rw [e1,e2] at TA;have P2:=Hh (Q2 h1);have P3:=Hh (Q3 h1);clear e1 e2 Q1 Q2 Q3 h1;unfold ent aG at TA;generalize gL (rat r k)=x at *;generalize rat r k=y at *
      by_cases h4:x.1=4
      ·have TE:=Hh (HT L (P2 h4))
       clear P2 P3 HS HT;go_wp2_with fail;refine (TA _).mono ?_;rintro e w2 ⟨rfl,b2⟩;have BA:=RR.aD.alloc RR.aD.size (.cells #[.int .u8 y.1,.int .u8 y.2.1,.int .u8 y.2.2.1,.int .u8 y.2.2.2] 36);have B2:=Hh (BA.trans (b2.mono BA.size));have O2:=Hh ((RR.own.alloc (.cells #[.int .u8 y.1,.int .u8 y.2.1,.int .u8 y.2.2.1,.int .u8 y.2.2.2] 36)).keep b2);have BW:Hid (∀ o,Below w.heap.size w (w2.alloc o)):=Hh (fun o=>B1.trans ((B2.alloc B2.size o).mono B1.size));have RW:Hid (∀ o,Ow K5 (w2.alloc o) w.heap.size 244 (.slice av Ln cv) L):=Hh (fun o=>(O2.alloc o).low B1.size);clear BA b2 B2 O2 RR c0 c1' c2 c3 TA
       by_cases hm:gW L
       ·have E:=Hh (TE.out.1 hm)
        have IT:=Hh (fun w v R=>aI (show fA L=true from bj hm) (gD w v L R));clear TE hm;go_wp2_with fail;refine (IT _ _ (Rw.Ow.rd (RW _))).mono ?_;rintro e w4 ⟨rfl,b4⟩;have E4:=Hh (E _ _ (Rw.Ow.keep (RW _) b4) (gC (BW _) (b4.mono (Below.size (BW _)))));clear b4 E IT;go_wp2
        go_ret2
        exact E4
       ·have E:=Hh (TE.out.2 hm)
        have IT:=Hh (fun w v R=>aI (show fA L=false from bh hm) (gD w v L R));clear TE hm;go_wp2_with fail;refine (IT _ _ (Rw.Ow.rd (RW _))).mono ?_;rintro e w4 ⟨rfl,b4⟩;have E4:=Hh (E _ (gC (BW _) (b4.mono (Below.size (BW _)))));clear b4 E IT;go_wp2
        go_ret2
        exact E4
      ·have PR:=Hh (P3 h4)
       clear P2 P3 HS HT;go_wp2_with fail;refine (TA _).mono ?_;rintro e w2 ⟨rfl,b2⟩;have BA:=RR.aD.alloc RR.aD.size (.cells #[.int .u8 y.1,.int .u8 y.2.1,.int .u8 y.2.2.1,.int .u8 y.2.2.2] 36);have B2:=Hh (BA.trans (b2.mono BA.size));have O2:=Hh ((RR.own.alloc (.cells #[.int .u8 y.1,.int .u8 y.2.1,.int .u8 y.2.2.1,.int .u8 y.2.2.2] 36)).keep b2);have LN:=Hh RR.red.1;have z2:=B2.size;clear BA b2 RR c0 c1' c2 c3 TA
       go_wp2_with (at_builtin;refine Rw.dZ underlying175 Zn rfl (by omega) rfl _ _ rfl w1.heap.size _ _ rfl ((O2.out.alloc _).alloc _) _ x rfl ?d1 ?d2 ?d3 ?_)
       case d1 =>
        intro j u hu
        match j,hu with
        | 0,hu=>simp [K5] at hu;subst hu;go_simp
        | 1,hu=>simp [K5] at hu;subst hu;go_simp
        | 2,hu=>simp [K5] at hu;subst hu;go_simp
        | 3,hu=>simp [K5] at hu;subst hu;go_simp
        | 4,hu=>simp [K5] at hu;subst hu;go_simp
        | j+5,hu=>simp [K5] at hu
       case d2=>rw [LN.out];omega
       case d3=>simp;omega
       intro v' w3 o3 b3
       have N3:Hid (Sj w1 r (k+1) v' (L ++ [x]) w3):=Hh ⟨o3,PR,((B2.alloc z2 _).alloc (by simp;omega) _).trans (b3.mono (am _))⟩;obtain ⟨av',cv',ev',_,_⟩:=o3.slice;generalize (L ++ [x]).length=Ln' at ev';subst ev';clear o3 b3 O2 B2 PR LN;go_wp2
       go_roundw
       case rel=>exact ⟨k+1,L ++ [x],by omega,by go_num,N3⟩
       case measure=>simp [intOf];omega
     ·have e1:DW (rat r k)=z5:=aq h1
      have e2:takeN (rat r k)=2:=aq h1;rw [e1,e2] at TA;have E:=Hh (HS (Q1 h1));clear e1 e2 Q1 Q2 Q3 h1 HS HT;unfold ent aG at TA;simp only [z5] at TA;generalize rat r k=y at *;go_wp2_with fail;refine (TA _).mono ?_;rintro e w2 ⟨rfl,b2⟩;have BA:=RR.aD.alloc RR.aD.size (.cells #[.int .u8 y.1,.int .u8 y.2.1,.int .u8 y.2.2.1,.int .u8 y.2.2.2] 36);have B2:=Hh (BA.trans (b2.mono BA.size));have O2:=Hh ((RR.own.alloc (.cells #[.int .u8 y.1,.int .u8 y.2.1,.int .u8 y.2.2.1,.int .u8 y.2.2.2] 36)).keep b2);have BW:Hid (∀ o,Below w.heap.size w (w2.alloc o)):=Hh (fun o=>B1.trans ((B2.alloc B2.size o).mono B1.size));clear BA b2 B2 O2 RR c0 c1' c2 c3 TA;go_wp2
      go_ret2
      exact E _ (BW _)
    ·obtain rfl:k=m:=by omega
     have TE:=Hh (HT L (TQ (by rw [LR.out];exact RR.out.red)));have BW:=Hh (B1.trans (RR.aD.mono B1.size));have RW:=Hh (RR.own.low B1.size);clear RR HS HT
     by_cases hm:gW L
     ·have E:=Hh (TE.out.1 hm)
      have IT:=Hh (fun w v R=>aI (show fA L=true from bj hm) (gD w v L R));clear TE hm;go_wp2_with fail;refine (IT _ _ (Rw.Ow.rd RW)).mono ?_;rintro e w4 ⟨rfl,b4⟩;have E4:=Hh (E _ _ (Rw.Ow.keep RW b4) (gC BW (b4.mono (Below.size BW))));clear b4 E IT;go_wp2
      go_ret2
      exact E4
     ·have E:=Hh (TE.out.2 hm)
      have IT:=Hh (fun w v R=>aI (show fA L=false from bh hm) (gD w v L R));clear TE hm;go_wp2_with fail;refine (IT.out _ _ (Rw.Ow.rd RW.out)).mono ?_;rintro e w4 ⟨rfl,b4⟩;have E4:=Hh (E.out _ (gC BW.out (b4.mono (Below.size BW.out))));clear b4 E IT;go_wp2
      go_ret2
      exact E4.out
 ·have GA:=Hh (aI (show bG p l=false from bh hg) (Fl.aQ _ p v l R0.out))
  have E:=Hh (HE.out (XJ hg));clear hg HE ok;obtain ⟨a,cap,rfl,_,hm,hA⟩:=R0.out;clear hA R0;generalize l.length=n at *;unfold file at *
  go_enter func112,ntmps112
  go_wp2_with fail;refine GA.mono ?_;rintro e w1 ⟨rfl,b1⟩;have B1:=aN B0 b1;clear b1 GA B0;go_wp2
  go_ret2
  exact E _ B1
end Ro
namespace Cu
open Go.Maps
open Fs (iw)
open Ro (wU jl)
attribute [local irreducible] Sd.aU wpQuiet
def Ss (w:World) (A:aT) (n:Int) (e:Ending) (w':World):Prop:=∃ v,e = .returned (file (fP A n) v)/\Rd K4 w' v (fR A n)/\Below w.heap.size w w'
section
variable {s t p:Nat} {F G:Nat->Prop} {c:Cs} {vn vq:Value} {L:List Nd} {Fs:Nat->Nat->Prop} {w w':World}
variable {nn:Nat}
theorem Ae (h:Cl w s F c t vn L p vq Fs) (hn:nn < c.S.length) (n:Int):Calls prog 83 #[ptr s,.int .i64 nn,.int .i64 n] w (Ss w (sat c.S nn).1 n):=by
 have B0:=Hh ((af w.heap.size w).alloc (am _) (.cells #[.int .i64 0,.slice none 0 0] 83));have X0:=Hh (bi w (.cells #[.int .i64 0,.slice none 0 0] 83));have C1:=Hh (Am (h.below B0) hn);unfold bZ at C1;clear h hn;generalize (sat c.S nn).1=A at *;unfold ptr at *
 go_enter func83,ntmps83
 go_wp2_with fail;refine C1.mono ?_;rintro e w1 ⟨v,rfl,hv,b1⟩;obtain ⟨L,hL,rfl⟩:=hv (fun k=>k=w.heap.size) (fun k e=>by rw [e];simp);have FO:=Hh hL.Up;have X1:=Hh (bU b1 X0);have B1:=aN B0 b1;have FI:=Hh hL.file;have hlen:L.length<=9223372036854775807:=by
  obtain ⟨_,_,_,⟨_,_⟩,hm,_⟩:=hL.rd;unfold maxLen at hm
  omega
 obtain ⟨a,cap,rfl,_,_,h3⟩:=hL.rd;have H3:=Hh h3;have NO:Hid ((∀ j,j < L.length->∀ e,L[j]? = some e->e.n≠n)->fB (L.map aB.abs) n=false/\fP (L.map aB.abs) n=0/\fR (L.map aB.abs) n = []):=Hh abk;have YES:Hid (∀ (k:Nat) (c:aB),L[k]? = some c->c.n=n->(∀ j,j < k->∀ e,L[j]? = some e->e.n≠n)->fB (L.map aB.abs) n=true/\fP (L.map aB.abs) n=c.p/\fR (L.map aB.abs) n=c.l):=Hh (fun _ _=>aao);have BB:=Hh (af w1.heap.size w1);clear hv hL h3 b1 C1 X0 B0;generalize hN:L.length=N at *;have HN:=Hh hN;clear hN;go_wp2
 go_loopw [13] (fun i wr=>∃ k:Nat,k<=N/\i = .int .i64 k/\Hid (∀ j,j < k->∀ e,L[j]? = some e->e.n≠n)/\Hid (Below w1.heap.size w1 wr)) (fun i _=>N - (intOf i).toNat)
 case atStart=>exact ⟨0,cx _,rfl,fun j hj=>by omega,BB⟩
 case round =>
  clear BB;obtain ⟨k,hk,rfl,hb,B⟩:=hrel
  by_cases hlt:k < N
  ·have hkL:k < L.length:=by have:=HN.out;omega
   obtain ⟨c,hc⟩:∃ c,L[k]? = some c:=⟨_,aw hkL⟩;obtain ⟨b,off,rfl,hA⟩:=H3 (by omega);obtain ⟨x0,x1,x2⟩:=at3 (hA.below B) hc;have HAA:=Hh hA;have RF:=Hh (FI c (di hc));have FF:=Hh (FO c (di hc));have Y:=Hh (YES k c hc)
   have NB:Hid (c.n≠n->∀ j,j < k+1->∀ e,L[j]? = some e->e.n≠n):=Hh (fun he j hj e hje=>by
    by_cases ej:j=k
    ·subst ej
     rw [hc] at hje;obtain rfl:=db hje;exact he
    ·exact hb j (by omega) e hje)
   clear hc hkL hA;unfold aB.sl at x2 RF FF;generalize c.a=ca at *;generalize c.cap=ccap at *;generalize c.p=cp at *;generalize c.n=cn at *;generalize c.l=cl at *;have Z0:=Hh (bi wr (.cells #[.int .i64 cn,.int .i64 cp,.slice ca cl.length ccap] 85));have BN:=Hh ((af wr.heap.size wr).alloc (am _) (.cells #[.int .i64 cn,.int .i64 cp,.slice ca cl.length ccap] 85));go_upto_region 4 with fail;clear x0 x1 x2;generalize wr.alloc (.cells #[.int .i64 cn,.int .i64 cp,.slice ca cl.length ccap] 85)=W at *;have B2:=aN B BN;clear BN B;generalize wr.heap.size=gx at *;obtain ⟨y0,y1,y2⟩:=Dx Z0
   by_cases he:cn=n
   ·have Y1:=Hh (Y he hb)
    subst he;have XW:=Hh (bU B2 X1);obtain ⟨z0,z1,f0,f1⟩:=Bw XW;have R1:=Hh (aY XW cp (.slice ca cl.length ccap));have BS:=Hh (aM (p:=cp) (v:=.slice ca cl.length ccap) (aN B1 B2) (am _));have RS:=Hh (iw (RF.below B2) (G:=fun k=>k=w.heap.size) FF ((Only.set (fun k=>k=w.heap.size) W (a:=⟨w.heap.size,0,none⟩) rfl (.int .i64 cp)).trans (Only.set (fun k=>k=w.heap.size) _ (a:=⟨w.heap.size,1,none⟩) rfl (.slice ca cl.length ccap)) fun _ _ g=>g))
    have E:Hid (Ss w (L.map aB.abs) cn (.returned (file cp (.slice ca cl.length ccap))) (fD W w.heap.size cp (.slice ca cl.length ccap))):=Hh (by
     obtain ⟨y1,y2,y3⟩:=Y1;refine ⟨_,by rw [y2],?_,BS.out⟩;rw [y3]
     exact RS)
    clear Y Y1 RF FF NO YES hb NB X1 Z0 B2 BS RS;generalize w.heap.size=g0 at *;go_wp2
    (try simp only [Exit.inBlock,Exit.then])
    exact bs (iR (p:=6) rfl _ _ g0 cp (.slice ca cl.length ccap) rfl R1) rfl E
   ·have NB1:=Hh (NB he)
    clear Y RF FF NB hb;go_wp2
    go_roundw
    case rel=>exact ⟨k+1,by omega,by go_num,NB1,B2⟩
    case measure=>simp [intOf];omega
  ·obtain rfl:k=N:=by omega
   have E:=Hh (NO (fun j hj=>hb j (by have:=HN.out;omega)));have XW:=Hh (bU B X1);obtain ⟨z0,z1,f0,f1⟩:=Bw XW;have R1:=Hh (aY XW 0 (.slice none 0 0));have BS:=Hh (aM (p:=0) (v:=.slice none 0 0) (aN B1 B) (am _))
   have E1:Hid (Ss w (L.map aB.abs) n (.returned (file 0 (.slice none 0 0))) (fD wr w.heap.size 0 (.slice none 0 0))):=Hh (by
    obtain ⟨y1,y2,y3⟩:=E;refine ⟨_,by rw [y2],?_,BS.out⟩;rw [y3]
    exact Rw.Rd.nil _)
   clear NO YES hb E BS B X1;generalize w.heap.size=g0 at *;go_wp2
   (try simp only [Exit.inBlock,Exit.then])
   exact bs (iR (p:=6) rfl _ _ g0 0 (.slice none 0 0) rfl R1) rfl E1
def TbC (w:World) (l:List E5) (e:Ending) (w':World):Prop:=∃ u,e = .returned u/\Ow K5 w' w.heap.size 244 u l/\Below w.heap.size w w'
theorem Iq (h:Cl w s F c t vn L p vq Fs) (hn:nn < c.S.length) {k:Int} (hk:0<=k/\k<=100):Calls prog 87 #[ptr s,.int .i64 nn,.int .i64 k] w (TbC w (kY (fP (sat c.S nn).1 (32+k)) (fR (sat c.S nn).1 (32+k)))):=by
 have C1:=Hh (Ae h hn (32+k));have OK:=Hh (Zg (h.VD hn).okA (32+k));have hw:=cH (32+k) (by omega);unfold Ss at C1;clear h hn;generalize (sat c.S nn).1=A at *;generalize fP A (32+k)=fp at *;generalize fR A (32+k)=fr at *;unfold ptr at *
 go_enter func87,ntmps87
 go_wp2_with fail;refine C1.mono ?_;rintro e w1 ⟨v,rfl,rv,b1⟩;have C2:=Hh (wU w1 fp v fr rv OK);have B1:=Hh b1;obtain ⟨a,cap,rfl,_⟩:=rv.slice;unfold jl at C2;clear C1 rv b1 OK;generalize kY fp fr=l at *;generalize qX fp fr=z at *;generalize fr.length=n at *;unfold file at *;go_wp2_with fail;refine C2.mono ?_;rintro e w2 ⟨u,rfl,ow,b2⟩;have E:Hid (TbC w l (.returned u) w2):=Hh ⟨u,rfl,ow.low B1.size,aN B1 b2⟩;clear C2 ow b2 B1;go_wp2
 go_ret
 exact E
end
end Cu
namespace Cu
open Go.Extern.Stop Go.Stop Go.Extern
open Fs (Glob jh UK Qm Qv Aw AY Ng OG GH Dz Ez Vi Vq Uf QC QS qj Ej zN zy Fz ET xV zP gJ)
def Ka (n e:Int):Value:=.agg #[.int .i64 n,.iface 25 (.int .i64 e)]
def jk (n e:Int):Value:=.iface 166 (Ka n e)
theorem qK (v:Value) (w:World):(Extern.ReflectliteType.typeOf #[.iface 166 v]).run prog w = .ok (.iface 222 (.agg #[.pointer (some ⟨1,166,none⟩)])) w:=by kernel_rfl
theorem lg (v:Value) (xT:TypeId) (w:World):(Instr.typeAssert (.iface 166 v) xT 227 true).run prog w = .ok (.tuple #[.iface 166 v,.bool true]) w:=run_typeAssert_hasB underlying227 (by kernel_rfl) v xT w
theorem iq (v : Value) (w : World) : (Go.method 477 166 v "Unwrap").run Tryz.prog w = .ok (252, v) w := by kernel_rfl
theorem iD (w:World) (n:Int) (x:Value):Calls prog 252 #[.agg #[.int .i64 n,x]] w fun e w'=>e = .returned x/\Below w.heap.size w w':=by
 go_enter func252,ntmps252
 go_wp2
 go_ret
 exact ⟨rfl,(af w.heap.size w).alloc (am _) _⟩
theorem aaV (w:World):(xV #[.agg #[.pointer (some ⟨1,166,none⟩)],.iface 222 (.agg #[.pointer (some ⟨1,25,none⟩)])]).run prog w = .ok (.bool false) w:=by kernel_rfl
theorem QA (v:Value) (xT:TypeId) (w:World):(Instr.typeAssert (.iface 166 v) xT 236 true).run prog w = .ok (.tuple #[.nilIface,.bool false]) w:=run_typeAssert_lacksB underlying236 (by kernel_rfl) (by kernel_rfl) v xT w
theorem vT (n e:Int) (tb b:Nat) (w:World) (hb:w.cell? ⟨b,0,none⟩=some (.pointer (some ⟨tb,0,none⟩))) (ht:w.heap[tb]? = some (.cells #[.int .i64 0] 25 (0,0))) :
 Calls prog 104 #[jk n e,.iface 157 (.pointer (some ⟨tb,0,none⟩)),.agg #[.pointer (some ⟨1,157,none⟩),.pointer (some ⟨b,0,none⟩),.int .u64 150],.iface 222 (.agg #[.pointer (some ⟨1,25,none⟩)])] w (gJ w tb e):=by
 have h42:=@run_callFunc_extern prog 94 _ Extern.ReflectliteType.typeOf func94 (by kernel_rfl) (by kernel_rfl) (by kernel_rfl) (by kernel_rfl);have h102:=@run_callFunc_extern prog 261 _ xV func261 (by kernel_rfl) (by kernel_rfl) (by kernel_rfl) (by kernel_rfl);have h60:=@run_callFunc_extern prog 125 _ zP func125 (by kernel_rfl) (by kernel_rfl) (by kernel_rfl) (by kernel_rfl);have h50:=@run_callFunc_extern prog 101 _ qj func101 (by kernel_rfl) (by kernel_rfl) (by kernel_rfl) (by kernel_rfl);have h61:=@run_callFunc_extern prog 126 _ ReflectliteValue.set func126 (by kernel_rfl) (by kernel_rfl) (by kernel_rfl) (by kernel_rfl);have tF:=qK;have tE:=jh;have mA:=OG;have aF:=aaV;have aE:=Vq;have nA:=QA;have uF:=lg;have mU:=iq;have vE:=Qm;have HB:=Hh hb;have HT:=Hh ht;have B0:=Hh ((af w.heap.size w).alloc (am _) (.cells #[.pointer (some ⟨1,157,none⟩),.pointer (some ⟨b,0,none⟩),.int .u64 150] 196));clear hb ht;unfold jk Ka
 go_enter func104,ntmps104
 go_wp2;refine wp_loop_rounds 2 ?_;rw [rounds_succ]
 go_wp2_with (go_at_call 252;refine (iD _ _ _).mono ?_;rintro ev w1 ⟨rfl,b1⟩)
 have B1:=aN B0 b1;have G0:=(b1.block _ (by simp)).trans (bi w _);obtain ⟨e0,e1,e2⟩:=Dx G0;have hbl:=cd _ _ HB;have el:=Uf ⟨b,0,none⟩ ⟨tb,0,none⟩ w1 ((B1.cell hbl).trans HB);have htl:=bp HT;have T1:=(B1.block tb htl).trans HT;have T2:=(cD w1 (.cells #[.int .i64 e] 25) tb (by have:=B1.out.size;omega)).trans T1;have st:=QS ⟨tb,0,none⟩ ⟨w1.heap.size,0,none⟩ e (.int .i64 0) (w1.alloc (.cells #[.int .i64 e] 25)) (by simp) (ah T2 0) (aj T2 0);have RES:Hid (gJ w tb e (.returned (.bool true)) ((w1.alloc (.cells #[.int .i64 e] 25)).setCell ⟨tb,0,none⟩ (.int .i64 e))):=by
  refine ⟨rfl,?_,?_⟩
  ·have:=Rw.heap_setCell_same (j:=0) T2 (.int .i64 e)
   rw [this]
   simp
  ·exact (Only.of_below (B1.alloc B1.size _)).trans (Only.set (fun k=>k=tb) _ (a:=⟨tb,0,none⟩) rfl _) fun _ _ g=>g
 clear b1 G0 T1 T2 HB HT B0 B1 hbl htl;rw [rounds_succ];go_wp2
 go_ret
 exact RES
theorem Cv (n e:Int) (tb:Nat) (w:World) (hg:Glob w) (ht:w.heap[tb]? = some (.cells #[.int .i64 0] 25 (0,0))) :
 Calls prog 75 #[jk n e,.iface 157 (.pointer (some ⟨tb,0,none⟩))] w (gJ w tb e):=by
 have h50:=@run_callFunc_extern prog 101 _ qj func101 (by kernel_rfl) (by kernel_rfl) (by kernel_rfl) (by kernel_rfl);have h51:=@run_callFunc_extern prog 102 _ Ej func102 (by kernel_rfl) (by kernel_rfl) (by kernel_rfl) (by kernel_rfl);have h52:=@run_callFunc_extern prog 103 _ zN func103 (by kernel_rfl) (by kernel_rfl) (by kernel_rfl) (by kernel_rfl);have h95:=@run_callFunc_extern prog 244 _ zy func244 (by kernel_rfl) (by kernel_rfl) (by kernel_rfl) (by kernel_rfl);have h104:=@run_callFunc_extern prog 263 _ Fz func263 (by kernel_rfl) (by kernel_rfl) (by kernel_rfl) (by kernel_rfl);have h105:=@run_callFunc_extern prog 264 _ ET func264 (by kernel_rfl) (by kernel_rfl) (by kernel_rfl) (by kernel_rfl);have f6:=UK;have f7:=Qv;have mK:=Aw;have mE:=AY;have mI:=Ng;have kP:=GH;have kE:=Dz;have eP:=Ez;have iE:=Vi;have hlt:=Nat.lt_of_le_of_lt (cx _) (cd _ _ hg);have htl:=bp ht;have B2:Below w.heap.size w ((w.alloc (.cells #[.pointer (some ⟨tb,0,none⟩)] 157)).alloc (.cells #[.pointer (some ⟨1,157,none⟩),.pointer (some ⟨w.heap.size,0,none⟩),.int .u64 150] 196)):=((af w.heap.size w).alloc (am _) _).alloc (by simp) _;have n8:=QC ⟨w.heap.size,0,none⟩ ⟨tb,0,none⟩ ((w.alloc (.cells #[.pointer (some ⟨tb,0,none⟩)] 157)).alloc (.cells #[.pointer (some ⟨1,157,none⟩),.pointer (some ⟨w.heap.size,0,none⟩),.int .u64 150] 196)) (by simp);have hg2:((w.alloc (.cells #[.pointer (some ⟨tb,0,none⟩)] 157)).alloc (.cells #[.pointer (some ⟨1,157,none⟩),.pointer (some ⟨w.heap.size,0,none⟩),.int .u64 150] 196)).cell? ⟨0,0,none⟩=some (.iface 222 (.agg #[.pointer (some ⟨1,107,none⟩)])):=hg.below B2;have AL:=Hh (vT n e tb w.heap.size ((w.alloc (.cells #[.pointer (some ⟨tb,0,none⟩)] 157)).alloc (.cells #[.pointer (some ⟨1,157,none⟩),.pointer (some ⟨w.heap.size,0,none⟩),.int .u64 150] 196)) (by simp) ((B2.block tb htl).trans ht));have BB:=Hh B2;have HTL:=Hh htl;clear hg ht B2 htl;unfold jk Ka at *
 go_enter func75,ntmps75
 go_wp2_with (go_at_call 104;refine AL.mono ?_;rintro ev w1 ⟨rfl,r1,o1⟩)
 go_ret
 exact ⟨rfl,r1,(Only.of_below BB).trans o1 fun _ _ g=>g⟩
theorem FW (n e:Int) (w:World) (hg:Glob w):Calls prog 59 #[jk n e] w fun ev w'=>ev = .returned (.int .i64 e)/\Below w.heap.size w w':=by
 have B0:=Hh ((af w.heap.size w).alloc (am _) (.cells #[.int .i64 0] 25));have AS:=Hh (Cv n e w.heap.size (w.alloc (.cells #[.int .i64 0] 25)) (hg.below B0) (bi w _));clear hg;unfold jk Ka at *
 go_enter func59,ntmps59
 go_wp2_with fail;refine AS.mono ?_;rintro ev w1 ⟨rfl,r1,o1⟩;have c1:=Fl.rc r1 0;have BB:=Hh (B0.trans (o1.below (by simp) fun k hk=>by rw [hk];exact am _));clear r1 o1 B0 AS;go_wp2
 go_ret
 exact ⟨rfl,BB⟩
open Go.Maps
open Re (pI xX)
attribute [local irreducible] Sd.aU wpQuiet
def SqC (w:World) (A:aT) (nn:Int) (e:Ending) (w':World):Prop:=Below w.heap.size w w'/\((zL A=true/\∃ u,e = .returned (.tuple #[u,.nilIface])/\Rd KI w' u (jU A))\/(zL A=false/\e = .returned (.tuple #[.slice none 0 0,jk nn 2])))
theorem Xo (A:aT) (h:sN (fP A 40) (fR A 40)=0):zL A=true:=by
 unfold zL;rw [h,cg];refine ⟨?_,rfl⟩
 cases hb:fB A 40 with
 | true=>rfl
 | false =>
   exfalso
   have e:Fs.look Fs.key 40 A=none:=by
    unfold fB at hb
    cases hl:Fs.look Fs.key 40 A with
    | none=>rfl
    | some x=>rw [hl] at hb;cases hb
   have p0:fP A 40=0:=by unfold fP;rw [e]
   unfold sN at h
   split at h
   ·rename_i g
    have:=g.2.2.1
    omega
   ·omega
theorem aaW (A:aT) (h:¬ sN (fP A 40) (fR A 40)=0):zL A=false/\sN (fP A 40) (fR A 40)=2:=by
 refine ⟨?_,?_⟩
 ·unfold zL
  rw [bh h,Bool.and_false]
 ·unfold sN at h ⊢
  split
  ·rename_i g;rw [az g] at h;exact absurd rfl h
  ·rfl
section
variable {s t p:Nat} {F G:Nat->Prop} {c:Cs} {vn vq:Value} {L:List Nd} {Fs:Nat->Nat->Prop} {w w':World}
theorem jQ (h:Cl w s F c t vn L p vq Fs) {nn:Nat} (hn:nn < c.S.length):Calls prog 53 #[ptr s,.int .i64 nn] w (SqC w (sat c.S nn).1 nn):=by
 have C1:=Hh (Ae h hn 40);have OK:=Hh (Zg (h.VD hn).okA 40);unfold Ss at C1;clear h hn;generalize (sat c.S nn).1=A at *;have Z:=Hh (Xo A);have T:=Hh (aaW A);have HL:Hid (sL (fP A 40) (fR A 40)=jU A):=Hh rfl;unfold ptr at *
 go_enter func53,ntmps53
 go_wp2_with fail;refine C1.mono ?_;rintro e w1 ⟨v,rfl,rv,b1⟩;have C2:=Hh (pI w1 (fP A 40) v (fR A 40) rv OK);have B1:=Hh b1;obtain ⟨a,cap,rfl,_⟩:=rv.slice;unfold nC at C2;rw [HL.out] at C2;clear C1 rv b1 OK HL;generalize sN (fP A 40) (fR A 40)=z at *;generalize fP A 40=fp at *;generalize (fR A 40).length=n at *;unfold file at *;go_wp2_with fail;refine C2.mono ?_;rintro e w2 ⟨u,rfl,ru,b2⟩;have B2:=aN B1 b2;have RU:=Hh ru;obtain ⟨ua,uc,rfl,_⟩:=RU.slice;clear ru b2 C2 B1;generalize (jU A).length=ln at RU ⊢
 by_cases hz:z=0
 ·have E:Hid (SqC w A nn (.returned (.tuple #[.slice ua ln uc,.nilIface])) w2):=Hh ⟨B2,.inl ⟨Z hz,_,rfl,RU⟩⟩
  subst hz;clear Z T RU B2;go_wp2
  go_ret2
  exact E
 ·obtain ⟨t1,t2⟩:=T hz
  subst t2;have E:Hid (SqC w A nn (.returned (.tuple #[.slice none 0 0,.iface 166 (.agg #[.int .i64 nn,.iface 25 (.int .i64 2)])])) w2):=Hh ⟨B2,.inr ⟨t1,rfl⟩⟩;clear Z T RU B2 hz t1;go_wp2
  go_ret2
  exact E
variable {l:List Int}
theorem aci (hs:fU l) (h:c.pl < l.length):nE l c.pl=0/\nR l c.pl=fC l (Dv c l)/\nT l c.pl=(tH c l:Int):=by
 have hx:JO l c.pl:=⟨hs,by omega,by omega⟩;unfold nE nR nT tH Dv;rw [az hx,az hx,az hx,aq (by omega),cU];refine ⟨rfl,rfl,?_⟩
 by_cases e:c.pl+1=l.length
 ·rw [az (by omega),az e];rfl
 ·rw [aq (by omega),aq e];omega
theorem aaL (hs:fU l) (h:¬ c.pl < l.length):nE l c.pl=1/\nR l 0=fC l (Dv c l)/\nT l 0=(tH c l:Int):=by
 have hx:¬ JO l c.pl:=fun g=>by have:=g.2.2;omega
 have hy:JO l 0:=⟨hs,by omega,by have:=hs.1;omega⟩;unfold nE nR nT tH Dv;rw [aq hx,az hy,az hy,az (by omega)];refine ⟨rfl,rfl,?_⟩
 by_cases e:0+1=l.length
 ·rw [az (by omega),az e];rfl
 ·rw [aq (by omega),aq e];rfl
def zq (w:World) (s:Nat) (x:Int) (n:Nat) (e:Ending) (w':World):Prop:=e = .returned (.int .i64 x)/\∃ w1,Below w.heap.size w w1/\w'=w1.setCell ⟨s,2,none⟩ (.int .i64 n)
theorem Nw (h:Cl w s F c t vn L p vq Fs) {v:Value} (R:Rd KI w v l) (hs:fU l):Calls prog 61 #[ptr s,v] w (zq w s (fC l (Dv c l)) (tH c l)):=by
 have C1:=Hh (xX w v l c.pl R);have C2:=Hh (fun w1 b=>xX w1 v l 0 (R.below (w':=w1) b));have H:=Hh h;have d2:=h.cells.2.2.1;have IN:=Hh (aci (c:=c) hs);have OUT:=Hh (aaL (c:=c) hs);obtain ⟨a,cap,rfl,_⟩:=R.slice;clear h hs R;unfold j4 at C1 C2;generalize fC l (Dv c l)=x at *;generalize tH c l=y at *
 by_cases hp:c.pl < l.length
 ·obtain ⟨e1,e2,e3⟩:=IN hp
  rw [e1,e2,e3] at C1;have HH:=Hh (fun w1 b=>(H.below (w':=w1) b).cells.2.2.1);have HF:=Hh (fun w1 b=>(H.below (w':=w1) b).frz 2);clear e1 e2 e3 IN OUT C2 hp H;generalize c.pl=pl at *;generalize l.length=n at *;unfold ptr at *
  go_enter func61,ntmps61
  go_wp2_with fail;refine C1.mono ?_;rintro e w1 ⟨rfl,b1⟩;have k2:=HH.out w1 b1;have f2:=HF.out w1 b1;have E:Hid (zq w s x y (.returned (.int .i64 x)) (w1.setCell ⟨s,2,none⟩ (.int .i64 y))):=Hh ⟨rfl,w1,b1,rfl⟩;clear C1 HH HF b1 d2;go_wp2
  go_ret
  exact E
 ·obtain ⟨e1,e2,e3⟩:=OUT hp
  rw [e1] at C1;rw [e2,e3] at C2;have HH:=Hh (fun w1 b=>(H.below (w':=w1) b).cells.2.2.1);have HF:=Hh (fun w1 b=>(H.below (w':=w1) b).frz 2);clear e1 e2 e3 IN OUT hp H;generalize nR l c.pl=x0 at *;generalize nT l c.pl=y0 at *;generalize nE l 0=z0 at *;generalize c.pl=pl at *;generalize l.length=n at *;unfold ptr at *
  go_enter func61,ntmps61
  go_wp2_with fail;refine C1.mono ?_;rintro e w1 ⟨rfl,b1⟩;have D2:=Hh (C2 w1 b1);have B1:=Hh b1;clear C1 C2 b1 d2;go_wp2_with fail;refine D2.mono ?_;rintro e w2 ⟨rfl,b2⟩;have B2:=aN B1 b2;have k2:=HH.out w2 B2;have f2:=HF.out w2 B2;have E:Hid (zq w s x y (.returned (.int .i64 x)) (w2.setCell ⟨s,2,none⟩ (.int .i64 y))):=Hh ⟨rfl,w2,B2,rfl⟩;clear D2 HH HF B1 B2 b2;go_wp2
  go_ret
  exact E
end
end Cu
