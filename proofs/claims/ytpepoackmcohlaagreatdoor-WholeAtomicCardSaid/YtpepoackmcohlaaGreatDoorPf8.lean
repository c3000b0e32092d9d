import Derived.Test.YtpepoackmcohlaaGreatDoorPf7
set_option maxRecDepth 100000
set_option maxHeartbeats 4000000
namespace Go.Proofs.YtpepoackmcohlaaGreatDoor
open Go.Proofs.Tryz Go.RowKit
open Fl (K4 R4 aA aH aI aJ aK aL aN aT aU ah aj at4 bA bH bN cZ dO dR eU fK file gN hdr jB jH newL newP qV rat sW vR xC z4)
open Fs (E3 Fx Only St aB aC aP at3 dF dX)
open Pa (K2 KB KN S2 bO bU ptr sat)
open Re (KI kQ)
open Ro (E5 K5 jJ pQ)
open Rw (At Ow Rd)
namespace Cu
open Go.Maps
structure Nd where
 s:Nat
 live:Bool
 rate:Int
def ndD:Nd:=⟨0,false,0⟩
def KD:Rw.Kind Nd:=⟨fun x=>[ptr x.s,.bool x.live,.int .i64 x.rate],3,by decide,fun _=>rfl,fun _ u h=>by simp [ptr] at h;rcases h with rfl | rfl | rfl <;> rfl,ndD⟩
def iI (L:List Nd) (i:Nat):Nd:=L.getD i ndD
theorem acB:(prog.info? 74).map (fun i=>(i.zero,i.size,i.bytes))=some (some (.agg #[.pointer none,.bool false,.int .i64 0]),3,24):=by kernel_rfl
variable {b off i:Nat} {L:List Nd}
theorem atD {w:World} (h:At KD w b off L) (hi:i < L.length):w.cell? ⟨b,off+i * 3,none⟩=some (ptr (iI L i).s)/\w.cell? ⟨b,off+i * 3+1,none⟩=some (.bool (iI L i).live)/\w.cell? ⟨b,off+i * 3+2,none⟩=some (.int .i64 (iI L i).rate) :=
 ⟨h i hi 0 _ rfl,h i hi 1 _ rfl,h i hi 2 _ rfl⟩
theorem ni (hi:i < L.length) (x:Nd) (j:Nat):iI (L.set i x) j=if j=i then x else iI L j:=by
 unfold iI;rw [af,af,hJ]
 by_cases e:j=i
 ·subst e;rw [aw rfl,aw rfl,aw hi];rfl
 ·rw [aq (by omega),aq e]
structure Cl (w:World) (s:Nat) (F:Nat->Prop) (c:Cs) (t:Nat) (vn:Value) (L:List Nd) (p:Nat) (vq:Value) (Fs:Nat->Nat->Prop):Prop where
 row:w.heap[s]? = some (.cells #[vn,ptr p,.int .i64 c.pl,vq] 69 (0,0))
 no:Ow KD w 0 74 vn L
 len:L.length=c.S.length
 st:∀ i,i < L.length->St w (iI L i).s (Fs i) (sat c.S i).1 (sat c.S i).2
 lv:∀ i:Nat,i < L.length->(iI L i).live=bU c.V i
 rt:∀ i,i < L.length->-2000<=(iI L i).rate/\(iI L i).rate<=2000
 pr:Wt.Pr w p c.P t
 sp:Ow K2 w 0 95 vq c.Q
 fs:F s
 fp:F p
 fv:∀ k,vn.ownBlock=some k\/vq.ownBlock=some k->F k
 ff:∀ i,i < L.length->∀ k,Fs i k->F k
 DY:∀ i j,i < L.length->j < L.length->i≠j->∀ k,Fs i k->¬ Fs j k
 off:∀ i,i < L.length->∀ k,Fs i k->k≠s/\k≠p/\vn.ownBlock≠some k/\vq.ownBlock≠some k
 low:∀ k,F k->k < w.heap.size
def ClE (w:World) (s:Nat) (F:Nat->Prop) (c:Cs) (t:Nat):Prop:=∃ vn L p vq Fs,Cl w s F c t vn L p vq Fs
section
variable {s t p:Nat} {F G:Nat->Prop} {c:Cs} {vn vq:Value} {L:List Nd} {Fs:Nat->Nat->Prop} {w w':World}
theorem Cl.slt (h:Cl w s F c t vn L p vq Fs):s < w.heap.size:=bm h.row
variable {a P:Wt.A}
theorem TL (h:Wt.Pr w p a t):∃ cs,w.heap[p]? = some (.cells cs 107 (0,0)):=by obtain ⟨_,_,h,_⟩:=h;exact ⟨_,h⟩
theorem Cl.Ig (h:Cl w s F c t vn L p vq Fs):s≠p:=fun e=>by
 obtain ⟨cs,hp⟩:=TL h.pr;have:=h.row;rw [e,hp] at this;injection this with this;injection this with _ h2 _;exact absurd h2 (by decide)
theorem Cl.vs (h:Cl w s F c t vn L p vq Fs):vn.ownBlock≠some s/\vq.ownBlock≠some s:=⟨h.no.apart h.row (by decide),h.sp.apart h.row (by decide)⟩
theorem Cl.vp (h:Cl w s F c t vn L p vq Fs):vn.ownBlock≠some p/\vq.ownBlock≠some p:=by
 obtain ⟨cs,hp⟩:=TL h.pr;exact ⟨h.no.apart hp (by decide),h.sp.apart hp (by decide)⟩
theorem Cl.vv (h:Cl w s F c t vn L p vq Fs):∀ k,vn.ownBlock=some k->vq.ownBlock≠some k:=fun k hk=>by
 obtain ⟨_,g⟩:=h.no
 rcases g with ⟨rfl,_⟩ | ⟨b,cap,cur,rfl,_,hh,_⟩
 ·simp [Value.ownBlock] at hk
 ·simp only [Value.ownBlock,eJ] at hk
  subst hk;exact h.sp.apart hh (by decide)
theorem Cl.only (h:Cl w s F c t vn L p vq Fs) (hn:∀ k,F k->¬ G k) (o:Only G w w'):Cl w' s F c t vn L p vq Fs :=
 ⟨(o.block s h.slt (hn s h.fs)).trans h.row,aC h.no (fun k e=>hn k (h.fv k (.inl e))) o,h.len,fun i hi=>(h.st i hi).only (fun k g=>hn k (h.ff i hi k g)) o,h.lv,h.rt,h.pr.only o (hn p h.fp),aC h.sp (fun k e=>hn k (h.fv k (.inr e))) o,h.fs,h.fp,h.fv,h.ff,h.DY,h.off,fun k g=>cd (h.low k g) o.size⟩
theorem Cl.below (h:Cl w s F c t vn L p vq Fs) (b:Below w.heap.size w w'):Cl w' s F c t vn L p vq Fs:=h.only (G:=fun _=>False) (fun _ _ g=>g) (Only.of_below b)
theorem Cl.wide (h:Cl w s F c t vn L p vq Fs) (hF:∀ k,F k->G k) (hl:∀ k,G k->k < w.heap.size):Cl w s G c t vn L p vq Fs :=
 ⟨h.row,h.no,h.len,h.st,h.lv,h.rt,h.pr,h.sp,hF s h.fs,hF p h.fp,fun k g=>hF k (h.fv k g),fun i hi k g=>hF k (h.ff i hi k g),h.DY,h.off,hl⟩
theorem Cl.fx (w0:World) (h:Cl w s F c t vn L p vq Fs):Cl w s (Fx F w0 w) c t vn L p vq Fs:=h.wide (fun k g=>.inl g) fun k g=>by
 rcases g with g | g
 ·exact h.low k g
 ·exact g.2
theorem Cl.cells (h:Cl w s F c t vn L p vq Fs):w.cell? ⟨s,0,none⟩=some vn/\w.cell? ⟨s,1,none⟩=some (ptr p)/\w.cell? ⟨s,2,none⟩=some (.int .i64 c.pl)/\w.cell? ⟨s,3,none⟩=some vq:=⟨ah h.row 0,ah h.row 1,ah h.row 2,ah h.row 3⟩
theorem Cl.Va (h:Cl w s F c t vn L p vq Fs) (k:Nat):w.frozen? ⟨s,k,none⟩=false:=aj h.row k
theorem Cl.pair (h:Cl w s F c t vn L p vq Fs) {t':Nat} (o:Only (fun k=>k=p) w w') (hp:Wt.Pr w' p P t'):Cl w' s F { c with P:=P } t' vn L p vq Fs :=
 ⟨(o.block s h.slt h.Ig).trans h.row,aC h.no (fun k e g=>h.vp.1 (by rw [e,g])) o,h.len,fun i hi=>(h.st i hi).only (fun k g e=>(h.off i hi k g).2.1 e) o,h.lv,h.rt,hp,aC h.sp (fun k e g=>h.vp.2 (by rw [e,g])) o,h.fs,h.fp,h.fv,h.ff,h.DY,h.off,fun k g=>cd (h.low k g) o.size⟩
theorem Yg (h:Wt.Pr w p a t):Wt.Pr w p a (t+1):=by
 obtain ⟨z0,z1,hr,hv⟩:=h;exact ⟨z0,z1,hr,⟨by have:=hv.b0;omega,by have:=hv.b1;omega,hv.e0,hv.e1⟩⟩
theorem Cl.late (h:Cl w s F c t vn L p vq Fs):Cl w s F c (t+1) vn L p vq Fs:=⟨h.row,h.no,h.len,h.st,h.lv,h.rt,Yg h.pr,h.sp,h.fs,h.fp,h.fv,h.ff,h.DY,h.off,h.low⟩
theorem Cl.place (h:Cl w s F c t vn L p vq Fs) (n:Nat):Cl (w.setCell ⟨s,2,none⟩ (.int .i64 n)) s F { c with pl:=n } t vn L p vq Fs:=by
 have o:Only (fun k=>k=s) w (w.setCell ⟨s,2,none⟩ (.int .i64 n)):=Only.set (fun k=>k=s) w (a:=⟨s,2,none⟩) rfl _;have rw_:(w.setCell ⟨s,2,none⟩ (.int .i64 n)).heap[s]? = some (.cells #[vn,ptr p,.int .i64 n,vq] 69 (0,0)):=Rw.heap_setCell_same (j:=2) h.row _;exact ⟨rw_,aC h.no (fun k e g=>h.vs.1 (by rw [e,g])) o,h.len,fun i hi=>(h.st i hi).only (fun k g e=>(h.off i hi k g).1 e) o,h.lv,h.rt,h.pr.only o (fun e=>h.Ig e.symm),aC h.sp (fun k e g=>h.vs.2 (by rw [e,g])) o,h.fs,h.fp,h.fv,h.ff,h.DY,h.off,fun k g=>cd (h.low k g) o.size⟩
theorem Cl.VJ (h:Cl w s F c t vn L p vq Fs) {v:Value} {Q:List S2} (hq:Ow K2 w 0 95 v Q) (hF:∀ k,v.ownBlock=some k->F k) (hn:∀ i,i < L.length->∀ k,Fs i k->v.ownBlock≠some k):Cl (w.setCell ⟨s,3,none⟩ v) s F { c with Q:=Q } t vn L p v Fs:=by
 have o:Only (fun k=>k=s) w (w.setCell ⟨s,3,none⟩ v):=Only.set (fun k=>k=s) w (a:=⟨s,3,none⟩) rfl _;have rw_:(w.setCell ⟨s,3,none⟩ v).heap[s]? = some (.cells #[vn,ptr p,.int .i64 c.pl,v] 69 (0,0)):=Rw.heap_setCell_same (j:=3) h.row _;refine ⟨rw_,aC h.no (fun k e g=>h.vs.1 (by rw [e,g])) o,h.len,fun i hi=>(h.st i hi).only (fun k g e=>(h.off i hi k g).1 e) o,h.lv,h.rt,h.pr.only o (fun e=>h.Ig e.symm),aC hq (fun k e g=>hq.apart h.row (by decide) (by rw [e,g])) o,h.fs,h.fp,fun k g=>?_,h.ff,h.DY,fun i hi k g=>?_,fun k g=>cd (h.low k g) o.size⟩
 ·rcases g with g | g
  ·exact h.fv k (.inl g)
  ·exact hF k g
 ·have:=h.off i hi k g
  exact ⟨this.1,this.2.1,this.2.2.1,hn i hi k g⟩
theorem Cl.store (h:Cl w s F c t vn L p vq Fs) (hi:i < L.length) {x:aP×Int} (hs:St w' (iI L i).s (Fx (Fs i) w w') x.1 x.2) (o:Only (Fs i) w w'):Cl w' s (Fx F w w') { c with S:=jT c.S i x } t vn L p vq (fun j=>if j=i then Fx (Fs i) w w' else Fs j):=by
 have of:=h.off i hi;have hz:=o.size;have lt:∀ j,j < L.length->∀ k,Fs j k->k < w.heap.size:=fun j hj=>(h.st j hj).low;have vl:∀ k,vn.ownBlock=some k\/vq.ownBlock=some k->k < w.heap.size:=fun k g=>h.low k (h.fv k g);refine ⟨(o.block s h.slt fun g=>(of s g).1 rfl).trans h.row,aC h.no (fun k e g=>(of k g).2.2.1 e) o,by show L.length=(jT c.S i x).length;rw [h.len];exact List.length_set.symm,fun j hj=>?_,h.lv,h.rt,h.pr.only o (fun g=>(of p g).2.1 rfl),aC h.sp (fun k e g=>(of k g).2.2.2 e) o,.inl h.fs,.inl h.fp,fun k g=>.inl (h.fv k g),fun j hj k g=>?_,fun a b ha hb hab k g=>?_,fun j hj k g=>?_,Fx.low h.low hz⟩
 ·show St w' _ _ (sat (jT c.S i x) j).1 (sat (jT c.S i x) j).2
  rw [CQ (by omega) (by have:=h.len;omega)]
  by_cases e:j=i
  ·subst e
   rw [aw rfl,aw rfl];exact hs
  ·rw [aq e,aq (by omega)]
   exact (h.st j hj).only (fun k g q=>h.DY j i hj hi e k g q) o
 ·by_cases e:j=i
  ·rw [aw e] at g
   rcases g with g | g
   ·exact .inl (h.ff i hi k g)
   ·exact .inr g
  ·rw [aq e] at g
   exact .inl (h.ff j hj k g)
 ·by_cases ea:a=i
  ·rw [aw ea] at g
   rw [aq (fun q=>hab (ea.trans q.symm))]
   rcases g with g | g
   ·exact h.DY i b hi hb (fun q=>hab (ea.trans q)) k g
   ·intro q;have:=lt b hb k q;omega
  ·rw [aq ea] at g
   by_cases eb:b=i
   ·rw [aw eb]
    rintro (q | q)
    ·exact h.DY a i ha hi ea k g q
    ·have:=lt a ha k g;omega
   ·rw [aq eb]
    exact h.DY a b ha hb hab k g
 ·by_cases e:j=i
  ·rw [aw e] at g
   rcases g with g | g
   ·exact of k g
   ·have a1:=h.slt
    have a2:=h.pr.lt;exact ⟨by omega,by omega,fun q=>by have:=vl k (.inl q);omega,fun q=>by have:=vl k (.inr q);omega⟩
  ·rw [aq e] at g
   exact h.off j hj k g
theorem Cl.node (h:Cl w s F c t vn L p vq Fs) {g:Nat} (hg:vn.ownBlock=some g) {L':List Nd} {V:List Bool} (o:Only (fun k=>k=g) w w') (hno:Ow KD w' 0 74 vn L') (hl:L'.length=L.length) (hs:∀ i,i < L.length->(iI L' i).s=(iI L i).s) (hv:∀ i:Nat,i < L.length->(iI L' i).live=bU V i) (hr:∀ i,i < L.length->-2000<=(iI L' i).rate/\(iI L' i).rate<=2000):Cl w' s F { c with V:=V } t vn L' p vq Fs:=by
 refine ⟨(o.block s h.slt fun e=>h.vs.1 (by rw [hg,e])).trans h.row,hno,hl.trans h.len,fun i hi=>?_,fun i hi=>hv i (by omega),fun i hi=>hr i (by omega),h.pr.only o (fun e=>h.vp.1 (by rw [hg,e])),aC h.sp (fun k e q=>h.vv g hg (by rw [e,q])) o,h.fs,h.fp,h.fv,fun i hi=>h.ff i (by omega),fun i j hi hj=>h.DY i j (by omega) (by omega),fun i hi=>h.off i (by omega),fun k q=>cd (h.low k q) o.size⟩;rw [hs i (by omega)];exact (h.st i (by omega)).only (fun k q e=>(h.off i (by omega) k q).2.2.1 (by rw [hg,e])) o
end
def kg (w:World) (s:Nat) (F:Nat->Prop) (c:Cs) (t:Nat) (x:Int) (e:Ending) (w':World):Prop:=e = .returned (.int .i64 x)/\ClE w' s (Fx F w w') c t/\Only F w w'
section
variable {s t:Nat} {F:Nat->Prop} {c:Cs} {w w1 w':World}
theorem kg.late {x:Int} {e:Ending} (h:kg w s F c t x e w'):kg w s F c (t+1) x e w':=by
 obtain ⟨h1,⟨vn,L,p,vq,Fs,h2⟩,h3⟩:=h;exact ⟨h1,⟨vn,L,p,vq,Fs,h2.late⟩,h3⟩
variable {x:Int} {e:Ending}
theorem kg.preO (h:kg w1 s F c t x e w') (o:Only F w w1) (low:∀ k,F k->k < w.heap.size):kg w s F c t x e w':=by
 obtain ⟨h1,⟨vn,L,p,vq,Fs,h2⟩,h3⟩:=h;have z1:=o.size;have z2:=h3.size;refine ⟨h1,⟨vn,L,p,vq,Fs,h2.wide (fun k g=>?_) (fun k g=>?_)⟩,o.trans h3 fun _ _ g=>g⟩
 ·rcases g with g | g
  ·exact .inl g
  ·exact .inr ⟨by omega,g.2⟩
 ·rcases g with g | g
  ·have:=low k g;omega
  ·exact g.2
theorem kg.pre (h:kg w1 s F c t x e w') (b:Below w.heap.size w w1) (low:∀ k,F k->k < w.heap.size):kg w s F c t x e w':=h.preO (Only.of_below b) low
end
open Fs (Ak)
attribute [local irreducible] Sd.aW wpQuiet
section
variable {s t p:Nat} {F G:Nat->Prop} {c:Cs} {vn vq:Value} {L:List Nd} {Fs:Nat->Nat->Prop} {w w':World}
theorem Cl.one (h:Cl w s F c t vn L p vq Fs) (hi:i < c.S.length):∃ g cap,vn = .slice (some ⟨g,0,none⟩) c.S.length cap/\c.S.length<=cap/\cap<=maxLen/\w.cell? ⟨g,i * 3,none⟩=some (ptr (iI L i).s)/\w.cell? ⟨g,i * 3+1,none⟩=some (.bool (bU c.V i))/\w.cell? ⟨g,i * 3+2,none⟩=some (.int .i64 (iI L i).rate)/\∀ k,w.frozen? ⟨g,k,none⟩=false:=by
 have hl:=h.len;obtain ⟨g,cap,e,_,_,h1,h2,fz,hA⟩:=h.no.form (by omega);have q:=atD hA (i:=i) (by omega);rw [cX,h.lv i (by omega)] at q;rw [hl] at e h1;exact ⟨g,cap,e,h1,h2,q.1,q.2.1,q.2.2,fz⟩
variable {g cap n:Nat}
theorem Cl.nod (h:Cl w s F c t (.slice (some ⟨g,0,none⟩) c.S.length cap) L p vq Fs) (hi:i < c.S.length):w.cell? ⟨g,i * 3,none⟩=some (ptr (iI L i).s)/\w.cell? ⟨g,i * 3+1,none⟩=some (.bool (iI L i).live)/\w.cell? ⟨g,i * 3+2,none⟩=some (.int .i64 (iI L i).rate):=by
 have hl:=h.len;obtain ⟨g',cap',e,_,_,h1,h2,fz,hA⟩:=h.no.form (by omega);injection e with e1 _ _;injection e1 with e1;injection e1 with e1 _ _;subst e1;have q:=atD hA (i:=i) (by omega);rw [cX] at q;exact q
theorem Cl.slice (h:Cl w s F c t vn L p vq Fs):∃ a cap,vn = .slice a c.S.length cap/\c.S.length<=cap/\cap<=maxLen:=by
 obtain ⟨a,cap,e,h1,h2⟩:=h.no.slice;rw [h.len] at e h1;exact ⟨a,cap,e,h1,h2⟩
theorem Cl.sto (h:Cl w s F c t vn L p vq Fs) (hi:i < c.S.length):St w (iI L i).s (Fs i) (sat c.S i).1 (sat c.S i).2:=h.st i (by rw [h.len];exact hi)
theorem nJ (h:Cl w s F c t vn L p vq Fs) (hn:n < c.S.length):Calls prog 33 #[ptr s,.int .i64 n] w fun e w'=>e = .returned (.bool true)/\Below w.heap.size w w':=by
 obtain ⟨a,cap,rfl,_,_⟩:=h.slice;have d0:=h.cells.1;clear h;generalize c.S.length=ln at *;have p1:decide ((0:Int)<=(n:Int))=true:=bi (by omega);have p2:decide ((n:Int) < (ln:Int))=true:=bi (by omega);unfold ptr
 go_enter func33,ntmps33
 go_wp2
 go_ret
 exact ⟨rfl,aa _ _⟩
theorem Gq (h:Cl w s F c t vn L p vq Fs) {n:Int} (hn:no c n):Calls prog 33 #[ptr s,.int .i64 n] w fun e w'=>e = .returned (.bool false)/\Below w.heap.size w w':=by
 obtain ⟨a,cap,rfl,_,_⟩:=h.slice;have d0:=h.cells.1;clear h;unfold no at hn;generalize c.S.length=ln at *;unfold ptr
 by_cases h0:0<=n
 ·have p2:decide (n < (ln:Int))=false:=ai (by omega)
  clear hn
  go_enter func33,ntmps33
  go_wp2
  go_ret
  exact ⟨rfl,aa _ _⟩
 ·have p1:decide (0<=n)=false:=ai h0
  clear hn
  go_enter func33,ntmps33
  go_wp2
  go_ret
  exact ⟨rfl,aa _ _⟩
theorem Qo (h:Cl w s F c t vn L p vq Fs) (n:Int):Calls prog 17 #[ptr s,.int .i64 n] w fun e w'=>e = .returned (.int .i64 (Wt.rl c.P n))/\Below w.heap.size w w':=by
 have d1:=h.cells.2.1;have C1:=Hh (Wt.Vt h.pr n);clear h;generalize Wt.rl c.P n=r at *;unfold ptr at *
 go_enter func17,ntmps17
 go_wp2_with fail;refine C1.mono ?_;rintro e w1 ⟨rfl,b1⟩;go_wp2
 go_ret
 exact ⟨rfl,b1⟩
theorem Bl (h:Cl w s F c t vn L p vq Fs) (hn:n < c.S.length):Calls prog 15 #[ptr s,.int .i64 n] w (dF w (sat c.S n).1):=by
 have C1:=Hh (nJ h hn);have H:=Hh h;obtain ⟨g,cap,rfl,_,hm,_⟩:=h.one hn;clear h;unfold ptr at *
 go_enter func15,ntmps15
 go_wp2_with fail;refine C1.mono ?_;rintro e w1 ⟨rfl,b1⟩;obtain ⟨g',cap',e',_,_,d1,_⟩:=(H.below b1).one hn;injection e' with e1 _ e3;injection e1 with e1;injection e1 with e1 _ _;subst e1 e3;have d0:=(H.below b1).cells.1;have B1:=Hh b1;have C2:=Hh (Ak ((H.below b1).sto hn));have p5:decide (c.S.length<=n)=false:=ai (by omega);unfold dF at C2;unfold ptr at *;clear H C1 b1;generalize c.S.length=ln at *;generalize (sat c.S n).1=A at *;generalize (iI L n).s=q at *;go_wp2_with fail;refine C2.mono ?_;rintro e w2 ⟨v,rfl,hv,b2⟩;have E:Hid (dF w A (.returned v) w2):=Hh ⟨v,rfl,fun F hF=>hv F fun k hk=>cd (hF k hk) B1.size,aR B1 b2⟩;clear hv b2 C2 B1;go_wp2
 go_ret
 exact E
end
end Cu
namespace Cu
def wU (c:Cs):Prop:=(bU c.V 0=true↔c.P.r0≠4)/\(bU c.V 1=true↔c.P.r1≠4)
theorem adS (a:Wt.A):((Wt.t1 a).r0=4↔a.r0=4)/\(Wt.t1 a).r1=a.r1:=by
 unfold Wt.t1
 split
 ·rename_i g
  refine ⟨?_,rfl⟩
  show (1:Int)=4↔_
  omega
 ·exact ⟨Iff.rfl,rfl⟩
theorem adL (a:Wt.A):((Wt.t2 a).r1=4↔a.r1=4)/\(Wt.t2 a).r0=a.r0:=by
 unfold Wt.t2
 split
 ·rename_i g
  refine ⟨?_,rfl⟩
  show (1:Int)=4↔_
  omega
 ·exact ⟨Iff.rfl,rfl⟩
theorem ZV (r:Int):Wt.hdN r=4↔r=4:=by
 unfold Wt.hdN
 split <;> omega
theorem adO (a:Wt.A):((Wt.hd a).r0=4↔a.r0=4)/\((Wt.hd a).r1=4↔a.r1=4):=by
 unfold Wt.hd
 split
 ·rename_i g
  refine ⟨?_,ZV _⟩
  show (1:Int)=4↔_
  omega
 ·split
  ·rename_i g
   refine ⟨ZV _,?_⟩
   show (1:Int)=4↔_
   omega
  ·exact ⟨Iff.rfl,Iff.rfl⟩
theorem acZ (a:Wt.A):((Wt.jo a).r0=4↔a.r0=4)/\((Wt.jo a).r1=4↔a.r1=4):=by
 unfold Wt.jo Wt.tk;have h1:=adO (Wt.t2 (Wt.t1 a));have h2:=adL (Wt.t1 a);have h3:=adS a;rw [h1.1,h1.2,h2.1,h2.2,h3.1,h3.2];exact ⟨Iff.rfl,Iff.rfl⟩
theorem wU.jo {c:Cs} (h:wU c):(bU c.V 0=true↔(Wt.jo c.P).r0≠4)/\(bU c.V 1=true↔(Wt.jo c.P).r1≠4):=by
 have q:=acZ c.P;refine ⟨h.1.trans ?_,h.2.trans ?_⟩
 ·rw [Ne,Ne,q.1]
 ·rw [Ne,Ne,q.2]
variable {c:Cs}
theorem wU.round (h:wU c):wU (rC c):=by
 have q:=h.jo;unfold rC
 split
 ·exact q
 ·split
  ·exact q
  ·exact q
theorem KT (L:List Pl) (h:2<=L.length):wU (newC L):=by
 refine ⟨?_,?_⟩
 ·have:=Lx (L:=L) (i:=0) (by omega)
  rw [show bU (newC L).V 0=true from this]
  show true=true↔(1:Int)≠4
  simp
 ·have:=Lx (L:=L) (i:=1) (by omega)
  rw [show bU (newC L).V 1=true from this]
  show true=true↔(2:Int)≠4
  simp
theorem wU.act {t:Nat} (h:wU c) (ok:kC c t) (x:Ac):wU (bE x c):=by
 unfold bE
 by_cases h1:x.k=1
 ·rw [aw h1];exact h.round
 ·rw [aq h1]
  by_cases he:aX x c≠0
  ·rw [aw he];exact h
  ·rw [aq he]
   have he:=Classical.not_not.1 he;unfold aX at he;rw [aq h1] at he
   by_cases h3:x.k=3
   ·rw [aw h3];exact h
   ·rw [aq h3]
    rw [aq h3] at he
    by_cases hn:x.k < 2\/6 < x.k\/no c x.n
    ·rw [aw hn] at he;omega
    ·rw [aq hn] at he
     have hin:0<=x.n/\x.n < c.S.length:=by
      have:¬ no c x.n:=fun g=>hn (.inr (.inr g));unfold no at this
      omega
     have hv:=ok.lv
     by_cases h2:x.k=2
     ·rw [aw h2];exact h
     ·rw [aq h2]
      by_cases h4:x.k=4
      ·rw [aw h4]
       have v0:bU (c.V.set x.n.toNat false) 0=_:=qB hin.1 (by omega) 0 (by omega);have v1:bU (c.V.set x.n.toNat false) 1=_:=qB hin.1 (by omega) 1 (by omega);refine ⟨?_,?_⟩
       ·show bU (c.V.set x.n.toNat false) 0=true↔(Wt.kG c.P x.n).r0≠4
        rw [v0];unfold Wt.kG
        by_cases e:x.n=0
        ·rw [aw e.symm,aw e];simp
        ·rw [aq (fun g=>e g.symm),aq e]
         split <;> exact h.1
       ·show bU (c.V.set x.n.toNat false) 1=true↔(Wt.kG c.P x.n).r1≠4
        rw [v1];unfold Wt.kG
        by_cases e:x.n=0
        ·rw [aq (by omega),aw e];exact h.2
        ·rw [aq e]
         by_cases e1:x.n=1
         ·rw [aw e1.symm,aw e1];simp
         ·rw [aq (fun g=>e1 g.symm),aq e1];exact h.2
      ·rw [aq h4]
       rw [aq h2,aq h4] at he
       by_cases h5:x.k=5
       ·rw [aw h5]
        rw [aw h5] at he;have hvn:bU c.V x.n=false:=by
         cases hb:bU c.V x.n with
         | false=>rfl
         | true=>rw [hb,aw rfl] at he;omega
        have v0:bU (c.V.set x.n.toNat true) 0=_:=qB hin.1 (by omega) 0 (by omega);have v1:bU (c.V.set x.n.toNat true) 1=_:=qB hin.1 (by omega) 1 (by omega);refine ⟨?_,?_⟩
        ·show bU (c.V.set x.n.toNat true) 0=true↔(Wt.kH c.P x.n).r0≠4
         rw [v0];unfold Wt.kH
         by_cases e:x.n=0
         ·rw [aw e.symm,aw e]
          have r4:c.P.r0=4:=Classical.not_not.1 fun g=>by have:=h.1.2 g;rw [e] at hvn;rw [hvn] at this;cases this
          rw [aw r4];simp
         ·rw [aq (fun g=>e g.symm),aq e]
          split
          ·split <;> exact h.1
          ·exact h.1
        ·show bU (c.V.set x.n.toNat true) 1=true↔(Wt.kH c.P x.n).r1≠4
         rw [v1];unfold Wt.kH
         by_cases e:x.n=0
         ·rw [aq (by omega),aw e]
          split <;> exact h.2
         ·rw [aq e]
          by_cases e1:x.n=1
          ·rw [aw e1.symm,aw e1]
           have r4:c.P.r1=4:=Classical.not_not.1 fun g=>by have:=h.2.2 g;rw [e1] at hvn;rw [hvn] at this;cases this
           rw [aw r4];simp
          ·rw [aq (fun g=>e1 g.symm),aq e1];exact h.2
       ·rw [aq h5];exact h
open Go.Maps
attribute [local irreducible] Sd.aW wpQuiet
section
variable {s t p:Nat} {F G:Nat->Prop} {c:Cs} {vn vq:Value} {L:List Nd} {Fs:Nat->Nat->Prop} {w w':World}
variable {g n cap i p' t':Nat}
theorem Mj (h:Ow KD w 0 74 (.slice (some ⟨g,0,none⟩) n cap) L) (hn:L.length=n) (hi:i < n) (j:Nat) (hj:j < 3) (u:Value) (x:Nd) (hx:KD.enc x=(KD.enc (iI L i)).set j u):Ow KD (w.setCell ⟨g,i * 3+j,none⟩ u) 0 74 (.slice (some ⟨g,0,none⟩) n cap) (L.set i x):=by
 subst hn;exact Rw.Ow.set h i j hi hj u x hx
theorem Cl.Mg (h:Cl w s F c t (.slice (some ⟨g,0,none⟩) n cap) L p vq Fs) (hn:c.S.length=n) (hv:c.V.length=n) (hi:i < n) (b:Bool):Cl (w.setCell ⟨g,i * 3+1,none⟩ (.bool b)) s F { c with V:=c.V.set i b } t (.slice (some ⟨g,0,none⟩) n cap) (L.set i { iI L i with live:=b }) p vq Fs/\Only F w (w.setCell ⟨g,i * 3+1,none⟩ (.bool b)):=by
 have hl:=h.len.trans hn;have o:Only (fun k=>k=g) w (w.setCell ⟨g,i * 3+1,none⟩ (.bool b)):=Only.set (fun k=>k=g) w (a:=⟨g,i * 3+1,none⟩) rfl _;refine ⟨h.node (g:=g) rfl o (Mj h.no hl hi 1 (by decide) (.bool b) { iI L i with live:=b } rfl) cA (fun j hj=>?_) (fun j hj=>?_) (fun j hj=>?_),o.mono fun k _ e=>by rw [e];exact h.fv g (.inl rfl)⟩
 ·rw [ni (by omega)]
  split
  ·rename_i e;rw [e]
  ·rfl
 ·rw [ni (by omega)]
  have q:bU (c.V.set i b) j=if (j:Int)=(i:Int) then b else bU c.V j:=by
   have:=qB (V:=c.V) (n:=(i:Int)) (b:=b) (by omega) (by omega) j (by omega);rw [cg] at this;exact this
  rw [q]
  by_cases e:j=i
  ·rw [aw e,aw (by omega)]
  ·rw [aq e,aq (by omega)]
   exact h.lv j hj
 ·rw [ni (by omega)]
  split
  ·exact h.rt i (by omega)
  ·exact h.rt j hj
variable {x:Int}
theorem Cl.WT (h:Cl w s F c t (.slice (some ⟨g,0,none⟩) n cap) L p vq Fs) (hn:c.S.length=n) (hi:i < n) (hx : -2000<=x/\x<=2000):Cl (w.setCell ⟨g,i * 3+2,none⟩ (.int .i64 x)) s F c t (.slice (some ⟨g,0,none⟩) n cap) (L.set i { iI L i with rate:=x }) p vq Fs/\Only F w (w.setCell ⟨g,i * 3+2,none⟩ (.int .i64 x)):=by
 have hl:=h.len.trans hn;have o:Only (fun k=>k=g) w (w.setCell ⟨g,i * 3+2,none⟩ (.int .i64 x)):=Only.set (fun k=>k=g) w (a:=⟨g,i * 3+2,none⟩) rfl _;refine ⟨h.node (g:=g) (V:=c.V) rfl o (Mj h.no hl hi 2 (by decide) (.int .i64 x) { iI L i with rate:=x } rfl) cA (fun j hj=>?_) (fun j hj=>?_) (fun j hj=>?_),o.mono fun k _ e=>by rw [e];exact h.fv g (.inl rfl)⟩
 ·rw [ni (by omega)]
  split
  ·rename_i e;rw [e]
  ·rfl
 ·rw [ni (by omega)]
  split
  ·rename_i e;rw [e];exact h.lv i (by omega)
  ·exact h.lv j hj
 ·rw [ni (by omega)]
  split
  ·exact hx
  ·exact h.rt j hj
variable {a:Wt.A}
theorem Xk {n:Int} (h:2<=n):Wt.kG a n=a:=by unfold Wt.kG;rw [aq (by omega),aq (by omega)]
theorem XC {n:Int} (h:2<=n):Wt.kH a n=a:=by unfold Wt.kH;rw [aq (by omega),aq (by omega)]
theorem wU.cr0 (h:wU c) (hn:n < 2) (hv:bU c.V n=true):Wt.pU c.P n=0:=by
 unfold Wt.pU
 rcases (by omega:n=0\/n=1) with rfl | rfl
 ·rw [aw (by rfl),aq (h.1.1 hv)]
 ·rw [aq (by decide),aw (by rfl),aq (h.2.1 hv)]
theorem wU.rs0 (h:wU c) (hn:n < 2) (hv:bU c.V n=false):Wt.rsE c.P n=0:=by
 unfold Wt.rsE
 rcases (by omega:n=0\/n=1) with rfl | rfl
 ·have r4:c.P.r0=4:=Classical.not_not.1 fun g=>by have:=h.1.2 g;rw [show bU c.V 0=false from hv] at this;cases this
  rw [aw (by rfl),aw r4]
 ·have r4:c.P.r1=4:=Classical.not_not.1 fun g=>by have:=h.2.2 g;rw [show bU c.V 1=false from hv] at this;cases this
  rw [aq (by decide),aw (by rfl),aw r4]
theorem iM (h:Cl w s F c t vn L p vq Fs) (b:Below w.heap.size w w') (x:Int):kg w s F c t x (.returned (.int .i64 x)) w' :=
 ⟨rfl,⟨vn,L,p,vq,Fs,(h.below b).fx w⟩,Only.of_below b⟩
theorem qy {c':Cs} {vn' vq':Value} {L':List Nd} {Fs':Nat->Nat->Prop} (h:Cl w' s F c' t' vn' L' p' vq' Fs') (o:Only F w w') (x:Int):kg w s F c' t' x (.returned (.int .i64 x)) w' :=
 ⟨rfl,⟨vn',L',p',vq',Fs',h.fx w⟩,o⟩
theorem Iy (h:Cl w s F c t vn L p vq Fs) (ok:kC c t) (sy:wU c) (hn:n < c.S.length) (hv:bU c.V n=true):Calls prog 35 #[ptr s,.int .i64 n] w (kg w s F { c with V:=c.V.set n false,P:=Wt.kG c.P n } t 0):=by
 obtain ⟨g,cap,rfl,hc,hm,_,y1,_,fz⟩:=h.one hn;have d0:=h.cells.1;have H:=Hh (h.Mg rfl ok.lv hn false);have H0:=Hh h;have CR:=Hh (fun (w1:World) (P:Wt.Pr w1 p c.P t)=>Wt.Pk P n);have E0:=Hh (fun h2=>sy.cr0 (n:=n) h2 hv);have EF:=Hh (fun h2=>Xk (a:=c.P) (n:=(n:Int)) h2);have fy:=fz (n * 3+1);rw [hv] at y1;have p5:decide (c.S.length<=n)=false:=ai (by omega);clear h ok sy hv fz;generalize c.S.length=ln at *;unfold ptr at *
 by_cases h2:n < 2
 ·have k1:=H.out.1.cells.2.1
  have CC:=Hh (CR _ H.out.1.pr);unfold Wt.aY at CC;rw [E0.out h2] at CC;unfold ptr at k1;have p6:decide ((n:Int) < 2)=true:=bi (by omega);clear CR E0 EF
  go_enter func35,ntmps35
  go_wp2_with fail;refine CC.mono ?_;rintro e w2 ⟨rfl,pr2,o2⟩;have E:=Hh (qy (w:=w) (H.out.1.pair o2 pr2) (H.out.2.trans o2 fun k _ e=>by rw [e];exact H.out.1.fp) 0);clear pr2 o2 H CC;go_wp2
  go_ret
  exact E
 ·have E:=Hh (qy (w:=w) H.out.1 H.out.2 0)
  rw [← EF.out (by omega)] at E;have p6:decide ((n:Int) < 2)=false:=ai (by omega);clear CR E0 EF H
  go_enter func35,ntmps35
  go_wp2
  go_ret
  exact E
theorem Nj (h:Cl w s F c t vn L p vq Fs) (hn:n < c.S.length) (hv:bU c.V n=false):Calls prog 35 #[ptr s,.int .i64 n] w (kg w s F c t 10):=by
 obtain ⟨g,cap,rfl,_,hm,_,y1,_⟩:=h.one hn;have d0:=h.cells.1;have E:=Hh (iM h (aa _ _) 10);rw [hv] at y1;have p5:decide (c.S.length<=n)=false:=ai (by omega);clear h hv;generalize c.S.length=ln at *;unfold ptr at *
 go_enter func35,ntmps35
 go_wp2
 go_ret
 exact E
theorem Dt (h:Cl w s F c t vn L p vq Fs) (ok:kC c t) (sy:wU c) (hn:n < c.S.length) (hv:bU c.V n=false):Calls prog 36 #[ptr s,.int .i64 n] w (kg w s F { c with V:=c.V.set n true,P:=Wt.kH c.P n } t 0):=by
 obtain ⟨g,cap,rfl,hc,hm,_,y1,_,fz⟩:=h.one hn;have d0:=h.cells.1;have H:=Hh (h.Mg rfl ok.lv hn true);have H0:=Hh h;have CR:=Hh (fun (w1:World) (P:Wt.Pr w1 p c.P t)=>Wt.Ic P n);have E0:=Hh (fun h2=>sy.rs0 (n:=n) h2 hv);have EF:=Hh (fun h2=>XC (a:=c.P) (n:=(n:Int)) h2);have fy:=fz (n * 3+1);rw [hv] at y1;have p5:decide (c.S.length<=n)=false:=ai (by omega);clear h ok sy hv fz;generalize c.S.length=ln at *;unfold ptr at *
 by_cases h2:n < 2
 ·have k1:=H.out.1.cells.2.1
  have CC:=Hh (CR _ H.out.1.pr);unfold Wt.aY at CC;rw [E0.out h2] at CC;unfold ptr at k1;have p6:decide ((n:Int) < 2)=true:=bi (by omega);clear CR E0 EF
  go_enter func36,ntmps36
  go_wp2_with fail;refine CC.mono ?_;rintro e w2 ⟨rfl,pr2,o2⟩;have E:=Hh (qy (w:=w) (H.out.1.pair o2 pr2) (H.out.2.trans o2 fun k _ e=>by rw [e];exact H.out.1.fp) 0);clear pr2 o2 H CC;go_wp2
  go_ret
  exact E
 ·have E:=Hh (qy (w:=w) H.out.1 H.out.2 0)
  rw [← EF.out (by omega)] at E;have p6:decide ((n:Int) < 2)=false:=ai (by omega);clear CR E0 EF H
  go_enter func36,ntmps36
  go_wp2
  go_ret
  exact E
theorem F6 (h:Cl w s F c t vn L p vq Fs) (hn:n < c.S.length) (hv:bU c.V n=true):Calls prog 36 #[ptr s,.int .i64 n] w (kg w s F c t 10):=by
 obtain ⟨g,cap,rfl,_,hm,_,y1,_⟩:=h.one hn;have d0:=h.cells.1;have E:=Hh (iM h (aa _ _) 10);rw [hv] at y1;have p5:decide (c.S.length<=n)=false:=ai (by omega);clear h hv;generalize c.S.length=ln at *;unfold ptr at *
 go_enter func36,ntmps36
 go_wp2
 go_ret
 exact E
def WE (x:Int):Bool:=decide (-2000<=x) && decide (x<=2000)
theorem oG (w:World) (x:Int):Calls prog 47 #[.int .i64 x] w fun e w'=>e = .returned (.bool (WE x))/\w=w':=by
 have E:Hid (WE x=(decide (-2000<=x) && decide (x<=2000))):=Hh rfl;generalize WE x=b at *
 by_cases h0 : -2000<=x
 ·by_cases h2:x<=2000
  ·obtain rfl:b=true:=by rw [E.out];simp [h0,h2]
   clear E
   go_enter func47,ntmps47
   go_wp2
   go_ret
   exact ⟨rfl,rfl⟩
  ·obtain rfl:b=false:=by rw [E.out];simp [h2]
   have q:decide (x<=2000)=false:=ai h2;clear E
   go_enter func47,ntmps47
   go_wp2
   go_ret
   exact ⟨rfl,rfl⟩
 ·obtain rfl:b=false:=by rw [E.out];simp [h0]
  have q:decide (-2000<=x)=false:=ai h0;clear E
  go_enter func47,ntmps47
  go_wp2
  go_ret
  exact ⟨rfl,rfl⟩
theorem DC : WE x=true↔-2000<=x/\x<=2000:=by unfold WE;simp
theorem Jh (w:World) (g o:Nat) (x:Int) (u:Value) (hu:w.cell? ⟨g,o+2,none⟩=some u) (hf:w.frozen? ⟨g,o+2,none⟩=false) (hx:WE x=true):Calls prog 37 #[.pointer (some ⟨g,o,none⟩),.int .i64 x] w fun e w'=>e = .returned (.int .i64 0)/\w'=w.setCell ⟨g,o+2,none⟩ (.int .i64 x):=by
 have C:=Hh (oG w x);rw [hx] at C;clear hx
 go_enter func37,ntmps37
 go_wp2_with fail;refine C.mono ?_;rintro e w1 ⟨rfl,rfl⟩;go_wp2
 go_ret
 exact ⟨rfl,rfl⟩
theorem Pb (w:World) (g o:Nat) (x:Int) (hx:WE x=false):Calls prog 37 #[.pointer (some ⟨g,o,none⟩),.int .i64 x] w fun e w'=>e = .returned (.int .i64 1)/\w=w':=by
 have C:=Hh (oG w x);rw [hx] at C;clear hx
 go_enter func37,ntmps37
 go_wp2_with fail;refine C.mono ?_;rintro e w1 ⟨rfl,rfl⟩;go_wp2
 go_ret
 exact ⟨rfl,rfl⟩
end
open Fs (vZ fZ kI iU Cx rA Kk)
open Pa (Ay fq ace)
open Ck (Hd sl zh)
def Xl (w:World) (g:Nat) (a b c:Value):World:=((w.setCell ⟨g,0,none⟩ a).setCell ⟨g,1,none⟩ b).setCell ⟨g,2,none⟩ c
variable {w wr w':World} {g B q k:Nat}
theorem qH {x y z:Value} (h:w.heap[g]? = some (.cells #[x,y,z] 74 (0,0))) (a b c:Value):(Xl w g a b c).heap[g]? = some (.cells #[a,b,c] 74 (0,0)):=by
 have h1:=Rw.heap_setCell_same (j:=0) h a;have h2:=Rw.heap_setCell_same (j:=1) h1 b;exact Rw.heap_setCell_same (j:=2) h2 c
theorem tq (w:World) (g:Nat) (a b c:Value):Only (fun k=>k=g) w (Xl w g a b c) :=
 ((Only.set (fun k=>k=g) w (a:=⟨g,0,none⟩) rfl a).trans (Only.set (fun k=>k=g) _ (a:=⟨g,1,none⟩) rfl b) fun _ _ q=>q).trans (Only.set (fun k=>k=g) _ (a:=⟨g,2,none⟩) rfl c) fun _ _ q=>q
theorem nC {fn:Func} {p r:Tmp} (h:fn.results=#[.cell p 74,.tmp r]) (tmps:Array Value) (w:World) (g:Nat) (a b c v:Value)
 (hp:tmps.getD p undef = .pointer (some ⟨g,0,none⟩)) (hr:tmps.getD r undef=v) (h1:w.heap[g]? = some (.cells #[a,b,c] 74 (0,0))) :
 (results fn tmps).run prog w = .ok (.tuple #[.agg #[a,b,c],v]) w:=by
 have e2:=fY (P:=prog) w g 74 74 #[a,b,c] (0,0) _ h1 underlying74 rfl (by show _=some 3;kernel_rfl);have hp':tmps[p]?.getD undef = .pointer (some ⟨g,0,none⟩):=by simpa using hp
 have hr':tmps[r]?.getD undef=v:=by simpa using hr
 simp only [results,h]
 simp [Result.andThen,hp',hr',asAddr,e2]
def yD (A:aP) (k:Nat):Int:=match k with | 0=>-1 | j+1=>(A.getD j (0,0,[])).1
def PlC (w:World) (x:Pl) (e:Ending) (w':World):Prop:=Below w.heap.size w w'/\((Mw x/\∃ q G,e = .returned (.tuple #[.agg #[ptr q,.bool true,.int .i64 x.2],.int .i64 0])/\St w' q G x.1 0/\∀ j,G j->w.heap.size<=j)\/(¬ Mw x/\e = .returned (.tuple #[.agg #[.pointer none,.bool false,.int .i64 0],.int .i64 2])))
structure ZS (w:World) (B:Nat) (q:Nat) (A:aP) (k:Nat) (G:Nat->Prop) (wr:World):Prop where
 st:St wr q G (A.take k) 0
 lo:∀ j,G j->B<=j
 aG:Below w.heap.size w wr
 inn:Inn A k
theorem ZS.below {w wr w':World} {B q k:Nat} {A:aP} {G:Nat->Prop} (h:ZS w B q A k G wr) (b:Below wr.heap.size wr w'):ZS w B q A k G w':=⟨h.st.below b,h.lo,h.aG.trans (b.mono h.aG.size),h.inn⟩
variable {A:aP}
theorem ZS.step {G:Nat->Prop} (h:ZS w B q A k G wr) (hw:w.heap.size<=B) (hB:B<=wr.heap.size) (st:St w' q (Fx G wr w') (A.take (k+1)) 0) (o:Only G wr w') (i:Inn A (k+1)):ZS w B q A (k+1) (Fx G wr w') w' :=
 ⟨st,fun j g=>by
  rcases g with g | g
  ·exact h.lo j g
  ·omega,h.aG.trans (o.below h.aG.size fun j g=>cG hw (h.lo j g)),i⟩
variable {c:vZ}
theorem XL (hk:A[k]? = some c) (h:c.1<=yD A k):¬ gdF A:=by
 cases k with
 | zero =>
   intro g
   have:=(g.2 c (cL hk)).1.1;have h:c.1<=-1:=h
   omega
 | succ j =>
   have hl:=(bs.1 hk).1;have h1:A[j+1 - 1]? = some (A.getD j (0,0,[])):=by
    rw [Nat.add_sub_cancel,af,am (by omega)]
    rfl
   exact UR (Nat.succ_pos j) hk h1 h
theorem Rm {n:Int} (h:¬ n<=yD A k):∀ c,0 < k->A[k - 1]? = some c->Fs.key c < n:=fun c h0 hc=>by
 obtain ⟨j,rfl⟩:∃ j,k=j+1:=⟨k - 1,by omega⟩;rw [Nat.add_sub_cancel] at hc;have:yD A (j+1)=c.1:=by
  show (A.getD j (0,0,[])).1=c.1
  rw [af,hc]
  rfl
 show c.1 < n
 omega
theorem NJ (hk:A[k]? = some c):yD A (k+1)=c.1:=by
 show (A.getD k (0,0,[])).1=c.1
 rw [af,hk]
 rfl
theorem SI {L:List aB} (hk:k < L.length):(L.map aB.abs)[k]? = some (fq L k).abs:=by
 unfold fq;rw [cN,am hk,af,am hk]
 rfl
theorem C9 (c:lF) (hf:Ay w (sl c.files) c.F B):Calls prog 23 #[.agg #[sl c.files,.int .i64 c.rate]] w (PlC w c.abs):=by
 show Calls _ _ _ w (PlC w (c.F.map aB.abs,c.rate))
 obtain ⟨cf,cr,cF⟩:=c;simp only at hf ⊢;obtain ⟨a,cap,es,hm⟩:=hf.rd.slice;rw [es] at hf ⊢;clear es;have B1:=Hh ((aa w.heap.size w).alloc (ac _) (.cells #[.slice a cF.length cap,.int .i64 cr] 71));have B2:=Hh (B1.alloc B1.size (.cells #[.pointer none,.bool false,.int .i64 0] 74));have Z2:Hid (((w.alloc (.cells #[.slice a cF.length cap,.int .i64 cr] 71)).alloc (.cells #[.pointer none,.bool false,.int .i64 0] 74)).heap.size=w.heap.size+2):=Hh (by simp);have X1:Hid (((w.alloc (.cells #[.slice a cF.length cap,.int .i64 cr] 71)).alloc (.cells #[.pointer none,.bool false,.int .i64 0] 74)).heap[w.heap.size]? = some (.cells #[.slice a cF.length cap,.int .i64 cr] 71 (0,0))):=Hh ((cx _ _ _ (by simp)).trans (bh w _))
 have X2:Hid (((w.alloc (.cells #[.slice a cF.length cap,.int .i64 cr] 71)).alloc (.cells #[.pointer none,.bool false,.int .i64 0] 74)).heap[w.heap.size+1]? = some (.cells #[.pointer none,.bool false,.int .i64 0] 74 (0,0))):=Hh (by
  have:=bh (w.alloc (.cells #[.slice a cF.length cap,.int .i64 cr] 71)) (.cells #[.pointer none,.bool false,.int .i64 0] 74);rw [show (w.alloc (.cells #[.slice a cF.length cap,.int .i64 cr] 71)).heap.size=w.heap.size+1 by simp] at this
  exact this)
 have BAD:Hid (¬ Mw (cF.map aB.abs,cr)->∀ W,Below w.heap.size w W->PlC w (cF.map aB.abs,cr) (.returned (.tuple #[.agg #[.pointer none,.bool false,.int .i64 0],.int .i64 2])) (Xl W (w.heap.size+1) (.pointer none) (.bool false) (.int .i64 0))):=Hh (fun h W b=>⟨b.trans ((tq W _ _ _ _).below b.size fun k e=>by omega),.inr ⟨h,rfl⟩⟩);have CAL:=Hh (fun W=>oG W cr);have HF:=Hh hf;clear hf
 cases hc:WE cr with
 | false =>
   have NG:=Hh (BAD (fun g=>by
    have:=DC.2 g.2;rw [show ((cF.map aB.abs,cr):Pl).2=cr from rfl,hc] at this
    cases this))
   rw [hc] at CAL;clear BAD HF hc;generalize ((cF.map aB.abs,cr):Pl)=pp at *;generalize cF.length=N at *
   go_enter func23,ntmps23
   go_wp2_with fail;refine (CAL _).mono ?_;rintro e w1 ⟨rfl,rfl⟩;generalize ((w.alloc (.cells #[.slice a N cap,.int .i64 cr] 71)).alloc (.cells #[.pointer none,.bool false,.int .i64 0] 74))=W at *;have E:=Hh (NG W B2);obtain ⟨z0,z1,z2⟩:=DK X2;have f0:=aj X2 0;have f1:=aj X2 1;have f2:=aj X2 2;have R:=Hh (qH X2 (.pointer none) (.bool false) (.int .i64 0));clear NG CAL B1 B2 Z2 X1 X2;go_wp2
   (try simp only [Exit.inBlock,Exit.then])
   exact bo (nC (p:=2) (r:=3) rfl _ _ (w.heap.size+1) _ _ _ (.int .i64 2) rfl rfl R) rfl E
 | true =>
   have FI:=Hh (fun i (hi:i < cF.length)=>(HF.file i hi).1);have FO:=Hh (fun i (hi:i < cF.length)=>(HF.file i hi).2);obtain ⟨a',cap',e',_,_,h3⟩:=HF.rd;injection e' with e1 _ e3;subst e1 e3;have H3:=Hh h3;have CR:=Hh (DC.1 hc);have AT:=Hh (fun k (hk:k < cF.length)=>SI hk)
   have OKL:Hid (∀ e∈cF.map aB.abs,cZ e.2.2):=Hh (fun e he=>by
    obtain ⟨i,hi⟩:=dq he;have hl:=(bs.1 hi).1;rw [cm] at hl;rw [SI hl] at hi;injection hi with hi;rw [← hi]
    exact (HF.file i hl).2)
   rw [hc] at CAL;have AL:Hid ((cF.map aB.abs).length=cF.length):=Hh (cm _);clear h3 hc HF;unfold maxLen at hm;generalize hA:cF.map aB.abs=A at *;clear hA;generalize hN:cF.length=N at *;have HN:=Hh hN;clear hN
   go_enter func23,ntmps23
   go_wp2_with fail;refine (CAL _).mono ?_;rintro e w1 ⟨rfl,rfl⟩;generalize ((w.alloc (.cells #[.slice a N cap,.int .i64 cr] 71)).alloc (.cells #[.pointer none,.bool false,.int .i64 0] 74))=W at *;clear B1;have P0:=Hh (Kk W);have B3:=Hh (B2.alloc B2.size (.cells #[.map none,.int .i64 0] 139));have BN:=Hh ((aa W.heap.size W).alloc (ac _) (.cells #[.map none,.int .i64 0] 139));have X3:=Hh (iP BN X1);have X4:=Hh (iP BN X2);have Z3:Hid ((W.alloc (.cells #[.map none,.int .i64 0] 139)).heap.size=w.heap.size+3):=Hh (by have:=Z2.out;simp;omega);clear X1 X2 B2 BN
   go_upto_region 4 with (go_at_call 48;refine (rA _).mono ?_;rintro e w1 ⟨rfl,rfl⟩)
   generalize (W.alloc (.cells #[.map none,.int .i64 0] 139))=W2 at *;rw [Z2.out] at *;have Q0:Hid (ZS w (w.heap.size+2) (w.heap.size+2) A 0 (fun k=>k=w.heap.size+2) W2):=Hh ⟨P0,fun j e=>Nat.le_of_eq e.symm,B3,Hy A⟩;have d0:=Fl.rc X3 0;clear P0 B3 CAL;go_wp2;clear d0
   go_loopw [17,5] (fun i la wr=>∃ (k:Nat) (G:Nat->Prop),k<=N/\i = .int .i64 k/\la = .int .i64 (yD A k)/\Hid (ZS w (w.heap.size+2) (w.heap.size+2) A k G wr)/\Hid (Below (w.heap.size+2) W2 wr)) (fun i _ _=>N - (intOf i).toNat)
   case atStart=>exact ⟨0,_,bt _,rfl,rfl,Q0,Hh (aa _ _)⟩
   case round =>
    clear Q0;obtain ⟨k,G,hk,rfl,rfl,I,BW⟩:=hrel
    by_cases hlt:k < N
    ·have hkL:k < cF.length:=by have:=HN.out;omega
     have hc:cF[k]? = some (fq cF k):=by
      unfold fq;rw [am hkL,af,am hkL]
      rfl
     obtain ⟨b,off,rfl,hA⟩:=H3 (by omega);obtain ⟨x0,x1,x2⟩:=at3 (hA.below I.aG) hc;have HAA:=Hh hA;have RF:=Hh ((FI k hlt).below I.aG);have OF:=Hh (FO k hlt);have AK:Hid (A[k]? = some ((fq cF k).n,(fq cF k).p,(fq cF k).l)):=Hh (AT k hlt);clear hc hA;unfold aB.sl at x2 RF;generalize (fq cF k).a=ca at *;generalize (fq cF k).cap=ccap at *;generalize (fq cF k).p=cp at *;generalize (fq cF k).n=cn at *;generalize (fq cF k).l=cl at *;have Y0:=Hh (bh wr (.cells #[.int .i64 cn,.int .i64 cp,.slice ca cl.length ccap] 81));have BN:=Hh ((aa wr.heap.size wr).alloc (ac _) (.cells #[.int .i64 cn,.int .i64 cp,.slice ca cl.length ccap] 81));have GL:=Hh I.st.low;go_upto_region 7 with fail;clear x0 x1 x2;generalize wr.alloc (.cells #[.int .i64 cn,.int .i64 cp,.slice ca cl.length ccap] 81)=W at *;have I2:=Hh (I.below BN);have XW:=Hh ((BN.block _ (by have:=I.out.aG.size;have:=bm X4.out;have:=BW.out.size;omega)).trans ((BW.out.block (w.heap.size+1) (by omega)).trans X4.out));have BW2:=Hh (BW.trans (BN.mono (by have:=BW.out.size;have:=Z3.out;omega)));have RF2:=Hh (RF.below BN);have GX:Hid (¬ G wr.heap.size/\¬ G (w.heap.size+1)):=Hh ⟨fun g=>by have:=GL.out _ g;omega,fun g=>by have:=I.out.lo _ g;omega⟩;have LW:Hid (w.heap.size+2<=W.heap.size):=Hh (by have:=BW2.out.size;have:=Z3.out;omega);generalize wr.heap.size=gx at *;obtain ⟨y0,y1,y2⟩:=DK Y0;clear I BW BN RF GL;generalize hla:yD A k=la at *;have HLA:=Hh hla;clear hla
     by_cases hle:cn<=la
     ·have E:=Hh (BAD (fun g=>XL AK (by rw [HLA.out];exact hle) g.1) W I2.out.aG)
      have q:decide (cn<=la)=true:=bi hle;have XR:=Hh XW;obtain ⟨z0,z1,z2⟩:=DK XR;have f0:=aj XR 0;have f1:=aj XR 1;have f2:=aj XR 2;have R:=Hh (qH XR (.pointer none) (.bool false) (.int .i64 0));clear hle I2 BW2 RF2 BAD FI FO AT OKL OF AK;go_wp2
      (try simp only [Exit.inBlock,Exit.then])
      exact bo (nC (p:=2) (r:=3) rfl _ _ (w.heap.size+1) _ _ _ (.int .i64 2) rfl rfl R) rfl E
     ·have ADD:=Hh (Cx I2.st cn cp (.slice ca cl.length ccap) cl RF2 OF)
      have ST:=Hh (Ez I2.inn AK (Rm (by rw [HLA.out];exact hle)));have NX:=Hh (NJ AK);have q:decide (cn<=la)=false:=ai hle;unfold iU file at ADD;generalize fZ (A.take k) cn cp cl=ae at *;generalize kI (A.take k) cn cp cl=A' at *;generalize cl.length=cll at *;clear hle RF2 AK OF;go_wp2_with fail;refine ADD.mono ?_;rintro e w5 ⟨rfl,st5,o5⟩;have ST5:=Hh st5;have O5:=Hh o5;have YN:=Hh ((o5.block gx (bm Y0) GX.out.1).trans Y0);have XR:=Hh ((o5.block _ (bm XW) GX.out.2).trans XW);clear st5 o5 ADD y0 y1 y2 XW
      rcases ST.out with ⟨e0,e1,e2⟩ | ⟨e0,ng⟩
      ·have I5:=Hh (I2.step (by omega) LW.out (by rw [← e1];exact ST5.out) O5.out e2)
       have BW5:=Hh (BW2.trans (O5.below (B:=w.heap.size+2) LW I2.lo));subst e0;have y0:=Fl.rc YN 0;clear ST e1 e2 ST5 O5 YN XR I2 BW2;go_wp2
       go_roundw
       case rel=>exact ⟨k+1,_,by omega,by go_num,by rw [NX.out],I5,BW5⟩
       case measure=>simp [intOf];omega
      ·have E:=Hh (BAD (fun g=>ng g.1) w5 (I2.aG.trans (O5.below I2.aG.size fun j g=>by have:=I2.out.lo j g;omega)))
       have q1:(ae != 0)=true:=by simpa using e0
       obtain ⟨z0,z1,z2⟩:=DK XR;have f0:=aj XR 0;have f1:=aj XR 1;have f2:=aj XR 2;have R:=Hh (qH XR (.pointer none) (.bool false) (.int .i64 0));clear ST ng ST5 O5 YN I2 BW2 BAD FI FO AT OKL e0;go_wp2
       (try simp only [Exit.inBlock,Exit.then])
       exact bo (nC (p:=2) (r:=3) rfl _ _ (w.heap.size+1) _ _ _ (.int .i64 2) rfl rfl R) rfl E
    ·obtain rfl:k=N:=by omega
     have GD:=Hh (KQ (A:=A) (by have:=I.out.inn;rw [AL.out];exact this));have ST:=I.st;have XR:=Hh ((BW.block (w.heap.size+1) (by omega)).trans X4.out);have XP:=Hh ((BW.block w.heap.size (by omega)).trans X3.out);rw [← AL.out,cU] at ST;have E:Hid (PlC w (A,cr) (.returned (.tuple #[.agg #[.pointer (some ⟨w.heap.size+2,0,none⟩),.bool true,.int .i64 cr],.int .i64 0])) (Xl wr (w.heap.size+1) (.pointer (some ⟨w.heap.size+2,0,none⟩)) (.bool true) (.int .i64 cr))):=Hh
      ⟨I.aG.trans ((tq wr _ _ _ _).below I.aG.size fun k e=>by omega),.inl ⟨⟨GD.out,CR.out⟩,w.heap.size+2,G,rfl,ST.only (G:=fun j=>j=w.heap.size+1) (fun j g e=>by have:=I.out.lo j g;omega) (tq wr _ _ _ _),fun j g=>by have:=I.out.lo j g;omega⟩⟩
     obtain ⟨z0,z1,z2⟩:=DK XR;have p1:=Fl.rc XP 1;have f0:=aj XR 0;have f1:=aj XR 1;have f2:=aj XR 2;have R:=Hh (qH XR (.pointer (some ⟨w.heap.size+2,0,none⟩)) (.bool true) (.int .i64 cr));clear GD ST I BW BAD FI FO AT OKL XP;generalize yD A k=la at *;go_wp2
     (try simp only [Exit.inBlock,Exit.then])
     exact bo (nC (p:=2) (r:=3) rfl _ _ (w.heap.size+1) _ _ _ (.int .i64 0) rfl rfl R) rfl E
end Cu
namespace Re
attribute [local irreducible] wpQuiet
theorem sG (w:World) (v:Value) (l:List Int) (R:Rd KI w v l):Calls prog 121 #[v] w fun e w'=>e = .returned (.bool (seqB l))/\Below w.heap.size w w':=by
 have HNO:Hid (∀ k,k < l.length->¬ zP (gq l k)->false=seqB l):=Hh (fun k hk h=>V7 hk h);have HLO:Hid (¬ (0 < l.length/\l.length<=64)->false=seqB l):=Hh (fun h=>Ih h);have HYES:Hid (0 < l.length/\l.length<=64->(∀ i,i < l.length->zP (gq l i))->true=seqB l):=Hh (fun h g=>Lm h g);obtain ⟨a,cap,rfl,_,hm,hA⟩:=R;have HA:=Hh hA;unfold maxLen at hm;clear hA;generalize hn:l.length=n at *;have HN:=Hh hn;clear hn
 rcases (by omega:n=0\/64 < n\/(0 < n/\n<=64)) with h | h | h
 ·have E:=Hh (HLO (by omega))
  have h0:((n:Int) == 0)=true:=by rw [h];rfl
  clear HNO HLO HYES HA HN h
  go_enter func121,ntmps121
  go_wp2
  go_ret
  exact ⟨aA E,aa _ _⟩
 ·have E:=Hh (HLO (by omega))
  have h0:((n:Int) == 0)=false:=by simp;omega
  clear HNO HLO HYES HA HN
  go_enter func121,ntmps121
  go_wp2
  go_ret
  exact ⟨aA E,aa _ _⟩
 ·have h0:((n:Int) == 0)=false:=by simp;omega
  have h64:n<=64:=h.2;have HY:=Hh (HYES h);clear HLO HYES h
  go_enter func121,ntmps121
  go_wp2
  go_loopw [15] (fun i wr=>∃ k:Nat,k<=n/\i = .int .i64 k/\Hid (Below w.heap.size w wr)/\Hid (∀ i,i < k->zP (gq l i))) (fun i _=>n - (intOf i).toNat)
  case atStart=>exact ⟨0,bt _,rfl,Hh (aa _ _),Hh (fun i hi=>by omega)⟩
  case round =>
   obtain ⟨k,hk,rfl,bw,hs⟩:=hrel
   by_cases hlt:k < n
   ·obtain ⟨b,off,rfl,A⟩:=HA (by omega)
    have c0:=pE (A.below bw) k (by have:=HN.out;omega);have P1:=Hh (HNO k hlt)
    have P3:Hid (zP (gq l k)->∀ i,i < k+1->zP (gq l i)):=Hh (fun g i hi=>by
     by_cases e:i=k
     ·rw [e];exact g
     ·exact hs i (by omega))
    have HAA:=Hh A;clear A;unfold zP at P1 P3;generalize gq l k=x at *
    rcases (by omega:x < 0\/(0<=x/\6<=x)\/(0<=x/\x<=5)) with h | ⟨h,h2⟩ | ⟨h,h2⟩
    ·have E:=Hh (P1 (by omega))
     clear P1 P3;go_wp2
     go_ret
     exact ⟨aA E,bw⟩
    ·have E:=Hh (P1 (by omega))
     clear P1 P3;go_wp2
     go_ret
     exact ⟨aA E,bw⟩
    ·have ST:=Hh (P3 ⟨h,h2⟩)
     clear P1 P3;go_wp2
     go_roundw
     case rel=>exact ⟨k+1,by omega,by go_num,bw,ST⟩
     case measure=>simp [intOf];omega
   ·obtain rfl:k=n:=by omega
    have E:=Hh (HY (fun i hi=>hs i hi));go_wp2
    go_ret
    exact ⟨aA E,bw⟩
theorem iV (w:World) (v:Value) (l:List Int) (R:Rd KI w v l):Calls prog 55 #[v] w fun e w'=>e = .returned (.bool (seqB l))/\Below w.heap.size w w':=by
 have HNO:Hid (∀ k,k < l.length->¬ zP (gq l k)->false=seqB l):=Hh (fun k hk h=>V7 hk h);have HLO:Hid (¬ (0 < l.length/\l.length<=64)->false=seqB l):=Hh (fun h=>Ih h);have HYES:Hid (0 < l.length/\l.length<=64->(∀ i,i < l.length->zP (gq l i))->true=seqB l):=Hh (fun h g=>Lm h g);obtain ⟨a,cap,rfl,_,hm,hA⟩:=R;have HA:=Hh hA;unfold maxLen at hm;clear hA;generalize hn:l.length=n at *;have HN:=Hh hn;clear hn
 go_enter func55,ntmps55
 go_wp2
 go_loopw [3] (fun i wr=>∃ k:Nat,k<=n/\i = .int .i64 k/\Hid (Below w.heap.size w wr)/\Hid (∀ i,i < k->zP (gq l i))) (fun i _=>n - (intOf i).toNat)
 case atStart=>exact ⟨0,bt _,rfl,Hh (aa _ _),Hh (fun i hi=>by omega)⟩
 case round =>
  obtain ⟨k,hk,rfl,bw,hs⟩:=hrel
  by_cases hlt:k < n
  ·obtain ⟨b,off,rfl,A⟩:=HA (by omega)
   have c0:=pE (A.below bw) k (by have:=HN.out;omega);have P1:=Hh (HNO k hlt)
   have P3:Hid (zP (gq l k)->∀ i,i < k+1->zP (gq l i)):=Hh (fun g i hi=>by
    by_cases e:i=k
    ·rw [e];exact g
    ·exact hs i (by omega))
   have HAA:=Hh A;clear A;unfold zP at P1 P3;generalize gq l k=x at *
   rcases (by omega:x < 0\/(0<=x/\6<=x)\/(0<=x/\x<=5)) with h | ⟨h,h2⟩ | ⟨h,h2⟩
   ·have E:=Hh (P1 (by omega))
    clear P1 P3;go_wp2
    go_ret
    exact ⟨aA E,bw⟩
   ·have E:=Hh (P1 (by omega))
    clear P1 P3;go_wp2
    go_ret
    exact ⟨aA E,bw⟩
   ·have ST:=Hh (P3 ⟨h,h2⟩)
    clear P1 P3;go_wp2
    go_roundw
    case rel=>exact ⟨k+1,by omega,by go_num,bw,ST⟩
    case measure=>simp [intOf];omega
  ·obtain rfl:k=n:=by omega
   rcases (by omega:k=0\/64 < k\/(0 < k/\k<=64)) with h | h | h
   ·have E:=Hh (HLO (by omega))
    have h0:¬ ((0:Int) < (k:Int)):=by omega
    clear HNO HLO HYES;go_wp2
    go_ret
    exact ⟨aA E,bw⟩
   ·have E:=Hh (HLO (by omega))
    have h0:(0:Int) < (k:Int):=by omega
    have h1:¬ ((k:Int) < 65):=by omega
    clear HNO HLO HYES;go_wp2
    go_ret
    exact ⟨aA (by simpa [h1] using E.out),bw.out⟩
   ·have E:=Hh (HYES h (fun i hi=>hs i hi))
    have h0:(0:Int) < (k:Int):=by omega
    have h1:(k:Int) < 65:=by omega
    clear HNO HLO HYES;go_wp2
    go_ret
    exact ⟨aA (by simpa [h1] using E.out),bw.out⟩
theorem yO (w:World) (v:Value) (l:List Int) (t:Int) (R:Rd KI w v l):Calls prog 88 #[v,.int .i64 t] w (lJ w l t):=by
 have R0:=Hh R;have IS:=Hh (fun w v R=>sG w v l R)
 by_cases hs:gH l
 ·have hb:seqB l=true:=bi hs
  rw [hb] at IS;have HS:=Hh hs;have hl:=hs.1;clear hb hs
  by_cases ht:0<=t/\t < l.length
  ·obtain ⟨k,rfl⟩:∃ k:Nat,t=k:=⟨t.toNat,by omega⟩
   have hk:k < l.length:=by omega
   have NP:I8 l k:=⟨HS,ht.1,ht.2⟩;have EL:=Hh (fun h w' hb=>NF (w:=w) (w':=w') NP h hb);have EM:=Hh (fun h w' hb=>QD (w:=w) (w':=w') NP h hb);obtain ⟨a,cap,rfl,_,hm,hA⟩:=R;obtain ⟨b,off,rfl,hA2⟩:=hA (by omega);have c0:=pE hA2 k hk;clear hA hA2 NP HS ht;generalize gq l k=x at *;generalize hn:l.length=n at *;have W0:IntKind.i64.wrap ((n:Int) - 1)=(n:Int) - 1:=cE _ (by omega);have W1:IntKind.i64.wrap ((k:Int)+1)=(k:Int)+1:=cE _ (by omega);clear hn hm
   by_cases h1:k+1=n
   ·have E:=Hh (EL h1)
    have t0:¬ ((k:Int) < 0):=by omega
    have t1:¬ ((n:Int) - 1 < k):=by omega
    have t2:¬ ((k:Int) < (n:Int) - 1):=by omega
    have H1:=Hh h1;clear EL EM h1
    go_enter func88,ntmps88
    go_wp2_with fail;refine (IS _ _ R0).mono ?_;rintro e w1 ⟨rfl,b1⟩;have d0:=gP b1 c0;have E1:=Hh (E _ b1);clear b1;go_wp2
    go_ret3
    exact E1
   ·have E:=Hh (EM h1)
    have t0:¬ ((k:Int) < 0):=by omega
    have t1:¬ ((n:Int) - 1 < k):=by omega
    have t2:(k:Int) < (n:Int) - 1:=by omega
    have H1:=Hh h1;clear EL EM h1
    go_enter func88,ntmps88
    go_wp2_with fail;refine (IS _ _ R0).mono ?_;rintro e w1 ⟨rfl,b1⟩;have d0:=gP b1 c0;have E1:=Hh (E _ b1);clear b1;go_wp2
    go_ret3
    exact E1
  ·have NP:¬ I8 l t:=fun h=>ht h.2
   have E:=Hh (fun w' hb=>Lh (w:=w) NP w' hb);obtain ⟨a,cap,rfl,_,hm,hA⟩:=R;clear hA HS NP;generalize hn:l.length=n at *;have W0:IntKind.i64.wrap ((n:Int) - 1)=(n:Int) - 1:=cE _ (by omega);clear hn hm
   rcases (by omega:t < 0\/(0<=t/\(n:Int) - 1 < t)) with h | ⟨h,h2⟩
   all_goals
    clear ht
    go_enter func88,ntmps88
    go_wp2_with fail;refine (IS _ _ R0).mono ?_;rintro e w1 ⟨rfl,b1⟩;have E1:=Hh (E _ b1);clear b1;go_wp2
    go_ret3
    exact E1
 ·have hb:seqB l=false:=ai hs
  rw [hb] at IS;have NP:¬ I8 l t:=fun h=>hs h.1;have E:=Hh (fun w' hb=>Lh (w:=w) NP w' hb);obtain ⟨a,cap,rfl,_,hm,hA⟩:=R;clear hA hs NP hb;unfold maxLen at hm;generalize l.length=n at *;have W0:IntKind.i64.wrap ((n:Int) - 1)=(n:Int) - 1:=cE _ (by omega)
  go_enter func88,ntmps88
  go_wp2_with fail;refine (IS _ _ R0).mono ?_;rintro e w1 ⟨rfl,b1⟩;have E1:=Hh (E _ b1);clear b1;go_wp2
  go_ret3
  exact E1
attribute [local irreducible] Sd.aW Sz.nL
theorem Xo {α:Type} {Kd:Rw.Kind α} {P:Program} {K:Act->World->Prop} {w:World} {E:TypeId} {o:Oper} {a:Act} {Q:Exit->Act->World->Prop} {T:TypeId} {z:Value} {bytes:Nat} (ht:P.underlying T=some (.slice E))
 (hi:(P.info? E).map (fun i=>(i.zero,i.size,i.bytes))=some (some z,Kd.n,bytes)) (hz:z.cells.size=Kd.n) (hby:bytes<=64) (s x:Operand)
 (ho:o.op = .call { callee:=.builtin .append,args:=#[s,x],argTypes:=#[T,T] }) (B:Nat) (v:Value) (l:List α) (hs:a.eval s=v) (hown:Ow Kd w B E v l)
 (ad:Addr) (c:α) (hx:a.eval x = .slice (some ad) 1 1) (hc:∀ j u,(Kd.enc c)[j]? = some u->w.cell? (ad.add j)=some u) (hlen:l.length < 2199023255552) (hB:B<=w.heap.size)
 (h:∀ v' w',Ow Kd w' B E v' (l ++ [c])->Below B w w'->Rw.Far E w w'->K (a.put o.dst v') w'):o.wp P a w K Q:=by
 obtain ⟨i0,hi0,hz0,hz1,hz2⟩:=eE hi;have hb:(l.length+1) * bytes<=140737488355328:=cG (go (show l.length+1<=2199023255552 by omega) hby) (by omega);refine wp_append_own _ s x T ho B E i0 z Kd.n bytes ht hi0 hz0 hz1 hz2 hz Kd.pos v l.length (Kd.flat l) hs hown ad 1 1 (Kd.enc c) hx (by rw [Kd.len,Nat.one_mul]) hc (Kd.one c) (by unfold maxLen;omega) hb hB ?_
 intro v' w' h2 h3 _
 exact h v' w' (Rw.Ow.push h2) ((aa B w).grown h3 hB fun k hk=>(ci hown k hk).1) (Rw.Ba hown h3)
structure YO (w:World) (m:List R4) (gF:Nat) (v:Value) (wr:World):Prop where
 row:wr.heap[gF]? = some (.cells #[.int .i64 3,v] 79 (0,0))
 res:wr.heap[w.heap.size]? = some (.cells #[.int .i64 0,.slice none 0 0] 79 (0,0))
 own:Ow K4 wr (w.heap.size+1) 42 v m
 aG:Below w.heap.size w wr
 lt:w.heap.size < gF
def GC (gF:Nat) (v:Value) (ad:Addr) (x:Int) (W:World):Prop:=W.heap[gF]? = some (.cells #[.int .i64 3,v] 79 (0,0))/\W.cell? ad=some (.int .i64 x)
theorem Be (w:World) (v:Value) (l:List Int) (R:Rd KI w v l):Calls prog 30 #[v] w (gJ w l):=by
 have B0:=Hh ((aa w.heap.size w).alloc (ac _) (.cells #[.int .i64 0,.slice none 0 0] 79));have R0:=Hh (R.below B0)
 by_cases hm:gH l
 ·have GA:=Hh (aK (show seqB l=true from bi hm) (iV _ v l R0))
  have HE:=Hh (fun u w'=>rO (w:=w) hm u w');have hl:=hm.1.2;have OK:=Hh hm.2;clear hm R0;obtain ⟨a,cap0,rfl,_,hm,hA⟩:=R;have HA:=Hh hA;unfold maxLen at hm;clear hA;have HF:Hid (bJ l=hdr 3 (l.length:Int) :: l.map iC):=Hh rfl;have PS:=Hh (fun h k=>UH (k:=k) (l:=l) h);have PE:Hid (∀ h:R4,(h :: (l.take l.length).map iC)=h :: l.map iC):=Hh (fun h=>by rw [cU]);have PL:Hid (∀ (h:R4) k,k<=l.length->(h :: (l.take k).map iC).length=k+1):=Hh (fun h k hk=>by simp [List.length_take];omega);have HH:=Hh (fun w=>qV w 3 (l.length:Int) (by omega) (by omega) (by omega) (by omega));unfold aH at HH;generalize hdr 3 (l.length:Int)=h at *;generalize hn:l.length=n at *;have HN:=Hh hn;clear hn
  go_enter func30,ntmps30
  go_wp2_with fail;refine GA.mono ?_;rintro e w0 ⟨rfl,b1⟩;have z0:w.heap.size+1<=w0.heap.size:=by have:=b1.size;simp at this;omega
  have B1:=aR B0 b1;have S1:=Hh ((b1.block _ (by simp)).trans (bh w _));clear b1 GA B0;go_wp2_with fail;refine (HH _).mono ?_;rintro e w1 ⟨rfl,b1⟩;have z1:w.heap.size < w1.heap.size:=by have:=b1.size;omega
  have B2:=aR B1 b1;have r0:=(b1.block _ (by omega)).trans S1.out;have hz:(w1.alloc (.cells #[.int .u8 h.1,.int .u8 h.2.1,.int .u8 h.2.2.1,.int .u8 h.2.2.2] 42)).heap.size=w1.heap.size+1:=by simp
  have N0:Hid (YO w [h] (w1.heap.size+1) (.slice (some ⟨w1.heap.size,0,none⟩) 1 1) ((w1.alloc (.cells #[.int .u8 h.1,.int .u8 h.2.1,.int .u8 h.2.2.1,.int .u8 h.2.2.2] 42)).alloc (.cells #[.int .i64 3,.slice (some ⟨w1.heap.size,0,none⟩) 1 1] 79))):=by
   refine Hh ⟨?_,?_,(Rw.Ow.lit (K:=K4) w1 (w.heap.size+1) 42 [h] (by omega) (by unfold maxLen;simp)).alloc _,(B2.out.alloc (by omega) _).alloc (by rw [hz];omega) _,by omega⟩
   ·have:=bh (w1.alloc (.cells #[.int .u8 h.1,.int .u8 h.2.1,.int .u8 h.2.2.1,.int .u8 h.2.2.2] 42)) (.cells #[.int .i64 3,.slice (some ⟨w1.heap.size,0,none⟩) 1 1] 79)
    rw [hz] at this;exact this
   ·exact (cx _ _ _ (by rw [hz];omega)).trans ((cx _ _ _ z1).trans r0)
  clear b1 r0 HH hz S1 B1;go_wp2;generalize (w1.alloc (.cells #[.int .u8 h.1,.int .u8 h.2.1,.int .u8 h.2.2.1,.int .u8 h.2.2.2] 42)).alloc (.cells #[.int .i64 3,.slice (some ⟨w1.heap.size,0,none⟩) 1 1] 79)=W at *;generalize w1.heap.size+1=g at *;generalize Value.slice (some ⟨w1.heap.size,0,none⟩) 1 1=v0 at *
  go_loopw [5] (fun i wr=>∃ (k:Nat) (v:Value),k<=n/\i = .int .i64 k/\Hid (YO w (h :: (l.take k).map iC) g v wr)) (fun i _=>n - (intOf i).toNat)
  case atStart=>exact ⟨0,v0,bt _,rfl,N0⟩
  case round =>
   obtain ⟨k,v,hk,rfl,RR⟩:=hrel;obtain ⟨av,cv,ev,_,_⟩:=RR.own.slice;rw [PL.out h k hk] at ev;generalize k+1=L at ev;subst ev;have glt:=RR.lt
   by_cases hlt:k < n
   ·obtain ⟨b,off,rfl,A⟩:=HA (by omega)
    have cw:=pE A k (by rw [HN.out];exact hlt);have bw:=bj _ _ cw;have CW:=Hh cw;have ok:=OK.out k hlt;have PK:=Hh (PS h k hlt);have PLK:=Hh (PL h k hk);have AA:=Hh A;clear A cw;unfold zP at ok;generalize gq l k=x at *;have W2:IntKind.u8.wrap x=x:=by rw [IntKind.wrap];simp [IntKind.signed,IntKind.bits];omega
    go_upto_region 7 with fail;have C0:GC g (.slice av L cv) ⟨b,off+k,none⟩ x wr.drew:=⟨RR.row,(RR.aG.cell bw).trans CW⟩;have c0:=Sc.ay (C:=GC g (.slice av L cv) ⟨b,off+k,none⟩ x) (a:=⟨b,off+k,none⟩) (fun W' h=>h.2);have c1:=Sc.ay (C:=GC g (.slice av L cv) ⟨b,off+k,none⟩ x) (a:=⟨g,1,none⟩) (fun W' h=>ah h.1 1);have ne:Nonempty (Sc.In (GC g (.slice av L cv) ⟨b,off+k,none⟩ x)):=⟨⟨_,C0⟩⟩;have GG:Hid (YO w (h :: (l.take k).map iC) g (.slice av L cv) wr.drew):=Hh ⟨RR.row,RR.res,RR.own,RR.aG.drew,RR.lt⟩;clear RR;refine Sz.start (GC g (.slice av L cv) ⟨b,off+k,none⟩ x) [(false,0),(false,1),(false,2),(false,3),(false,4),(false,5),(false,6),(false,7),(true,8),(true,9),(false,10)] 11 (by kernel_rfl) (by kernel_rfl) (by kernel_rfl) rfl rfl C0 ?_;dsimp only [Sd.aM,List.getElem?_cons_succ,List.getElem?_cons_zero]
    repeat (refine Sz.lit ?_;quiet_step (fail);refine bk ?_)
    have C1:=Hh C0;clear C0 c0 c1;generalize wr.drew=w4 at *;refine Sz.call (by rfl) (fun K hK=>?_);go_simp;have zB:=GG.aG.size;have ba:=cx w4 (.cells #[.int .u8 x,.int .u8 0,.int .u8 0,.int .u8 0] 42);have C5:GC g (.slice av L cv) ⟨b,off+k,none⟩ x (w4.alloc (.cells #[.int .u8 x,.int .u8 0,.int .u8 0,.int .u8 0] 42)):=⟨(ba g (bm C1.out.1)).trans C1.out.1,(((aa w4.heap.size w4).alloc (ac _) _).cell (bj _ _ C1.out.2)).trans C1.out.2⟩;have B5:=Hh (GG.aG.alloc zB (.cells #[.int .u8 x,.int .u8 0,.int .u8 0,.int .u8 0] 42));have O5:=Hh (GG.own.alloc (.cells #[.int .u8 x,.int .u8 0,.int .u8 0,.int .u8 0] 42));have S5:=Hh ((ba w.heap.size (bm GG.res)).trans GG.res);have Y5:=Hh (bh w4 (.cells #[.int .u8 x,.int .u8 0,.int .u8 0,.int .u8 0] 42));have hz5:Hid (w.heap.size+1<=(w4.alloc (.cells #[.int .u8 x,.int .u8 0,.int .u8 0,.int .u8 0] 42)).heap.size):=Hh (by simp;omega);refine hK _ _ (Sc.Cl.of C5) ?_;have C5':=Hh C5;clear hK K ba C5 C1 GG;generalize (w4.alloc (.cells #[.int .u8 x,.int .u8 0,.int .u8 0,.int .u8 0] 42))=w5 at *;generalize w4.heap.size=g4 at *;refine Sz.call (by rfl) (fun K hK=>?_);refine Xo (Kd:=K4) underlying77 vR rfl (by omega) _ _ rfl (w.heap.size+1) _ _ rfl O5.out ⟨g4,0,none⟩ (iC x) rfl ?a1 ?a2 hz5.out ?_
    case a1 =>
     intro j u hu
     have c:=ah Y5 j
     match j,hu with
     | 0,hu=>simp [K4,iC] at hu;subst hu;exact c
     | 1,hu=>simp [K4,iC] at hu;subst hu;exact c
     | 2,hu=>simp [K4,iC] at hu;subst hu;exact c
     | 3,hu=>simp [K4,iC] at hu;subst hu;exact c
     | j+4,hu=>simp [K4] at hu
    case a2=>rw [PLK.out];omega
    intro v6 w6 o6 b6 f6
    rw [PK.out] at o6;have rr:=f6 g _ _ C5'.out.1 (by decide);have rs:=f6 w.heap.size _ _ S5 (by decide);have C6:GC g (.slice av L cv) ⟨b,off+k,none⟩ x w6:=⟨rr,((B5.trans (b6.mono (Nat.le_succ _))).cell bw).trans CW⟩;obtain ⟨v6a,v6c,n6,rfl⟩:∃ a c n,v6 = .slice a n c:=by obtain ⟨a,c,e,_⟩:=o6.slice;exact ⟨a,c,_,e⟩
    have N6:Hid (YO w (h :: (l.take (k+1)).map iC) g (.slice v6a n6 v6c) (w6.setCell ⟨g,1,none⟩ (.slice v6a n6 v6c))):=by
     refine Hh ⟨Rw.heap_setCell_same rr _,(bp w6 ⟨g,1,none⟩ _ w.heap.size (show w.heap.size≠g by omega)).trans rs,o6.far (p:=⟨g,1,none⟩) rr (by decide) _,?_,glt⟩;exact (B5.trans (b6.mono (Nat.le_succ _))).setCell (by simp;omega) _
    have c6:=Fl.rc rr 1;have e6:=aj rr 1;refine hK _ _ (Sc.Cl.of C6) ?_;have c1:=Sc.ay (C:=GC g (.slice av L cv) ⟨b,off+k,none⟩ x) (a:=⟨g,1,none⟩) (fun W' h=>ah h.1 1);clear hK K rr rs b6 f6 o6 B5 O5 S5 Y5 C5' hz5 C6
    repeat (refine Sz.lit ?_;quiet_step (fail);refine bk ?_)
    refine Sz.done ?_;clear c1;go_simp;clear c6 e6;generalize (w6.setCell ⟨g,1,none⟩ (.slice v6a n6 v6c))=w8 at *;refine NoPanic.normal ?_;go_wp2
    go_roundw
    case rel=>exact ⟨k+1,_,by omega,by go_num,N6⟩
    case measure=>simp [intOf];omega
   ·obtain rfl:k=n:=by omega
    have PEK:=Hh (PE h);clear PE PL PS OK;have O5:=Hh (show Ow K4 wr (w.heap.size+1) 42 (.slice av L cv) (bJ l) by rw [HF.out,← PEK.out];exact RR.out.own);obtain ⟨d0,d1⟩:=nN RR.row;obtain ⟨r0,r1,s0,s1⟩:=wE RR.res;have hne:(Value.slice av L cv).ownBlock≠some w.heap.size:=O5.range (.inl (by omega));have RV:=Hh (aU RR.res 3 (.slice av L cv));have O6:=Hh (dO (u:=.slice av L cv) O5 hne 3);have B6:=Hh (aN (p:=3) (v:=.slice av L cv) RR.aG (ac _));clear RR O5 hne PEK;go_wp2
    (try simp only [Exit.inBlock,Exit.then])
    exact bo (v:=.tuple #[file 3 _,.int .i64 0]) (dR (p:=2) (r:=3) rfl _ _ w.heap.size 3 _ 0 rfl rfl RV) rfl (HE _ _ O6.rd B6)
 ·have GA:=Hh (aK (show seqB l=false from ai hm) (iV _ v l R0))
  have E:=Hh (wW (w:=w) hm);clear hm;obtain ⟨a,cap,rfl,_,hm,_⟩:=R;clear R0;generalize l.length=n at *
  go_enter func30,ntmps30
  go_wp2_with fail;refine GA.mono ?_;rintro e w1 ⟨rfl,b1⟩;have z1:w.heap.size < w1.heap.size:=by have:=b1.size;simp at this;omega
  have B1:=aR B0 b1;have r0:=(b1.block _ (by simp)).trans (bh w _);obtain ⟨c0,c1,f0,f1⟩:=wE r0;have RR:=Hh (aU r0 0 (.slice none 0 0));clear b1 B0 r0 GA;go_wp2
  (try simp only [Exit.inBlock,Exit.then])
  exact bo (v:=.tuple #[file 0 (.slice none 0 0),.int .i64 1]) (dR (p:=2) (r:=3) rfl _ _ w.heap.size 0 _ 1 rfl rfl RR) rfl (E _ (aN B1 (ac _)))
end Re
namespace Re
structure y9 (w:World) (h:R4) (l:List Int) (g gF N cap k:Nat) (wr:World):Prop where
 row:wr.heap[gF]? = some (.cells #[.int .i64 3,.slice (some ⟨g,0,none⟩) N cap] 79 (0,0))
 res:wr.heap[w.heap.size]? = some (.cells #[.int .i64 0,.slice none 0 0] 79 (0,0))
 own:Ow K4 wr (w.heap.size+1) 42 (.slice (some ⟨g,0,none⟩) N cap) (part h l k)
 aG:Below w.heap.size w wr
theorem yt (w:World) (v:Value) (l:List Int) (R:Rd KI w v l):Calls prog 107 #[v] w (gJ w l):=by
 have B0:=Hh ((aa w.heap.size w).alloc (ac _) (.cells #[.int .i64 0,.slice none 0 0] 79));have R0:=Hh (R.below B0)
 by_cases hm:gH l
 ·have GA:=Hh (aK (show seqB l=true from bi hm) (sG _ v l R0))
  have HE:=Hh (fun u w'=>rO (w:=w) hm u w');have hl:=hm.1.2;have OK:=Hh hm.2;clear hm R0;obtain ⟨a,cap0,rfl,_,hm,hA⟩:=R;have HA:=Hh hA;unfold maxLen at hm;clear hA;have HF:Hid (bJ l=hdr 3 (l.length:Int) :: l.map iC):=Hh rfl;have PS:=Hh (fun h k=>xL (k:=k) h (l:=l));have PE:=Hh (fun h=>zG h l);have PL:=Hh (fun h k=>xX h l k);have NL:Hid (newL 3 (l.length:Int)=part (hdr 3 (l.length:Int)) l 0):=Hh (by rw [qb];rfl);have NO:=Hh (fun w=>xC w 3 (l.length:Int) ⟨by omega,by omega,by omega,by omega⟩);unfold sW at NO;rw [NL.out] at NO;clear NL;generalize hdr 3 (l.length:Int)=h at *;generalize hn:l.length=n at *;have HN:=Hh hn;clear hn;unfold file at NO
  go_enter func107,ntmps107
  go_wp2_with fail;refine GA.mono ?_;rintro e w1 ⟨rfl,b1⟩;have z1:w.heap.size+1<=w1.heap.size:=by have:=b1.size;simp at this;omega
  have B1:=aR B0 b1;have r1:=(b1.block _ (by simp)).trans (bh w _);have S1:=Hh r1;clear b1 GA B0 r1;go_wp2_with fail;refine (NO _).mono ?_;rintro e w2 ⟨u,rfl,o2,b2⟩;obtain ⟨g,cap,rfl,hg1,hg2,hcc,hcm,_,_⟩:=o2.form (by rw [PL.out _ _ (bt _)];omega);rw [PL.out _ _ (bt _)] at o2 hcc ⊢;have hz:∀ o,(w2.alloc o).heap.size=w2.heap.size+1:=fun o=>by simp
  have F0:Hid (y9 w h l g w2.heap.size (n+1) cap 0 (w2.alloc (.cells #[.int .i64 3,.slice (some ⟨g,0,none⟩) (n+1) cap] 79))):=Hh
   ⟨bh w2 _,(cx _ _ _ (by have:=b2.size;omega)).trans ((b2.block _ (by omega)).trans S1.out),(o2.alloc _).low (by omega),(B1.out.trans (b2.mono (by omega))).alloc (by have:=b2.size;omega) _⟩
  have hgF:w.heap.size < w2.heap.size:=by have:=b2.size;omega
  have hg0:w.heap.size < g:=by omega
  clear b2 o2 S1 B1 NO hz;go_wp2;generalize w2.alloc (.cells #[.int .i64 3,.slice (some ⟨g,0,none⟩) (n+1) cap] 79)=W at *;generalize w2.heap.size=gF at *;generalize hN2:n+1=N at *;have HN2:=Hh hN2;clear hN2
  go_loopw [20] (fun i wr=>∃ k:Nat,k<=n/\i = .int .i64 k/\Hid (y9 w h l g gF N cap k wr)) (fun i _=>n - (intOf i).toNat)
  case atStart=>exact ⟨0,bt _,rfl,F0⟩
  case round =>
   obtain ⟨k,hk,rfl,RR⟩:=hrel
   by_cases hlt:k < n
   ·obtain ⟨b,off,rfl,A⟩:=HA (by omega)
    have c0:=pE (A.below RR.aG) k (by rw [HN.out];exact hlt);have PK:=Hh (PS h k hlt);have PLK:=Hh (PL h k hk);have ok:=OK.out k hlt;have AA:=Hh A;clear A;unfold zP at ok;generalize gq l k=x at *;have W2:IntKind.u8.wrap x=x:=by rw [IntKind.wrap];simp [IntKind.signed,IntKind.bits];omega
    obtain ⟨K1,hK1⟩:∃ K1,K1=k+1:=⟨_,rfl⟩;have W1:IntKind.i64.wrap (1+(k:Int))=(K1:Int):=by rw [cE _ (by omega)];omega
    have hkN:K1 < N:=by have:=HN2.out;omega
    obtain ⟨g',cap',eg,_,_,_,_,hfr,hat⟩:=RR.own.form (by rw [PLK.out];omega);have eg':g'=g:=by
     injection eg with e1;injection e1 with e1;injection e1 with e1 _ _;exact e1.symm
    subst eg';have hKL:K1 < (part h l k).length:=by rw [PLK.out];have:=HN2.out;omega
    have eK:K1=1+k:=by omega
    have O5:=Hh (fK (i:=K1) RR.own (by rw [PLK.out]) hKL (iC x));rw [show (part h l k).set K1 (iC x)=part h l (k+1) by rw [eK];exact PK.out] at O5;clear eK;have HK:=Hh hK1;clear hK1;obtain ⟨d0,d1,d2,d3⟩:=at4 hat K1 hKL;rw [cX] at d0 d1 d2 d3;have f0:=hfr (K1 * 4);have f1:=hfr (K1 * 4+1);have f2:=hfr (K1 * 4+2);have f3:=hfr (K1 * 4+3);have k1:=Fl.rc RR.row 1;have hne:gF≠g':=fun e=>by
     have:=RR.own.apart RR.row (by decide);exact this (by simp [Value.ownBlock,e])
    have gU:=aI (g:=g') (o:=K1 * 4) (r:=iC x) RR.row hne;have r5:=aI (g:=g') (o:=K1 * 4) (r:=iC x) RR.res (by omega);have B5:=Hh (aJ (o:=K1 * 4) (r:=iC x) RR.aG (show w.heap.size<=g' by omega));have N5:Hid (y9 w h l g' gF N cap (k+1) (bA wr g' (K1 * 4) (iC x))):=Hh ⟨gU,r5,O5,B5⟩;clear hfr hat eg O5 B5 gU r5 RR hne;unfold bA iC at N5;go_wp2
    go_roundw
    case rel=>exact ⟨k+1,by omega,by go_num,N5⟩
    case measure=>simp [intOf];omega
   ·obtain rfl:k=n:=by omega
    have PK:=Hh (PE h);have PLK:=Hh (PL h k (ac _));clear PS PE PL OK;have O5:=Hh (show Ow K4 wr (w.heap.size+1) 42 (.slice (some ⟨g,0,none⟩) N cap) (bJ l) by rw [HF.out,← PK.out];exact RR.out.own);obtain ⟨d0,d1⟩:=nN RR.row;obtain ⟨e0,e1,f0,f1⟩:=wE RR.res;have hne:(Value.slice (some ⟨g,0,none⟩) N cap).ownBlock≠some w.heap.size:=O5.range (.inl (by omega));have RV:=Hh (aU RR.res 3 (.slice (some ⟨g,0,none⟩) N cap));have O6:=Hh (dO (u:=.slice (some ⟨g,0,none⟩) N cap) O5 hne 3);have B6:=Hh (aN (p:=3) (v:=.slice (some ⟨g,0,none⟩) N cap) RR.aG (ac _));clear RR O5 hne PK PLK;go_wp2
    (try simp only [Exit.inBlock,Exit.then])
    exact bo (v:=.tuple #[file 3 _,.int .i64 0]) (dR (p:=2) (r:=3) rfl _ _ w.heap.size 3 _ 0 rfl rfl RV) rfl (HE _ _ O6.rd B6)
 ·have GA:=Hh (aK (show seqB l=false from ai hm) (sG _ v l R0))
  have E:=Hh (wW (w:=w) hm);clear hm;obtain ⟨a,cap,rfl,_,hm,_⟩:=R;clear R0;generalize l.length=n at *
  go_enter func107,ntmps107
  go_wp2_with fail;refine GA.mono ?_;rintro e w1 ⟨rfl,b1⟩;have z1:w.heap.size < w1.heap.size:=by have:=b1.size;simp at this;omega
  have B1:=aR B0 b1;have r0:=(b1.block _ (by simp)).trans (bh w _);obtain ⟨c0,c1,f0,f1⟩:=wE r0;have RR:=Hh (aU r0 0 (.slice none 0 0));clear b1 B0 r0 GA;go_wp2
  (try simp only [Exit.inBlock,Exit.then])
  exact bo (v:=.tuple #[file 0 (.slice none 0 0),.int .i64 1]) (dR (p:=2) (r:=3) rfl _ _ w.heap.size 0 _ 1 rfl rfl RR) rfl (E _ (aN B1 (ac _)))
end Re
namespace Fl
def eqB (l l':List R4):Bool:=decide (l=l')
theorem Py (w:World) (v v':Value) (l l':List R4) (R:Rd K4 w v l) (R':Rd K4 w v' l'):Calls prog 132 #[v,v'] w fun e w'=>e = .returned (.bool (eqB l l'))/\Below w.heap.size w w':=by
 have HNO:Hid (¬ l=l'->false=eqB l l'):=fun h=>(ai h).symm;have HYES:Hid (l=l'->true=eqB l l'):=fun b=>(bi b).symm;have HL:Hid (l.length=l'.length->(∀ i,i < l.length->rat l i=rat l' i)->l=l'):=fun a b=>AU a b;obtain ⟨a,cap,rfl,_,hm,hA⟩:=R;obtain ⟨a',cap',rfl,_,hm',hA'⟩:=R';have HA:=Hh hA;have HA':=Hh hA';unfold maxLen at hm hm';clear hA hA';have HNE:Hid (l.length≠l'.length->¬ (l=l')):=fun h2 h=>h2 (by rw [h]);generalize hn:l.length=n at *;generalize hn':l'.length=n' at *;have HN:=Hh hn;have HN':=Hh hn';clear hn hn'
 by_cases h2:n=n'
 ·subst h2
  go_enter func132,ntmps132
  go_wp2
  go_loopw [13,5] (fun i j wr=>∃ k:Nat,k<=n/\i = .int .i64 k/\Hid (Below w.heap.size w wr)/\Hid (∀ i,i < k->rat l i=rat l' i)) (fun i j _=>n - (intOf i).toNat)
  case atStart=>exact ⟨0,bt _,rfl,aa _ _,fun i hi=>by omega⟩
  case round =>
   obtain ⟨j,hj,rfl,bw,hs⟩:=hrel
   by_cases hlt:j < n
   ·obtain ⟨b,off,rfl,A⟩:=HA (by omega)
    obtain ⟨b',off',rfl,A'⟩:=HA' (by omega);obtain ⟨c0,c1,c2,c3⟩:=at4 (A.below bw) j (by have:=HN.out;omega);obtain ⟨d0,d1,d2,d3⟩:=at4 (A'.below bw) j (by have:=HN'.out;omega);have HAA:=Hh A;have HAA':=Hh A';clear A A';have es:=sI (rat l j) (rat l' j)
    by_cases he:rat l j=rat l' j
    ·have ST:Hid (∀ i,i < j+1->rat l i=rat l' i):=fun i hi=>by
      by_cases e:i=j
      ·rw [e];exact he
      ·exact hs i (by omega)
     rw [bi he] at es;clear he;generalize rat l j=r at *;generalize rat l' j=r' at *;go_wp2
     go_quiet (fail)
     go_wp2
     go_roundw
     case rel=>exact ⟨j+1,by omega,by go_num,db bw.out _,ST⟩
     case measure=>simp [intOf];omega
    ·have E:=Hh (HNO (fun h=>he (by rw [h])))
     rw [ai he] at es;clear he;generalize rat l j=r at *;generalize rat l' j=r' at *;go_wp2
     go_quiet (fail)
     go_wp2
     go_ret
     exact ⟨aA E,db bw _⟩
   ·obtain rfl:j=n:=by omega
    have E:=Hh (HYES (HL (by trivial) (fun i hi=>hs i hi)));go_wp2
    go_ret
    exact ⟨aA E,bw⟩
 ·have E:=Hh (HNO (HNE h2))
  have h3:¬ ((n:Int)=n'):=by omega
  clear HL HA HA' HYES HNO
  go_enter func132,ntmps132
  go_wp2
  go_ret
  exact ⟨aA E,aa _ _⟩
theorem zH (w:World) (p p':Int) (v v':Value) (l l':List R4) (R:Rd K4 w v l) (R':Rd K4 w v' l'):Calls prog 108 #[file p v,file p' v'] w fun e w'=>e = .returned (.bool (jB p l p' l'))/\Below w.heap.size w w':=by
 have bb:=((aa w.heap.size w).alloc (ac _) (.cells #[.int .i64 p,v] 79)).alloc (by simp) (.cells #[.int .i64 p',v'] 79);have B0:=Hh bb;have Q:=Hh (Py _ v v' l l' (R.below bb) (R'.below bb));obtain ⟨a,cap,rfl,_⟩:=R;obtain ⟨a',cap',rfl,_⟩:=R';clear bb;generalize l.length=n at *;generalize l'.length=n' at *;unfold file
 by_cases h:p=p'
 ·subst h
  have E:Hid (eqB l l'=jB p l p l'):=Hh (by unfold eqB jB;rw [cQ];exact ⟨fun h=>⟨rfl,h⟩,fun h=>h.2⟩)
  go_enter func108,ntmps108
  go_wp2_with fail;refine Q.mono ?_;rintro e w1 ⟨rfl,b1⟩;have B1:=aR B0 b1;clear b1 Q;generalize eqB l l'=bq at *;go_wp2
  go_ret
  exact ⟨aA E,B1⟩
 ·have E:Hid (false=jB p l p' l'):=Hh (ai (fun k=>h k.1)).symm
  go_enter func108,ntmps108
  go_wp2
  go_ret
  exact ⟨aA E,B0⟩
end Fl
namespace Re
structure Ki (w1:World) (L:List Int) (k:Nat) (u:Value) (wr:World):Prop where
 own:Ow KI wr w1.heap.size 3 u (L.take k)
 aG:Below w1.heap.size w1 wr
variable {w:World} {b off:Nat} {l:List R4}
theorem Cy (h:At K4 w b off l):At K4 w b (off+4) (l.drop 1):=fun i hi j u hu=>by
 rw [fd] at hi;have e:=h (i+1) (by omega) j u (by rw [← hu];congr 1;simp [List.getD]);rw [show off+(i+1) * K4.n+j=off+4+i * K4.n+j by show off+(i+1) * 4+j=off+4+i * 4+j;omega] at e;exact e
theorem Ci (h:l.length<=1):At K4 w b off (l.drop 1):=fun i hi=>by rw [fd] at hi;omega
theorem zO (h:cZ l) (k:Nat):cZ (l.drop k):=fun r hr=>h r (List.mem_of_mem_drop hr)
theorem UT (l:List R4) (k:Nat):rat (l.drop 1) k=rat l (k+1):=by unfold rat;simp only [af,List.getElem?_drop];rw [Nat.add_comm 1 k]
theorem rG (w:World) (p:Int) (v:Value) (l:List R4) (R:Rd K4 w v l) (ok:cZ l):Calls prog 80 #[file p v] w (kQ w p l):=by
 have B0:=Hh ((aa w.heap.size w).alloc (ac _) (.cells #[.int .i64 p,v] 79));have R0:=Hh (R.below B0);clear R
 by_cases hg:aL p l
 ·have GA:=Hh (aK (show aT p l=true from bi hg) (Fl.bD _ p v l R0.out))
  have hl:=hg.2.2.1;have hl2:=hg.2.2.2.1;have HG:=Hh hg;have OK:=Hh ok;clear hg ok;have SA:=Hh (fun w v' l' R R'=>Fl.zH w p 3 v v' l l' R R');obtain ⟨a,cap,rfl,⟨hc,_⟩,hm,hA⟩:=R0.out;obtain ⟨b,off,rfl,hA⟩:=hA (by omega);have HA:=Hh hA;unfold maxLen at hm;clear hA;have FA:=Hh (fun w v R=>yt w v (eX l) R);have YES:=Hh (fun h u w'=>Cj (w:=w) (p:=p) (l:=l) (w':=w') h u);have NO:=Hh (fun h w'=>Fj (w:=w) (p:=p) (l:=l) (w':=w') h);have RN:Hid (∀ k,k+1 < l.length->(eX l).take k ++ [(rat (l.drop 1) k).1]=(eX l).take (k+1)):=Hh (fun k h=>by rw [UT];exact Ib h);have RA:Hid ((eX l).take (l.length - 1)=eX l):=Hh (by rw [← jD,cU]);have RL:Hid (∀ k,k<=l.length - 1->((eX l).take k).length=k):=Hh (fun k h=>by rw [cH,jD];omega);have IS:Hid (zV p l↔gH (eX l)/\(p=3/\l=bJ (eX l))):=Hh ⟨fun h=>h.2,fun h=>⟨HG.out,h⟩⟩;generalize hn:l.length=n at *;have HN:=Hh hn;clear hn;unfold file at *
  go_enter func80,ntmps80
  go_wp2_with fail;refine GA.out.mono ?_;rintro e w1 ⟨rfl,b1⟩;have B1:=Hh (B0.out.trans (b1.mono B0.out.size));have A1:=Hh (HA.out.below b1);have R1:=Hh (R0.out.below b1);have X1:=(b1.block _ (by simp)).trans (bh w _);have c1:=Fl.rc X1 1;have Y1:=Hh X1;clear b1 GA B0 HA R0 X1;have AI:Hid (n<=1->At K4 w1 b off (l.drop 1)):=Hh (fun h=>Ci (by rw [HN.out];exact h));have AR:=Hh (Cy A1);have KR:=Hh (zO OK 1);have LR:Hid ((l.drop 1).length=n - 1):=Hh (by rw [fd,HN.out]);clear HG OK A1;have hn1:n - 1<=255:=by omega
  have RN2:Hid (∀ k,k < n - 1->(eX l).take k ++ [(rat (l.drop 1) k).1]=(eX l).take (k+1)):=Hh (fun k h=>RN k (by omega));clear RN;generalize l.drop 1=r at *;generalize eX l=L at *;go_wp2
  case' inl =>
   have A2:=Hh (AI (by omega));clear AI AR
  case' inr =>
   have A2:=AR;clear AI AR;generalize off+4=off2 at *
  all_goals
   generalize n - 1=m at *;clear c1
   go_loopw [16,4] (fun i u wr=>∃ (k:Nat),k<=m/\i = .int .i64 k/\Hid (Ki w1 L k u wr)) (fun i _ _=>m - (intOf i).toNat)
   case atStart=>exact ⟨0,bt _,rfl,Hh ⟨by rw [List.take_zero];exact Rw.Ow.nil _ _ _,aa _ _⟩⟩
   case round =>
    obtain ⟨k,hk,rfl,RR⟩:=hrel;obtain ⟨av,cv,ev,hcv,hmv⟩:=RR.own.slice;rw [RL.out k hk] at ev hcv;subst ev
    by_cases hlt:k < m
    ·obtain ⟨c0,c1',c2,c3⟩:=at4 (A2.below RR.aG) k (by rw [LR.out];exact hlt)
     have kv:=(gN KR k).1;have RX:=Hh (RN2 k hlt);have RK:=Hh (RL k hk);generalize rat r k=y at *;have W0:IntKind.i64.wrap y.1=y.1:=cE _ (by omega);have zb:=RR.aG.size
     go_wp2_with (at_builtin;refine Rw.dU underlying86 vN rfl (by omega) rfl _ _ rfl w1.heap.size _ _ rfl ((RR.out.own.alloc _).alloc _) _ y.1 rfl ?d1 ?d2 ?d3 ?_)
     case d1 =>
      intro j u hu
      match j,hu with
      | 0,hu=>simp [KI,Rw.int] at hu;subst hu;rw [iK];go_simp
     case d2=>rw [RK.out];omega
     case d3=>simp;omega
     intro v' w3 o3 b3
     rw [RX.out] at o3;have N3:Hid (Ki w1 L (k+1) v' w3):=Hh ⟨o3,((RR.aG.alloc zb _).alloc (by simp;omega) _).trans (b3.mono (ac _))⟩;obtain ⟨av',cv',ev',_,_⟩:=o3.slice;rw [RL.out _ (by omega)] at ev';subst ev';clear o3 b3 RR RX RK kv;go_wp2
     go_roundw
     case rel=>exact ⟨k+1,by omega,by go_num,N3⟩
     case measure=>simp [intOf];omega
    ·obtain rfl:k=m:=by omega
     have O2:=RR.own;rw [RA.out] at O2;have RL2:=Hh O2.rd;have BW:=Hh (B1.trans (RR.aG.mono B1.size));have RF:=Hh (R1.below RR.aG);have XF:=iP RR.aG Y1;clear RR O2 RN2 RL RA A2 KR LR R1 Y1 B1;unfold gJ file at FA;go_wp2_with fail;refine (FA _ _ RL2).mono ?_;rintro e w4 ⟨u4,rfl,r4,b4⟩;obtain ⟨a4,n4,k4,rfl⟩:∃ a n c,u4 = .slice a n c:=by obtain ⟨a,c,e,_⟩:=r4;exact ⟨a,_,c,e⟩
     have B4:=aR BW b4;have RF4:=Hh (RF.below b4);have RL4:=Hh (RL2.below b4);have X4:=iP b4 XF;have r4h:=Hh r4;have BB:Hid (Below w4.heap.size w4 (w4.alloc (.cells #[.int .i64 (fP L),.slice a4 n4 k4] 79))):=Hh ((aa _ _).alloc (ac _) _);have B5:=aR B4 BB;have RF5:=Hh (RF4.below BB);have RL5:=Hh (RL4.below BB);have RU5:=Hh (r4.below BB);have X5:=iP BB X4;have Y5:=bh w4 (.cells #[.int .i64 (fP L),.slice a4 n4 k4] 79);clear b4 BW RF RL2 XF r4 r4h FA BB B4 RF4 RL4 X4
     by_cases hs:gH L
     ·have e1:fP L=3:=aw hs
      have e2:fN L=0:=aw hs;have e3:fL L=bJ L:=aw hs;rw [e1] at B5 RF5 RL5 RU5 X5 Y5 ⊢;rw [e3] at RU5;rw [e2];clear e1 e2 e3
      by_cases hq:p=3/\l=bJ L
      ·have E:=Hh (YES (IS.out.2 ⟨hs,hq⟩))
       have S4:=Hh (fun w v' R R'=>aK (show jB p l 3 (bJ L)=true from bi hq) (SA w v' (bJ L) R R'));clear YES NO IS SA hs hq;go_upto_region 10 with fail
       (try (rename cap=1=>hc1;subst hc1))
       generalize w4.alloc (.cells #[.int .i64 3,.slice a4 n4 k4] 79)=W at *;generalize w4.heap.size=gF at *;obtain ⟨d0,d1⟩:=nN X5;obtain ⟨e0,e1⟩:=nN Y5;go_wp2_with fail;refine (S4 _ _ RF5 RU5).mono ?_;rintro e w6 ⟨rfl,b6⟩;have E6:=Hh (E _ _ (RL5.below b6) (aR B5 b6));clear b6 S4 d0 d1 e0 e1;go_wp2
       go_ret2
       exact E6
      ·have E:=Hh (NO (fun h=>hq (IS.out.1 h).2))
       have S4:=Hh (fun w v' R R'=>aK (show jB p l 3 (bJ L)=false from ai hq) (SA w v' (bJ L) R R'));clear YES NO IS SA hs hq;go_upto_region 10 with fail
       (try (rename cap=1=>hc1;subst hc1))
       generalize w4.alloc (.cells #[.int .i64 3,.slice a4 n4 k4] 79)=W at *;generalize w4.heap.size=gF at *;obtain ⟨d0,d1⟩:=nN X5;obtain ⟨e0,e1⟩:=nN Y5;go_wp2_with fail;refine (S4 _ _ RF5 RU5).mono ?_;rintro e w6 ⟨rfl,b6⟩;have E6:=Hh (E.out _ (B5.out.trans (b6.mono B5.out.size)));clear b6 S4 d0 d1 e0 e1;go_wp2
       go_ret2
       exact E6.out
     ·have e2:fN L=1:=aq hs
      rw [e2];have E:=Hh (NO.out (fun h=>hs (IS.out.1 h).1));clear YES NO IS SA hs e2 RU5 RL5 RF5 X5 Y5;go_wp2
      go_ret2
      exact E.out _ B5.out
 ·have GA:=Hh (aK (show aT p l=false from ai hg) (Fl.bD _ p v l R0.out))
  have E:=Hh (fun w'=>Fj (w:=w) (p:=p) (l:=l) (w':=w') (fun h=>hg h.1));clear hg ok;obtain ⟨a,cap,rfl,_,hm,hA⟩:=R0.out;clear hA R0;generalize l.length=n at *;unfold file at *
  go_enter func80,ntmps80
  go_wp2_with fail;refine GA.mono ?_;rintro e w1 ⟨rfl,b1⟩;have B1:=aR B0 b1;clear b1 GA B0;go_wp2
  go_ret2
  exact E _ B1
structure acV (W0:World) (l:List R4) (k:Nat) (u:Value) (wr:World):Prop where
 own:Ow KI wr W0.heap.size 3 u ((eX l).take (k - 1))
 aG:Below W0.heap.size W0 wr
 pla:∀ i,1<=i->i < k->plain (rat l i)
theorem jZ (w:World) (p:Int) (v:Value) (l:List R4) (R:Rd K4 w v l) (ok:cZ l):Calls prog 28 #[file p v] w (oK w p l):=by
 have B0:=Hh ((aa w.heap.size w).alloc (ac _) (.cells #[.int .i64 p,v] 79));have X0:=Hh (bh w (.cells #[.int .i64 p,v] 79));have Z0:Hid ((w.alloc (.cells #[.int .i64 p,v] 79)).heap.size=w.heap.size+1):=Hh (by simp);have R0:=Hh (R.below B0.out);clear R
 by_cases hg:aL p l
 ·have GA:=Hh (fun w v R=>aK (show aT p l=true from bi hg) (bH w p v l R))
  have hl:=hg.2.2.1;have hl2:=hg.2.2.2.1;have HG:=Hh hg;have OK:=Hh ok;clear hg ok;have YES:=Hh (fun h u w'=>Zo (w:=w) (p:=p) (l:=l) (w':=w') h u);have NO:=Hh (fun h w'=>UU (w:=w) (p:=p) (l:=l) (w':=w') h)
  by_cases h3:p=3
  ·subst h3
   have IS:=Hh (fun h=>acS HG.out h);have IP:Hid (∀ i,1<=i->i < l.length->¬ plain (rat l i)->¬ zV 3 l):=Hh (fun i h1 h2 h h'=>h (UO h' h1 h2));have IQ:Hid (¬ gH (eX l)->¬ zV 3 l):=Hh (fun h h'=>h h'.2.1);have RN:Hid (∀ k,k+1 < l.length->(eX l).take k ++ [(rat l (k+1)).1]=(eX l).take (k+1)):=Hh (fun k h=>Ib h);have RA:Hid ((eX l).take (l.length - 1)=eX l):=Hh (by rw [← jD,cU]);have RL:Hid (∀ k,k<=l.length - 1->((eX l).take k).length=k):=Hh (fun k h=>by rw [cH,jD];omega);obtain ⟨a,cap,rfl,⟨hc,_⟩,hm,hA⟩:=R0.out;obtain ⟨b,off,rfl,hA2⟩:=hA (by omega);have A0:=Hh hA2;unfold maxLen at hm;clear hA hA2;generalize hn:l.length=n at *;have HN:=Hh hn;clear hn;unfold file at *
   go_enter func28,ntmps28
   go_upto_region 1 with fail;generalize w.alloc (.cells #[.int .i64 3,.slice (some ⟨b,off,none⟩) n cap] 79)=W0 at *;have O0:=Hh (Rw.Ow.made (K:=KI) W0 W0.heap.size 3 (ac _));have B1:=Hh ((aa W0.heap.size W0).alloc (ac _) (.cells #[] 3));go_upto_region 2 with fail;generalize W0.alloc (.cells #[] 3)=W1 at *;generalize Value.slice (some ⟨W0.heap.size,0,none⟩) 0 0=u0 at *;have wl:=Z0.out;have X1:=(B1.out.block w.heap.size (by omega)).trans X0.out;have c0:=Fl.rc X1 0;have c1:=Fl.rc X1 1;go_wp2_with fail;refine (GA.out _ _ (R0.out.below B1.out)).mono ?_;rintro e w1 ⟨rfl,b1⟩;have B2:=Hh (B1.out.trans (b1.mono B1.out.size));have O2:=Hh (O0.out.keep b1);have d0:=Fl.rc ((B2.out.block w.heap.size (by omega)).trans X0.out) 0;clear b1 GA B1 O0 R0 c0 c1 X1;go_wp2;clear d0;have MA:=Hh (fun w v R=>iV w v (eX l) R);have BZ:Hid (∀ wr,Below W0.heap.size W0 wr->Below w.heap.size w wr):=Hh (fun wr h=>B0.out.trans (h.mono (by omega)));clear wl;generalize hT:eX l=T at *;have HT:=Hh hT;clear hT
   go_loopw [5,4] (fun i u wr=>∃ (k:Nat),1<=k/\k<=n/\i = .int .i64 k/\Hid (acV W0 l k u wr)) (fun i _ _=>n - (intOf i).toNat)
   case atStart=>exact ⟨1,ac _,hl,rfl,Hh ⟨by rw [Nat.sub_self,List.take_zero];exact O2.out,B2.out,fun i h1 h2=>by omega⟩⟩
   case round =>
    obtain ⟨k,hk1,hk,rfl,RR⟩:=hrel;obtain ⟨av,cv,ev,hcv,hmv⟩:=RR.out.own.slice;rw [HT.out,RL.out (k - 1) (by omega)] at ev hcv;generalize hLn:k - 1=Ln at ev hcv;have HLn:=Hh hLn;clear hLn;subst ev;have XR:=Hh ((RR.out.aG.block w.heap.size (by have:=Z0.out;omega)).trans X0.out);have c1:=Fl.rc XR.out 1
    by_cases hlt:k < n
    ·obtain ⟨d0,d1,d2,d3⟩:=at4 (A0.out.below RR.out.aG) k (by rw [HN.out];exact hlt)
     have kv:=(gN OK.out k).1;have P1:=Hh (IP.out k hk1 hlt)
     have P2:Hid (plain (rat l k)->∀ i,1<=i->i < k+1->plain (rat l i)):=Hh (fun g i h1 h2=>by
      by_cases e:i=k
      ·rw [e];exact g
      ·exact RR.out.pla i h1 (by omega))
     have RX:Hid (T.take (k - 1) ++ [(rat l k).1]=T.take k):=Hh (by have:=RN.out (k - 1) (by omega);rw [show k - 1+1=k by omega] at this;exact this);have BW:=Hh (BZ.out _ RR.out.aG);generalize hy:rat l k=y at *;have HY:=Hh hy;clear hy;obtain ⟨y1,y2,y3,y4⟩:=y;unfold plain at P1 P2;simp only at d0 d1 d2 d3 kv P1 P2 RX;have zb:=RR.out.aG.size
     by_cases h2:y2=0
     ·subst h2
      by_cases h3:y3=0
      ·subst h3
       by_cases h4:y4=0
       ·subst h4
        have PP:=Hh (P2.out ⟨rfl,rfl,rfl⟩);clear P1 P2;have W0':IntKind.i64.wrap y1=y1:=cE _ (by omega)
        go_wp2_with (at_builtin;refine Rw.dU underlying86 vN rfl (by omega) rfl _ _ rfl W0.heap.size _ _ rfl ((RR.out.own.alloc _).alloc _) _ y1 rfl ?d1 ?d2 ?d3 ?_)
        case d1 =>
         intro j u hu
         match j,hu with
         | 0,hu=>simp [KI,Rw.int] at hu;subst hu;rw [iK];go_simp
        case d2=>rw [HT.out,RL.out (k - 1) (by omega)];omega
        case d3=>simp;omega
        intro v' w3 o3 b3
        rw [HT.out,RX.out,← HT.out] at o3;have N3:Hid (acV W0 l (k+1) v' w3):=Hh ⟨o3,((RR.out.aG.alloc zb _).alloc (by simp;omega) _).trans (b3.mono (ac _)),PP.out⟩;obtain ⟨av',cv',ev',_,_⟩:=o3.slice;rw [HT.out,RL.out _ (by omega)] at ev';subst ev';clear o3 b3 RR RX kv PP XR HY BW c1;go_wp2
        go_roundw
        case rel=>exact ⟨k+1,by omega,by omega,by go_num,N3⟩
        case measure=>simp [intOf];omega
       ·have E:=Hh (NO.out (P1.out (fun g=>h4 g.2.2)) _ ((BW.out.alloc BW.out.size (.cells #[.int .u8 y1,.int .u8 0,.int .u8 0,.int .u8 y4] 42))))
        have t4:(y4 == 0)=false:=by simp [h4]
        clear P1 P2 h4;go_wp2
        go_ret2
        exact E.out
      ·have E:=Hh (NO.out (P1.out (fun g=>h3 g.2.1)) _ ((BW.out.alloc BW.out.size (.cells #[.int .u8 y1,.int .u8 0,.int .u8 y3,.int .u8 y4] 42))))
       have t3:(y3 == 0)=false:=by simp [h3]
       clear P1 P2 h3;go_wp2
       go_ret2
       exact E.out
     ·have E:=Hh (NO.out (P1.out (fun g=>h2 g.1)) _ ((BW.out.alloc BW.out.size (.cells #[.int .u8 y1,.int .u8 y2,.int .u8 y3,.int .u8 y4] 42))))
      have t2:(y2 != 0)=true:=by simp [h2]
      clear P1 P2;go_wp2
      go_ret2
      exact E.out
    ·obtain rfl:k=n:=by omega
     have O3:=RR.out.own;rw [HT.out,RA.out] at O3;have RO2:=Hh (O3.low (show w.heap.size<=W0.heap.size by have:=Z0.out;omega));have BW:=Hh (BZ.out _ RR.out.aG);have PL2:=Hh (fun h=>IS.out (fun i h1 h2=>RR.out.pla i h1 h2) h);clear RR O3 XR RN RL RA A0 OK IP HG
     by_cases hs:gH T
     ·have E:=Hh (YES.out (PL2.out hs))
      have MB:=Hh (fun w v R=>aK (show seqB T=true from bi hs) (MA.out w v R));clear YES NO PL2 MA IQ IS hs;go_wp2_with fail;refine (MB.out _ _ RO2.out.rd).mono ?_;rintro e w4 ⟨rfl,b4⟩;have E4:=Hh (E.out _ _ (RO2.out.keep b4) (BW.out.trans (b4.mono BW.out.size)));clear b4 MB E;go_wp2
      go_ret2
      exact E4.out
     ·have E:=Hh (NO.out (IQ.out hs))
      have MB:=Hh (fun w v R=>aK (show seqB T=false from ai hs) (MA.out w v R));clear YES NO PL2 MA IQ IS hs;go_wp2_with fail;refine (MB.out _ _ RO2.out.rd).mono ?_;rintro e w4 ⟨rfl,b4⟩;have E4:=Hh (E.out _ (BW.out.trans (b4.mono BW.out.size)));clear b4 MB E;go_wp2
      go_ret2
      exact E4.out
  ·have E:=Hh (NO.out (fun h=>h3 h.2.2.1))
   have t0:(p == 3)=false:=by simp [h3]
   clear YES NO HG OK h3;obtain ⟨a,cap,rfl,_,hm,hA⟩:=R0.out;clear hA;generalize l.length=n at *;unfold file at *
   go_enter func28,ntmps28
   go_upto_region 1 with fail;generalize w.alloc (.cells #[.int .i64 p,.slice a n cap] 79)=W0 at *;have B1:=Hh ((aa W0.heap.size W0).alloc (ac _) (.cells #[] 3));have wl:=Z0.out;go_upto_region 2 with fail;generalize W0.alloc (.cells #[] 3)=W1 at *;have X1:=(B1.out.block w.heap.size (by omega)).trans X0.out;have c0:=Fl.rc X1 0;have c1:=Fl.rc X1 1;go_wp2_with fail;refine (GA.out _ _ (R0.out.below B1.out)).mono ?_;rintro e w1 ⟨rfl,b1⟩;have B2:=Hh (B1.out.trans (b1.mono B1.out.size));have d0:=Fl.rc ((B2.out.block w.heap.size (by omega)).trans X0.out) 0;have E2:=Hh (E.out _ (B0.out.trans (B2.out.mono (by omega))));clear b1 GA B1 R0 c0 c1 X1 B2;go_wp2
   go_ret2
   exact E2.out
 ·have GA:=Hh (fun w v R=>aK (show aT p l=false from ai hg) (bH w p v l R))
  have E:=Hh (fun w'=>UU (w:=w) (p:=p) (l:=l) (w':=w') (fun h=>hg h.1));clear hg ok;obtain ⟨a,cap,rfl,_,hm,hA⟩:=R0.out;clear hA;generalize l.length=n at *;unfold file at *
  go_enter func28,ntmps28
  go_upto_region 1 with fail;generalize w.alloc (.cells #[.int .i64 p,.slice a n cap] 79)=W0 at *;have B1:=Hh ((aa W0.heap.size W0).alloc (ac _) (.cells #[] 3));have wl:=Z0.out;go_upto_region 2 with fail;generalize W0.alloc (.cells #[] 3)=W1 at *;have X1:=(B1.out.block w.heap.size (by omega)).trans X0.out;have c0:=Fl.rc X1 0;have c1:=Fl.rc X1 1;go_wp2_with fail;refine (GA.out _ _ (R0.out.below B1.out)).mono ?_;rintro e w1 ⟨rfl,b1⟩;have B2:=Hh (B1.out.trans (b1.mono B1.out.size));have E2:=Hh (E.out _ (B0.out.trans (B2.out.mono (by omega))));clear b1 GA B1 R0 c0 c1 X1 B2;go_wp2
  go_ret2
  exact E2.out
theorem pV (w:World) (p:Int) (v:Value) (l:List R4) (R:Rd K4 w v l) (ok:cZ l):Calls prog 28 #[file p v] w (kQ w p l) :=
 (jZ w p v l R ok).mono fun _ _ ⟨u,e,o,b⟩=>⟨u,e,o.rd,b⟩
end Re
namespace Cu
open Go.Maps
open Fs (Rs qA key gI)
open Re (pV)
def kZ (w:World) (A:aP) (n:Int) (e:Ending) (w':World):Prop:=∃ v,e = .returned (.tuple #[file (fP A n) v,.bool (fB A n)])/\Rd K4 w' v (fR A n)/\Below w.heap.size w w'
variable {L:List aB} {n d:Int}
theorem Vp (h:∀ j,j < L.length->∀ e,L[j]? = some e->e.n≠n):fB (L.map aB.abs) n=false/\fP (L.map aB.abs) n=0/\fR (L.map aB.abs) n = []:=by
 have e:Fs.look key n (L.map aB.abs)=none:=by
  rw [gI]
  rw [Fs.dY.2 fun x hx=>by
   obtain ⟨i,hi⟩:=dq hx
   exact h i (bs.1 hi).1 x hi]
  rfl
 unfold fB fP fR;rw [e];exact ⟨rfl,rfl,rfl⟩
theorem VG {k:Nat} {c:aB} (hc:L[k]? = some c) (hn:c.n=n) (h:∀ j,j < k->∀ e,L[j]? = some e->e.n≠n):fB (L.map aB.abs) n=true/\fP (L.map aB.abs) n=c.p/\fR (L.map aB.abs) n=c.l:=by
 have e:Fs.look aB.n n L=some c:=by
  unfold Fs.look;rw [List.find?_eq_some_iff_getElem];obtain ⟨hk,hc2⟩:=bs.1 hc;refine ⟨by simpa using hn,k,hk,hc2,fun j hj=>?_⟩;have:=h j hj _ (am (by omega))
  simpa using this
 have e2:Fs.look key n (L.map aB.abs)=some c.abs:=by rw [gI,e];rfl
 unfold fB fP fR;rw [e2];exact ⟨rfl,rfl,rfl⟩
theorem Ar {fn:Func} {p q:Tmp} (h:fn.results=#[.cell p 79,.tmp q]) (tmps:Array Value) (w:World) (g1:Nat) (k:Int) (u:Value) (b:Bool)
 (hp:tmps.getD p undef = .pointer (some ⟨g1,0,none⟩)) (hq:tmps.getD q undef = .bool b)
 (h1:w.heap[g1]? = some (.cells #[.int .i64 k,u] 79 (0,0))) :
 (results fn tmps).run prog w = .ok (.tuple #[file k u,.bool b]) w:=by
 have e1:=fY (P:=prog) w g1 79 79 #[.int .i64 k,u] (0,0) _ h1 underlying79 rfl (by show _=some 2;kernel_rfl);have hp':tmps[p]?.getD undef = .pointer (some ⟨g1,0,none⟩):=by simpa using hp
 have hq':tmps[q]?.getD undef = .bool b:=by simpa using hq
 simp only [results,h]
 simp [Result.andThen,hp',hq',asAddr,e1,file]
theorem kM {w:World} {r:Nat} {F:Nat->Prop} {A:aP} (R:Rs w r F A d) (n:Int):Calls prog 27 #[.pointer (some ⟨r,0,none⟩),.int .i64 n] w (kZ w A n):=by
 obtain ⟨v,L,h,rfl⟩:=R;have c0:=Fl.rc h.row 0;have hlen:=h.len;have FI:=Hh h.list.file;obtain ⟨a,cap,rfl,_,_,h3⟩:=h.list.rd;have H3:=Hh h3;have NO:Hid ((∀ j,j < L.length->∀ e,L[j]? = some e->e.n≠n)->fB (L.map aB.abs) n=false/\fP (L.map aB.abs) n=0/\fR (L.map aB.abs) n = []):=Hh Vp;have YES:Hid (∀ (k:Nat) (c:aB),L[k]? = some c->c.n=n->(∀ j,j < k->∀ e,L[j]? = some e->e.n≠n)->fB (L.map aB.abs) n=true/\fP (L.map aB.abs) n=c.p/\fR (L.map aB.abs) n=c.l):=Hh (fun _ _=>VG);have X0:=Hh (bh w (.cells #[.int .i64 0,.slice none 0 0] 79));have B0:=Hh ((aa w.heap.size w).alloc (ac _) (.cells #[.int .i64 0,.slice none 0 0] 79));have C0:=Hh (gP B0 c0);clear h h3 c0;generalize hN:L.length=N at *;have HN:=Hh hN;clear hN
 go_enter func27,ntmps27
 go_upto_region 1 with fail;generalize w.alloc (.cells #[.int .i64 0,.slice none 0 0] 79)=w0 at *;go_wp2
 go_loopw [6] (fun i wr=>∃ k:Nat,k<=N/\i = .int .i64 k/\Hid (∀ j,j < k->∀ e,L[j]? = some e->e.n≠n)/\Hid (Below w.heap.size w wr)/\w0=wr) (fun i _=>N - (intOf i).toNat)
 case atStart=>exact ⟨0,bt _,rfl,fun j hj=>by omega,B0,by trivial⟩
 case round =>
  clear B0;obtain ⟨k,hk,rfl,hb,B,e0⟩:=hrel;subst e0;have c0:=C0.out
  by_cases hlt:k < N
  ·have hkL:k < L.length:=by have:=HN.out;omega
   obtain ⟨c,hc⟩:∃ c,L[k]? = some c:=⟨_,am hkL⟩;obtain ⟨b,off,rfl,hA⟩:=H3 (by omega);obtain ⟨x0,x1,x2⟩:=at3 (hA.below B) hc;have HAA:=Hh hA
   by_cases he:c.n=n
   ·have Y:=Hh (YES k c hc he hb)
    have RF:=Hh (FI c (cL hc));have x1':=x1;clear hkL hA NO YES hb hc;unfold aB.sl at x2 RF;generalize c.a=ca at *;generalize c.cap=ccap at *;generalize c.p=cp at *;generalize c.n=cn at *;generalize c.l=cl at *;subst he;obtain ⟨z0,z1,f0,f1⟩:=wE X0;have R1:=Hh (aU X0 cp (.slice ca cl.length ccap));have B1:=Hh (aN (p:=cp) (v:=.slice ca cl.length ccap) B (ac _))
    have E:Hid (kZ w (L.map aB.abs) cn (.returned (.tuple #[file cp (.slice ca cl.length ccap),.bool true])) (eU w0 w.heap.size cp (.slice ca cl.length ccap))):=Hh (by
     obtain ⟨y1,y2,y3⟩:=Y;refine ⟨_,by rw [y1,y2],?_,B1.out⟩;rw [y3]
     exact RF.below B1)
    clear Y RF B;go_wp2
    (try simp only [Exit.inBlock,Exit.then])
    exact bo (Ar (p:=4) (q:=5) rfl _ _ w.heap.size cp (.slice ca cl.length ccap) true rfl rfl R1) rfl E
   ·have NB:Hid (∀ j,j < k+1->∀ e,L[j]? = some e->e.n≠n):=fun j hj e hje=>by
     by_cases ej:j=k
     ·subst ej
      rw [hc] at hje;obtain rfl:=cP hje;exact he
     ·exact hb j (by omega) e hje
    clear hc hkL hA NO YES x1 x2;generalize c.n=cn at *;go_wp2
    go_roundw
    case rel=>exact ⟨k+1,by omega,by go_num,NB,B,by trivial⟩
    case measure=>simp [intOf];omega
  ·obtain rfl:k=N:=by omega
   have E:=Hh (NO hb);obtain ⟨z0,z1,f0,f1⟩:=wE X0;have R1:=Hh (aU X0 0 (.slice none 0 0));have B1:=Hh (aN (p:=0) (v:=.slice none 0 0) B (ac _))
   have E1:Hid (kZ w (L.map aB.abs) n (.returned (.tuple #[file 0 (.slice none 0 0),.bool false])) (eU w0 w.heap.size 0 (.slice none 0 0))):=Hh (by
    obtain ⟨y1,y2,y3⟩:=E;refine ⟨_,by rw [y1,y2],?_,B1.out⟩;rw [y3]
    exact Rw.Rd.nil _)
   clear NO YES hb B;go_wp2
   (try simp only [Exit.inBlock,Exit.then])
   exact bo (Ar (p:=4) (q:=5) rfl _ _ w.heap.size 0 (.slice none 0 0) false rfl rfl R1) rfl E1
end Cu
namespace Ro
def fM (w:World) (p:Int) (l:List R4) (e:Ending) (w':World):Prop:=∃ u,e = .returned (.tuple #[u,.int .i64 (pQ p l)])/\Ow K5 w' w.heap.size 170 u (jJ p l)/\Below w.heap.size w w'
structure Ki (w:World) (r:List R4) (k:Nat) (u:Value) (L:List E5) (wr:World):Prop where
 own:Ow K5 wr w.heap.size 170 u L
 red:Read r k L
 aG:Below w.heap.size w wr
variable {w:World} {b off:Nat} {l:List R4}
theorem Cy (h:At K4 w b off l):At K4 w b (off+4) (l.drop 1):=fun i hi j u hu=>by
 rw [fd] at hi;have e:=h (i+1) (by omega) j u (by rw [← hu];congr 1;simp [List.getD]);rw [show off+(i+1) * K4.n+j=off+4+i * K4.n+j by show off+(i+1) * 4+j=off+4+i * 4+j;omega] at e;exact e
theorem Ci (h:l.length<=1):At K4 w b off (l.drop 1):=fun i hi=>by rw [fd] at hi;omega
theorem zO (h:cZ l) (k:Nat):cZ (l.drop k):=fun r hr=>h r (List.mem_of_mem_drop hr)
def JX (w:World) (p:Int) (l:List R4) (L:List E5):Prop:=(iH L->∀ u w',Ow K5 w' w.heap.size 170 u L->Below w.heap.size w w'->fM w p l (.returned (.tuple #[u,.int .i64 0])) w')/\(¬ iH L->∀ w',Below w.heap.size w w'->fM w p l (.returned (.tuple #[.slice none 0 0,.int .i64 2])) w')
theorem KW {p:Int} {L:List E5} (hg:aL p l) (h:scan (l.drop 1)=some L):JX w p l L :=
 ⟨fun hm u w' hu hb=>by
  have e:=Xn hg h hm;exact ⟨u,by rw [e.2],by rw [e.1];exact hu,hb⟩,fun hm w' hb=>by
  have e:=aa7 (p:=p) h hm
  exact ⟨_,by rw [e.2],by rw [e.1];exact Rw.Ow.nil _ _ _,hb⟩⟩
theorem xZ (w:World) (p:Int) (v:Value) (l:List R4) (R:Rd K4 w v l) (ok:cZ l):Calls prog 114 #[file p v] w (fM w p l):=by
 have B0:=Hh ((aa w.heap.size w).alloc (ac _) (.cells #[.int .i64 p,v] 79));have R0:=Hh (R.below B0);have HE:Hid (jJ p l = []/\pQ p l=2->∀ w',Below w.heap.size w w'->fM w p l (.returned (.tuple #[.slice none 0 0,.int .i64 2])) w'):=Hh (fun h w' hb=>⟨_,by rw [h.2],by rw [h.1];exact Rw.Ow.nil _ _ _,hb⟩);clear R
 by_cases hg:aL p l
 ·have GA:=Hh (aK (show aT p l=true from bi hg) (Fl.bD _ p v l R0.out))
  have hl:=hg.2.2.1;have hl2:=hg.2.2.2.1;have HG:=Hh hg;have OK:=Hh ok;clear hg ok;obtain ⟨a,cap,rfl,⟨hc,_⟩,hm,hA⟩:=R0.out;obtain ⟨b,off,rfl,hA⟩:=hA (by omega);have HA:=Hh hA;unfold maxLen at hm;clear hA R0;generalize hn:l.length=n at *;have HN:=Hh hn;clear hn;unfold file at *
  go_enter func114,ntmps114
  go_wp2_with fail;refine GA.mono ?_;rintro e w1 ⟨rfl,b1⟩;have B1:=aR B0 b1;have A1:=Hh (HA.below b1);have c1:w1.cell? ⟨w.heap.size,1,none⟩=some (.slice (some ⟨b,off,none⟩) n cap):=(b1.cell (by simp)).trans (by go_simp);clear b1 GA B0 HA;have HS:Hid (scan (l.drop 1)=none->∀ w',Below w.heap.size w w'->fM w p l (.returned (.tuple #[.slice none 0 0,.int .i64 2])) w'):=Hh (fun h=>HE (Eb h));have HT:Hid (∀ L,scan (l.drop 1)=some L->JX w p l L):=Hh (fun L h=>KW HG h);have AI:Hid (n<=1->At K4 w1 b off (l.drop 1)):=Hh (fun h=>Ci (by rw [HN.out];exact h));have AR:=Hh (Cy A1);have KR:=Hh (zO OK 1);have LR:Hid ((l.drop 1).length=n - 1):=Hh (by rw [fd,HN.out]);clear HE HG OK A1;have hn1:n - 1<=255:=by omega
  generalize l.drop 1=r at *;go_wp2
  case' inl =>
   have A2:=Hh (AI (by omega));clear AI AR;generalize off=off2 at *
  case' inr =>
   have A2:=AR;clear AI AR;generalize off+4=off2 at *
  all_goals
   generalize n - 1=m at *
   go_loopw [16,4] (fun i u wr=>∃ (k:Nat) (L:List E5),k<=m/\i = .int .i64 k/\Hid (Ki w1 r k u L wr)) (fun i _ _=>m - (intOf i).toNat)
   case atStart=>exact ⟨0,[],bt _,rfl,Hh ⟨Rw.Ow.nil _ _ _,xK r,aa _ _⟩⟩
   case round =>
    obtain ⟨k,L,hk,rfl,RR⟩:=hrel;obtain ⟨av,cv,ev,hcv,hmv⟩:=RR.own.slice;have LL:=Hh RR.red.1;generalize L.length=Ln at ev hcv LL;subst ev
    by_cases hlt:k < m
    ·obtain ⟨c0,c1',c2,c3⟩:=at4 (A2.below RR.aG) k (by rw [LR.out];exact hlt)
     have kv:=gN KR k;have TA:=Hh (fun w=>j6 w (rat r k) kv);have Q1:=Hh (GI RR.red (by rw [LR.out];exact hlt));have Q2:=Hh (Ia RR.red (by rw [LR.out];exact hlt));have Q3:=Hh (Ao RR.red (by rw [LR.out];exact hlt));clear kv
     by_cases h1:fH (dS (rat r k))
     ·have e1:pW (rat r k)=dS (rat r k):=aw h1
      have e2:takeN (rat r k)=0:=aw h1;rw [e1,e2] at TA;have P2:=Hh (Q2 h1);have P3:=Hh (Q3 h1);clear e1 e2 Q1 Q2 Q3 h1;unfold ent aH at TA;generalize dS (rat r k)=x at *;generalize rat r k=y at *
      by_cases h4:x.1=4
      ·have TE:=Hh (HT L (P2 h4))
       clear P2 P3 HS HT;go_wp2_with fail;refine (TA _).mono ?_;rintro e w2 ⟨rfl,b2⟩;have BA:=RR.aG.alloc RR.aG.size (.cells #[.int .u8 y.1,.int .u8 y.2.1,.int .u8 y.2.2.1,.int .u8 y.2.2.2] 42);have B2:=Hh (BA.trans (b2.mono BA.size));have O2:=Hh ((RR.own.alloc (.cells #[.int .u8 y.1,.int .u8 y.2.1,.int .u8 y.2.2.1,.int .u8 y.2.2.2] 42)).keep b2);have BW:Hid (∀ o,Below w.heap.size w (w2.alloc o)):=Hh (fun o=>B1.trans ((B2.alloc B2.size o).mono B1.size));have RW:Hid (∀ o,Ow K5 (w2.alloc o) w.heap.size 170 (.slice av Ln cv) L):=Hh (fun o=>(O2.alloc o).low B1.size);clear BA b2 B2 O2 RR c0 c1' c2 c3 TA
       by_cases hm:iH L
       ·have E:=Hh (TE.out.1 hm)
        have IT:=Hh (fun w v R=>aK (show fJ L=true from bi hm) (iN w v L R));clear TE hm;go_wp2_with fail;refine (IT _ _ (Rw.Ow.rd (RW _))).mono ?_;rintro e w4 ⟨rfl,b4⟩;have E4:=Hh (E _ _ (Rw.Ow.keep (RW _) b4) (fi (BW _) (b4.mono (Below.size (BW _)))));clear b4 E IT;go_wp2
        go_ret2
        exact E4
       ·have E:=Hh (TE.out.2 hm)
        have IT:=Hh (fun w v R=>aK (show fJ L=false from ai hm) (iN w v L R));clear TE hm;go_wp2_with fail;refine (IT _ _ (Rw.Ow.rd (RW _))).mono ?_;rintro e w4 ⟨rfl,b4⟩;have E4:=Hh (E _ (fi (BW _) (b4.mono (Below.size (BW _)))));clear b4 E IT;go_wp2
        go_ret2
        exact E4
      ·have PR:=Hh (P3 h4)
       clear P2 P3 HS HT;go_wp2_with fail;refine (TA _).mono ?_;rintro e w2 ⟨rfl,b2⟩;have BA:=RR.aG.alloc RR.aG.size (.cells #[.int .u8 y.1,.int .u8 y.2.1,.int .u8 y.2.2.1,.int .u8 y.2.2.2] 42);have B2:=Hh (BA.trans (b2.mono BA.size));have O2:=Hh ((RR.own.alloc (.cells #[.int .u8 y.1,.int .u8 y.2.1,.int .u8 y.2.2.1,.int .u8 y.2.2.2] 42)).keep b2);have LN:=Hh RR.red.1;have z2:=B2.size;clear BA b2 RR c0 c1' c2 c3 TA
       go_wp2_with (at_builtin;refine Rw.dU underlying126 V8 rfl (by omega) rfl _ _ rfl w1.heap.size _ _ rfl ((O2.out.alloc _).alloc _) _ x rfl ?d1 ?d2 ?d3 ?_)
       case d1 =>
        intro j u hu
        match j,hu with
        | 0,hu=>simp [K5] at hu;subst hu;go_simp
        | 1,hu=>simp [K5] at hu;subst hu;go_simp
        | 2,hu=>simp [K5] at hu;subst hu;go_simp
        | 3,hu=>simp [K5] at hu;subst hu;go_simp
        | 4,hu=>simp [K5] at hu;subst hu;go_simp
        | j+5,hu=>simp [K5] at hu
       case d2=>rw [LN.out];omega
       case d3=>simp;omega
       intro v' w3 o3 b3
       have N3:Hid (Ki w1 r (k+1) v' (L ++ [x]) w3):=Hh ⟨o3,PR,((B2.alloc z2 _).alloc (by simp;omega) _).trans (b3.mono (ac _))⟩;obtain ⟨av',cv',ev',_,_⟩:=o3.slice;generalize (L ++ [x]).length=Ln' at ev';subst ev';clear o3 b3 O2 B2 PR LN;go_wp2
       go_roundw
       case rel=>exact ⟨k+1,L ++ [x],by omega,by go_num,N3⟩
       case measure=>simp [intOf];omega
     ·have e1:pW (rat r k)=z5:=aq h1
      have e2:takeN (rat r k)=2:=aq h1;rw [e1,e2] at TA;have E:=Hh (HS (Q1 h1));clear e1 e2 Q1 Q2 Q3 h1 HS HT;unfold ent aH at TA;simp only [z5] at TA;generalize rat r k=y at *;go_wp2_with fail;refine (TA _).mono ?_;rintro e w2 ⟨rfl,b2⟩;have BA:=RR.aG.alloc RR.aG.size (.cells #[.int .u8 y.1,.int .u8 y.2.1,.int .u8 y.2.2.1,.int .u8 y.2.2.2] 42);have B2:=Hh (BA.trans (b2.mono BA.size));have O2:=Hh ((RR.own.alloc (.cells #[.int .u8 y.1,.int .u8 y.2.1,.int .u8 y.2.2.1,.int .u8 y.2.2.2] 42)).keep b2);have BW:Hid (∀ o,Below w.heap.size w (w2.alloc o)):=Hh (fun o=>B1.trans ((B2.alloc B2.size o).mono B1.size));clear BA b2 B2 O2 RR c0 c1' c2 c3 TA;go_wp2
      go_ret2
      exact E _ (BW _)
    ·obtain rfl:k=m:=by omega
     have TE:=Hh (HT L (DZ (by rw [LR.out];exact RR.out.red)));have BW:=Hh (B1.trans (RR.aG.mono B1.size));have RW:=Hh (RR.own.low B1.size);clear RR HS HT
     by_cases hm:iH L
     ·have E:=Hh (TE.out.1 hm)
      have IT:=Hh (fun w v R=>aK (show fJ L=true from bi hm) (iN w v L R));clear TE hm;go_wp2_with fail;refine (IT _ _ (Rw.Ow.rd RW)).mono ?_;rintro e w4 ⟨rfl,b4⟩;have E4:=Hh (E _ _ (Rw.Ow.keep RW b4) (fi BW (b4.mono (Below.size BW))));clear b4 E IT;go_wp2
      go_ret2
      exact E4
     ·have E:=Hh (TE.out.2 hm)
      have IT:=Hh (fun w v R=>aK (show fJ L=false from ai hm) (iN w v L R));clear TE hm;go_wp2_with fail;refine (IT.out _ _ (Rw.Ow.rd RW.out)).mono ?_;rintro e w4 ⟨rfl,b4⟩;have E4:=Hh (E.out _ (fi BW.out (b4.mono (Below.size BW.out))));clear b4 E IT;go_wp2
      go_ret2
      exact E4.out
 ·have GA:=Hh (aK (show aT p l=false from ai hg) (Fl.bD _ p v l R0.out))
  have E:=Hh (HE.out (LY hg));clear hg HE ok;obtain ⟨a,cap,rfl,_,hm,hA⟩:=R0.out;clear hA R0;generalize l.length=n at *;unfold file at *
  go_enter func114,ntmps114
  go_wp2_with fail;refine GA.mono ?_;rintro e w1 ⟨rfl,b1⟩;have B1:=aR B0 b1;clear b1 GA B0;go_wp2
  go_ret2
  exact E _ B1
end Ro
namespace Cu
open Go.Maps
open Fs (fT)
open Ro (xZ fM)
attribute [local irreducible] Sd.aW wpQuiet
def Ud (w:World) (A:aP) (n:Int) (e:Ending) (w':World):Prop:=∃ v,e = .returned (file (fP A n) v)/\Rd K4 w' v (fR A n)/\Below w.heap.size w w'
section
variable {s t p:Nat} {F G:Nat->Prop} {c:Cs} {vn vq:Value} {L:List Nd} {Fs:Nat->Nat->Prop} {w w':World}
variable {nn:Nat}
theorem AZ (h:Cl w s F c t vn L p vq Fs) (hn:nn < c.S.length) (n:Int):Calls prog 81 #[ptr s,.int .i64 nn,.int .i64 n] w (Ud w (sat c.S nn).1 n):=by
 have B0:=Hh ((aa w.heap.size w).alloc (ac _) (.cells #[.int .i64 0,.slice none 0 0] 79));have X0:=Hh (bh w (.cells #[.int .i64 0,.slice none 0 0] 79));have C1:=Hh (Bl (h.below B0) hn);unfold dF at C1;clear h hn;generalize (sat c.S nn).1=A at *;unfold ptr at *
 go_enter func81,ntmps81
 go_wp2_with fail;refine C1.mono ?_;rintro e w1 ⟨v,rfl,hv,b1⟩;obtain ⟨L,hL,rfl⟩:=hv (fun k=>k=w.heap.size) (fun k e=>by rw [e];simp);have FO:=Hh hL.wD;have X1:=Hh (iP b1 X0);have B1:=aR B0 b1;have FI:=Hh hL.file;have hlen:L.length<=9223372036854775807:=by
  obtain ⟨_,_,_,⟨_,_⟩,hm,_⟩:=hL.rd;unfold maxLen at hm
  omega
 obtain ⟨a,cap,rfl,_,_,h3⟩:=hL.rd;have H3:=Hh h3;have NO:Hid ((∀ j,j < L.length->∀ e,L[j]? = some e->e.n≠n)->fB (L.map aB.abs) n=false/\fP (L.map aB.abs) n=0/\fR (L.map aB.abs) n = []):=Hh Vp;have YES:Hid (∀ (k:Nat) (c:aB),L[k]? = some c->c.n=n->(∀ j,j < k->∀ e,L[j]? = some e->e.n≠n)->fB (L.map aB.abs) n=true/\fP (L.map aB.abs) n=c.p/\fR (L.map aB.abs) n=c.l):=Hh (fun _ _=>VG);have BB:=Hh (aa w1.heap.size w1);clear hv hL h3 b1 C1 X0 B0;generalize hN:L.length=N at *;have HN:=Hh hN;clear hN;go_wp2
 go_loopw [13] (fun i wr=>∃ k:Nat,k<=N/\i = .int .i64 k/\Hid (∀ j,j < k->∀ e,L[j]? = some e->e.n≠n)/\Hid (Below w1.heap.size w1 wr)) (fun i _=>N - (intOf i).toNat)
 case atStart=>exact ⟨0,bt _,rfl,fun j hj=>by omega,BB⟩
 case round =>
  clear BB;obtain ⟨k,hk,rfl,hb,B⟩:=hrel
  by_cases hlt:k < N
  ·have hkL:k < L.length:=by have:=HN.out;omega
   obtain ⟨c,hc⟩:∃ c,L[k]? = some c:=⟨_,am hkL⟩;obtain ⟨b,off,rfl,hA⟩:=H3 (by omega);obtain ⟨x0,x1,x2⟩:=at3 (hA.below B) hc;have HAA:=Hh hA;have RF:=Hh (FI c (cL hc));have FF:=Hh (FO c (cL hc));have Y:=Hh (YES k c hc)
   have NB:Hid (c.n≠n->∀ j,j < k+1->∀ e,L[j]? = some e->e.n≠n):=Hh (fun he j hj e hje=>by
    by_cases ej:j=k
    ·subst ej
     rw [hc] at hje;obtain rfl:=cP hje;exact he
    ·exact hb j (by omega) e hje)
   clear hc hkL hA;unfold aB.sl at x2 RF FF;generalize c.a=ca at *;generalize c.cap=ccap at *;generalize c.p=cp at *;generalize c.n=cn at *;generalize c.l=cl at *;have Z0:=Hh (bh wr (.cells #[.int .i64 cn,.int .i64 cp,.slice ca cl.length ccap] 81));have BN:=Hh ((aa wr.heap.size wr).alloc (ac _) (.cells #[.int .i64 cn,.int .i64 cp,.slice ca cl.length ccap] 81));go_upto_region 4 with fail;clear x0 x1 x2;generalize wr.alloc (.cells #[.int .i64 cn,.int .i64 cp,.slice ca cl.length ccap] 81)=W at *;have B2:=aR B BN;clear BN B;generalize wr.heap.size=gx at *;obtain ⟨y0,y1,y2⟩:=DK Z0
   by_cases he:cn=n
   ·have Y1:=Hh (Y he hb)
    subst he;have XW:=Hh (iP B2 X1);obtain ⟨z0,z1,f0,f1⟩:=wE XW;have R1:=Hh (aU XW cp (.slice ca cl.length ccap));have BS:=Hh (aN (p:=cp) (v:=.slice ca cl.length ccap) (aR B1 B2) (ac _));have RS:=Hh (fT (RF.below B2) (G:=fun k=>k=w.heap.size) FF ((Only.set (fun k=>k=w.heap.size) W (a:=⟨w.heap.size,0,none⟩) rfl (.int .i64 cp)).trans (Only.set (fun k=>k=w.heap.size) _ (a:=⟨w.heap.size,1,none⟩) rfl (.slice ca cl.length ccap)) fun _ _ g=>g))
    have E:Hid (Ud w (L.map aB.abs) cn (.returned (file cp (.slice ca cl.length ccap))) (eU W w.heap.size cp (.slice ca cl.length ccap))):=Hh (by
     obtain ⟨y1,y2,y3⟩:=Y1;refine ⟨_,by rw [y2],?_,BS.out⟩;rw [y3]
     exact RS)
    clear Y Y1 RF FF NO YES hb NB X1 Z0 B2 BS RS;generalize w.heap.size=g0 at *;go_wp2
    (try simp only [Exit.inBlock,Exit.then])
    exact bo (jH (p:=6) rfl _ _ g0 cp (.slice ca cl.length ccap) rfl R1) rfl E
   ·have NB1:=Hh (NB he)
    clear Y RF FF NB hb;go_wp2
    go_roundw
    case rel=>exact ⟨k+1,by omega,by go_num,NB1,B2⟩
    case measure=>simp [intOf];omega
  ·obtain rfl:k=N:=by omega
   have E:=Hh (NO (fun j hj=>hb j (by have:=HN.out;omega)));have XW:=Hh (iP B X1);obtain ⟨z0,z1,f0,f1⟩:=wE XW;have R1:=Hh (aU XW 0 (.slice none 0 0));have BS:=Hh (aN (p:=0) (v:=.slice none 0 0) (aR B1 B) (ac _))
   have E1:Hid (Ud w (L.map aB.abs) n (.returned (file 0 (.slice none 0 0))) (eU wr w.heap.size 0 (.slice none 0 0))):=Hh (by
    obtain ⟨y1,y2,y3⟩:=E;refine ⟨_,by rw [y2],?_,BS.out⟩;rw [y3]
    exact Rw.Rd.nil _)
   clear NO YES hb E BS B X1;generalize w.heap.size=g0 at *;go_wp2
   (try simp only [Exit.inBlock,Exit.then])
   exact bo (jH (p:=6) rfl _ _ g0 0 (.slice none 0 0) rfl R1) rfl E1
def TbC (w:World) (l:List E5) (e:Ending) (w':World):Prop:=∃ u,e = .returned u/\Ow K5 w' w.heap.size 170 u l/\Below w.heap.size w w'
theorem J7 (h:Cl w s F c t vn L p vq Fs) (hn:nn < c.S.length) {k:Int} (hk:0<=k/\k<=100):Calls prog 86 #[ptr s,.int .i64 nn,.int .i64 k] w (TbC w (jJ (fP (sat c.S nn).1 (32+k)) (fR (sat c.S nn).1 (32+k)))):=by
 have C1:=Hh (AZ h hn (32+k));have OK:=Hh (F8 (h.sto hn).Zf (32+k));have hw:=cE (32+k) (by omega);unfold Ud at C1;clear h hn;generalize (sat c.S nn).1=A at *;generalize fP A (32+k)=fp at *;generalize fR A (32+k)=fr at *;unfold ptr at *
 go_enter func86,ntmps86
 go_wp2_with fail;refine C1.mono ?_;rintro e w1 ⟨v,rfl,rv,b1⟩;have C2:=Hh (xZ w1 fp v fr rv OK);have B1:=Hh b1;obtain ⟨a,cap,rfl,_⟩:=rv.slice;unfold fM at C2;clear C1 rv b1 OK;generalize jJ fp fr=l at *;generalize pQ fp fr=z at *;generalize fr.length=n at *;unfold file at *;go_wp2_with fail;refine C2.mono ?_;rintro e w2 ⟨u,rfl,ow,b2⟩;have E:Hid (TbC w l (.returned u) w2):=Hh ⟨u,rfl,ow.low B1.size,aR B1 b2⟩;clear C2 ow b2 B1;go_wp2
 go_ret
 exact E
end
end Cu
