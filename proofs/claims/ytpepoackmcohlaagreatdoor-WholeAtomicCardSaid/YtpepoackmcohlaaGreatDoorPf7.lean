import Derived.Test.YtpepoackmcohlaaGreatDoorPf6
import Derived.ProofKit
import Derived.OpenShut
import Derived.Test.YtpepoackmcohlaaGreatDoorRows
import Derived.LaidMore
import Derived.Stop.Joined
import Derived.Deep.CutRange
set_option maxRecDepth 100000
set_option maxHeartbeats 1000000
namespace Go.Proofs.YtpepoackmcohlaaGreatDoor
open Go.Proofs.Tryz
open Ck (Ct E8 Hd KS LL Vl bQ fI iQ jK pg sE sl tE tN xJ zh)
open Fl (K4 R4 aA aH aK aL aT ah aj bH bN cZ gN hdr newR rat z4)
open Fs (DN E3 Fx Glob Only Rs St Wf aB aC aP at3 dA dD dE dV dX dY fO fZ gB gV grown_of iU ins jS ji jw kI kT key lH oN put qA qz sA sB sK vZ wJ yK yN zq)
open Pa (Bg Fy Has KN Mi QX S2 Yy ZU bO bU exU gM gZ ny sat wL wh xI)
open Ro (E5 K5 bF fH jg z5)
open Rw (At Kind Ow Rd)
namespace Pa
open Go.RowKit Go.Maps
open Ck (sN)
def nI (ps:List (Option Nat)):Int:=match ps.findIdx? Option.isNone with | some k=>k | none=>-1
def nB (ps:List (Option Nat)):Bool:=ps.any Option.isNone
variable {ps:List (Option Nat)} {k bytes r s:Nat}
theorem abP (hk:k < ps.length) (h:∀ j,j < k->(ps.getD j none).isSome=true) (hn:ps.getD k none=none):nI ps=k:=by
 have e:ps.findIdx? Option.isNone=some k:=by
  rw [List.findIdx?_eq_some_iff_getElem];refine ⟨hk,?_,fun j hj=>?_⟩
  ·rw [af,am hk] at hn
   have:ps[k]=none:=hn;rw [this];rfl
  ·have:=h j hj
   rw [af,am (by omega)] at this;have h2:=this
   cases e2:ps[j]'(by omega) with
   | none=>rw [e2] at h2;cases h2
   | some q=>simp
 unfold nI;rw [e]
theorem ZF (h:∀ j,j < ps.length->(ps.getD j none).isSome=true):nI ps = -1:=by
 have e:ps.findIdx? Option.isNone=none:=by
  rw [List.findIdx?_eq_none_iff]
  intro x hx
  obtain ⟨j,hj,e⟩:=ed hx;have:=h j hj;rw [af,am hj] at this;have h2:=this;rw [e] at h2
  cases x with
  | none=>cases h2
  | some q=>rfl
 unfold nI;rw [e]
theorem ada (ps:List (Option Nat)):decide (0<=nI ps)=nB ps:=by
 unfold nI nB
 rcases e:ps.findIdx? Option.isNone with _ | k
 ·have:=List.findIdx?_eq_none_iff.1 e
  rw [show ps.any Option.isNone=false from List.any_eq_false.2 fun x hx=>by have h:=this x hx;cases x <;> simp_all]
  rfl
 ·obtain ⟨hk,h,_⟩:=List.findIdx?_eq_some_iff_getElem.1 e
  rw [show ps.any Option.isNone=true from ew.2 ⟨_,dk hk,h⟩];exact bi (Int.natCast_nonneg k)
theorem Yk (l:List Nat):nB (l.map some)=false:=by
 unfold nB;rw [List.any_eq_false]
 intro x hx
 obtain ⟨y,_,rfl⟩:=dC.1 hx
 simp
variable {P:Program}
theorem UY (W:World) (d:Nat) (t te:TypeId) (a:Addr) (h:P.underlying t=some (.pointer te)):(Op.equalIn (d+1) t (.pointer none) (.pointer (some a))).run P W = .ok false W:=by
 simp [Op.equalIn,run_underlying h]
theorem eq_nil (W:World) (t te:TypeId) (a:Addr) (h:P.underlying t=some (.pointer te)):(Op.equal t (.pointer none) (.pointer (some a))).run P W = .ok false W:=UY W 9999 t te a h
theorem Zb (W:World) (t te:TypeId) (a:Addr) (h:P.underlying t=some (.pointer te)):(binOp .eql t (.pointer none) (.pointer (some a))).run P W = .ok (.bool false) W:=by
 simp only [binOp]
 simp [eq_nil W t te a h]
theorem aaF (q:Nat) (W:World):(binOp .eql 72 (.pointer none) (.pointer (some ⟨q,0,none⟩))).run prog W = .ok (.bool false) W:=Zb W _ _ _ underlying72
theorem jO (w:World) (v:Value) (ps:List (Option Nat)) (R:Rd KP w v ps):Calls prog 190 #[v,.pointer none] w fun e w'=>e = .returned (.int .i64 (nI ps))/\Below w.heap.size w w':=by
 have HIT:Hid (∀ k,k < ps.length->(∀ j,j < k->(ps.getD j none).isSome=true)->ps.getD k none=none->nI ps=k):=Hh (fun k hk h hn=>abP hk h hn);have MISS:Hid ((∀ j,j < ps.length->(ps.getD j none).isSome=true)->nI ps = -1):=Hh ZF;obtain ⟨a,cap,rfl,_,hm,hA⟩:=R;have HA:=Hh hA;unfold maxLen at hm;clear hA;generalize hn:ps.length=n at *;have HN:=Hh hn;clear hn;generalize nI ps=r at *
 go_enter func190,ntmps190
 go_wp2
 go_loopw [8] (fun i wr=>∃ k:Nat,k<=n/\i = .int .i64 k/\Hid (Below w.heap.size w wr)/\Hid (∀ j,j < k->(ps.getD j none).isSome=true)) (fun i _=>n - (intOf i).toNat)
 case atStart=>exact ⟨0,bt _,rfl,aa _ _,fun j hj=>by omega⟩
 case round =>
  obtain ⟨k,hk,rfl,bw,hs⟩:=hrel
  by_cases hlt:k < n
  ·obtain ⟨b,off,rfl,A1⟩:=HA (by omega)
   have c:=atP (A1.below bw) (i:=k) (by have:=HN.out;omega);have HT:=Hh (HIT k hlt hs)
   have NX:Hid ((ps.getD k none).isSome=true->∀ j,j < k+1->(ps.getD j none).isSome=true):=Hh (fun g j hj=>by
    by_cases e:j=k
    ·rw [e];exact g
    ·exact hs j (by omega))
   clear A1
   cases hp:ps.getD k none with
   | none =>
     rw [hp] at c;have E:=Hh (HT hp);unfold pv at c;simp only [Option.map_none] at c;clear HT NX HIT MISS;go_wp2
     go_ret
     exact ⟨by rw [E.out];rfl,bw.out⟩
   | some q =>
     rw [hp] at c;have S1:=Hh (NX (by rw [hp];rfl));unfold pv at c;simp only [eQ] at c;have hN:=aaF q;clear HT NX;go_wp2
     go_roundw
     case rel=>exact ⟨k+1,by omega,by go_num,bw,S1⟩
     case measure=>simp [intOf];omega
  ·obtain rfl:k=n:=by omega
   have E:=Hh (MISS hs);go_wp2
   go_ret
   exact ⟨by rw [E.out];rfl,bw.out⟩
theorem mM (w:World) (v:Value) (ps:List (Option Nat)) (R:Rd KP w v ps):Calls prog 167 #[v,.pointer none] w fun e w'=>e = .returned (.bool (nB ps))/\Below w.heap.size w w':=by
 have C:=Hh (jO w v ps R);have E:=Hh (ada ps);clear R;generalize nI ps=r at *;generalize nB ps=q at *
 go_enter func167,ntmps167
 go_wp2_with fail;refine C.mono ?_;rintro e w1 ⟨rfl,b1⟩;go_wp2
 go_ret
 exact ⟨by rw [← E.out];rfl,b1⟩
def fE (ps:List (Option Nat)) (T:LL) (V:List Bool):Int:=if 1<=ps.length/\ps.length<=32/\nB ps=false/\T.length=ps.length/\V.length=ps.length then tE T else 1
theorem QN (w:World) (vs vt vl:Value) (ps:List (Option Nat)) (T:LL) (V:List Bool) (RS:Rd KP w vs ps) (RT:jK w vt T) (RV:Rd KB w vl V):Calls prog 137 #[vs,vt,vl] w fun e w'=>e = .returned (.int .i64 (fE ps T V))/\Below w.heap.size w w':=by
 have CA:=Hh (mM w vs ps RS);have TA:=Hh (fun W b=>xJ W vt T (RT.below b));unfold fI at TA;have NO:Hid (¬ (1<=ps.length/\ps.length<=32/\nB ps=false/\T.length=ps.length/\V.length=ps.length)->fE ps T V=1):=Hh (fun h=>aq h);have YES:Hid ((1<=ps.length/\ps.length<=32/\nB ps=false/\T.length=ps.length/\V.length=ps.length)->fE ps T V=tE T):=Hh (fun h=>aw h);obtain ⟨a1,c1,rfl,m1⟩:=RS.slice;obtain ⟨a2,c2,rfl,m2⟩:=RT.slice;obtain ⟨a3,c3,rfl,m3⟩:=RV.slice;unfold maxLen at m1 m2 m3;clear RS RT RV;generalize ps.length=n at *;generalize T.length=nt at *;generalize V.length=nv at *;generalize fE ps T V=r at *;generalize nB ps=q at *;generalize tE T=te at *;generalize tN T=tn at *
 by_cases h1:n < 1
 ·have E:=Hh (NO (by omega))
  clear NO YES
  go_enter func137,ntmps137
  go_wp2
  go_ret
  exact ⟨by rw [E.out];rfl,aa _ _⟩
 ·by_cases h2:32 < n
  ·have E:=Hh (NO (by omega))
   clear NO YES
   go_enter func137,ntmps137
   go_wp2
   go_ret
   exact ⟨by rw [E.out];rfl,aa _ _⟩
  ·cases q with
   | true =>
     have E:=Hh (NO (by rintro ⟨_,_,h,_⟩;cases h));clear NO YES
     go_enter func137,ntmps137
     go_wp2_with fail;refine CA.mono ?_;rintro e w1 ⟨rfl,b1⟩;go_wp2
     go_ret
     exact ⟨by rw [E.out];rfl,b1⟩
   | false =>
     by_cases h3:nt=n
     ·by_cases h4:nv=n
      ·have E:=Hh (YES ⟨by omega,by omega,rfl,h3,h4⟩)
       clear NO YES;subst h3;subst h4
       go_enter func137,ntmps137
       go_wp2_with fail;refine CA.mono ?_;rintro e w1 ⟨rfl,b1⟩;go_wp2_with fail;refine (TA w1 b1).mono ?_;rintro e w2 ⟨rfl,b2⟩;go_wp2
       go_ret
       exact ⟨by rw [E.out];rfl,b1.trans (b2.mono b1.size)⟩
      ·have E:=Hh (NO (by rintro ⟨_,_,_,_,h⟩;exact h4 h))
       clear NO YES;subst h3;have h5:((nv:Int) != (nt:Int))=true:=by simp;omega
       go_enter func137,ntmps137
       go_wp2_with fail;refine CA.mono ?_;rintro e w1 ⟨rfl,b1⟩;go_wp2
       go_ret
       exact ⟨by rw [E.out];rfl,b1⟩
     ·have E:=Hh (NO (by rintro ⟨_,_,_,h,_⟩;exact h3 h))
      clear NO YES;have h5:((nt:Int) != (n:Int))=true:=by simp;omega
      go_enter func137,ntmps137
      go_wp2_with fail;refine CA.mono ?_;rintro e w1 ⟨rfl,b1⟩;go_wp2
      go_ret
      exact ⟨by rw [E.out];rfl,b1⟩
variable {α:Type} {E T:TypeId} {o:Oper} {a:Act} {w w':World} {Q:Exit->Act->World->Prop} {z:Value}
theorem bX {K:Kind α} {ops:Array Oper} {rest:List Oper} (ht:P.underlying T=some (.slice E))
 (hi:(P.info? E).map (fun i=>(i.zero,i.size,i.bytes))=some (some z,K.n,bytes)) (hz:z.cells.size=K.n) (hby:bytes<=64) (hgd:o.guard=none) (s x:Operand)
 (ho:o.op = .call { callee:=.builtin .append,args:=#[s,x],argTypes:=#[T,T] }) (B:Nat) (v:Value) (l:List α) (hs:a.eval s=v) (hown:Ow K w B E v l)
 (ad:Addr) (c:α) (hx:a.eval x = .slice (some ad) 1 1) (hc:∀ j u,(K.enc c)[j]? = some u->w.cell? (ad.add j)=some u) (hlen:l.length < 2199023255552) (hB:B<=w.heap.size)
 (h:∀ v' w',Ow K w' B E v' (l ++ [c])->w.grownBy w' v.ownBlock->(v'.ownBlock=v.ownBlock\/∃ g,v'.ownBlock=some g/\w.heap.size<=g)->wpList P ops Q rest (a.put o.dst v') w'):wpList P ops Q (o :: rest) a w:=by
 obtain ⟨i0,hi0,hz0,hz1,hz2⟩:=eE hi;have hb:(l.length+1) * bytes<=140737488355328:=cG (go (show l.length+1<=2199023255552 by omega) hby) (by omega);refine wpList_append_own_at _ hgd s x T ho B E i0 z K.n bytes ht hi0 hz0 hz1 hz2 hz K.pos v l.length (K.flat l) hs hown ad 1 1 (K.enc c) hx (by rw [K.len,Nat.one_mul]) hc (K.one c) (by unfold maxLen;omega) hb hB ?_
 intro v' w' h2 h3 _ h5
 exact h v' w' (Rw.Ow.push h2) h3 (h5.imp id fun e=>⟨_,e,ac _⟩)
theorem bT {K:Kind α} {KK:Act->World->Prop} (ht:P.underlying T=some (.slice E))
 (hi:(P.info? E).map (fun i=>(i.zero,i.size,i.bytes))=some (some z,K.n,bytes)) (hz:z.cells.size=K.n) (hby:bytes<=64) (s x:Operand)
 (ho:o.op = .call { callee:=.builtin .append,args:=#[s,x],argTypes:=#[T,T] }) (B:Nat) (v:Value) (l:List α) (hs:a.eval s=v) (hown:Ow K w B E v l)
 (ad:Addr) (c:α) (hx:a.eval x = .slice (some ad) 1 1) (hc:∀ j u,(K.enc c)[j]? = some u->w.cell? (ad.add j)=some u) (hlen:l.length < 2199023255552) (hB:B<=w.heap.size)
 (h:∀ v' w',Ow K w' B E v' (l ++ [c])->w.grownBy w' v.ownBlock->(v'.ownBlock=v.ownBlock\/∃ g,v'.ownBlock=some g/\w.heap.size<=g)->KK (a.put o.dst v') w'):o.wp P a w KK Q:=by
 obtain ⟨i0,hi0,hz0,hz1,hz2⟩:=eE hi;have hb:(l.length+1) * bytes<=140737488355328:=cG (go (show l.length+1<=2199023255552 by omega) hby) (by omega);obtain ⟨v',w',hr,h2,h3,_,h5⟩:=run_append_own_at (P:=P) w B T o.type E i0 z K.n bytes ht hi0 hz0 hz1 hz2 hz K.pos v l.length (K.flat l) hown ad 1 1 (K.enc c) (by rw [K.len,Nat.one_mul]) hc (K.one c) (by unfold maxLen;omega) hb hB;unfold Oper.wp execOp;simp only [ho,resolve,invoke,builtin,Sem.run_bind,Sem.run_pure,Result.andThen_ok,List.map_toArray,ip,List.map_nil,hs,hx,hr];exact h v' w' (Rw.Ow.push h2) h3 (h5.imp id fun e=>⟨_,e,ac _⟩)
def SAp (w:World) (s:Nat) (x:aP×Int) (q:Option Nat):Prop:=∃ F,St w s F x.1 x.2/\∀ k,F k->q≠some k
def RAp (w:World) (r:Nat) (x:aP×Int) (q:Option Nat):Prop:=Rs w r (fun k=>q=some k) x.1 x.2
structure Good (Ap:World->Nat->aP×Int->Option Nat->Prop):Prop where
 below:∀ {w w' s x q},Ap w s x q->Below w.heap.size w w'->Ap w' s x q
 grow:∀ {w w' s x q q'},Ap w s x q->w.grownBy w' q->(q'=q\/∃ g,q'=some g/\w.heap.size<=g)->(∀ g,q'=some g->g < w'.heap.size)->Ap w' s x q'
variable {q:Option Nat}
theorem aQ (h:w.grownBy w' q):Only (fun k=>q=some k) w w':=⟨h.os,h.tape,h.output,h.size,fun k hk hn=>h.block k hk fun e=>hn e.symm⟩
theorem mq:Good SAp where
 below:=fun ⟨F,h,d⟩ b=>⟨F,h.below b,d⟩
 grow:=fun ⟨F,h,d⟩ g hq _=>⟨F,h.only (G:=fun k=>_=some k) (fun k hk e=>d k hk e) (aQ g),fun k hk e=>by
  rcases hq with rfl | ⟨j,rfl,hj⟩
  ·exact d k hk e
  ·injection e with e
   have:=h.low k hk
   omega⟩
variable {F G:Nat->Prop}
theorem eD {A:aP} {d:Int} (h:Rs w r F A d) (hg:∀ k,k < w.heap.size->G k->F k):Rs w r G A d:=by
 obtain ⟨v,L,h,e⟩:=h;refine ⟨v,L,⟨h.row,fun g=>h.off (hg r (bm h.row) g),h.list.mono fun k hk g=>?_,h.ok⟩,e⟩
 rcases g with g | g
 ·exact .inl (hg k hk g)
 ·exact .inr g
variable {x:aP×Int}
theorem SAp.has (h:SAp w s x q):Has w s x:=by obtain ⟨F,h,_⟩:=h;exact ⟨F,h⟩
theorem RAp.hrf (h:RAp w s x q):US w s x:=eD h nofun
theorem LU (h:St w' s F x.1 x.2) (lo:∀ k,F k->w.heap.size<=k) (hq:∀ k,q=some k->k < w.heap.size):SAp w' s x q :=
 ⟨F,h,fun k hk e=>by have:=lo k hk;have:=hq k e;omega⟩
section
variable {Ap:World->Nat->aP×Int->Option Nat->Prop} {E:TypeId} {w wr w1 w2:World} {S:bO} {k:Nat} {o o':Value} {ps:List Nat} {g:Nat}
structure PI (Ap:World->Nat->aP×Int->Option Nat->Prop) (E:TypeId) (w:World) (S:bO) (k:Nat) (o:Value) (ps:List Nat) (wr:World):Prop where
 own:Ow KN wr w.heap.size E o ps
 len:ps.length=k
 each:∀ i,i < k->Ap wr (ps.getD i 0) (sat S i) o.ownBlock
 aG:Below w.heap.size w wr
theorem PI.start (w:World) (hb:Below w.heap.size w wr):PI Ap E w S 0 (.slice none 0 0) [] wr:=⟨Rw.Ow.nil _ _ _,rfl,fun i hi=>by omega,hb⟩
theorem PI.made (hb:Below w.heap.size w wr):PI Ap E w S 0 (.slice (some ⟨wr.heap.size,0,none⟩) 0 0) [] (wr.alloc (.cells #[] E)):=⟨Rw.Ow.made _ _ _ hb.size,rfl,fun i hi=>by omega,hb.alloc hb.size _⟩
theorem PI.below (G:Good Ap) (h:PI Ap E w S k o ps wr) (b:Below wr.heap.size wr w1):PI Ap E w S k o ps w1:=⟨h.own.keep b,h.len,fun i hi=>G.below (h.each i hi) b,h.aG.trans (b.mono h.aG.size)⟩
theorem PI.lt (h:PI Ap E w S k o ps wr):∀ k,o.ownBlock=some k->k < wr.heap.size:=fun k e=>(ci h.own k e).2
theorem PI.push (G:Good Ap) (h:PI Ap E w S k o ps wr) (own:Ow KN w1 w.heap.size E o' (ps ++ [g])) (gr:wr.grownBy w1 o.ownBlock) (hq:o'.ownBlock=o.ownBlock\/∃ g,o'.ownBlock=some g/\wr.heap.size<=g) (hg:Ap wr g (sat S k) o.ownBlock):PI Ap E w S (k+1) o' (ps ++ [g]) w1:=by
 have hl:∀ j,o'.ownBlock=some j->j < w1.heap.size:=fun j e=>(ci own j e).2;refine ⟨own,by rw [cI,h.len];rfl,fun i hi=>?_,h.aG.grown gr h.aG.size fun j e=>(ci h.own j e).1⟩
 by_cases e:i=k
 ·subst e
  have:(ps ++ [g]).getD i 0=g:=by rw [af,fk (by rw [h.len];exact ac _),h.len];simp
  rw [this];exact G.grow hg gr hq hl
 ·have:(ps ++ [g]).getD i 0=ps.getD i 0:=by rw [af,fS (by rw [h.len];omega),af]
  rw [this];exact G.grow (h.each i (by omega)) gr hq hl
theorem PI.congr {S':bO} (h:PI Ap E w S k o ps wr) (e:∀ i,i < k->sat S i=sat S' i):PI Ap E w S' k o ps wr:=⟨h.own,h.len,fun i hi=>by rw [← e i hi];exact h.each i hi,h.aG⟩
end
variable {wr:World} {S:bO} {o:Value} {ps:List Nat}
theorem PI.stl (h:PI SAp E w S S.length o ps wr):Bg wr o S:=⟨ps,h.own.rd,h.len,fun i hi=>(h.each i hi).has⟩
theorem PI.ac2 (h:PI RAp E w S S.length o ps wr):Rfl wr o S:=⟨ps,h.own.rd,h.len,fun i hi=>(h.each i hi).hrf⟩
theorem yY:(prog.info? 72).map (fun i=>(i.zero,i.size,i.bytes))=some (some (.pointer none),1,8):=by kernel_rfl
theorem Sk:(prog.info? 51).map (fun i=>(i.zero,i.size,i.bytes))=some (some (.pointer none),1,8):=by kernel_rfl
attribute [local irreducible] Sd.aW wpQuiet
def Aw (S:bO) (T:LL) (V:List Bool) (P:List S2) (k:Nat):Hr:=fun n=>if 1<=n/\n < k/\vX S T V P n=true then some (DX S T V P n) else none
section
variable {S:bO} {T:LL} {V:List Bool} {P:List S2}
theorem Db:Aw S T V P 1=fun _=>none:=funext fun n=>by unfold Aw;rw [aq (by omega)]
theorem Kt (h1:1<=k) (h:vX S T V P k=true):hput (Aw S T V P k) k (DX S T V P k)=Aw S T V P (k+1):=funext fun n=>by
 unfold hput Aw
 by_cases e:n=k
 ·subst e
  rw [aw rfl,aw ⟨by omega,by omega,h⟩]
 ·rw [aq e]
  by_cases g:1<=n/\n < (k:Int)/\vX S T V P n=true
  ·rw [aw g,aw ⟨g.1,by omega,g.2.2⟩]
  ·rw [aq g,aq fun q=>g ⟨q.1,by omega,q.2.2⟩]
theorem VR (h:vX S T V P k=false):Aw S T V P k=Aw S T V P (k+1):=funext fun n=>by
 unfold Aw
 by_cases g:1<=n/\n < (k:Int)/\vX S T V P n=true
 ·rw [aw g,aw ⟨g.1,by omega,g.2.2⟩]
 ·rw [aq g,aq fun q=>by
   by_cases e:n=k
   ·subst e;rw [h] at q;cases q.2.2
   ·exact g ⟨q.1,by omega,q.2.2⟩]
theorem KU:Aw S T V P 17=hr S T V P:=funext fun n=>by
 unfold Aw hr
 by_cases g:1<=n/\n < ((17:Nat):Int)/\vX S T V P n=true
 ·rw [aw g,aw ⟨g.1,by omega,g.2.2⟩]
 ·rw [aq g,aq fun q=>g ⟨q.1,by omega,q.2.2⟩]
end
structure H1 (w:World) (b k:Nat) (h:Hr) (wr:World):Prop where
 mp:∃ N,Iq wr b N h/\N<=k
 lo:w.heap.size<=b
 aG:Below w.heap.size w wr
theorem H1.below {w wr wr':World} {b k:Nat} {h:Hr} (H:H1 w b k h wr) (hb:Below wr.heap.size wr wr'):H1 w b k h wr':=by
 obtain ⟨⟨N,m,hN⟩,lo,aG⟩:=H;exact ⟨⟨N,m.below hb,hN⟩,lo,aG.trans (hb.mono aG.size)⟩
def mF (S:bO) (T:LL) (V:List Bool) (P:List S2):bO:=if gM S T V=0 then wh S T V (hr S T V P) else []
def dW (w:World) (E:Int) (S':bO) (e:Ending) (w':World):Prop:=∃ v,e = .returned (.tuple #[v,.int .i64 E])/\Bg w' v S'/\Below w.heap.size w w'
theorem YR (w:World):Bg w (.slice none 0 0) []:=⟨[],Rd.nil w,rfl,fun i hi=>by cases hi⟩
theorem l7 {vs vt vl vp:Value} {T:LL} {V:List Bool} {P:List S2} (HS:Bg w vs S) (HT:jK w vt T) (HV:Rd KB w vl V) (RP:Rd K2 w vp P) (hg:Glob w) (hd:∀ i,i < S.length->0<=(sat S i).2/\(sat S i).2 < 900000) :
 Calls prog 115 #[vs,vt,vl,vp] w (dW w (gM S T V) (mF S T V P)):=by
 have FA:Hid (Calls prog 137 #[vs,vt,vl] w fun e w'=>e = .returned (.int .i64 (gM S T V))/\Below w.heap.size w w'):=Hh (by
  obtain ⟨ps,h1,h2,_⟩:=HS;have:=QN w vs vt vl (ps.map some) T V (rd_some h1) HT HV;have e:fE (ps.map some) T V=gM S T V:=by
   unfold fE gM;rw [Yk,cm,h2];simp only [true_and]
  rw [e] at this
  exact this)
 by_cases hE:gM S T V=0
 ·have hcond:1<=S.length/\S.length<=32/\T.length=S.length/\V.length=S.length/\tE T=0:=by
   unfold gM at hE
   split at hE
   ·rename_i h
    exact ⟨h.1,h.2.1,h.2.2.1,h.2.2.2,hE⟩
   ·omega
  have NS:Hid (Ns w vs vt vl S T V):=Hh ⟨HS,HT,HV,hcond.2.2.1,hcond.2.2.2.1,hcond.2.2.2.2⟩;have RR:=Hh RP;have GG:=Hh hg;have DD:=Hh hd;have EL:Hid (mF S T V P=wh S T V (hr S T V P)):=Hh (aw hE);rw [hE] at FA;rw [hE,EL.out];have HR:Hid (∀ s,Calls prog 138 #[vs,vt,vl,vp,.int .i64 s] w (rF w (DX S T V P s) (vX S T V P s))):=Hh (fun s=>lI NS RP s);have HE:=Hh (fun W b s=>lI (NS.below (w':=W) b) (RP.below b) s);obtain ⟨sa,cs,rfl,hms⟩:=HS.slice;clear HS HT HV RP hg hd hE HR;generalize hn:S.length=n at *;have HN:=Hh hn;clear hn;have hmm:=@run_makeMap prog
  go_enter func115,ntmps115
  go_wp2_with fail;refine FA.mono ?_;rintro e w1 ⟨rfl,b1⟩;have M0:Hid (H1 w w1.heap.size 0 (Aw S T V P 1) (w1.alloc (.map #[] 0))):=Hh ⟨⟨0,by rw [Db];exact Bw w1,ac _⟩,b1.size,b1.alloc b1.size _⟩;clear b1 FA;go_wp2;clear hmm;generalize (w1.alloc (.map #[] 0))=W0 at *;generalize w1.heap.size=b at *
  go_loopw [12] (fun i wr=>∃ k:Nat,1<=k/\k<=17/\i = .int .i64 k/\Hid (H1 w b k (Aw S T V P k) wr)) (fun i _=>17 - (intOf i).toNat)
  case atStart=>exact ⟨1,by omega,by omega,rfl,⟨by obtain ⟨N,m,h⟩:=M0.out.mp;exact ⟨N,m,by omega⟩,M0.out.lo,M0.out.aG⟩⟩
  case round =>
   obtain ⟨k,hk1,hk,rfl,I⟩:=hrel;clear M0
   by_cases hlt:k < 17
   ·have HK:=Hh (HE wr I.aG (k:Int))
    have YY:=Hh (fun h=>Kt (S:=S) (T:=T) (V:=V) (P:=P) (k:=k) hk1 h);have NN:=Hh (fun h=>VR (S:=S) (T:=T) (V:=V) (P:=P) (k:=k) h);have WK:=Hh (qJ (n:=(k:Int)) ⟨by omega,by omega⟩);unfold rF at HK;go_wp2_with fail;refine HK.mono ?_;rintro e w2 ⟨rfl,b2⟩;have I2:=Hh (I.below b2);clear b2 I HK;generalize DX S T V P (k:Int)=y at *
    cases hh:vX S T V P (k:Int) with
    | false =>
      have EQ:=Hh (NN hh);have I3:Hid (H1 w b (k+1) (Aw S T V P (k+1)) w2):=Hh ⟨by obtain ⟨N,m,h⟩:=I2.out.mp;exact ⟨N,by rw [← EQ.out];exact m,by omega⟩,I2.out.lo,I2.out.aG⟩;clear YY NN I2 EQ hh;go_wp2
      go_roundw
      case rel=>exact ⟨k+1,by omega,by omega,by go_num,I3⟩
      case measure=>simp [intOf];omega
    | true =>
      have EQ:=Hh (YY hh);obtain ⟨N,m,hN⟩:=I2.mp;have M2:=Hh m;have LO:=Hh I2.lo;have BE:=Hh I2.aG;clear YY NN hh m I2
      go_wp2_with (first
       | (at_mapUpdate;refine Dj rfl _ _ _ rfl rfl M2 (by unfold maxLen;omega) (k:Int) y rfl rfl WK.out ?_;intro w4 m4 g4)
       | fail)
      have I3:Hid (H1 w b (k+1) (Aw S T V P (k+1)) w4):=Hh ⟨⟨N+1,by rw [← EQ.out];exact m4,by omega⟩,LO.out,BE.out.grown g4 BE.out.size (fun j e=>by injection e with e;have:=LO.out;omega)⟩;clear m4 g4 M2 EQ BE LO;go_wp2
      go_roundw
      case rel=>exact ⟨k+1,by omega,by omega,by go_num,I3⟩
      case measure=>simp [intOf];omega
   ·have e17:k=17:=by omega
    rw [e17,KU] at I;clear e17;have HM:Hid (∀ W,Below wr.heap.size wr W->qE W (.map (some b)) (hr S T V P)):=Hh (fun W hb=>by obtain ⟨⟨N,m,_⟩,_,_⟩:=I;exact ⟨b,N,rfl,m.below hb⟩);have BW:=Hh I.aG;have OH:=Hh (xI S T V P);clear I HE;generalize hr S T V P=h at *;have AT:=Hh (fun i hi=>ny S T V h (i:=i) hi);have RL:=Hh (gZ S T V h);generalize wh S T V h=S' at *;clear EL;go_wp2;clear hk1 hk hlt;generalize (k:Int)=kk at *
    rename World=>wA
    go_loopw [45,15] (fun i o wr2=>∃ (k:Nat) (ps:List Nat),k<=n/\i = .int .i64 k/\Hid (PI SAp 72 wA S' k o ps wr2)) (fun i _ _=>n - (intOf i).toNat)
    case atStart=>exact ⟨0,[],bt _,rfl,PI.start wA (aa _ _)⟩
    case round =>
     obtain ⟨k,ps,hk,rfl,I⟩:=hrel;have BI:=Hh (BW.trans (I.aG.mono BW.size));obtain ⟨av,cv,ev,_⟩:=I.own.slice;have OWN:=Hh I.own;generalize ps.length=Lp at ev;subst ev
     by_cases hlt:k < n
     ·have N1:=Hh (NS.below BI)
      obtain ⟨b1,o1,c1,s,e1,cS,hS⟩:=N1.st.one (k:=k) (by have:=HN.out;omega);rw [HN.out] at e1;injection e1 with e1 _ e2;subst e1 e2;obtain ⟨b2,o2,c2,at',ct,e2,cT,_,_⟩:=N1.tb.one (k:=k) (by omega);have RT:=Hh (N1.tb.rd (k:=k) (by omega) e2 cT);rw [hcond.2.2.1] at e2;subst e2;obtain ⟨a3,c3,e3,_,_,h3⟩:=N1.lv;rw [hcond.2.2.2.1] at e3;subst e3;obtain ⟨b3,o3,rfl,A3⟩:=h3 (by omega);have cV:=Mf A3 (i:=k) (by omega);rw [show V.getD k false=bU V k from rfl] at cV;have EA:=Hh (AT k (by have:=HN.out;omega));have OKT:=Hh (mD N1.ok (k:=k) (by omega));have ML:=Hh (jg (iQ (pN N1.ok) k (by omega)));have HS2:=Hh hS;clear hS h3 A3 N1;unfold ptr at cS
      cases hv:bU V k with
      | true =>
        rw [hv] at cV;have AP:=Hh (tO HS2 (GG.below BI) (DD k (by omega)) RT.out (fun y hy=>(OKT.out y hy).1) (by have:=ML.out;omega) (HM.out wr I.out.aG) OH.out);rw [hv,aw rfl] at EA;unfold yA at AP;clear HS2;generalize (bQ T k).length=lk at *;go_wp2_with fail;refine AP.mono ?_;rintro e w5 ⟨g,F5,rfl,st5,lo5,b5⟩;have LN:=Hh I.len;have BL:=b5.alloc b5.size (.cells #[.pointer (some ⟨g,0,none⟩)] 72);have I5:=Hh (I.below mq BL);have G5:Hid (SAp (w5.alloc (.cells #[.pointer (some ⟨g,0,none⟩)] 72)) g (sat S' k) (Value.slice av Lp cv).ownBlock):=Hh (mq.below (by rw [EA.out];exact LU st5 lo5 I.out.lt) ((aa w5.heap.size w5).alloc (ac _) _));clear st5 lo5 b5 I OWN AP cS cT cV BL
        (try unfold ptr)
        go_wp2_with (at_builtin;refine bX (K:=KN) underlying158 yY rfl (by omega) rfl _ _ rfl wA.heap.size _ _ rfl I5.out.own _ g rfl ?d1 ?d2 ?d3 ?_)
        case d1 =>
         intro j u hu
         match j,hu with
         | 0,hu=>simp [KN] at hu;subst hu;unfold ptr;go_simp
         | j+1,hu=>simp [KN] at hu
        case d2=>rw [LN.out];omega
        case d3=>have:=I5.aG.size;exact this
        intro v' w6 o6 g6 h6
        have NEW:=Hh (I5.push mq o6 g6 (by simpa using h6) G5.out);clear o6 g6 h6 I5 G5 LN;obtain ⟨av',cv',ev',_⟩:=NEW.own.slice;generalize (ps ++ [g]).length=Lp' at ev';subst ev';go_wp2
        go_roundw
        case rel=>exact ⟨k+1,ps ++ [g],by omega,by go_num,NEW⟩
        case measure=>simp [intOf];omega
      | false =>
        rw [hv] at cV;rw [hv,aq eA] at EA;have AP:=Hh (qT HS2);unfold jw at AP;clear HS2;generalize (bQ T k).length=lk at *;go_wp2_with fail;refine AP.mono ?_;rintro e w5 ⟨g,F5,rfl,st5,lo5,b5⟩;have LN:=Hh I.len;have BL:=b5.alloc b5.size (.cells #[.pointer (some ⟨g,0,none⟩)] 72);have I5:=Hh (I.below mq BL);have G5:Hid (SAp (w5.alloc (.cells #[.pointer (some ⟨g,0,none⟩)] 72)) g (sat S' k) (Value.slice av Lp cv).ownBlock):=Hh (mq.below (by rw [EA.out];exact LU st5 lo5 I.out.lt) ((aa w5.heap.size w5).alloc (ac _) _));clear st5 lo5 b5 I OWN AP cS cT cV BL
        (try unfold ptr)
        go_wp2_with (at_builtin;refine bX (K:=KN) underlying158 yY rfl (by omega) rfl _ _ rfl wA.heap.size _ _ rfl I5.out.own _ g rfl ?d1 ?d2 ?d3 ?_)
        case d1 =>
         intro j u hu
         match j,hu with
         | 0,hu=>simp [KN] at hu;subst hu;unfold ptr;go_simp
         | j+1,hu=>simp [KN] at hu
        case d2=>rw [LN.out];omega
        case d3=>have:=I5.aG.size;exact this
        intro v' w6 o6 g6 h6
        have NEW:=Hh (I5.push mq o6 g6 (by simpa using h6) G5.out);clear o6 g6 h6 I5 G5 LN;obtain ⟨av',cv',ev',_⟩:=NEW.own.slice;generalize (ps ++ [g]).length=Lp' at ev';subst ev';go_wp2
        go_roundw
        case rel=>exact ⟨k+1,ps ++ [g],by omega,by go_num,NEW⟩
        case measure=>simp [intOf];omega
     ·obtain rfl:k=n:=by omega
      have RES:Hid (dW w 0 S' (.returned (.tuple #[.slice av Lp cv,.int .i64 0])) wr):=Hh ⟨_,rfl,PI.stl (S:=S') (by rw [RL.out,HN.out];exact I.out),BI.out⟩;clear I OWN;go_wp2
      go_ret2
      exact RES
 ·have EL:Hid (mF S T V P = []):=Hh (aq hE)
  rw [EL.out];have HEE:=Hh hE;have hne:(gM S T V != 0)=true:=by simpa using hE
  obtain ⟨sa,cs,rfl,hms⟩:=HS.slice;clear HS HT HV RP hg hd hE;generalize gM S T V=E at *
  go_enter func115,ntmps115
  go_wp2_with fail;refine FA.mono ?_;rintro e w1 ⟨rfl,b1⟩;have RES:Hid (dW w E [] (.returned (.tuple #[.slice none 0 0,.int .i64 E])) w1):=Hh ⟨_,rfl,YR w1,b1⟩;clear b1 FA;go_wp2
  go_ret2
  exact RES
end Pa
namespace Pa
open Go.RowKit
open Ro (iH jG)
open Ck (sN)
open Ua (bit nS te tp tb upd turn par)
theorem Mm {h:Hr} (hh:QX h) {t:List E5} {V:Int->Int->Bool} (hV:∀ n,V n 0=true->fD t n 0 = []) {A:aP} (hA:dX A):dX (dN h t V A):=by
 refine ⟨(Fs.rD (κ:=key) (κ':=key) (f:=mG h t V) (fun _=>rfl)).2 hA.yR,fun e he=>?_,fun e he=>?_,fun e he=>?_⟩
 all_goals
  obtain ⟨c,hc,rfl⟩:=dC.1 he
 ·exact hA.nm c hc
 ·obtain ⟨g1,g2,g3,g4,g5⟩:=hA.good c hc
  refine ⟨g1,g2,by rw [oF];exact g3,by rw [oF];exact g4,?_⟩;rw [oF];have:=Ec (h:=h) (t:=t) (V:=V) c (k:=0) (by omega);rw [show ((0:Nat):Int)=0 from rfl] at this;rw [this]
  split
  ·rename_i hv
   rw [hV _ hv,Hw];exact g5
  ·exact g5
 ·intro r hr
  obtain ⟨k,hk⟩:=dq hr;rw [Fz] at hk
  rcases e:c.2.2[k]? with _ | v
  ·rw [e] at hk;cases hk
  ·rw [e] at hk
   simp only [eQ,eJ] at hk;have hv:=hA.ok c hc v (cL e);rw [← hk]
   split
   ·exact Yx hh _ hv
   ·exact hv
section
end
section
end
end Pa
namespace Re
open Go.RowKit
def KI:Rw.Kind Int:=Rw.int .i64
theorem vN:(prog.info? 3).map (fun i=>(i.zero,i.size,i.bytes))=some (some (.int .i64 0),1,8):=by kernel_rfl
theorem iK (a:Addr):a.add 0=a:=by cases a;simp [Addr.add]
def gq (l:List Int) (i:Nat):Int:=l.getD i 0
variable {w:World} {b off i k:Nat} {l l':List Int}
theorem pE (h:At KI w b off l) (i:Nat) (hi:i < l.length):w.cell? ⟨b,off+i,none⟩=some (.int .i64 (gq l i)):=by
 have c:=h i hi 0 _ rfl;simp only [KI,Rw.int,Nat.mul_one,Nat.add_zero] at c;exact c
theorem pJ (h:i < l.length):l[i]? = some (gq l i):=by
 unfold gq;rw [af,am h]
 rfl
theorem sZ (hl:l.length=l'.length) (h:∀ i,i < l.length->gq l i=gq l' i):l=l':=by
 refine List.ext_getElem hl fun i h1 h2=>?_;have:=h i h1
 simpa [gq,List.getD,List.getElem?_eq_getElem h1,List.getElem?_eq_getElem h2] using this
def zP (x:Int):Prop:=0<=x/\x<=5
instance (x:Int):Decidable (zP x):=by unfold zP;infer_instance
def gH (l:List Int):Prop:=(0 < l.length/\l.length<=64)/\∀ i,i < l.length->zP (gq l i)
instance (l:List Int):Decidable (gH l):=by unfold gH;infer_instance
def seqB (l:List Int):Bool:=decide (gH l)
theorem V7 (hk:k < l.length) (h:¬ zP (gq l k)):false=seqB l:=(ai (fun g=>h (g.2 k hk))).symm
theorem Ih (h:¬ (0 < l.length/\l.length<=64)):false=seqB l:=(ai (fun g=>h g.1)).symm
theorem Lm (h:0 < l.length/\l.length<=64) (g:∀ i,i < l.length->zP (gq l i)):true=seqB l:=(bi ⟨h,g⟩).symm
def iC (x:Int):R4:=(x,0,0,0)
def bJ (l:List Int):List R4:=hdr 3 (l.length:Int) :: l.map iC
def fL (l:List Int):List R4:=if gH l then bJ l else []
def fP (l:List Int):Int:=if gH l then 3 else 0
def fN (l:List Int):Int:=if gH l then 0 else 1
def eX (l:List R4):List Int:=(l.drop 1).map (·.1)
def zV (p:Int) (l:List R4):Prop:=aL p l/\gH (eX l)/\p=3/\l=bJ (eX l)
instance (p:Int) (l:List R4):Decidable (zV p l):=by unfold zV;infer_instance
def sL (p:Int) (l:List R4):List Int:=if zV p l then eX l else []
def sN (p:Int) (l:List R4):Int:=if zV p l then 0 else 2
theorem H6 (l:List Int):(bJ l).length=l.length+1:=by simp [bJ]
theorem jD (l:List R4):(eX l).length=l.length - 1:=by simp [eX]
theorem y7 (l:List Int):eX (bJ l)=l:=by
 have e:(fun x=>(iC x).1)=(id:Int->Int):=rfl;simp only [eX,bJ,List.drop_succ_cons,List.drop_zero,List.map_map,Function.comp_def,e,List.map_id]
theorem A7 (h:gH l):aL 3 (bJ l):=by
 have hl:=H6 l;have:=h.1;refine ⟨by omega,by omega,by omega,by omega,?_⟩;have e:((bJ l).length:Int) - 1=(l.length:Int):=by omega
 rw [e]
 rfl
theorem Lb (h:gH l):zV 3 (bJ l):=⟨A7 h,by rw [y7];exact h,rfl,by rw [y7]⟩
theorem Vo (h:gH l):sL 3 (bJ l)=l/\sN 3 (bJ l)=0:=by
 unfold sL sN;rw [aw (Lb h),aw (Lb h),y7];exact ⟨rfl,rfl⟩
variable {x p t:Int}
theorem acv (h:zP x):bN (iC x):=by
 obtain ⟨a,b⟩:=h;unfold bN iC;simp only
 omega
theorem VZ (h:gH l):∀ x∈l,zP x:=fun x hx=>by
 obtain ⟨i,hi,e⟩:=ed hx;have g:=h.2 i hi;have e':gq l i=x:=by
  have:=pJ hi;rw [am hi,e] at this;exact (cP this).symm
 rw [e'] at g;exact g
theorem KX (h:gH l):cZ (bJ l):=by
 intro r hr
 rcases cj.1 hr with rfl | hr
 ·have:=h.1
  have hb:∀ n:Fin 65,bN (hdr 3 (n.val:Int)):=by unfold bN;decide +kernel
  have e:=hb ⟨l.length,by omega⟩
  simpa using e
 ·obtain ⟨x,hx,rfl⟩:=dC.1 hr
  exact acv (VZ h x hx)
def plain (r:R4):Prop:=r.2.1=0/\r.2.2.1=0/\r.2.2.2=0
instance (r:R4):Decidable (plain r):=by unfold plain;infer_instance
theorem Gv (h:i < l.length):rat (bJ l) (i+1)=iC (gq l i):=by
 unfold rat bJ;rw [af,az,cN,pJ h]
 rfl
theorem UO {l:List R4} (h:zV p l) (h1:1<=i) (hi:i < l.length):plain (rat l i):=by
 obtain ⟨j,rfl⟩:∃ j,i=j+1:=⟨i - 1,by omega⟩;have e:=Gv (l:=eX l) (i:=j) (by rw [jD];omega);rw [← h.2.2.2] at e;rw [e];exact ⟨rfl,rfl,rfl⟩
theorem Uw {l:List R4} (h:i+1 < l.length):gq (eX l) i=(rat l (i+1)).1:=by
 have e:(eX l)[i]? = some (rat l (i+1)).1:=by
  unfold eX rat;rw [cN,List.getElem?_drop,Nat.add_comm 1 i,af,am h]
  rfl
 unfold gq;rw [af,e]
 rfl
theorem Ql {l:List R4} (hg:aL 3 l) (h:∀ i,1<=i->i < l.length->plain (rat l i)):l=bJ (eX l):=by
 have hl:l.length=(bJ (eX l)).length:=by rw [H6,jD];have:=hg.2.2.1;omega
 have hat:∀ i,i < l.length->rat l i=rat (bJ (eX l)) i:=fun i hi=>by
  rcases i with _ | j
  ·rw [hg.2.2.2.2]
   have e:((eX l).length:Int)=(l.length:Int) - 1:=by rw [jD];have:=hg.2.2.1;omega
   rw [← e]
   rfl
  ·rw [Gv (by rw [jD];omega),Uw hi]
   obtain ⟨a,b,c⟩:=h (j+1) (by omega) hi;generalize rat l (j+1)=r at *;obtain ⟨r1,r2,r3,r4⟩:=r;simp only at a b c;subst a b c
   rfl
 refine List.ext_getElem hl fun i h1 h2=>?_;have:=hat i h1
 simpa [rat,List.getD,List.getElem?_eq_getElem h1,List.getElem?_eq_getElem h2] using this
theorem acS {l:List R4} (hg:aL 3 l) (h:∀ i,1<=i->i < l.length->plain (rat l i)) (hs:gH (eX l)):zV 3 l:=⟨hg,hs,rfl,Ql hg h⟩
theorem Zq {l:List R4} (h:¬ zV p l):sL p l = []/\sN p l=2:=⟨aq h,aq h⟩
theorem AJ {l:List R4} (h:zV p l):sL p l=eX l/\sN p l=0:=⟨aw h,aw h⟩
theorem Ib {l:List R4} (h:k+1 < l.length):(eX l).take k ++ [(rat l (k+1)).1]=(eX l).take (k+1):=by
 rw [dr,pJ (by rw [jD];omega),Uw h]
 rfl
def part (h:R4) (l:List Int) (k:Nat):List R4:=h :: ((l.take k).map iC ++ List.replicate (l.length - k) z4)
theorem xX (h:R4) (l:List Int) (k:Nat) (hk:k<=l.length):(part h l k).length=l.length+1:=by
 simp [part,List.length_take]
 omega
theorem qb (h:R4) (l:List Int):part h l 0=h :: List.replicate l.length z4:=by simp [part]
theorem pG (hk:k < l.length):l.take (k+1)=l.take k ++ [gq l k]:=by
 rw [dr,pJ hk]
 rfl
theorem xL (h:R4) (hk:k < l.length):(part h l k).set (1+k) (iC (gq l k))=part h l (k+1):=by
 have e1:(l.take k).length=k:=by rw [cH];omega
 unfold part;rw [Nat.add_comm 1 k,List.set_cons_succ,gC _ _ (by rw [cm,e1];omega),cm,e1,Nat.sub_self,pG hk];rw [show l.length - k=(l.length - (k+1))+1 by omega,ii]
 simp
theorem zG (h:R4) (l:List Int):part h l l.length=h :: l.map iC:=by
 unfold part;rw [cU,Nat.sub_self]
 simp
theorem UH (h:R4) (hk:k < l.length):(h :: (l.take k).map iC) ++ [iC (gq l k)]=h :: (l.take (k+1)).map iC:=by
 rw [pG hk]
 simp
def I8 (l:List Int) (t:Int):Prop:=gH l/\0<=t/\t < l.length
instance (l:List Int) (t:Int):Decidable (I8 l t):=by unfold I8;infer_instance
def nR (l:List Int) (t:Int):Int:=if I8 l t then gq l t.toNat else 0
def nT (l:List Int) (t:Int):Int:=if I8 l t then (if t+1=l.length then 0 else t+1) else 0
def nE (l:List Int) (t:Int):Int:=if I8 l t then 0 else 1
def lJ (w:World) (l:List Int) (t:Int) (e:Ending) (w':World):Prop:=e = .returned (.tuple #[.int .i64 (nR l t),.int .i64 (nT l t),.int .i64 (nE l t)])/\Below w.heap.size w w'
theorem Lh (h:¬ I8 l t) (w':World) (hb:Below w.heap.size w w'):lJ w l t (.returned (.tuple #[.int .i64 0,.int .i64 0,.int .i64 1])) w':=⟨by unfold nR nT nE;rw [aq h,aq h,aq h],hb⟩
theorem NF (h:I8 l k) (h1:k+1=l.length) (w':World) (hb:Below w.heap.size w w'):lJ w l k (.returned (.tuple #[.int .i64 (gq l k),.int .i64 0,.int .i64 0])) w':=⟨by unfold nR nT nE;rw [aw h,aw h,aw h,aw (by omega)];rfl,hb⟩
theorem QD (h:I8 l k) (h1:k+1≠l.length) (w':World) (hb:Below w.heap.size w w'):lJ w l k (.returned (.tuple #[.int .i64 (gq l k),.int .i64 ((k:Int)+1),.int .i64 0])) w':=⟨by unfold nR nT nE;rw [aw h,aw h,aw h,aq (by omega)];rfl,hb⟩
def kQ (w:World) (p:Int) (l:List R4) (e:Ending) (w':World):Prop:=∃ u,e = .returned (.tuple #[u,.int .i64 (sN p l)])/\Rd KI w' u (sL p l)/\Below w.heap.size w w'
def gJ (w:World) (l:List Int) (e:Ending) (w':World):Prop:=∃ u,e = .returned (.tuple #[Fl.file (fP l) u,.int .i64 (fN l)])/\Rd K4 w' u (fL l)/\Below w.heap.size w w'
theorem wW (h:¬ gH l) (w':World) (hb:Below w.heap.size w w'):gJ w l (.returned (.tuple #[Fl.file 0 (.slice none 0 0),.int .i64 1])) w' :=
 ⟨_,by unfold fP fN;rw [aq h,aq h],by unfold fL;rw [aq h];exact Rw.Rd.nil _,hb⟩
theorem rO (h:gH l) (u:Value) (w':World) (hr:Rd K4 w' u (bJ l)) (hb:Below w.heap.size w w'):gJ w l (.returned (.tuple #[Fl.file 3 u,.int .i64 0])) w' :=
 ⟨u,by unfold fP fN;rw [aw h,aw h],by unfold fL;rw [aw h];exact hr,hb⟩
theorem Fj {l:List R4} (h:¬ zV p l) (w':World) (hb:Below w.heap.size w w'):kQ w p l (.returned (.tuple #[.slice none 0 0,.int .i64 2])) w' :=
 ⟨_,by rw [(Zq h).2],by rw [(Zq h).1];exact Rw.Rd.nil _,hb⟩
theorem Cj {l:List R4} (h:zV p l) (u:Value) (w':World) (hr:Rd KI w' u (eX l)) (hb:Below w.heap.size w w'):kQ w p l (.returned (.tuple #[u,.int .i64 0])) w' :=
 ⟨u,by rw [(AJ h).2],by rw [(AJ h).1];exact hr,hb⟩
def oK (w:World) (p:Int) (l:List R4) (e:Ending) (w':World):Prop:=∃ u,e = .returned (.tuple #[u,.int .i64 (sN p l)])/\Ow KI w' w.heap.size 3 u (sL p l)/\Below w.heap.size w w'
theorem UU {l:List R4} (h:¬ zV p l) (w':World) (hb:Below w.heap.size w w'):oK w p l (.returned (.tuple #[.slice none 0 0,.int .i64 2])) w' :=
 ⟨_,by rw [(Zq h).2],by rw [(Zq h).1];exact Rw.Ow.nil _ _ _,hb⟩
theorem Zo {l:List R4} (h:zV p l) (u:Value) (w':World) (hr:Ow KI w' w.heap.size 3 u (eX l)) (hb:Below w.heap.size w w'):oK w p l (.returned (.tuple #[u,.int .i64 0])) w' :=
 ⟨u,by rw [(AJ h).2],by rw [(AJ h).1];exact hr,hb⟩
end Re
namespace Wt
structure A where
 r0:Int
 q0:Int
 r1:Int
 q1:Int
def new:A:=⟨1,0,2,0⟩
def t1 (a:A):A:=if a.r0≠1/\a.r1≠1/\((a.r0=2/\4<=a.q0)\/(a.r0=3/\8<=a.q0)) then { a with r0:=1 } else a
def t2 (a:A):A:=if a.r0≠1/\a.r1≠1/\((a.r1=2/\4<=a.q1)\/(a.r1=3/\9<=a.q1)) then { a with r1:=1 } else a
def tk (a:A):A:=t2 (t1 a)
def hdN (r:Int):Int:=if r=3 then 2 else r
def op (a:A):Int:=if a.r0=1 then 0 else if a.r1=1 then 1 else -1
def hd (a:A):A:=if a.r0=1 then ⟨1,0,hdN a.r1,0⟩ else if a.r1=1 then ⟨hdN a.r0,0,1,0⟩ else ⟨a.r0,a.q0+1,a.r1,a.q1+1⟩
def opn (a:A):Int:=op (tk a)
def jo (a:A):A:=hd (tk a)
def rl (a:A) (n:Int):Int:=if n=0 then a.r0 else if n=1 then a.r1 else 0
def pU (a:A) (n:Int):Int:=if n=0 then (if a.r0=4 then 10 else 0) else if n=1 then (if a.r1=4 then 10 else 0) else 1
def kG (a:A) (n:Int):A:=if n=0 then { a with r0:=4 } else if n=1 then { a with r1:=4 } else a
def rsE (a:A) (n:Int):Int:=if n=0 then (if a.r0=4 then 0 else 10) else if n=1 then (if a.r1=4 then 0 else 10) else 1
def kH (a:A) (n:Int):A:=if n=0 then (if a.r0=4 then { a with r0:=3,q0:=0 } else a) else if n=1 then (if a.r1=4 then { a with r1:=3,q1:=0 } else a) else a
structure Ok (a:A):Prop where
 b0:1<=a.r0/\a.r0<=4
 b1:1<=a.r1/\a.r1<=4
 one:¬ (a.r0=1/\a.r1=1)
 p0:0<=a.q0
 p1:0<=a.q1
theorem aaQ:Ok new:=⟨by decide,by decide,by decide,by decide,by decide⟩
section
variable {a:A} (h:Ok a)
include h
theorem Ok.t1:Ok (t1 a):=by
 obtain ⟨h1,h2,h3,h4,h5⟩:=h;unfold Wt.t1
 split
 ·rename_i g
  exact ⟨by simp,h2,fun q=>g.2.1 q.2,h4,h5⟩
 ·exact ⟨h1,h2,h3,h4,h5⟩
theorem Ok.t2:Ok (t2 a):=by
 obtain ⟨h1,h2,h3,h4,h5⟩:=h;unfold Wt.t2
 split
 ·rename_i g
  exact ⟨h1,by simp,fun q=>g.1 q.1,h4,h5⟩
 ·exact ⟨h1,h2,h3,h4,h5⟩
theorem Ok.tk:Ok (tk a):=h.t1.t2
theorem Ok.hd:Ok (hd a):=by
 obtain ⟨h1,h2,h3,h4,h5⟩:=h;unfold Wt.hd hdN
 split
 ·refine ⟨by simp,?_,?_,by simp,by simp⟩ <;> simp only <;> split <;> omega
 ·split
  ·refine ⟨?_,by simp,?_,by simp,by simp⟩ <;> simp only <;> split <;> omega
  ·exact ⟨h1,h2,h3,by simp only;omega,by simp only;omega⟩
theorem Ok.jo:Ok (jo a):=h.tk.hd
theorem Ok.cr (n:Int):Ok (kG a n):=by
 obtain ⟨h1,h2,h3,h4,h5⟩:=h;unfold kG
 split
 ·exact ⟨by simp,h2,by simp,h4,h5⟩
 ·split
  ·exact ⟨h1,by simp,by simp,h4,h5⟩
  ·exact ⟨h1,h2,h3,h4,h5⟩
theorem Ok.rs (n:Int):Ok (kH a n):=by
 obtain ⟨h1,h2,h3,h4,h5⟩:=h;unfold kH
 split
 ·split
  ·exact ⟨by simp,h2,by simp,by simp,h5⟩
  ·exact ⟨h1,h2,h3,h4,h5⟩
 ·split
  ·split
   ·exact ⟨h1,by simp,by simp,h4,by simp⟩
   ·exact ⟨h1,h2,h3,h4,h5⟩
  ·exact ⟨h1,h2,h3,h4,h5⟩
end
def d0 (a:A):Prop:=(a.r0=2/\4<=a.q0)\/(a.r0=3/\8<=a.q0)
def d1 (a:A):Prop:=(a.r1=2/\4<=a.q1)\/(a.r1=3/\9<=a.q1)
theorem NY (a:A):(opn a=0/\(a.r0=1\/(a.r0≠1/\a.r1≠1/\d0 a))/\(jo a).r0=1)\/(opn a=1/\a.r0≠1/\(a.r1=1\/(a.r1≠1/\¬ d0 a/\d1 a))/\(jo a).r1=1)\/(opn a = -1/\a.r0≠1/\a.r1≠1/\¬ d0 a/\¬ d1 a/\jo a=⟨a.r0,a.q0+1,a.r1,a.q1+1⟩):=by
 obtain ⟨r0,q0,r1,q1⟩:=a;unfold opn jo tk t1 t2 op hd d0 d1
 by_cases e0:r0=1
 ·exact .inl (by simp [e0])
 ·by_cases e1:r1=1
  ·exact .inr (.inl (by simp [e0,e1]))
  ·by_cases g0:(r0=2/\4<=q0)\/(r0=3/\8<=q0)
   ·exact .inl (by simp [e0,e1,g0])
   ·by_cases g1:(r1=2/\4<=q1)\/(r1=3/\9<=q1)
    ·exact .inr (.inl (by simp [e0,e1,g0,g1]))
    ·exact .inr (.inr (by simp [e0,e1,g0,g1]))
section
end
end Wt
namespace Cu
open Pa (mF hr Mm)
open Ro (jJ pQ MN)
open Re (gq sL sN gH eX zV)
def fB (A:aP) (n:Int):Bool:=(Fs.look key n A).isSome
def fP (A:aP) (n:Int):Int:=match Fs.look key n A with | none=>0 | some e=>e.2.1
def fR (A:aP) (n:Int):List R4:=match Fs.look key n A with | none=>[] | some e=>e.2.2
theorem F8 {A:aP} (h:dX A) (n:Int):cZ (fR A n):=by
 unfold fR
 split
 ·exact nofun
 ·rename_i e he
  exact (h.find he).2.2.1
def jA (A:aP):List Int:=sL (fP A 40) (fR A 40)
def pM (A:aP):Bool:=fB A 40 && decide (sN (fP A 40) (fR A 40)=0)
theorem Dl {A:aP} (h:pM A=true):gH (jA A):=by
 unfold pM at h;rw [ce,cM] at h;obtain ⟨_,h⟩:=h;unfold jA sL;unfold sN at h
 split
 ·rename_i g
  exact g.2.1
 ·rename_i g
  rw [aq g] at h
  omega
structure Cs where
 S:bO
 V:List Bool
 P:Wt.A
 pl:Nat
 Q:List S2
def Kv (S:bO) (n:Int):LL:=S.map fun x=>jJ (fP x.1 (32+n)) (fR x.1 (32+n))
theorem Cn (S:bO) (n:Int):(Kv S n).length=S.length:=cm _
theorem Vj (S:bO) (n:Int) {i:Nat} (hi:i < S.length):bQ (Kv S n) i=jJ (fP (sat S i).1 (32+n)) (fR (sat S i).1 (32+n)):=by
 unfold bQ Kv sat;rw [af,cN,am hi,cg,af,am hi]
 rfl
variable {S:bO} {n:Int} {t:List E5}
theorem Y9 (h:t∈Kv S n):t.length<=16/\∀ x∈t,fH x:=by
 obtain ⟨x,_,rfl⟩:=dC.1 h;have m:=MN (fP x.1 (32+n)) (fR x.1 (32+n));refine ⟨jg m,fun y hy=>?_⟩;obtain ⟨i,hi⟩:=dq hy;have hl:=(bs.1 hi).1;have:=(m i hl).1;rw [Ro.jG hl] at hi;injection hi with hi;rw [← hi];exact this
def kD (c:Cs) (l:List Int):Nat:=if l.length<=c.pl then 0 else c.pl
def pE (c:Cs) (l:List Int):Nat:=if kD c l+1=l.length then 0 else kD c l+1
def own (c:Cs):aP:=(sat c.S (Wt.opn c.P)).1
def rT (c:Cs):LL:=Kv c.S (gq (jA (own c)) (kD c (jA (own c))))
def rE (c:Cs):Int:=if Wt.opn c.P < 0 then 0 else if pM (own c)=true then gM c.S (rT c) c.V else 2
def rC (c:Cs):Cs :=
 if Wt.opn c.P < 0 then { c with P:=Wt.jo c.P,Q:=[] }
 else if pM (own c)=true then { S:=if gM c.S (rT c) c.V=0 then mF c.S (rT c) c.V c.Q else c.S,V:=c.V,P:=Wt.jo c.P,pl:=pE c (jA (own c)),Q:=[] }
 else { c with P:=Wt.jo c.P,Q:=[] }
structure Ac where
 k:Int
 n:Int
 f:Int
 r:Int
 v:R4
 s:Int
 m:Int
 t:Int
def no (c:Cs) (n:Int):Prop:=n < 0\/(c.S.length:Int)<=n
instance (c:Cs) (n:Int):Decidable (no c n):=by unfold no;infer_instance
def aX (x:Ac) (c:Cs):Int :=
 if x.k=1 then rE c
 else if x.k=3 then (if c.Q.length=32 then 11 else 0)
 else if x.k < 2\/6 < x.k\/no c x.n then 1
 else if x.k=2 then (if bU c.V x.n=true then (if sB (sat c.S x.n).1 x.f x.r=true then 0 else 3) else 10)
 else if x.k=4 then (if bU c.V x.n=true then 0 else 10)
 else if x.k=5 then (if bU c.V x.n=true then 10 else 0)
 else if x.t < -2000\/2000 < x.t then 1 else 0
def jT (S:bO) (n:Int) (x:aP×Int):bO:=S.set n.toNat x
def bE (x:Ac) (c:Cs):Cs :=
 if x.k=1 then rC c
 else if aX x c≠0 then c
 else if x.k=3 then { c with Q:=c.Q ++ [(x.s,x.m)] }
 else if x.k=2 then { c with S:=jT c.S x.n (sA (sat c.S x.n).1 x.f x.r x.v,(sat c.S x.n).2) }
 else if x.k=4 then { c with V:=c.V.set x.n.toNat false,P:=Wt.kG c.P x.n }
 else if x.k=5 then { c with V:=c.V.set x.n.toNat true,P:=Wt.kH c.P x.n }
 else c
structure kC (c:Cs) (t:Nat):Prop where
 len:2<=c.S.length/\c.S.length<=32
 lv:c.V.length=c.S.length
 st:∀ i,i < c.S.length->dX (sat c.S i).1/\0<=(sat c.S i).2/\(sat c.S i).2<=100 * t
 pr:Wt.Ok c.P
 pl:c.pl<=64
 few:c.Q.length<=32
theorem CQ {x:aP×Int} (h0:0<=n) (h1:n < S.length) (i:Nat):sat (jT S n x) i=if (i:Int)=n then x else sat S i:=by
 unfold sat jT;rw [cg,af,af,hJ]
 by_cases e:(i:Int)=n
 ·subst e
  rw [cg,aw rfl,aw (by omega),aw rfl]
  rfl
 ·rw [aq (by omega),aq e]
theorem aaS : ∀ {s:aP×Int},dX s.1->dX (t.foldl Yy s).1:=by
 induction t with
 | nil=>exact id
 | cons x r ih =>
   intro s h
   rw [cy]
   apply ih
   unfold Yy
   split
   ·exact h.do Fl.lZ
   ·exact h
theorem aas {h:Pa.Hr} (hh:QX h) (ok:∀ x∈t,fH x) {s:aP×Int} (hA:dX s.1):dX (Mi h t s).1:=by
 have h0:∀ n,(fun _ _=>true:Int->Int->Bool) n 0=true->Pa.fD t n 0 = []:=fun n _=>List.filter_eq_nil_iff.2 fun x hx2 g=>by
  have k:=ok x hx2;unfold Pa.mt at g;have g:=of_decide_eq_true g;unfold fH Ro.place at k
  omega
 exact aaS (Mm hh h0 hA)
section
variable {c:Cs} {t:Nat} (h:kC c t)
include h
theorem kC.next:kC c (t+1):=⟨h.len,h.lv,fun i hi=>by have:=h.st i hi;exact ⟨this.1,this.2.1,by omega⟩,h.pr,h.pl,h.few⟩
theorem kC.jT {n:Int} {x:aP×Int} (h0:0<=n) (h1:n < c.S.length) (hx:dX x.1/\0<=x.2/\x.2<=100 * (t+1:Nat)):kC { c with S:=Cu.jT c.S n x } (t+1):=by
 have hl:(Cu.jT c.S n x).length=c.S.length:=cA;refine ⟨by rw [hl];exact h.len,h.lv.trans hl.symm,fun i hi=>?_,h.pr,h.pl,h.few⟩;rw [hl] at hi
 show dX (sat (Cu.jT c.S n x) i).1/\_
 rw [CQ h0 h1]
 split
 ·exact hx
 ·have:=h.st i hi;exact ⟨this.1,this.2.1,by omega⟩
theorem kC.round:kC (rC c) (t+1):=by
 have n:=h.next;unfold rC
 split
 ·exact ⟨n.len,n.lv,n.st,h.pr.jo,n.pl,by simp⟩
 ·split
  ·rename_i hs
   have sq:=Dl hs;have hl:(if gM c.S (rT c) c.V=0 then mF c.S (rT c) c.V c.Q else c.S).length=c.S.length:=by
    split
    ·rename_i e
     have er:mF c.S (rT c) c.V c.Q=wh c.S (rT c) c.V (hr c.S (rT c) c.V c.Q):=aw e;rw [er,gZ]
    ·rfl
   refine ⟨by rw [hl];exact h.len,h.lv.trans hl.symm,fun i hi=>?_,h.pr.jo,?_,by simp⟩
   ·rw [hl] at hi
    show dX (sat (if gM c.S (rT c) c.V=0 then mF c.S (rT c) c.V c.Q else c.S) i).1/\0<=(sat (if gM c.S (rT c) c.V=0 then mF c.S (rT c) c.V c.Q else c.S) i).2/\(sat (if gM c.S (rT c) c.V=0 then mF c.S (rT c) c.V c.Q else c.S) i).2<=_
    have hi':=h.st i hi
    split
    ·rename_i e
     have er:mF c.S (rT c) c.V c.Q=wh c.S (rT c) c.V (hr c.S (rT c) c.V c.Q):=aw e;rw [er,ny _ _ _ _ hi]
     split
     ·have hm:bQ (rT c) i∈rT c:=by
       have hl2:i < (rT c).length:=by unfold rT;rw [Cn];exact hi
       unfold bQ;rw [af,am hl2];exact dk hl2
      obtain ⟨m1,m2⟩:=Y9 (S:=c.S) (n:=gq (jA (own c)) (kD c (jA (own c)))) hm;have hd:=Fy (t:=bQ (rT c) i) ((Pa.nG (hr c.S (rT c) c.V c.Q) (bQ (rT c) i) (sat c.S i).1),(sat c.S i).2) (bQ (rT c) i).length;rw [wL] at hd;simp only at hd;exact ⟨aas (xI _ _ _ _) m2 hi'.1,by omega,by omega⟩
     ·exact ⟨hi'.1,hi'.2.1,by omega⟩
    ·exact ⟨hi'.1,hi'.2.1,by omega⟩
   ·show pE c (jA (own c))<=64
    unfold pE kD;have:=sq.1;have:=h.pl
    split <;> split <;> omega
  ·exact ⟨n.len,n.lv,n.st,h.pr.jo,n.pl,by simp⟩
theorem kC.act (x:Ac) (hx:bN x.v):kC (bE x c) (t+1):=by
 have n:=h.next;unfold bE
 by_cases h1:x.k=1
 ·rw [aw h1];exact h.round
 ·rw [aq h1]
  by_cases he:aX x c≠0
  ·rw [aw he];exact n
  ·rw [aq he]
   have he:=Classical.not_not.1 he;unfold aX at he;rw [aq h1] at he
   by_cases h3:x.k=3
   ·rw [aw h3]
    rw [aw h3] at he;refine ⟨n.len,n.lv,n.st,n.pr,n.pl,?_⟩
    show (c.Q ++ [(x.s,x.m)]).length<=32
    have:=h.few;rw [cI]
    split at he
    ·omega
    ·simp only [dv,dy];omega
   ·rw [aq h3]
    rw [aq h3] at he
    by_cases hn:x.k < 2\/6 < x.k\/no c x.n
    ·rw [aw hn] at he;omega
    ·have hin:0<=x.n/\x.n < c.S.length:=by
      have:¬ no c x.n:=fun g=>hn (.inr (.inr g));unfold no at this
      omega
     by_cases h2:x.k=2
     ·rw [aw h2]
      have hs:=h.st x.n.toNat (by omega);rw [gh hin.1] at hs;exact h.jT hin.1 hin.2 ⟨hs.1.set hx,hs.2.1,by simp only;omega⟩
     ·rw [aq h2]
      by_cases h4:x.k=4
      ·rw [aw h4]
       exact ⟨n.len,by show (c.V.set _ _).length=_;rw [cA];exact h.lv,n.st,h.pr.cr x.n,n.pl,n.few⟩
      ·rw [aq h4]
       by_cases h5:x.k=5
       ·rw [aw h5]
        exact ⟨n.len,by show (c.V.set _ _).length=_;rw [cA];exact h.lv,n.st,h.pr.rs x.n,n.pl,n.few⟩
       ·rw [aq h5];exact n
end
theorem qB {V:List Bool} {b:Bool} (h0:0<=n) (h1:n < V.length) (i:Int) (hi:0<=i):bU (V.set n.toNat b) i=if i=n then b else bU V i:=by
 unfold bU;rw [af,af,hJ]
 by_cases e:i=n
 ·subst e
  rw [aw rfl,aw (by omega),aw rfl]
  rfl
 ·rw [aq (by omega),aq e]
abbrev Pl:=List vZ×Int
def dJ (L:List Pl) (i:Nat):Pl:=L.getD i ([],0)
def gdF (F:List vZ):Prop:=Fs.qz key F/\∀ e∈F,(0<=e.1/\e.1<=63)/\aL e.2.1 e.2.2
def Mw (p:Pl):Prop:=gdF p.1/\-2000<=p.2/\p.2<=2000
def agree (L:List Pl):Prop:=pM (dJ L 0).1=true/\fB (dJ L 1).1 40=true/\fP (dJ L 0).1 40=fP (dJ L 1).1 40/\fR (dJ L 0).1 40=fR (dJ L 1).1 40
open Classical in
noncomputable def newE (L:List Pl):Int:=if L.length < 2\/32 < L.length then 1 else if ∀ p∈L,Mw p then (if agree L then 0 else 10) else 2
def newC (L:List Pl):Cs:=⟨L.map fun p=>(p.1,0),L.map fun _=>true,Wt.new,0,[]⟩
variable {L:List Pl} {i:Nat}
theorem qF (hi:i < L.length):sat (newC L).S i=((dJ L i).1,0):=by
 unfold sat newC dJ;rw [cg,af,cN,am hi,af,am hi]
 rfl
theorem Lx (hi:i < L.length):bU (newC L).V i=true:=by
 unfold bU newC;rw [cg,af,cN,am hi]
 rfl
theorem Uh (h:newE L=0) (ok:∀ p∈L,∀ e∈p.1,cZ e.2.2):kC (newC L) 0:=by
 unfold newE at h
 split at h
 ·omega
 ·rename_i hl
  split at h
  ·rename_i hg
   have hll:(newC L).S.length=L.length:=cm _;refine ⟨by rw [hll];omega,by show (L.map _).length=(L.map _).length;rw [cm,cm],fun i hi=>?_,Wt.aaQ,by show 0<=64;omega,by show 0<=32;omega⟩;have hi':i < L.length:=by
    have:(newC L).S.length=L.length:=cm _
    omega
   have hm:dJ L i∈L:=by
    unfold dJ;rw [af,am hi'];exact dk hi'
   obtain ⟨⟨g1,g2⟩,_⟩:=hg _ hm;rw [qF hi'];exact ⟨⟨g1,fun e he=>(g2 e he).1,fun e he=>(g2 e he).2,ok (dJ L i) hm⟩,gk _,by omega⟩
  ·omega
def bC (x:Ac):Array Value:=#[.int .i64 x.k,.int .i64 x.n,.int .i64 x.f,.int .i64 x.r,.int .u8 x.v.1,.int .u8 x.v.2.1,.int .u8 x.v.2.2.1,.int .u8 x.v.2.2.2,.int .i64 x.s,.int .i64 x.m,.int .i64 x.t]
def eG (x:Ac):Value:=.agg (bC x)
end Cu
namespace Pa
open Go.RowKit Go.Maps
attribute [local irreducible] Sd.aW wpQuiet
def rM (w:World) (F:Nat->Prop) (x:aP×Int) (e:Ending) (w':World):Prop:=∃ r,e = .returned (ptr r)/\Rs w' r F x.1 x.2/\w.heap.size<=r/\Below w.heap.size w w'
variable {w w1 w':World} {r r':Nat} {F:Nat->Prop}
theorem TX {v v':Value} {L:List aB} {d:Int} (h:qA w r F v L d) (hF:∀ k,F k->k < w.heap.size) (b:Below w.heap.size w w1) (own:Ow E3 w1 w.heap.size 81 v' L) (hr:r'=w1.heap.size) (row:w'.heap[r']? = some (.cells #[v',.int .i64 d] 50 (0,0))) (b1:Below w1.heap.size w1 w'):qA w' r' F v' L d:=by
 have bw:=b.trans (b1.mono b.size);have hz:=b.size;refine ⟨row,fun g=>by have:=hF _ g;omega,⟨(own.keep b1).rd,fun _ k hk g=>?_,fun c hc=>(h.list.file c hc).below bw,fun c hc h0 k hk g=>?_⟩,h.ok⟩
 ·have:=ci own k hk
  rcases g with g | g
  ·have:=hF k g;omega
  ·omega
 ·have:=oN (h.list.file c hc) h0 k hk
  rcases g with g | g
  ·exact h.list.wD c hc h0 k hk (.inl g)
  ·omega
theorem sJ {x:aP×Int} (R:Rs w r F x.1 x.2) (hF:∀ k,F k->k < w.heap.size):Calls prog 96 #[.pointer (some ⟨r,0,none⟩)] w (rM w F x):=by
 obtain ⟨A,d⟩:=x;obtain ⟨v,L,h,e⟩:=R;simp only at e;subst e;obtain ⟨a,cap,ev,_⟩:=h.list.rd.slice;have RL:=Hh h.list.rd;have HL:=Hh h.len
 have FIN:Hid (∀ w1 v' w',Below w.heap.size w w1->Ow E3 w1 w.heap.size 81 v' L->w'=w1.alloc (.cells #[v',.int .i64 d] 50)->rM w F (L.map aB.abs,d) (.returned (ptr w1.heap.size)) w'):=Hh (fun w1 v' w' b own e=>by
  subst e
  exact ⟨_,rfl,⟨v',L,TX h hF b own rfl (bh w1 _) ((aa _ _).alloc (ac _) _),rfl⟩,b.size,b.alloc b.size _⟩)
 have HR:=Hh h.row;have hrl:=bm h.row;clear h hF;subst ev;generalize hn:L.length=n at *;have HN:=Hh hn;clear hn
 go_enter func96,ntmps96
 go_upto_region 1 with fail;have c0:=Sd.aD (Fl.rc HR 0);have c1:=Sd.aD (Fl.rc HR 1);refine Sd.start [(false,1),(false,2),(false,3),(false,4),(false,6),(false,7),(false,8),(false,9),(true,0),(true,5),(false,10),(true,11),(false,12)] (by kernel_rfl) (by kernel_rfl) (by kernel_rfl) ?_;dsimp only [Sd.aM,List.getElem?_cons_succ,List.getElem?_cons_zero]
 repeat (refine Sd.lit ?_;quiet_step (fail);refine bk ?_)
 have B0:=Hh ((aa w.heap.size w).drew);clear c0 c1;generalize w.drew=wd at *;refine Sd.call (by rfl) (fun K hK=>?_);go_simp;have B1:=Hh (B0.alloc B0.size (.cells #[] 81));have OM:=Hh (Rw.Ow.made (K:=E3) wd w.heap.size 81 B0.size);have RB:=Hh (RL.below B1);refine hK _ _ (Sd.Cl.of B1) ?_;clear hK K;generalize wd.heap.size=g0 at *;generalize (wd.alloc (.cells #[] 81))=W1 at *;refine Sd.call (by rfl) (fun K hK=>?_);refine sK (Kd:=E3) underlying47 jS rfl (by omega) _ _ rfl w.heap.size _ _ rfl OM.out _ _ rfl RB.out ?a1 B1.out.size ?_
 case a1=>simp only [dy];have:=HL.out;have:=HN.out;omega
 intro v2 w2 o2 b2
 have B2:=Hh (B1.trans (b2.mono (ac _)));have O2:Hid (Ow E3 w2 w.heap.size 81 v2 L):=Hh (by simpa using o2);obtain ⟨a2,c2,e2,_⟩:=O2.slice;refine hK _ _ (Sd.Cl.of B2) ?_;rw [HN.out] at e2;subst e2;clear hK K b2 o2 B1 OM RB
 repeat (refine Sd.lit ?_;quiet_step (fail);refine bk ?_)
 have RES:=Hh (FIN w2 _ _ B2 O2 rfl);have B3:=Hh (B2.alloc B2.size (.cells #[.slice a2 n c2,.int .i64 d] 50));clear FIN O2;refine Sd.call (by rfl) (fun K hK=>?_);go_simp;refine hK _ _ (Sd.Cl.of B3) ?_;clear hK K
 repeat (refine Sd.lit ?_;quiet_step (fail);refine bk ?_)
 refine Sd.done ?_;go_wp2
 go_ret
 exact RES
open Fl (file)
def ace:aB:=⟨0,0,none,0,[]⟩
def fq (L:List aB) (i:Nat):aB:=L.getD i ace
structure Ay (w:World) (v:Value) (L:List aB) (B:Nat):Prop where
 rd:Rd E3 w v L
 file:∀ i,i < L.length->Rd K4 w (fq L i).sl (fq L i).l/\cZ (fq L i).l
 low:∀ i,i < L.length->0 < (fq L i).l.length->∀ k,(fq L i).sl.ownBlock=some k->k < B
theorem Ay.below {w w':World} {v:Value} {L:List aB} {B:Nat} (h:Ay w v L B) (b:Below w.heap.size w w'):Ay w' v L B:=⟨h.rd.below b,fun i hi=>⟨(h.file i hi).1.below b,(h.file i hi).2⟩,h.low⟩
structure RSI (w:World) (r:Nat) (F:Nat->Prop) (A:aP) (wr:World):Prop where
 rs:Rs wr r F A 0
 aG:Below w.heap.size w wr
theorem RSI.below {w wr wr':World} {r:Nat} {F:Nat->Prop} {A:aP} (h:RSI w r F A wr) (b:Below wr.heap.size wr wr'):RSI w r F A wr':=⟨Fs.Rs.below h.rs b,h.aG.trans (b.mono h.aG.size)⟩
theorem RSI.step {wr wr':World} {A A':aP} (h:RSI w r F A wr) (hr:w.heap.size<=r) (rs:Rs wr' r F A' 0) (o:Only (fun k=>k=r) wr wr'):RSI w r F A' wr':=⟨rs,h.aG.trans (o.below h.aG.size fun k e=>by subst e;exact hr)⟩
theorem Lt (w:World) (F:Nat->Prop) (hF:∀ k,F k->k < w.heap.size):RSI w w.heap.size F [] (w.alloc (.cells #[.slice none 0 0,.int .i64 0] 50)) :=
 ⟨⟨_,[],⟨bh w _,fun g=>by have:=hF _ g;omega,⟨Rw.Rd.nil _,(fun h=>by simp at h),(fun c hc=>by cases hc),(fun c hc=>by cases hc)⟩,dX.nil⟩,rfl⟩,(aa w.heap.size w).alloc (ac _) _⟩
end Pa
namespace Ck
open Go.RowKit
open Ro (ent rZ fV Wm)
theorem iK (a:Addr):a.add 0=a:=by cases a;simp [Addr.add]
theorem xO:(prog.info? 126).map (fun i=>(i.zero,i.size,i.bytes))=some (some (.slice none 0 0),1,24):=by kernel_rfl
end Ck
namespace Pa
open Go.RowKit Go.Maps
structure Cel where
 files:Hd
 table:Hd
 live:Bool
 steps:Hd
 F:List aB
 T:List E5
 S:List S2
def ad3:Cel:=⟨zh,zh,false,zh,[],[],[]⟩
def AB (L:List Cel) (i:Nat):Cel:=L.getD i ad3
theorem aZ {α β:Type} {K:Kind α} {J:Kind β} {w:World} {B B' E E':Nat} {v v':Value} {l:List α} {l':List β} (h:Ow K w B E v l) (h':Ow J w B' E' v' l') (hE:E≠E'):∀ k,v.ownBlock=some k->v'.ownBlock≠some k:=fun k hk=>by
 obtain ⟨_,h⟩:=h
 rcases h with ⟨rfl,_⟩ | ⟨g,cap,cur,rfl,_,hh,_⟩
 ·simp [Value.ownBlock] at hk
 ·simp only [Value.ownBlock,eJ] at hk
  subst hk;exact h'.apart hh hE
section
end
section
end
end Pa
namespace Cu
open Go.RowKit
open Pa (Ay fq ace)
structure lF where
 files:Hd
 rate:Int
 F:List aB
def plD:lF:=⟨zh,0,[]⟩
def KP:Kind lF:=⟨fun c=>[sl c.files,.int .i64 c.rate],2,by decide,fun _=>rfl,fun _ u h=>by simp [sl] at h;rcases h with rfl | rfl <;> rfl,plD⟩
def zQ (L:List lF) (i:Nat):lF:=L.getD i plD
structure C8 (w:World) (v:Value) (L:List lF) (B:Nat):Prop where
 rd:Rd KP w v L
 file:∀ i,i < L.length->Ay w (sl (zQ L i).files) (zQ L i).F B
theorem C8.below {w w':World} {v:Value} {L:List lF} {B:Nat} (h:C8 w v L B) (b:Below w.heap.size w w'):C8 w' v L B:=⟨h.rd.below b,fun i hi=>(h.file i hi).below b⟩
def lF.abs (c:lF):Pl:=(c.F.map aB.abs,c.rate)
def dw (L:List lF):List Pl:=L.map lF.abs
theorem iw (L:List lF):(dw L).length=L.length:=cm _
variable {i b off k:Nat}
theorem Tm {L:List lF} (h:i < L.length):dJ (dw L) i=(zQ L i).abs:=by
 unfold dJ dw zQ;rw [af,cN,am h,af,am h]
 rfl
theorem Sy {w:World} {L:List lF} (h:At KP w b off L) (hi:i < L.length):w.cell? ⟨b,off+i * 2,none⟩=some (sl (zQ L i).files)/\w.cell? ⟨b,off+i * 2+1,none⟩=some (.int .i64 (zQ L i).rate):=⟨h i hi 0 _ rfl,h i hi 1 _ rfl⟩
def acT (x:Ac):List Value:=[.int .i64 x.k,.int .i64 x.n,.int .i64 x.f,.int .i64 x.r,.int .u8 x.v.1,.int .u8 x.v.2.1,.int .u8 x.v.2.2.1,.int .u8 x.v.2.2.2,.int .i64 x.s,.int .i64 x.m,.int .i64 x.t]
def acD:Ac:=⟨0,0,0,0,z4,0,0,0⟩
def KA:Kind Ac:=⟨acT,11,by decide,fun _=>rfl,fun _ u h=>by simp [acT] at h;rcases h with rfl | rfl | rfl | rfl | rfl | rfl | rfl | rfl | rfl | rfl | rfl <;> rfl,acD⟩
def Ir (L:List Ac) (i:Nat):Ac:=L.getD i acD
def Inn (A:aP) (k:Nat):Prop:=qz key (A.take k)/\∀ e∈A.take k,(0<=e.1/\e.1<=63)/\aL e.2.1 e.2.2
theorem Hy (A:aP):Inn A 0:=⟨gS,nofun⟩
theorem KQ {A:aP} (h:Inn A A.length):gdF A:=by
 unfold Inn at h;rw [cU] at h;exact h
theorem Ez {A:aP} {n p:Int} {l:List R4} (h:Inn A k) (hk:A[k]? = some (n,p,l)) (ord:∀ c,0 < k->A[k - 1]? = some c->key c < n) :
 (fZ (A.take k) n p l=0/\kI (A.take k) n p l=A.take (k+1)/\Inn A (k+1))\/(fZ (A.take k) n p l≠0/\¬ gdF A):=by
 have hkl:=(bs.1 hk).1;have hm:(n,p,l)∈A:=cL hk;have lt:∀ x∈A.take k,key x < n:=fun x hx=>by
  obtain ⟨i,hi⟩:=List.mem_iff_getElem?.1 hx;have hil:=(bs.1 hi).1;rw [cH] at hil;have h1:A[k - 1]? = some A[k - 1]:=am (by omega);have o:=ord _ (by omega) h1;rw [List.getElem?_take,aw (by omega)] at hi
  by_cases e:i=k - 1
  ·subst e
   rw [h1] at hi;injection hi with hi;rw [← hi];exact o
  ·have q:=fe.1 h.1 i (k - 1) (by rw [cH];omega) (by rw [cH];omega) (by omega)
   rw [List.getElem_take,List.getElem_take] at q;rw [am (by omega)] at hi;injection hi with hi;rw [hi] at q
   omega
 have hn:Fs.look key n (A.take k)=none:=dY.2 fun x hx=>by have:=lt x hx;omega
 have tk:A.take (k+1)=A.take k ++ [(n,p,l)]:=by rw [dr,hk];rfl
 by_cases g1:0<=n/\n<=63
 ·by_cases g2:aL p l
  ·have e0:fZ (A.take k) n p l=0:=by
    unfold fZ;rw [aw g1,aw g2,hn]
    rfl
   refine .inl ⟨e0,?_,?_,?_⟩
   ·unfold kI
    rw [aw e0,wJ (c:=(n,p,l)) hn,yK (k:=(A.take k).length) (fun x hx=>lt x (List.mem_of_mem_take hx)) (fun x hx=>by rw [eI (ac _)] at hx;cases hx),cU,List.drop_length,tk]
   ·rw [tk]
    refine List.pairwise_append.2 ⟨h.1,List.pairwise_singleton _ _,fun x hx y hy=>?_⟩;rw [cW] at hy;subst hy;exact lt x hx
   ·rw [tk]
    intro e he
    rcases eV.1 he with he | he
    ·exact h.2 e he
    ·rw [cW] at he
     subst he;exact ⟨g1,g2⟩
  ·refine .inr ⟨?_,fun g=>g2 (g.2 _ hm).2⟩
   unfold fZ;rw [aw g1,aq g2]
   decide
 ·refine .inr ⟨?_,fun g=>g1 (g.2 _ hm).1⟩
  unfold fZ;rw [aq g1]
  decide
theorem UR {A:aP} {c d:vZ} (h0:0 < k) (hk:A[k]? = some c) (h1:A[k - 1]? = some d) (hle:key c<=key d):¬ gdF A:=fun g=>by
 have a:=(bs.1 hk);have b:=(bs.1 h1);obtain ⟨a1,rfl⟩:=a;obtain ⟨b1,rfl⟩:=b;have q:=fe.1 g.1 (k - 1) k b1 a1 (by omega)
 omega
def Gds (L:List Pl) (i:Nat):Prop:=∀ j,j < i->Mw (dJ L j)
theorem Eg (L:List Pl):Gds L 0:=fun j hj=>by omega
variable {L:List Pl}
theorem Fh (h:Gds L i) (g:Mw (dJ L i)):Gds L (i+1):=fun j hj=>by
 by_cases e:j=i
 ·rw [e];exact g
 ·exact h j (by omega)
theorem Ko (h:Gds L L.length):∀ p∈L,Mw p:=fun p hp=>by
 obtain ⟨i,hi,rfl⟩:=ed hp;have:=h i hi;unfold dJ at this;rw [af,am hi] at this;exact this
theorem tH (h:L.length < 2\/32 < L.length):newE L=1:=by unfold newE;rw [aw h]
theorem Kn (h:¬ (L.length < 2\/32 < L.length)) (hi:i < L.length) (g:¬ Mw (dJ L i)):newE L=2:=by
 unfold newE;rw [aq h,aq]
 intro a
 refine g (a _ ?_);unfold dJ;rw [af,am hi];exact dk hi
theorem Lv (h:¬ (L.length < 2\/32 < L.length)) (g:∀ p∈L,Mw p):(agree L->newE L=0)/\(¬ agree L->newE L=10):=by
 unfold newE;rw [aq h,aw g];exact ⟨fun a=>aw a,fun a=>aq a⟩
theorem AQ (h:i < L.length):(newC (L.take (i+1))).S=(newC (L.take i)).S ++ [((dJ L i).1,0)]/\(newC (L.take (i+1))).V=(newC (L.take i)).V ++ [true]:=by
 have tk:L.take (i+1)=L.take i ++ [dJ L i]:=by
  rw [dr];unfold dJ;rw [af,am h]
  rfl
 unfold newC;rw [tk]
 simp
end Cu
namespace Fl
open Go.ChangeShapes Go.WideShapes Go.ChangeAt Go.RowKit Go.Deep
variable {H:Type} {W:World} {base fuel:Nat} {sp:Nat->Bool} {held:Bool}
theorem sj {enc:TypeId×Value->H} {cs:List Value} {x:DataW H×List MemPlace}
 (h:DataW.trod enc prog W base sp held fuel 42 cs=some x):∃ r:R4,cs=K4.enc r/\bN r:=by
 have c4:prog.cellsOf 42=4:=by kernel_rfl
 have c1:prog.cellsOf 5=1:=by kernel_rfl
 obtain ⟨xs,m,_,_,hs,hx,hi⟩:=DataW.trod_array underlying42 h;rw [c4] at hs
 match cs,hs,xs,hx,hi with
 | [u0,u1,u2,u3],_,[x0,x1,x2,x3],_,hi =>
   have e0:=hi 0 (by omega);have e1:=hi 1 (by omega);have e2:=hi 2 (by omega);have e3:=hi 3 (by omega);rw [c1] at e0 e1 e2 e3;obtain ⟨a,ha,_,wa⟩:=DataW.trod_int underlying5 (x:=x0) e0;obtain ⟨b,hb,_,wb⟩:=DataW.trod_int underlying5 (x:=x1) e1;obtain ⟨c,hc,_,wc⟩:=DataW.trod_int underlying5 (x:=x2) e2;obtain ⟨d,hd,_,wd⟩:=DataW.trod_int underlying5 (x:=x3) e3
   simp at ha hb hc hd
   subst ha hb hc hd;exact ⟨(a,b,c,d),rfl,bounds_u8 wa,bounds_u8 wb,bounds_u8 wc,bounds_u8 wd⟩
theorem MP {enc:TypeId×Value->H} {u:Value} {x:DataW H×List MemPlace}
 (h:DataW.trod enc prog W base sp held fuel 77 [u]=some x):∃ l,Rd K4 W u l/\cZ l:=by
 have c4:prog.cellsOf 42=4:=by kernel_rfl
 rcases open_slice underlying77 h with ⟨e,_⟩ | ⟨a,len,cap,m,n,D,Pl,e,_,hl,hm,hmm,_,hx⟩
 ·simp at e
  subst e;exact ⟨[],Rw.Rd.nil _,fun r hr=>by cases hr⟩
 ·simp at e
  subst e;have hlm:len<=m:=by rw [hmm];split <;> omega
  have each:∀ i,i < m->∃ r:R4,bN r/\∀ j u,(K4.enc r)[j]? = some u->W.cell? (a.add (i * 4+j))=some u:=fun i hi=>by
   obtain ⟨cs',h1,h2⟩:=hx i hi;rw [c4] at h1;obtain ⟨_,hlen,hcell⟩:=World.cells?_some h1;obtain ⟨r,rfl,ok⟩:=sj h2;refine ⟨r,ok,fun j u hu=>?_⟩;have hj:j < 4:=by have:=(bs.1 hu).1;rw [hlen] at this;exact this
   have e:=hcell j hj;rw [add_add] at e;exact e.trans hu
  obtain ⟨q,hq⟩:=choose_lt each;have hlen:((List.range len).map q).length=len:=by simp
  have get:∀ i,i < len->((List.range len).map q).getD i z4=q i:=fun i hi=>by simp [List.getD,hi]
  refine ⟨(List.range len).map q,⟨some a,cap,by rw [hlen],⟨by rw [hlen];exact hl,nofun⟩,hm,fun h0=>?_⟩,fun r hr=>?_⟩
  ·rw [hlen] at h0
   obtain ⟨b,off,spot⟩:=a;have c0:=(hq 0 (by omega)).2 0 _ rfl;have hs:spot=none:=by simpa [Addr.add] using World.cell?_spot c0
   subst hs;refine ⟨b,off,rfl,fun i hi j u hu=>?_⟩;rw [hlen] at hi;have hu':(K4.enc (q i))[j]? = some u:=by rw [← get i hi];exact hu
   have c:=(hq i (by omega)).2 j u hu';rw [add_plain] at c
   show W.cell? ⟨b,off+i * 4+j,none⟩=some u
   rw [Nat.add_assoc];exact c
  ·obtain ⟨i,hi,rfl⟩:=dC.1 hr
   exact (hq i (by have:=List.mem_range.1 hi;omega)).1
end Fl
namespace Fs
open Go.ChangeShapes Go.WideShapes Go.ChangeAt Go.RowKit Go.Deep
open Fl (sj MP)
section
variable {H:Type} {enc:TypeId×Value->H} {W:World} {base fuel:Nat} {sp:Nat->Bool} {held:Bool} {cs:List Value} {x:DataW H×List MemPlace}
theorem zN (h:DataW.trod enc prog W base sp held fuel 79 cs=some x):∃ q u l,cs = [.int .i64 q,u]/\Rd K4 W u l/\cZ l:=by
 have c2:prog.cellsOf 79=2:=by kernel_rfl
 have c1:prog.cellsOf 3=1:=by kernel_rfl
 have c3:prog.cellsOf 77=1:=by kernel_rfl
 obtain ⟨xs,m,_,_,hs,hx,hi⟩:=DataW.trod_struct underlying79 h;rw [c2] at hs
 match cs,hs,xs,hx,hi with
 | [u,v],_,[x0,x1],_,hi =>
   have e0:DataW.trod enc prog W base sp held m 3 (([u,v].drop 0).take (prog.cellsOf 3))=some x0:=hi 0 _ rfl;have e1:DataW.trod enc prog W base sp held m 77 (([u,v].drop 1).take (prog.cellsOf 77))=some x1:=hi 1 _ rfl;rw [c1] at e0;rw [c3] at e1;obtain ⟨a,ha,_⟩:=DataW.trod_int underlying3 (x:=x0) e0
   simp at ha
   subst ha;obtain ⟨l,R,ok⟩:=MP (u:=v) e1;exact ⟨a,v,l,rfl,R,ok⟩
end
def laid : List (String × DataW Unit) := [("errors.errorType", Rows.laid_errors_errorType)]
theorem et : Tryz.prog.globalNamed "errors.errorType" = some 0 := by kernel_rfl
theorem rt : (Tryz.prog.cutTypes.find? (·.1 == "internal/reflectlite.rtype")).map (·.2) = some 234 := by kernel_rfl
theorem aa6:((List.range 372).filter fun t=>prog.rowNamed t [101,114,114,111,114]) = [111]:=by kernel_rfl
theorem ac8:prog.types.size=372:=by kernel_rfl
theorem ZH {W:World} (h:laidMetH prog laid W):Glob W:=by
 have h':laidMet prog [] W/\handlesMet prog laid W:=h;obtain ⟨name,u,ty,e1,e2,e3,e4,e5⟩:=h'.2 _ (cW.2 rfl);have en:name = [101,114,114,111,114]:=(cP e1).symm;subst en;obtain rfl:=cP (rt.symm.trans e2);have hm:ty∈(List.range 372).filter fun t=>prog.rowNamed t [101,114,114,111,114]:=eS.2 ⟨List.mem_range.2 (by rw [← ac8];exact e3),e4⟩;rw [aa6] at hm;obtain rfl:=cW.1 hm;have hh:typeHandle prog 111 = .pointer (some ⟨1,111,none⟩):=by kernel_rfl
 rw [hh] at e5;have:=World.var?_cell et e5 0;unfold Glob
 simpa using this
noncomputable def AY (os:Os):World :=
 let w0:=World.holding prog os ⟨#[],#[],[]⟩
 { w0 with heap:=w0.heap.modify 0 fun
  | .cells _ t frozen=>.cells #[.iface 234 (.agg #[.pointer (some ⟨1,111,none⟩)])] t frozen
  | o=>o }
theorem z8 (os:Os) (args:Array Value):laidMetH prog laid ((AY os).forCall (fun _ _=>0) ⟨#[],args,[]⟩).memory :=
 laidMetH_of_parts (laidMet_nil _ _) (by kernel_rfl)
end Fs
namespace Pa
open Go.ChangeShapes Go.WideShapes Go.ChangeAt Go.RowKit Go.Deep
open Fs (zN)
theorem wV {α:Type} {K:Rw.Kind α} (Q:α->Prop) {H:Type} {enc:TypeId×Value->H} {W:World} {u:Value} {base fuel:Nat} {sp:Nat->Bool} {held:Bool} {x:DataW H×List MemPlace} {T E:TypeId}
 (hu:prog.underlying T=some (.slice E)) (hc:prog.cellsOf E=K.n) (el:∀ {n:Nat} {cs:List Value} {y:DataW H×List MemPlace},DataW.trod enc prog W base sp held n E cs=some y->∃ r:α,cs=K.enc r/\Q r)
 (h:DataW.trod enc prog W base sp held fuel T [u]=some x):∃ l,Rd K W u l/\∀ r∈l,Q r:=by
 rcases open_slice hu h with ⟨e,_⟩ | ⟨a,len,cap,m,n,D,Pl,e,_,hl,hm,hmm,_,hx⟩
 ·simp at e
  subst e;exact ⟨[],Rw.Rd.nil _,fun r hr=>by cases hr⟩
 ·simp at e
  subst e;have hlm:len<=m:=by rw [hmm];split <;> omega
  have each:∀ i,i < m->∃ r:α,Q r/\∀ j u,(K.enc r)[j]? = some u->W.cell? (a.add (i * K.n+j))=some u:=fun i hi=>by
   obtain ⟨cs',h1,h2⟩:=hx i hi;rw [hc] at h1;obtain ⟨_,hlen,hcell⟩:=World.cells?_some h1;obtain ⟨r,rfl,ok⟩:=el h2;refine ⟨r,ok,fun j u hu=>?_⟩;have hj:j < K.n:=by have:=(bs.1 hu).1;rw [hlen] at this;exact this
   have e:=hcell j hj;rw [add_add] at e;exact e.trans hu
  haveI:Inhabited α:=⟨K.LM⟩
  obtain ⟨q,hq⟩:=choose_lt each;have hlen:((List.range len).map q).length=len:=by simp
  have get:∀ i,i < len->((List.range len).map q).getD i K.LM=q i:=fun i hi=>by simp [List.getD,hi]
  refine ⟨(List.range len).map q,⟨some a,cap,by rw [hlen],⟨by rw [hlen];exact hl,nofun⟩,hm,fun h0=>?_⟩,fun r hr=>?_⟩
  ·rw [hlen] at h0
   obtain ⟨b,off,spot⟩:=a;have hp:0 < (K.enc (q 0)).length:=by rw [K.len];exact K.pos
   have c0:=(hq 0 (by omega)).2 0 _ (am hp);have hs:spot=none:=by simpa [Addr.add] using World.cell?_spot c0
   subst hs;refine ⟨b,off,rfl,fun i hi j u hu=>?_⟩;rw [hlen] at hi;have hu':(K.enc (q i))[j]? = some u:=by rw [← get i hi];exact hu
   have c:=(hq i (by omega)).2 j u hu';rw [add_plain] at c
   show W.cell? ⟨b,off+i * K.n+j,none⟩=some u
   rw [Nat.add_assoc];exact c
  ·obtain ⟨i,hi,rfl⟩:=dC.1 hr
   exact (hq i (by have:=List.mem_range.1 hi;omega)).1
section
variable {H:Type} {enc:TypeId×Value->H} {W:World} {base fuel:Nat} {sp:Nat->Bool} {held:Bool} {cs:List Value} {x:DataW H×List MemPlace}
theorem vV (h:DataW.trod enc prog W base sp held fuel 81 cs=some x):∃ c:aB,cs=E3.enc c/\Rd K4 W c.sl c.l/\cZ c.l:=by
 have c3:prog.cellsOf 81=3:=by kernel_rfl
 have c1:prog.cellsOf 3=1:=by kernel_rfl
 have c2:prog.cellsOf 79=2:=by kernel_rfl
 obtain ⟨xs,m,_,_,hs,hx,hi⟩:=DataW.trod_struct underlying81 h;rw [c3] at hs
 match cs,hs,xs,hx,hi with
 | [u0,u1,u2],_,[x0,x1],_,hi =>
   have e0:DataW.trod enc prog W base sp held m 3 (([u0,u1,u2].drop 0).take (prog.cellsOf 3))=some x0:=hi 0 _ rfl;have e1:DataW.trod enc prog W base sp held m 79 (([u0,u1,u2].drop 1).take (prog.cellsOf 79))=some x1:=hi 1 _ rfl;rw [c1] at e0;rw [c2] at e1;obtain ⟨k,hk,_,wk⟩:=DataW.trod_int underlying3 (x:=x0) e0;obtain ⟨p,u,l,h3,R,okl⟩:=zN e1;obtain ⟨a,cap,rfl,_⟩:=R.slice;have k' : [u0] = [.int .i64 k]:=hk;have h3' : [u1,u2] = [.int .i64 p,.slice a l.length cap]:=h3;simp only [List.cons.injEq,and_true] at k' h3';obtain rfl:=k';obtain ⟨rfl,rfl⟩:=h3';exact ⟨⟨k,p,a,cap,l⟩,rfl,R,okl⟩
theorem Aq {T E:TypeId} {u:Value} (hu:prog.underlying T=some (.slice E)) (h:DataW.trod enc prog W base sp held fuel T [u]=some x):∃ s:Hd,u=sl s:=by
 rcases open_slice hu h with ⟨e,_⟩ | ⟨a,len,cap,m,n,D,Pl,e,_⟩
 ·simp at e
  exact ⟨zh,e⟩
 ·simp at e
  exact ⟨(some a,len,cap),e⟩
end
end Pa
namespace Cu
open Go.ChangeShapes Go.WideShapes Go.ChangeAt Go.RowKit Go.Deep
open Pa (wV vV Aq fq)
section
variable {H:Type} {enc:TypeId×Value->H} {W:World} {base fuel:Nat} {sp:Nat->Bool} {held:Bool} {cs:List Value} {x:DataW H×List MemPlace}
def adt (W:World) (c:lF):Prop:=Rd E3 W (sl c.files) c.F/\∀ e∈c.F,Rd K4 W e.sl e.l/\cZ e.l
theorem Jf (h:DataW.trod enc prog W base sp held fuel 71 cs=some x):∃ c:lF,cs=KP.enc c/\adt W c:=by
 have c2:prog.cellsOf 71=2:=by kernel_rfl
 have d0:prog.cellsOf 47=1:=by kernel_rfl
 have d1:prog.cellsOf 3=1:=by kernel_rfl
 obtain ⟨xs,m,_,_,hs,hx,hi⟩:=DataW.trod_struct underlying71 h;rw [c2] at hs
 match cs,hs,xs,hx,hi with
 | [u0,u1],_,[x0,x1],_,hi =>
   have e0:DataW.trod enc prog W base sp held m 47 (([u0,u1].drop 0).take (prog.cellsOf 47))=some x0:=hi 0 _ rfl;have e1:DataW.trod enc prog W base sp held m 3 (([u0,u1].drop 1).take (prog.cellsOf 3))=some x1:=hi 1 _ rfl;rw [d0] at e0;rw [d1] at e1;obtain ⟨F,RF,QF⟩:=wV (K:=E3) (fun c=>Rd K4 W c.sl c.l/\cZ c.l) underlying47 (by kernel_rfl) (fun h=>vV h) (u:=u0) e0;obtain ⟨k,hk,_,_⟩:=DataW.trod_int underlying3 (x:=x1) e1;obtain ⟨s0,rfl⟩:=Aq underlying47 (u:=u0) e0;have k' : [u1] = [.int .i64 k]:=hk;simp only [List.cons.injEq,and_true] at k';obtain rfl:=k';exact ⟨⟨s0,k,F⟩,rfl,RF,QF⟩
theorem Qg (h:DataW.trod enc prog W base sp held fuel 44 cs=some x):∃ c:Ac,cs=KA.enc c/\bN c.v/\Fs.Wf c.f:=by
 have c11:prog.cellsOf 44=11:=by kernel_rfl
 have d0:prog.cellsOf 3=1:=by kernel_rfl
 have d1:prog.cellsOf 42=4:=by kernel_rfl
 obtain ⟨xs,m,_,_,hs,hx,hi⟩:=DataW.trod_struct underlying44 h;rw [c11] at hs
 match cs,hs,xs,hx,hi with
 | [u0,u1,u2,u3,u4,u5,u6,u7,u8,u9,u10],_,[x0,x1,x2,x3,x4,x5,x6,x7],_,hi =>
   have e0:DataW.trod enc prog W base sp held m 3 (([u0,u1,u2,u3,u4,u5,u6,u7,u8,u9,u10].drop 0).take (prog.cellsOf 3))=some x0:=hi 0 _ rfl;have e1:DataW.trod enc prog W base sp held m 3 (([u0,u1,u2,u3,u4,u5,u6,u7,u8,u9,u10].drop 1).take (prog.cellsOf 3))=some x1:=hi 1 _ rfl;have e2:DataW.trod enc prog W base sp held m 3 (([u0,u1,u2,u3,u4,u5,u6,u7,u8,u9,u10].drop 2).take (prog.cellsOf 3))=some x2:=hi 2 _ rfl;have e3:DataW.trod enc prog W base sp held m 3 (([u0,u1,u2,u3,u4,u5,u6,u7,u8,u9,u10].drop 3).take (prog.cellsOf 3))=some x3:=hi 3 _ rfl;have e4:DataW.trod enc prog W base sp held m 42 (([u0,u1,u2,u3,u4,u5,u6,u7,u8,u9,u10].drop 4).take (prog.cellsOf 42))=some x4:=hi 4 _ rfl;have e5:DataW.trod enc prog W base sp held m 3 (([u0,u1,u2,u3,u4,u5,u6,u7,u8,u9,u10].drop 8).take (prog.cellsOf 3))=some x5:=hi 5 _ rfl;have e6:DataW.trod enc prog W base sp held m 3 (([u0,u1,u2,u3,u4,u5,u6,u7,u8,u9,u10].drop 9).take (prog.cellsOf 3))=some x6:=hi 6 _ rfl;have e7:DataW.trod enc prog W base sp held m 3 (([u0,u1,u2,u3,u4,u5,u6,u7,u8,u9,u10].drop 10).take (prog.cellsOf 3))=some x7:=hi 7 _ rfl;rw [d0] at e0 e1 e2 e3 e5 e6 e7;rw [d1] at e4;obtain ⟨k0,h0,_⟩:=DataW.trod_int underlying3 (x:=x0) e0
   replace h0 : [u0] = [.int .i64 k0]:=h0
   obtain ⟨k1,h1,_⟩:=DataW.trod_int underlying3 (x:=x1) e1
   replace h1 : [u1] = [.int .i64 k1]:=h1
   obtain ⟨k2,h2,_,wf2⟩:=DataW.trod_int underlying3 (x:=x2) e2
   replace h2 : [u2] = [.int .i64 k2]:=h2
   obtain ⟨k3,h3,_⟩:=DataW.trod_int underlying3 (x:=x3) e3
   replace h3 : [u3] = [.int .i64 k3]:=h3
   obtain ⟨r,h4,ok⟩:=Fl.sj e4
   replace h4 : [u4,u5,u6,u7] = [.int .u8 r.1,.int .u8 r.2.1,.int .u8 r.2.2.1,.int .u8 r.2.2.2]:=h4
   obtain ⟨k5,h5,_⟩:=DataW.trod_int underlying3 (x:=x5) e5
   replace h5 : [u8] = [.int .i64 k5]:=h5
   obtain ⟨k6,h6,_⟩:=DataW.trod_int underlying3 (x:=x6) e6
   replace h6 : [u9] = [.int .i64 k6]:=h6
   obtain ⟨k7,h7,_⟩:=DataW.trod_int underlying3 (x:=x7) e7
   replace h7 : [u10] = [.int .i64 k7]:=h7
   simp only [List.cons.injEq,and_true] at h0 h1 h2 h3 h4 h5 h6 h7;obtain rfl:=h0;obtain rfl:=h1;obtain rfl:=h2;obtain rfl:=h3;obtain ⟨rfl,rfl,rfl,rfl⟩:=h4;obtain rfl:=h5;obtain rfl:=h6;obtain rfl:=h7;exact ⟨⟨k0,k1,k2,k3,r,k5,k6,k7⟩,rfl,ok,wf2⟩
end
variable {H:Type} {W:World} {v:Value} {base b0:Nat} {sp:Nat->Bool} {held:Bool} {p:List MemPlace} {r:Reach}
theorem Sm {enc:TypeId×Value->H} {d:DataW H}
 (hv:Value.okWide prog W r b0 22 v) (h:DataW.Trod enc prog W base sp held 22 v d p):∃ L,C8 W v L W.heap.size:=by
 obtain ⟨a,len,cap,rfl⟩:=okWide_slice underlying22 hv;obtain ⟨fuel,hf⟩:=h;obtain ⟨L,R,Q⟩:=wV (K:=KP) (adt W) underlying22 (by kernel_rfl) (fun h=>Jf h) (u:=.slice a len cap) hf;refine ⟨L,R,fun i hi=>?_⟩;have at_:zQ L i∈L:=by
  unfold zQ;rw [af,am hi];exact dk hi
 obtain ⟨q1,q2⟩:=Q _ at_;have mem:∀ j,j < (zQ L i).F.length->fq (zQ L i).F j∈(zQ L i).F:=fun j hj=>by
  unfold fq;rw [af,am hj];exact dk hj
 exact ⟨q1,fun j hj=>q2 _ (mem j hj),fun j hj h0 k hk=>Fs.oN (q2 _ (mem j hj)).1 h0 k hk⟩
theorem Ye {enc:TypeId×Value->H} {d:DataW H}
 (hv:Value.okWide prog W r b0 23 v) (h:DataW.Trod enc prog W base sp held 23 v d p):∃ l,Rd KA W v l/\∀ x∈l,bN x.v/\Fs.Wf x.f:=by
 obtain ⟨a,len,cap,rfl⟩:=okWide_slice underlying23 hv;obtain ⟨fuel,hf⟩:=h;exact wV (K:=KA) (fun x=>bN x.v/\Fs.Wf x.f) underlying23 (by kernel_rfl) (fun h=>Qg h) (u:=.slice a len cap) hf
open Go.Maps
open Pa (aQ)
section
variable {E:TypeId} {w wr w1:World} {S:bO} {k:Nat} {o o':Value} {ps:List Nat} {Fs:Nat->Nat->Prop} {g:Nat} {F5:Nat->Prop}
structure PJ (E:TypeId) (w:World) (S:bO) (k:Nat) (o:Value) (ps:List Nat) (Fs:Nat->Nat->Prop) (wr:World):Prop where
 own:Ow KN wr w.heap.size E o ps
 len:ps.length=k
 each:∀ i,i < k->St wr (ps.getD i 0) (Fs i) (sat S i).1 (sat S i).2
 lo:∀ i,i < k->∀ j,Fs i j->w.heap.size<=j/\o.ownBlock≠some j
 DY:∀ i m,i < k->m < k->i≠m->∀ j,Fs i j->¬ Fs m j
 aG:Below w.heap.size w wr
structure PK (E:TypeId) (w:World) (S:bO) (k:Nat) (o:Value) (ps:List Nat) (Fs:Nat->Nat->Prop) (g:Nat) (F5:Nat->Prop) (wr:World):Prop where
 old:PJ E w S k o ps Fs wr
 new:St wr g F5 (sat S k).1 (sat S k).2
 nlo:∀ j,F5 j->w.heap.size<=j/\o.ownBlock≠some j
 abD:∀ i,i < k->∀ j,F5 j->¬ Fs i j
theorem PJ.start (hb:Below w.heap.size w wr):PJ E w S 0 (.slice none 0 0) [] Fs wr:=⟨Rw.Ow.nil _ _ _,rfl,fun i hi=>by omega,fun i hi=>by omega,fun i m hi=>by omega,hb⟩
theorem PJ.below (h:PJ E w S k o ps Fs wr) (b:Below wr.heap.size wr w1):PJ E w S k o ps Fs w1:=⟨h.own.keep b,h.len,fun i hi=>(h.each i hi).below b,h.lo,h.DY,h.aG.trans (b.mono h.aG.size)⟩
theorem PJ.Di (h:PJ E w S k o ps Fs wr):∀ k,o.ownBlock=some k->k < wr.heap.size:=fun k e=>(ci h.own k e).2
theorem PJ.pend (h:PJ E w S k o ps Fs wr) (b:Below wr.heap.size wr w1) (st:St w1 g F5 (sat S k).1 (sat S k).2) (lo5:∀ j,F5 j->wr.heap.size<=j):PK E w S k o ps Fs g F5 w1 :=
 ⟨h.below b,st,fun j hj=>⟨cG h.aG.size (lo5 j hj),fun e=>by have:=h.Di j e;have:=lo5 j hj;omega⟩,fun i hi j hj q=>by have:=(h.each i hi).low j q;have:=lo5 j hj;omega⟩
theorem PK.below (h:PK E w S k o ps Fs g F5 wr) (b:Below wr.heap.size wr w1):PK E w S k o ps Fs g F5 w1:=⟨h.old.below b,h.new.below b,h.nlo,h.abD⟩
def fsN (Fs:Nat->Nat->Prop) (k:Nat) (F5:Nat->Prop) (i:Nat):Nat->Prop:=if i=k then F5 else Fs i
theorem PK.push (h:PK E w S k o ps Fs g F5 wr) (own:Ow KN w1 w.heap.size E o' (ps ++ [g])) (gr:wr.grownBy w1 o.ownBlock) (hq:o'.ownBlock=o.ownBlock\/∃ g,o'.ownBlock=some g/\wr.heap.size<=g):PJ E w S (k+1) o' (ps ++ [g]) (fsN Fs k F5) w1:=by
 have oq:=aQ gr;have len:=h.old.len;have at_old:∀ i,i < k->(ps ++ [g]).getD i 0=ps.getD i 0:=fun i hi=>by rw [af,fS (by rw [len];exact hi),af]
 have at_new:(ps ++ [g]).getD k 0=g:=by rw [af,fk (by rw [len];exact ac _),len];simp
 have f_old:∀ i,i < k->fsN Fs k F5 i=Fs i:=fun i hi=>aq (by omega);have f_new:fsN Fs k F5 k=F5:=aw rfl;have off:∀ (F:Nat->Prop) j,F j->(∀ j,F j->j < wr.heap.size)->o.ownBlock≠some j->o'.ownBlock≠some j:=fun F j hj hl hn e=>by
  rcases hq with q | ⟨x,q,hx⟩
  ·exact hn (by rw [← q];exact e)
  ·rw [q] at e
   injection e with e;have:=hl j hj
   omega
 refine ⟨own,by rw [cI,len];rfl,fun i hi=>?_,fun i hi=>?_,fun i m hi hm hne=>?_,h.old.aG.grown gr h.old.aG.size fun j e=>(ci h.old.own j e).1⟩
 ·by_cases e:i=k
  ·subst e
   rw [at_new,f_new];exact h.new.only (fun j hj e=>(h.nlo j hj).2 e) oq
  ·rw [at_old i (by omega),f_old i (by omega)]
   exact (h.old.each i (by omega)).only (fun j hj e=>(h.old.lo i (by omega) j hj).2 e) oq
 ·by_cases e:i=k
  ·subst e
   rw [f_new];exact fun j hj=>⟨(h.nlo j hj).1,off F5 j hj h.new.low (h.nlo j hj).2⟩
  ·rw [f_old i (by omega)]
   exact fun j hj=>⟨(h.old.lo i (by omega) j hj).1,off _ j hj (h.old.each i (by omega)).low (h.old.lo i (by omega) j hj).2⟩
 ·by_cases e:i=k
  ·subst e
   rw [f_new,f_old m (by omega)];exact fun j hj=>h.abD m (by omega) j hj
  ·by_cases e2:m=k
   ·subst e2
    rw [f_new,f_old i (by omega)];exact fun j hj q=>h.abD i (by omega) j q hj
   ·rw [f_old i (by omega),f_old m (by omega)]
    exact h.old.DY i m (by omega) (by omega) hne
theorem PJ.low {w0:World} (h:PJ E w S k o ps Fs wr) (hz:w0.heap.size<=w.heap.size) (b:Below w0.heap.size w0 wr):PJ E w0 S k o ps Fs wr:=⟨h.own.low hz,h.len,h.each,fun i hi j hj=>⟨cG hz (h.lo i hi j hj).1,(h.lo i hi j hj).2⟩,h.DY,b⟩
theorem PJ.stl (h:PJ E w S S.length o ps Fs wr):Bg wr o S:=⟨ps,h.own.rd,h.len,fun i hi=>⟨_,h.each i hi⟩⟩
end
def BrP (w:World) (E:Int) (S':bO) (e:Ending) (w':World):Prop:=∃ v ps Fs,e = .returned (.tuple #[v,.int .i64 E])/\(E=0->PJ 72 w S' S'.length v ps Fs w')/\(E≠0->v = .slice none 0 0)/\Below w.heap.size w w'
end Cu
namespace Wt
open Go.RowKit
attribute [local irreducible] Sd.aW wpQuiet
def rowP (r0 r1 s0 s1 n la:Int):Array Value:=#[.int .i64 r0,.int .i64 r1,.int .i64 s0,.int .i64 s1,.int .i64 n,.int .i64 la]
def eT (w:World) (r:Nat) (r0 r1 s0 s1 n la:Int):Prop:=w.heap[r]? = some (.cells (rowP r0 r1 s0 s1 n la) 56 (0,0))
structure Vf (a:A) (s0 s1 n la:Int) (t:Nat):Prop where
 b0:0<=s0/\s0<=n
 b1:0<=s1/\s1<=n
 bl:0<=la/\la<=n
 bn:n<=t
 e0:a.r0=2\/a.r0=3->a.q0=n - (if s0 < la then la else s0)
 e1:a.r1=2\/a.r1=3->a.q1=n - (if s1 < la then la else s1)
def Pf (w:World) (r:Nat) (a:A) (t:Nat):Prop:=∃ s0 s1 n la,eT w r a.r0 a.r1 s0 s1 n la/\Vf a s0 s1 n la t
variable {w w':World} {r t:Nat}
theorem eT.only {r0 r1 s0 s1 n la:Int} {G:Nat->Prop} (h:eT w r r0 r1 s0 s1 n la) (o:Only G w w') (hn:¬ G r):eT w' r r0 r1 s0 s1 n la:=(o.block r (bm h) hn).trans h
theorem Pf.only {w w':World} {r t:Nat} {a:A} {G:Nat->Prop} (h:Pf w r a t) (o:Only G w w') (hn:¬ G r):Pf w' r a t:=by
 obtain ⟨s0,s1,n,la,hr,hv⟩:=h;exact ⟨s0,s1,n,la,hr.only o hn,hv⟩
theorem Pf.below {a:A} (h:Pf w r a t) (b:Below w.heap.size w w'):Pf w' r a t:=h.only (G:=fun _=>False) (Only.of_below b) (fun g=>g)
theorem Pf.lt {a:A} (h:Pf w r a t):r < w.heap.size:=by obtain ⟨_,_,_,_,hr,_⟩:=h;exact bm hr
section
variable {w:World} {r:Nat} {r0 r1 s0 s1 n la:Int} (h:eT w r r0 r1 s0 s1 n la)
include h
theorem eT.set0 (x:Int):eT (w.setCell ⟨r,0,none⟩ (.int .i64 x)) r x r1 s0 s1 n la:=Rw.heap_setCell_same h _
theorem eT.set1 (x:Int):eT (w.setCell ⟨r,1,none⟩ (.int .i64 x)) r r0 x s0 s1 n la:=Rw.heap_setCell_same h _
theorem eT.set2 (x:Int):eT (w.setCell ⟨r,2,none⟩ (.int .i64 x)) r r0 r1 x s1 n la:=Rw.heap_setCell_same h _
theorem eT.pR (x:Int):eT (w.setCell ⟨r,3,none⟩ (.int .i64 x)) r r0 r1 s0 x n la:=Rw.heap_setCell_same h _
theorem eT.adU (x:Int):eT (w.setCell ⟨r,4,none⟩ (.int .i64 x)) r r0 r1 s0 s1 x la:=Rw.heap_setCell_same h _
theorem eT.Xp (x:Int):eT (w.setCell ⟨r,5,none⟩ (.int .i64 x)) r r0 r1 s0 s1 n x:=Rw.heap_setCell_same h _
end
theorem aO (r k:Nat) (w:World) (u:Value):Only (fun b=>b=r) w (w.setCell ⟨r,k,none⟩ u):=Only.set (fun b=>b=r) w (a:=⟨r,k,none⟩) rfl u
theorem bM {w1 w2:World} (h:Only (fun b=>b=r) w w1) (g:Only (fun b=>b=r) w1 w2):Only (fun b=>b=r) w w2:=h.trans g fun _ _ q=>q
def kU (w:World) (e:Ending) (w':World):Prop:=∃ r,e = .returned (.pointer (some ⟨r,0,none⟩))/\Pf w' r new 0/\w.heap.size<=r/\Below w.heap.size w w'
theorem nQ (w:World):Calls prog 25 #[] w (kU w):=by
 have E:Hid (kU w (.returned (.pointer (some ⟨w.heap.size,0,none⟩))) (w.alloc (.cells #[.int .i64 1,.int .i64 2,.int .i64 0,.int .i64 0,.int .i64 0,.int .i64 0] 56))):=Hh ⟨_,rfl,⟨0,0,0,0,bh w _,⟨by decide,by decide,by decide,by decide,fun _=>rfl,fun _=>rfl⟩⟩,ac _,(aa _ _).alloc (ac _) _⟩
 go_enter func25,ntmps25
 go_wp2
 go_ret
 exact E
def MH (s n la:Int):Int:=n - (if s < la then la else s)
variable {r0 r1 s0 s1 n la z0 z1:Int}
theorem WU (h:eT w r r0 r1 s0 s1 n la) (b:(0<=s0/\s0<=n)/\(0<=la/\la<=n)/\n<=100000):Calls prog 90 #[.pointer (some ⟨r,0,none⟩),.int .i64 0] w fun e w'=>e = .returned (.int .i64 (MH s0 n la))/\Below w.heap.size w w':=by
 have c0:=Fl.rc h 2;have c4:=Fl.rc h 4;have c5:=Fl.rc h 5;clear h
 by_cases q:s0 < la
 ·have w1:IntKind.i64.wrap (n - la)=n - la:=cE _ (by omega)
  have E:Hid (Ending.returned (.int .i64 (n - la)) = .returned (.int .i64 (MH s0 n la))):=Hh (by unfold MH;rw [aw q])
  go_enter func90,ntmps90
  go_wp2
  go_ret
  exact ⟨E,aa _ _⟩
 ·have w1:IntKind.i64.wrap (n - s0)=n - s0:=cE _ (by omega)
  have E:Hid (Ending.returned (.int .i64 (n - s0)) = .returned (.int .i64 (MH s0 n la))):=Hh (by unfold MH;rw [aq q])
  go_enter func90,ntmps90
  go_wp2
  go_ret
  exact ⟨E,aa _ _⟩
theorem Zl (h:eT w r r0 r1 s0 s1 n la) (b:(0<=s1/\s1<=n)/\(0<=la/\la<=n)/\n<=100000):Calls prog 90 #[.pointer (some ⟨r,0,none⟩),.int .i64 1] w fun e w'=>e = .returned (.int .i64 (MH s1 n la))/\Below w.heap.size w w':=by
 have c0:=Fl.rc h 3;have c4:=Fl.rc h 4;have c5:=Fl.rc h 5;clear h
 by_cases q:s1 < la
 ·have w1:IntKind.i64.wrap (n - la)=n - la:=cE _ (by omega)
  have E:Hid (Ending.returned (.int .i64 (n - la)) = .returned (.int .i64 (MH s1 n la))):=Hh (by unfold MH;rw [aw q])
  go_enter func90,ntmps90
  go_wp2
  go_ret
  exact ⟨E,aa _ _⟩
 ·have w1:IntKind.i64.wrap (n - s1)=n - s1:=cE _ (by omega)
  have E:Hid (Ending.returned (.int .i64 (n - s1)) = .returned (.int .i64 (MH s1 n la))):=Hh (by unfold MH;rw [aq q])
  go_enter func90,ntmps90
  go_wp2
  go_ret
  exact ⟨E,aa _ _⟩
def dh (w:World) (r:Nat) (x:Int) (a:A) (t:Nat) (e:Ending) (w':World):Prop:=e = .returned (.int .i64 x)/\Pf w' r a t/\Only (fun b=>b=r) w w'
variable {a:A}
theorem Zt (P:Pf w r a t):Calls prog 40 #[.pointer (some ⟨r,0,none⟩),.int .i64 0] w (dh w r (pU a 0) (kG a 0) t):=by
 obtain ⟨s0,s1,n,la,hr,hv⟩:=P;have e1:pU a 0=if a.r0=4 then 10 else 0:=rfl;have e2:kG a 0 = { a with r0:=4 }:=rfl;have c0:=Fl.rc hr 0;have f0:=aj hr 0
 by_cases q:a.r0=4
 ·have E:Hid (dh w r (pU a 0) (kG a 0) t (.returned (.int .i64 10)) w):=Hh ⟨by rw [e1,aw q],by rw [e2];exact ⟨s0,s1,n,la,by rw [q] at hr;exact hr,⟨hv.b0,hv.b1,hv.bl,hv.bn,(fun g=>absurd g (by show ¬ ((4:Int)=2\/(4:Int)=3);decide)),hv.e1⟩⟩,Only.refl _ _⟩
  rw [q] at c0;clear hr hv e1 e2;generalize pU a 0=x at *;generalize kG a 0=a' at *
  go_enter func40,ntmps40
  go_wp2
  go_ret
  exact E
 ·have E:Hid (dh w r (pU a 0) (kG a 0) t (.returned (.int .i64 0)) (w.setCell ⟨r,0,none⟩ (.int .i64 4))):=Hh ⟨by rw [e1,aq q],by rw [e2];exact ⟨s0,s1,n,la,hr.set0 4,⟨hv.b0,hv.b1,hv.bl,hv.bn,(fun g=>absurd g (by show ¬ ((4:Int)=2\/(4:Int)=3);decide)),hv.e1⟩⟩,aO r 0 w _⟩
  clear hr hv e1 e2;generalize pU a 0=x' at *;generalize kG a 0=a' at *;generalize a.r0=x at *
  go_enter func40,ntmps40
  go_wp2
  go_ret
  exact E
theorem Zj (P:Pf w r a t):Calls prog 40 #[.pointer (some ⟨r,0,none⟩),.int .i64 1] w (dh w r (pU a 1) (kG a 1) t):=by
 obtain ⟨s0,s1,n,la,hr,hv⟩:=P;have e1:pU a 1=if a.r1=4 then 10 else 0:=rfl;have e2:kG a 1 = { a with r1:=4 }:=rfl;have c0:=Fl.rc hr 1;have f0:=aj hr 1
 by_cases q:a.r1=4
 ·have E:Hid (dh w r (pU a 1) (kG a 1) t (.returned (.int .i64 10)) w):=Hh ⟨by rw [e1,aw q],by rw [e2];exact ⟨s0,s1,n,la,by rw [q] at hr;exact hr,⟨hv.b0,hv.b1,hv.bl,hv.bn,hv.e0,(fun g=>absurd g (by show ¬ ((4:Int)=2\/(4:Int)=3);decide))⟩⟩,Only.refl _ _⟩
  rw [q] at c0;clear hr hv e1 e2;generalize pU a 1=x at *;generalize kG a 1=a' at *
  go_enter func40,ntmps40
  go_wp2
  go_ret
  exact E
 ·have E:Hid (dh w r (pU a 1) (kG a 1) t (.returned (.int .i64 0)) (w.setCell ⟨r,1,none⟩ (.int .i64 4))):=Hh ⟨by rw [e1,aq q],by rw [e2];exact ⟨s0,s1,n,la,hr.set1 4,⟨hv.b0,hv.b1,hv.bl,hv.bn,hv.e0,(fun g=>absurd g (by show ¬ ((4:Int)=2\/(4:Int)=3);decide))⟩⟩,aO r 1 w _⟩
  clear hr hv e1 e2;generalize pU a 1=x' at *;generalize kG a 1=a' at *;generalize a.r1=x at *
  go_enter func40,ntmps40
  go_wp2
  go_ret
  exact E
theorem yE (P:Pf w r a t) (n:Int):Calls prog 40 #[.pointer (some ⟨r,0,none⟩),.int .i64 n] w (dh w r (pU a n) (kG a n) t):=by
 by_cases h0:n=0
 ·subst h0;exact Zt P
 ·by_cases h1:n=1
  ·subst h1;exact Zj P
  ·have E:Hid (dh w r (pU a n) (kG a n) t (.returned (.int .i64 1)) w):=Hh ⟨by unfold pU;rw [aq h0,aq h1],by unfold kG;rw [aq h0,aq h1];exact P,Only.refl _ _⟩
   clear P;have q0:=fj.2 h0;have q1:=fj.2 h1
   go_enter func40,ntmps40
   go_wp2
   go_ret
   exact E
theorem QK (P:Pf w r a t):Calls prog 41 #[.pointer (some ⟨r,0,none⟩),.int .i64 0] w (dh w r (rsE a 0) (kH a 0) t):=by
 obtain ⟨s0,s1,n,la,hr,hv⟩:=P;have e1:rsE a 0=if a.r0=4 then 0 else 10:=rfl;have e2:kH a 0=if a.r0=4 then { a with r0:=3,q0:=0 } else a:=rfl;have c0:=Fl.rc hr 0
 by_cases q:a.r0=4
 ·have FIN:Hid (∀ w',Only (fun b=>b=r) w w'->eT w' r a.r0 a.r1 s0 s1 n la->dh w r (rsE a 0) (kH a 0) t (.returned (.int .i64 0)) ((w'.setCell ⟨r,0,none⟩ (.int .i64 3)).setCell ⟨r,2,none⟩ (.int .i64 n))):=Hh (fun w' oo hh=>⟨by rw [e1,aw q],by
   rw [e2,aw q]
   exact ⟨n,s1,n,la,(hh.set0 3).set2 n,⟨⟨by have:=hv.bl;omega,gk _⟩,hv.b1,hv.bl,hv.bn,(fun _=>by show (0:Int)=n - (if n < la then la else n);have:=hv.bl;rw [aq (by omega)];omega),hv.e1⟩⟩,bM oo (bM (aO r 0 w' _) (aO r 2 _ _))⟩)
  have OO:Hid (Only (fun b=>b=r) w w.drew):=Hh (Only.of_below (aa _ _).drew);have HH:=Hh hr;rw [q] at c0;have D4:=Hh q;clear hr hv q e1 e2;generalize rsE a 0=x' at *;generalize kH a 0=a' at *
  go_enter func41,ntmps41
  go_upto_region 5 with fail;clear c0;have E:=Hh (FIN _ OO HH);have R0:eT w.drew r a.r0 a.r1 s0 s1 n la:=HH;have c4:=Sc.ay (C:=fun W=>W.cell? ⟨r,4,none⟩=some (.int .i64 n)) (a:=⟨r,4,none⟩) (fun W h=>h);have C0:=Fl.rc R0 4;have ne:Nonempty (Sc.In (fun W=>W.cell? ⟨r,4,none⟩=some (.int .i64 n))):=⟨⟨_,C0⟩⟩;clear FIN OO HH;refine Sc.start (fun W=>W.cell? ⟨r,4,none⟩=some (.int .i64 n)) [(false,0),(false,1),(false,2),(false,3),(false,4),(false,5),(false,6),(false,7),(false,8),(false,9),(false,10),(false,12),(false,13),(true,11),(false,14),(true,15)] (by kernel_rfl) (by kernel_rfl) (by kernel_rfl) C0 ?_;dsimp only [Sd.aM,List.getElem?_cons_succ,List.getElem?_cons_zero]
  repeat (refine Sd.lit ?_;quiet_step (fail);refine bk ?_)
  clear c4;generalize w.drew=W at *;refine Sd.call (by rfl) (fun K hK=>?_);have d0:=Fl.rc R0 0;have g0:=aj R0 0;have R1:Hid (eT (W.setCell ⟨r,0,none⟩ (.int .i64 3)) r 3 a.r1 s0 s1 n la):=Hh (R0.set0 3);clear R0 C0;generalize a.r0=x at *;go_simp;refine hK _ _ (Sc.Cl.of (ah R1 4)) ?_;clear hK K d0 g0;generalize W.setCell ⟨r,0,none⟩ (.int .i64 3)=W1 at *
  repeat (refine Sd.lit ?_;quiet_step (fail);refine bk ?_)
  refine Sd.call (by rfl) (fun K hK=>?_);have d0:=Fl.rc R1 2;have g0:=aj R1 2;have R2:=Hh (R1.set2 n);clear R1;go_simp;refine hK _ _ (Sc.Cl.of (ah R2 4)) ?_;clear hK K d0 g0 R2;generalize W1.setCell ⟨r,2,none⟩ (.int .i64 n)=W2 at *;refine Sd.done ?_;go_wp2
  go_ret
  exact E
 ·have E:Hid (dh w r (rsE a 0) (kH a 0) t (.returned (.int .i64 10)) w):=Hh ⟨by rw [e1,aq q],by rw [e2,aq q];exact ⟨s0,s1,n,la,hr,hv⟩,Only.refl _ _⟩
  clear hr hv e1 e2;generalize rsE a 0=x' at *;generalize kH a 0=a' at *;generalize a.r0=x at *
  go_enter func41,ntmps41
  go_wp2
  go_ret
  exact E
theorem Qe (P:Pf w r a t):Calls prog 41 #[.pointer (some ⟨r,0,none⟩),.int .i64 1] w (dh w r (rsE a 1) (kH a 1) t):=by
 obtain ⟨s0,s1,n,la,hr,hv⟩:=P;have e1:rsE a 1=if a.r1=4 then 0 else 10:=rfl;have e2:kH a 1=if a.r1=4 then { a with r1:=3,q1:=0 } else a:=rfl;have c0:=Fl.rc hr 1
 by_cases q:a.r1=4
 ·have FIN:Hid (∀ w',Only (fun b=>b=r) w w'->eT w' r a.r0 a.r1 s0 s1 n la->dh w r (rsE a 1) (kH a 1) t (.returned (.int .i64 0)) ((w'.setCell ⟨r,1,none⟩ (.int .i64 3)).setCell ⟨r,3,none⟩ (.int .i64 n))):=Hh (fun w' oo hh=>⟨by rw [e1,aw q],by
   rw [e2,aw q]
   exact ⟨s0,n,n,la,(hh.set1 3).pR n,⟨hv.b0,⟨by have:=hv.bl;omega,gk _⟩,hv.bl,hv.bn,hv.e0,(fun _=>by show (0:Int)=n - (if n < la then la else n);have:=hv.bl;rw [aq (by omega)];omega)⟩⟩,bM oo (bM (aO r 1 w' _) (aO r 3 _ _))⟩)
  have OO:Hid (Only (fun b=>b=r) w w.drew):=Hh (Only.of_below (aa _ _).drew);have HH:=Hh hr;rw [q] at c0;have D4:=Hh q;clear hr hv q e1 e2;generalize rsE a 1=x' at *;generalize kH a 1=a' at *
  go_enter func41,ntmps41
  go_upto_region 5 with fail;clear c0;have E:=Hh (FIN _ OO HH);have R0:eT w.drew r a.r0 a.r1 s0 s1 n la:=HH;have c4:=Sc.ay (C:=fun W=>W.cell? ⟨r,4,none⟩=some (.int .i64 n)) (a:=⟨r,4,none⟩) (fun W h=>h);have C0:=Fl.rc R0 4;have ne:Nonempty (Sc.In (fun W=>W.cell? ⟨r,4,none⟩=some (.int .i64 n))):=⟨⟨_,C0⟩⟩;clear FIN OO HH;refine Sc.start (fun W=>W.cell? ⟨r,4,none⟩=some (.int .i64 n)) [(false,0),(false,1),(false,2),(false,3),(false,4),(false,5),(false,6),(false,7),(false,8),(false,9),(false,10),(false,12),(false,13),(true,11),(false,14),(true,15)] (by kernel_rfl) (by kernel_rfl) (by kernel_rfl) C0 ?_;dsimp only [Sd.aM,List.getElem?_cons_succ,List.getElem?_cons_zero]
  repeat (refine Sd.lit ?_;quiet_step (fail);refine bk ?_)
  clear c4;generalize w.drew=W at *;refine Sd.call (by rfl) (fun K hK=>?_);have d0:=Fl.rc R0 1;have g0:=aj R0 1;have R1:Hid (eT (W.setCell ⟨r,1,none⟩ (.int .i64 3)) r a.r0 3 s0 s1 n la):=Hh (R0.set1 3);clear R0 C0;generalize a.r1=x at *;go_simp;refine hK _ _ (Sc.Cl.of (ah R1 4)) ?_;clear hK K d0 g0;generalize W.setCell ⟨r,1,none⟩ (.int .i64 3)=W1 at *
  repeat (refine Sd.lit ?_;quiet_step (fail);refine bk ?_)
  refine Sd.call (by rfl) (fun K hK=>?_);have d0:=Fl.rc R1 3;have g0:=aj R1 3;have R2:=Hh (R1.pR n);clear R1;go_simp;refine hK _ _ (Sc.Cl.of (ah R2 4)) ?_;clear hK K d0 g0 R2;generalize W1.setCell ⟨r,3,none⟩ (.int .i64 n)=W2 at *;refine Sd.done ?_;go_wp2
  go_ret
  exact E
 ·have E:Hid (dh w r (rsE a 1) (kH a 1) t (.returned (.int .i64 10)) w):=Hh ⟨by rw [e1,aq q],by rw [e2,aq q];exact ⟨s0,s1,n,la,hr,hv⟩,Only.refl _ _⟩
  clear hr hv e1 e2;generalize rsE a 1=x' at *;generalize kH a 1=a' at *;generalize a.r1=x at *
  go_enter func41,ntmps41
  go_wp2
  go_ret
  exact E
theorem rY (P:Pf w r a t) (n:Int):Calls prog 41 #[.pointer (some ⟨r,0,none⟩),.int .i64 n] w (dh w r (rsE a n) (kH a n) t):=by
 by_cases h0:n=0
 ·subst h0;exact QK P
 ·by_cases h1:n=1
  ·subst h1;exact Qe P
  ·have E:Hid (dh w r (rsE a n) (kH a n) t (.returned (.int .i64 1)) w):=Hh ⟨by unfold rsE;rw [aq h0,aq h1],by unfold kH;rw [aq h0,aq h1];exact P,Only.refl _ _⟩
   clear P;have q0:=fj.2 h0;have q1:=fj.2 h1
   go_enter func41,ntmps41
   go_wp2
   go_ret
   exact E
def adN (r0 z0 r1 z1:Int):Array Value:=#[.int .i64 r0,.int .i64 z0,.int .i64 r1,.int .i64 z1]
def dZ (w:World) (s:Nat) (r0 z0 r1 z1:Int):Prop:=w.heap[s]? = some (.cells (adN r0 z0 r1 z1) 107 (0,0))
theorem dZ.only {s:Nat} {G:Nat->Prop} (h:dZ w s r0 z0 r1 z1) (o:Only G w w') (hn:¬ G s):dZ w' s r0 z0 r1 z1:=(o.block s (bm h) hn).trans h
section
variable {w:World} {s:Nat} {r0 z0 r1 z1:Int} (h:dZ w s r0 z0 r1 z1)
include h
theorem dZ.below (b:Below w.heap.size w w'):dZ w' s r0 z0 r1 z1:=h.only (G:=fun _=>False) (Only.of_below b) (fun g=>g)
theorem dZ.set0 (x:Int):dZ (w.setCell ⟨s,0,none⟩ (.int .i64 x)) s x z0 r1 z1:=Rw.heap_setCell_same h _
theorem dZ.set1 (x:Int):dZ (w.setCell ⟨s,1,none⟩ (.int .i64 x)) s r0 x r1 z1:=Rw.heap_setCell_same h _
theorem dZ.set2 (x:Int):dZ (w.setCell ⟨s,2,none⟩ (.int .i64 x)) s r0 z0 x z1:=Rw.heap_setCell_same h _
theorem dZ.pR (x:Int):dZ (w.setCell ⟨s,3,none⟩ (.int .i64 x)) s r0 z0 r1 x:=Rw.heap_setCell_same h _
end
structure Vm (a:A) (z0 z1:Int) (t:Nat):Prop where
 b0:0<=z0/\z0<=t
 b1:0<=z1/\z1<=t
 e0:a.r0=2\/a.r0=3->a.q0=z0
 e1:a.r1=2\/a.r1=3->a.q1=z1
def Pr (w:World) (s:Nat) (a:A) (t:Nat):Prop:=∃ z0 z1,dZ w s a.r0 z0 a.r1 z1/\Vm a z0 z1 t
theorem Pr.only {w w':World} {s t:Nat} {a:A} {G:Nat->Prop} (h:Pr w s a t) (o:Only G w w') (hn:¬ G s):Pr w' s a t:=by
 obtain ⟨z0,z1,hr,hv⟩:=h;exact ⟨z0,z1,hr.only o hn,hv⟩
variable {s:Nat}
theorem Pr.lt (h:Pr w s a t):s < w.heap.size:=by obtain ⟨_,_,hr,_⟩:=h;exact bm hr
def zD (w:World) (e:Ending) (w':World):Prop:=∃ s,e = .returned (.pointer (some ⟨s,0,none⟩))/\Pr w' s new 0/\w.heap.size<=s/\Below w.heap.size w w'
def aY (w:World) (s:Nat) (x:Int) (a:A) (t:Nat) (e:Ending) (w':World):Prop:=e = .returned (.int .i64 x)/\Pr w' s a t/\Only (fun b=>b=s) w w'
theorem rA (w:World):Calls prog 22 #[] w (zD w):=by
 have E:Hid (zD w (.returned (.pointer (some ⟨w.heap.size,0,none⟩))) (w.alloc (.cells #[.int .i64 1,.int .i64 0,.int .i64 2,.int .i64 0] 107))):=Hh ⟨_,rfl,⟨0,0,bh w _,⟨by decide,by decide,fun _=>rfl,fun _=>rfl⟩⟩,ac _,(aa _ _).alloc (ac _) _⟩
 go_enter func22,ntmps22
 go_wp2
 go_ret
 exact E
def hs (n:Int):Bool:=decide (0<=n) && decide (n < 2)
theorem fU (w:World) (s:Nat) (n:Int):Calls prog 72 #[.pointer (some ⟨s,0,none⟩),.int .i64 n] w fun e w'=>e = .returned (.bool (hs n))/\Below w.heap.size w w':=by
 have E:Hid (hs n=(decide (0<=n) && decide (n < 2))):=Hh rfl;generalize hs n=b at *
 by_cases h0:0<=n
 ·by_cases h2:n < 2
  ·obtain rfl:b=true:=by rw [E.out];simp [h0,h2]
   clear E
   go_enter func72,ntmps72
   go_wp2
   go_ret
   exact ⟨rfl,aa _ _⟩
  ·obtain rfl:b=false:=by rw [E.out];simp [h2]
   clear E
   go_enter func72,ntmps72
   go_wp2
   go_ret
   exact ⟨rfl,aa _ _⟩
 ·obtain rfl:b=false:=by rw [E.out];simp [h0]
  clear E
  go_enter func72,ntmps72
  go_wp2
  go_ret
  exact ⟨rfl,aa _ _⟩
theorem VK (h0:n≠0) (h1:n≠1):hs n=false:=by
 unfold hs
 by_cases a:0<=n
 ·have:¬ n < 2:=by omega
  simp [this]
 ·simp [a]
theorem ab4 (P:Pr w s a t):Calls prog 62 #[.pointer (some ⟨s,0,none⟩),.int .i64 0] w (aY w s (pU a 0) (kG a 0) t):=by
 obtain ⟨z0,z1,hr,hv⟩:=P;have H:=Hh (fU w s 0);rw [show hs 0=true from rfl] at H;have e1:pU a 0=if a.r0=4 then 10 else 0:=rfl;have e2:kG a 0 = { a with r0:=4 }:=rfl
 by_cases q:a.r0=4
 ·have E:Hid (∀ w',Below w.heap.size w w'->aY w s (pU a 0) (kG a 0) t (.returned (.int .i64 10)) w'):=Hh fun w' b=>⟨by rw [e1,aw q],by rw [e2];exact ⟨z0,z1,by have:=hr.below b;rw [q] at this;exact this,⟨hv.b0,hv.b1,(fun g=>absurd g (by show ¬ ((4:Int)=2\/(4:Int)=3);decide)),hv.e1⟩⟩,Only.of_below b⟩
  have R:=Hh hr;rw [q] at R;clear hr hv e1 e2;generalize pU a 0=x at *;generalize kG a 0=a' at *
  go_enter func62,ntmps62
  go_wp2_with fail;refine H.mono ?_;rintro e w1 ⟨rfl,b1⟩;have c0:=Fl.rc (R.below b1) 0;have F:=Hh (E w1 b1);clear R H E b1 q;go_wp2
  go_ret
  exact F
 ·have E:Hid (∀ w',Below w.heap.size w w'->aY w s (pU a 0) (kG a 0) t (.returned (.int .i64 0)) ((w'.setCell ⟨s,0,none⟩ (.int .i64 4)).setCell ⟨s,1,none⟩ (.int .i64 0))):=Hh fun w' b=>⟨by rw [e1,aq q],by rw [e2];exact ⟨0,z1,((hr.below b).set0 4).set1 0,⟨⟨by decide,by omega⟩,hv.b1,(fun g=>absurd g (by show ¬ ((4:Int)=2\/(4:Int)=3);decide)),hv.e1⟩⟩,((Only.of_below b).trans (aO s 0 _ _) (fun _ _ q=>q)).trans (aO s 1 _ _) (fun _ _ q=>q)⟩
  have R:=Hh hr;clear hr hv e1 e2;generalize pU a 0=x' at *;generalize kG a 0=a' at *;generalize a.r0=x0 at *;generalize a.r1=x1 at *
  go_enter func62,ntmps62
  go_wp2_with fail;refine H.mono ?_;rintro e w1 ⟨rfl,b1⟩;have c0:=Fl.rc (R.below b1) 0;have f0:=aj (R.below b1) 0;have f1:=aj (R.below b1) 1;have c1:=Fl.rc (R.below b1) 1;have F:=Hh (E w1 b1);clear R H E b1;go_wp2
  go_ret
  exact F
theorem abK (P:Pr w s a t):Calls prog 62 #[.pointer (some ⟨s,0,none⟩),.int .i64 1] w (aY w s (pU a 1) (kG a 1) t):=by
 obtain ⟨z0,z1,hr,hv⟩:=P;have H:=Hh (fU w s 1);rw [show hs 1=true from rfl] at H;have e1:pU a 1=if a.r1=4 then 10 else 0:=rfl;have e2:kG a 1 = { a with r1:=4 }:=rfl
 by_cases q:a.r1=4
 ·have E:Hid (∀ w',Below w.heap.size w w'->aY w s (pU a 1) (kG a 1) t (.returned (.int .i64 10)) w'):=Hh fun w' b=>⟨by rw [e1,aw q],by rw [e2];exact ⟨z0,z1,by have:=hr.below b;rw [q] at this;exact this,⟨hv.b0,hv.b1,hv.e0,(fun g=>absurd g (by show ¬ ((4:Int)=2\/(4:Int)=3);decide))⟩⟩,Only.of_below b⟩
  have R:=Hh hr;rw [q] at R;clear hr hv e1 e2;generalize pU a 1=x at *;generalize kG a 1=a' at *
  go_enter func62,ntmps62
  go_wp2_with fail;refine H.mono ?_;rintro e w1 ⟨rfl,b1⟩;have c0:=Fl.rc (R.below b1) 2;have F:=Hh (E w1 b1);clear R H E b1 q;go_wp2
  go_ret
  exact F
 ·have E:Hid (∀ w',Below w.heap.size w w'->aY w s (pU a 1) (kG a 1) t (.returned (.int .i64 0)) ((w'.setCell ⟨s,2,none⟩ (.int .i64 4)).setCell ⟨s,3,none⟩ (.int .i64 0))):=Hh fun w' b=>⟨by rw [e1,aq q],by rw [e2];exact ⟨z0,0,((hr.below b).set2 4).pR 0,⟨hv.b0,⟨by decide,by omega⟩,hv.e0,(fun g=>absurd g (by show ¬ ((4:Int)=2\/(4:Int)=3);decide))⟩⟩,((Only.of_below b).trans (aO s 2 _ _) (fun _ _ q=>q)).trans (aO s 3 _ _) (fun _ _ q=>q)⟩
  have R:=Hh hr;clear hr hv e1 e2;generalize pU a 1=x' at *;generalize kG a 1=a' at *;generalize a.r0=x0 at *;generalize a.r1=x1 at *
  go_enter func62,ntmps62
  go_wp2_with fail;refine H.mono ?_;rintro e w1 ⟨rfl,b1⟩;have c0:=Fl.rc (R.below b1) 2;have f0:=aj (R.below b1) 2;have f1:=aj (R.below b1) 3;have c1:=Fl.rc (R.below b1) 3;have F:=Hh (E w1 b1);clear R H E b1;go_wp2
  go_ret
  exact F
theorem Pk (P:Pr w s a t) (n:Int):Calls prog 62 #[.pointer (some ⟨s,0,none⟩),.int .i64 n] w (aY w s (pU a n) (kG a n) t):=by
 by_cases h0:n=0
 ·subst h0;exact ab4 P
 ·by_cases h1:n=1
  ·subst h1;exact abK P
  ·have E:Hid (∀ w',Below w.heap.size w w'->aY w s (pU a n) (kG a n) t (.returned (.int .i64 1)) w'):=Hh fun w' b=>⟨by unfold pU;rw [aq h0,aq h1],by unfold kG;rw [aq h0,aq h1];exact P.only (G:=fun _=>False) (Only.of_below b) (fun g=>g),Only.of_below b⟩
   have H:=Hh (fU w s n);rw [VK h0 h1] at H;clear P h0 h1
   go_enter func62,ntmps62
   go_wp2_with fail;refine H.mono ?_;rintro e w1 ⟨rfl,b1⟩;have F:=Hh (E w1 b1);clear H E b1;go_wp2
   go_ret
   exact F
theorem Ss (P:Pr w s a t):Calls prog 63 #[.pointer (some ⟨s,0,none⟩),.int .i64 0] w (aY w s (rsE a 0) (kH a 0) t):=by
 obtain ⟨z0,z1,hr,hv⟩:=P;have H:=Hh (fU w s 0);rw [show hs 0=true from rfl] at H;have e1:rsE a 0=if a.r0=4 then 0 else 10:=rfl;have e2:kH a 0=if a.r0=4 then { a with r0:=3,q0:=0 } else a:=rfl
 by_cases q:a.r0=4
 ·have E:Hid (∀ w',Below w.heap.size w w'->aY w s (rsE a 0) (kH a 0) t (.returned (.int .i64 0)) ((w'.setCell ⟨s,0,none⟩ (.int .i64 3)).setCell ⟨s,1,none⟩ (.int .i64 0))):=Hh fun w' b=>⟨by rw [e1,aw q],by rw [e2,aw q];exact ⟨0,z1,((hr.below b).set0 3).set1 0,⟨⟨by decide,by omega⟩,hv.b1,(fun _=>rfl),hv.e1⟩⟩,((Only.of_below b).trans (aO s 0 _ _) (fun _ _ q=>q)).trans (aO s 1 _ _) (fun _ _ q=>q)⟩
  have R:=Hh hr;rw [q] at R;clear hr hv e1 e2;generalize rsE a 0=x at *;generalize kH a 0=a' at *
  go_enter func63,ntmps63
  go_wp2_with fail;refine H.mono ?_;rintro e w1 ⟨rfl,b1⟩;have c0:=Fl.rc (R.below b1) 0;have f0:=aj (R.below b1) 0;have f1:=aj (R.below b1) 1;have c1:=Fl.rc (R.below b1) 1;have F:=Hh (E w1 b1);clear R H E b1 q;go_wp2
  go_ret
  exact F
 ·have E:Hid (∀ w',Below w.heap.size w w'->aY w s (rsE a 0) (kH a 0) t (.returned (.int .i64 10)) w'):=Hh fun w' b=>⟨by rw [e1,aq q],by rw [e2,aq q];exact ⟨z0,z1,hr.below b,hv⟩,Only.of_below b⟩
  have R:=Hh hr;have q4:=fj.2 q;clear hr hv e1 e2 q;generalize rsE a 0=x' at *;generalize kH a 0=a' at *;generalize a.r0=x0 at *;generalize a.r1=x1 at *
  go_enter func63,ntmps63
  go_wp2_with fail;refine H.mono ?_;rintro e w1 ⟨rfl,b1⟩;have c0:=Fl.rc (R.below b1) 0;have F:=Hh (E w1 b1);clear R H E b1;go_wp2
  go_ret
  exact F
theorem Ut (P:Pr w s a t):Calls prog 63 #[.pointer (some ⟨s,0,none⟩),.int .i64 1] w (aY w s (rsE a 1) (kH a 1) t):=by
 obtain ⟨z0,z1,hr,hv⟩:=P;have H:=Hh (fU w s 1);rw [show hs 1=true from rfl] at H;have e1:rsE a 1=if a.r1=4 then 0 else 10:=rfl;have e2:kH a 1=if a.r1=4 then { a with r1:=3,q1:=0 } else a:=rfl
 by_cases q:a.r1=4
 ·have E:Hid (∀ w',Below w.heap.size w w'->aY w s (rsE a 1) (kH a 1) t (.returned (.int .i64 0)) ((w'.setCell ⟨s,2,none⟩ (.int .i64 3)).setCell ⟨s,3,none⟩ (.int .i64 0))):=Hh fun w' b=>⟨by rw [e1,aw q],by rw [e2,aw q];exact ⟨z0,0,((hr.below b).set2 3).pR 0,⟨hv.b0,⟨by decide,by omega⟩,hv.e0,(fun _=>rfl)⟩⟩,((Only.of_below b).trans (aO s 2 _ _) (fun _ _ q=>q)).trans (aO s 3 _ _) (fun _ _ q=>q)⟩
  have R:=Hh hr;rw [q] at R;clear hr hv e1 e2;generalize rsE a 1=x at *;generalize kH a 1=a' at *
  go_enter func63,ntmps63
  go_wp2_with fail;refine H.mono ?_;rintro e w1 ⟨rfl,b1⟩;have c0:=Fl.rc (R.below b1) 2;have f0:=aj (R.below b1) 2;have f1:=aj (R.below b1) 3;have c1:=Fl.rc (R.below b1) 3;have F:=Hh (E w1 b1);clear R H E b1 q;go_wp2
  go_ret
  exact F
 ·have E:Hid (∀ w',Below w.heap.size w w'->aY w s (rsE a 1) (kH a 1) t (.returned (.int .i64 10)) w'):=Hh fun w' b=>⟨by rw [e1,aq q],by rw [e2,aq q];exact ⟨z0,z1,hr.below b,hv⟩,Only.of_below b⟩
  have R:=Hh hr;have q4:=fj.2 q;clear hr hv e1 e2 q;generalize rsE a 1=x' at *;generalize kH a 1=a' at *;generalize a.r0=x0 at *;generalize a.r1=x1 at *
  go_enter func63,ntmps63
  go_wp2_with fail;refine H.mono ?_;rintro e w1 ⟨rfl,b1⟩;have c0:=Fl.rc (R.below b1) 2;have F:=Hh (E w1 b1);clear R H E b1;go_wp2
  go_ret
  exact F
theorem Ic (P:Pr w s a t) (n:Int):Calls prog 63 #[.pointer (some ⟨s,0,none⟩),.int .i64 n] w (aY w s (rsE a n) (kH a n) t):=by
 by_cases h0:n=0
 ·subst h0;exact Ss P
 ·by_cases h1:n=1
  ·subst h1;exact Ut P
  ·have E:Hid (∀ w',Below w.heap.size w w'->aY w s (rsE a n) (kH a n) t (.returned (.int .i64 1)) w'):=Hh fun w' b=>⟨by unfold rsE;rw [aq h0,aq h1],by unfold kH;rw [aq h0,aq h1];exact P.only (G:=fun _=>False) (Only.of_below b) (fun g=>g),Only.of_below b⟩
   have H:=Hh (fU w s n);rw [VK h0 h1] at H;clear P h0 h1
   go_enter func63,ntmps63
   go_wp2_with fail;refine H.mono ?_;rintro e w1 ⟨rfl,b1⟩;have F:=Hh (E w1 b1);clear H E b1;go_wp2
   go_ret
   exact F
theorem ME {x:Int} (k:Nat) (hk:k < 2) (c:∀ w',Below w.heap.size w w'->w'.cell? ⟨s,2 * k,none⟩=some (.int .i64 x)):Calls prog 43 #[.pointer (some ⟨s,0,none⟩),.int .i64 (k:Int)] w fun e w'=>e = .returned (.int .i64 x)/\Below w.heap.size w w':=by
 have H:=Hh (fU w s k)
 rcases (by omega:k=0\/k=1) with rfl | rfl
 ·rw [show hs ((0:Nat):Int)=true from rfl] at H
  go_enter func43,ntmps43
  go_wp2_with fail;refine H.mono ?_;rintro e w1 ⟨rfl,b1⟩;have c0:=c w1 b1;have B1:=Hh b1;clear H b1 c;go_wp2
  go_ret
  exact ⟨rfl,B1⟩
 ·rw [show hs ((1:Nat):Int)=true from rfl] at H
  go_enter func43,ntmps43
  go_wp2_with fail;refine H.mono ?_;rintro e w1 ⟨rfl,b1⟩;have c0:=c w1 b1;have B1:=Hh b1;clear H b1 c;go_wp2
  go_ret
  exact ⟨rfl,B1⟩
theorem Vt (P:Pr w s a t) (n:Int):Calls prog 43 #[.pointer (some ⟨s,0,none⟩),.int .i64 n] w fun e w'=>e = .returned (.int .i64 (rl a n))/\Below w.heap.size w w':=by
 obtain ⟨z0,z1,hr,hv⟩:=P
 by_cases h0:n=0
 ·subst h0
  exact ME 0 (by decide) fun w' b=>ah (hr.below b) 0
 ·by_cases h1:n=1
  ·subst h1
   exact ME 1 (by decide) fun w' b=>ah (hr.below b) 2
  ·have H:=Hh (fU w s n)
   rw [VK h0 h1] at H;have E:Hid (rl a n=0):=Hh (by unfold rl;rw [aq h0,aq h1]);clear hr hv h0 h1;generalize rl a n=x at *;obtain rfl:=E.out;clear E
   go_enter func43,ntmps43
   go_wp2_with fail;refine H.mono ?_;rintro e w1 ⟨rfl,b1⟩;have B1:=Hh b1;clear H b1;go_wp2
   go_ret
   exact ⟨rfl,B1⟩
def du (r z n:Int):Bool:=(decide (r=2) && decide (4<=z)) || (decide (r=3) && decide (8+n<=z))
theorem Mb (w:World) (r z n:Int) (hn:0<=n/\n<=1):Calls prog 109 #[.agg #[.int .i64 r,.int .i64 z],.int .i64 n] w fun e w'=>e = .returned (.bool (du r z n))/\Below w.heap.size w w':=by
 have E:Hid (du r z n=((decide (r=2) && decide (4<=z)) || (decide (r=3) && decide (8+n<=z)))):=Hh rfl;have w8:IntKind.i64.wrap (8+n)=8+n:=cE _ (by omega);have B:Hid (Below w.heap.size w (w.alloc (.cells #[.int .i64 r,.int .i64 z] 104))):=Hh ((aa _ _).alloc (ac _) _);generalize du r z n=b at *
 by_cases h2:r=2
 ·subst h2
  obtain rfl:b=decide (4<=z):=by rw [E.out];simp
  clear E
  go_enter func109,ntmps109
  go_wp2
  go_ret
  exact ⟨rfl,B⟩
 ·by_cases h3:r=3
  ·subst h3
   obtain rfl:b=decide (8+n<=z):=by rw [E.out];simp
   clear E h2
   go_enter func109,ntmps109
   go_wp2
   go_ret
   exact ⟨rfl,B⟩
  ·obtain rfl:b=false:=by rw [E.out];simp [h2,h3]
   have q2:=cz.2 h2;have q3:=cz.2 h3;clear E h2 h3
   go_enter func109,ntmps109
   go_wp2
   go_ret
   exact ⟨rfl,B⟩
end Wt
