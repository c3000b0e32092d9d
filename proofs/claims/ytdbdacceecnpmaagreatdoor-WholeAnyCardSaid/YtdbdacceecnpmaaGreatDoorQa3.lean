import Derived.Test.YtdbdacceecnpmaaGreatDoorQa2
import Derived.WalkSpells
import Derived.Test.YtdbdacceecnpmaaGreatDoorShelfK
import Derived.Stop.Asserts
import Derived.Stop.IfaceNil
import Derived.RowKitTokens
import Derived.Lib.IfaceEq
set_option maxRecDepth 100000
set_option maxHeartbeats 4000000
namespace Go.Proofs.YtdbdacceecnpmaaGreatDoor
open Go.Proofs.Tryz Go.RowKit
open Fl (K4 R4 aG aL aN ah aj bG bH dG file rat z4)
open Fs (aT dA dD dE dJ dV eO gB gV gz jI jq key nN nk oO pY sA sB sD)
open Rw (At Ow Rd)
namespace Pa
open Ro (E5 z5 gT dI gW iO)
open Ck (LL dH sN sE tE)
open Ua (bit Af te tp tb upd)
section
variable {h:Hr} {t:List E5} {V:Int->Int->Bool} {A:aT}
def nG (h:Hr) (l:List E5) (f r:Int) (A:aT):aT:=if (gB A f r && PZ h l)=true then sA A f r (mix h l (gV A f r)) else A
variable {f r o d:Int}
theorem Mc (hA:eO A) (h0:r≠0) (hy:YC (iY t f r)):nG h (iY t f r) f r (dO h t V A)=dO h t (also V f r) A:=by
 unfold nG;rw [TD]
 by_cases hg:gB A f r=true
 ·by_cases ha:PZ h (iY t f r)=true
  ·rw [hg,ha,show (true && true)=true from rfl,an rfl,← Xv hA hg h0 hy]
   congr 1
   unfold newV;rw [an ha]
  ·rw [ai (by simp [ha])]
   unfold dO;refine List.map_congr_left fun e _=>?_;unfold kN
   congr 2
   refine eW fun q=>?_;simp only [List.getElem?_mapIdx]
   by_cases hx:e.1=f/\(q:Int)=r
   ·obtain ⟨h1,h2⟩:=hx
    rw [h1,h2];have:∀ v,newV h (iY t f r) v=v:=fun v=>by unfold newV;rw [ai ha]
    simp only [this,ite_self]
   ·simp [also,hx]
 ·rw [ai (by simp [hg]),WC hA (by simpa using hg)]
def seen (t:List E5) (j:Nat) (n k:Int):Bool:=(t.take j).any (mt n k)
variable {j:Nat}
theorem xP (hj:j < t.length):t.take (j+1)=t.take j ++ [dI t j]:=by rw [dm,iO hj];rfl
def Xp (s:aT×Int) (x:E5):aT×Int:=if x.1=3 then (dA s.1 2 x.2.2.1 x.2.2.2.1 z4,dD s.1 2 x.2.2.1 x.2.2.2.1 s.2) else s
def exU (t:List E5) (s:aT×Int) (j:Nat):aT×Int:=(t.take j).foldl Xp s
def Wm (h:Hr) (t:List E5) (s:aT×Int):aT×Int:=t.foldl Xp (sH h t s.1,s.2)
theorem P7 (s:aT×Int):exU t s 0=s:=rfl
theorem yG (s:aT×Int) (hj:j < t.length):exU t s (j+1)=Xp (exU t s j) (dI t j):=by unfold exU;rw [xP hj,List.foldl_append];rfl
theorem Wl (s:aT×Int) (hj:j < t.length) (h3:(dI t j).1=3):exU t s (j+1)=(dA (exU t s j).1 2 (dI t j).2.2.1 (dI t j).2.2.2.1 z4,dD (exU t s j).1 2 (dI t j).2.2.1 (dI t j).2.2.2.1 (exU t s j).2):=by
 rw [yG s hj];unfold Xp;rw [an h3]
theorem ZT (s:aT×Int) (hj:j < t.length) (h3:(dI t j).1≠3):exU t s (j+1)=exU t s j:=by
 rw [yG s hj];unfold Xp;rw [ai h3]
theorem BH (h:Hr) (s:aT×Int):exU t (sH h t s.1,s.2) t.length=Wm h t s:=by unfold exU Wm;rw [cX]
theorem Ur : d<=dD A o f r d/\dD A o f r d<=d+1:=by unfold dD;split <;> omega
theorem JL (s:aT×Int):∀ j,s.2<=(exU t s j).2/\(exU t s j).2<=s.2+j
 | 0=>by rw [P7];omega
 | j+1=>by
   have ih:=JL s j
   by_cases hj:j < t.length
   ·rw [yG s hj]
    unfold Xp
    split
    ·have:=Ur (A:=(exU t s j).1) (o:=2) (f:=(dI t j).2.2.1) (r:=(dI t j).2.2.2.1) (d:=(exU t s j).2)
     simp only
     omega
    ·omega
   ·have:exU t s (j+1)=exU t s j:=by unfold exU;rw [dg (by omega),dg (by omega)]
    rw [this]
    omega
end
def tn (F:Nat->Bool) (m:Int) (i:Nat):Bool:=if 1<=i/\i < 11 then F i != bit m i else F i
abbrev S2:=Int×Int
def z2:S2:=(0,0)
def pat (P:List S2) (i:Nat):S2:=P.getD i z2
def sq1 (s:Int) (F:Nat->Bool) (x:S2):Nat->Bool:=if x.1=s then tn F x.2 else F
def sq (P:List S2) (s:Int) (F:Nat->Bool) (j:Nat):Nat->Bool:=(P.take j).foldl (sq1 s) F
variable {j i:Nat}
theorem K7 (P:List S2) (s:Int) (F:Nat->Bool) (hj:j < P.length):sq P s F (j+1)=sq1 s (sq P s F j) (pat P j):=by
 unfold sq;have:P.take (j+1)=P.take j ++ [pat P j]:=by
  rw [dm,am hj];unfold pat;rw [af,am hj]
  rfl
 rw [this,List.foldl_append]
 rfl
theorem JD (P:List S2) (s:Int) (F:Nat->Bool) (hj:j < P.length) (h:(pat P j).1=s):sq P s F (j+1)=tn (sq P s F j) (pat P j).2:=by rw [K7 P s F hj];unfold sq1;rw [an h]
theorem JO (P:List S2) (s:Int) (F:Nat->Bool) (hj:j < P.length) (h:(pat P j).1≠s):sq P s F (j+1)=sq P s F j:=by rw [K7 P s F hj];unfold sq1;rw [ai h]
theorem Cy:∀ r:Fin 2048,r.val &&& 2046=r.val / 2 * 2:=by decide +kernel
theorem UF (x:Int):bits BinOp.and .i64 x 2046=x / 2 % 1024 * 2:=by
 have h:=Ua.Kj x 2046 (by decide);have h2:((x % 18446744073709551616).toNat &&& 2046:Nat)=(x % 18446744073709551616).toNat % 2048 / 2 * 2:=by
  have a:=Cy ⟨(x % 18446744073709551616).toNat % 2048,Nat.mod_lt _ (by omega)⟩;simp only at a;rw [← a];have e:(x % 18446744073709551616).toNat % 2048=(x % 18446744073709551616).toNat &&& (2 ^ 11 - 1):=by rw [Nat.and_two_pow_sub_one_eq_mod]
  rw [e,Nat.and_assoc]
  rfl
 rw [show ((2046:Int))=((2046:Nat):Int) from rfl,h,h2]
 omega
theorem OY (x:Int) (hi:i < 11):bit (x / 2 % 1024 * 2) i=(decide (1<=i) && bit x i):=by
 unfold bit
 rcases gE i 1 with h | h
 ·obtain rfl:i=0:=by omega
  simp
 ·rw [az h,Bool.true_and,cM]
  obtain rfl | rfl | rfl | rfl | rfl | rfl | rfl | rfl | rfl | rfl:i=1\/i=2\/i=3\/i=4\/i=5\/i=6\/i=7\/i=8\/i=9\/i=10:=by omega
  all_goals simp only [Int.reducePow];omega
theorem V8 (F:Nat->Bool) (m:Int) (i:Nat) (hi:i < 11):Ua.turn F (bits BinOp.and .i64 m 2046) 11 i=tn F m i:=by
 rw [UF];unfold Ua.turn tn;rw [an hi,OY m hi]
 by_cases h:1<=i
 ·simp [h,hi]
 ·simp [h]
abbrev bW:=List (aT×Int)
def sat (S:bW) (n:Int):aT×Int:=S.getD n.toNat ([],0)
def bX (V:List Bool) (n:Int):Bool:=V.getD n.toNat false
def jQ (S:bW) (T:LL) (V:List Bool) (s:Int):Bool:=decide (0<=sN s T) && bX V (sN s T) && gB (sat S (sN s T)).1 (sE s T).2.2.1 (sE s T).2.2.2.1
def YE (S:bW) (T:LL) (s:Int):Int:=rb (gV (sat S (sN s T)).1 (sE s T).2.2.1 (sE s T).2.2.2.1) (sE s T).2.2.2.2
def rU (S:bW) (T:LL) (V:List Bool) (s:Int):Int:=if jQ S T V s=true then sN s T else -1
def NV (S:bW) (T:LL) (V:List Bool) (s:Int):Int:=if jQ S T V s=true then YE S T s else 0
def wI (_:Nat):Bool:=false
def oh (S:bW) (T:LL) (V:List Bool) (P:List S2) (s:Int):Nat->Bool:=if jQ S T V s=true then sq P s (Af (YE S T s) false) P.length else wI
def xO (S:bW) (T:LL) (V:List Bool) (P:List S2) (s:Int):Bool:=jQ S T V s && decide (te (oh S T V P s)=0) && !tp (oh S T V P s)
def Iq (S:bW) (T:LL) (V:List Bool) (P:List S2) (s:Int):Int:=if xO S T V P s=true then tb (oh S T V P s) else 0
def hr (S:bW) (T:LL) (V:List Bool) (P:List S2):Hr:=fun s=>if 1<=s/\s<=16/\xO S T V P s=true then some (Iq S T V P s) else none
theorem aaf (F:Nat->Bool):jR (tb F):=by
 unfold tb jR
 split
 ·omega
 ·have:=Ua.GQ F 8
  omega
theorem VP (S:bW) (T:LL) (V:List Bool) (P:List S2) (s:Int):jR (Iq S T V P s):=by
 unfold Iq
 split
 ·exact aaf _
 ·unfold jR;omega
theorem EB (S:bW) (T:LL) (V:List Bool) (P:List S2):VY (hr S T V P):=fun n y h=>by
 unfold hr at h
 split at h
 ·injection h with h;subst h;exact VP S T V P n
 ·cases h
def jP (S:bW) (T:LL) (V:List Bool):Int:=if 1<=S.length/\S.length<=32/\T.length=S.length/\V.length=S.length then tE T else 1
def Ae (S:bW) (T:LL) (V:List Bool) (h:Hr):bW:=(List.range S.length).map fun (i:Nat)=>if bX V i=true then Wm h (dH T i) (sat S i) else sat S i
theorem jK (S:bW) (T:LL) (V:List Bool) (h:Hr):(Ae S T V h).length=S.length:=by simp [Ae]
theorem qY (S:bW) (T:LL) (V:List Bool) (h:Hr) (hi:i < S.length):sat (Ae S T V h) i=if bX V i=true then Wm h (dH T i) (sat S i) else sat S i:=by
 show (Ae S T V h).getD ((i:Int)).toNat _=_
 rw [cJ,af];unfold Ae;rw [cL,List.getElem?_range hi]
 rfl
end Pa
namespace Fs
open Go.Maps
open Fl (ja newR)
structure aA where
 n:Int
 p:Int
 a:Option Addr
 cap:Nat
 l:List R4
def aA.sl (c:aA):Value:=.slice c.a c.l.length c.cap
def aA.file (c:aA):Value:=Fl.file c.p c.sl
def aA.abs (c:aA):sD:=(c.n,c.p,c.l)
def E3:Rw.Kind aA:=⟨fun c=>[.int .i64 c.n,.int .i64 c.p,c.sl],3,by decide,fun _=>rfl,fun _ u h=>by simp [aA.sl] at h;rcases h with rfl | rfl | rfl <;> rfl,⟨0,0,none,0,[]⟩⟩
theorem tL (c:aA):key c.abs=c.n:=rfl
structure Only (G:Nat->Prop) (w w':World):Prop where
 os:w'.os=w.os
 tape:w'.tape=w.tape
 output:w'.output=w.output
 size:w.heap.size<=w'.heap.size
 block:∀ k,k < w.heap.size->¬ G k->w'.heap[k]? = w.heap[k]?
def Fx (G:Nat->Prop) (w w':World) (k:Nat):Prop:=G k\/(w.heap.size<=k/\k < w'.heap.size)
section
variable {G:Nat->Prop} {w w' w'':World}
theorem Only.refl (G:Nat->Prop) (w:World):Only G w w:=⟨rfl,rfl,rfl,ac _,fun _ _ _=>rfl⟩
theorem Only.of_below (h:Below w.heap.size w w'):Only G w w':=⟨h.os,h.tape,h.output,h.size,fun k hk _=>h.block k hk⟩
theorem Only.mono {G':Nat->Prop} (h:Only G w w') (hg:∀ k,k < w.heap.size->G k->G' k):Only G' w w':=⟨h.os,h.tape,h.output,h.size,fun k hk hn=>h.block k hk fun g=>hn (hg k hk g)⟩
theorem Only.trans {G':Nat->Prop} (h:Only G w w') (k:Only G' w' w'') (hg:∀ k,k < w.heap.size->G' k->G k):Only G w w'' :=
 ⟨k.os.trans h.os,k.tape.trans h.tape,k.output.trans h.output,cG h.size k.size,fun i hi hn=>(k.block i (cE hi h.size) fun g=>hn (hg i hi g)).trans (h.block i hi hn)⟩
theorem Only.then (h:Only G w w') (b:Below w'.heap.size w' w''):Only G w w'':=h.trans (Only.of_below (G:=fun _=>False) b) fun _ _ g=>g.elim
theorem Only.set (G:Nat->Prop) (w:World) {a:Addr} (ha:G a.block) (u:Value):Only G w (w.setCell a u) :=
 ⟨rfl,rfl,rfl,by simp [World.setCell],fun k _ hn=>bs w a u k fun e=>hn (e ▸ ha)⟩
variable {b B k:Nat}
theorem Only.grown (hb:G b) (h:w.grownBy w' (some b)):Only G w w':=⟨h.os,h.tape,h.output,h.size,fun k hk hn=>h.block k hk fun e=>hn (by injection e with e;exact e ▸ hb)⟩
theorem Only.below (h:Only G w w') (hB:B<=w.heap.size) (hG:∀ k,G k->B<=k):Below B w w' :=
 ⟨h.os,h.tape,h.output,h.size,fun k hk=>h.block k (by omega) fun g=>by have:=hG k g;omega⟩
theorem Only.cell (h:Only G w w') {a:Addr} {v:Value} (hc:w.cell? a=some v) (hn:¬ G a.block):w'.cell? a=some v :=
 (World.cell?_of_block (h.block a.block (bo _ _ hc) hn)).trans hc
theorem Fx.of (h:G k):Fx G w w' k:=.inl h
theorem Fx.not (h:¬ G k) (hk:k < w.heap.size):¬ Fx G w w' k:=by rintro (g | ⟨g,_⟩);exact h g;omega
theorem Fx.low (h:∀ k,G k->k < w.heap.size) (hs:w.heap.size<=w'.heap.size):∀ k,Fx G w w' k->k < w'.heap.size:=by
 rintro k (g | ⟨_,g⟩)
 ·have:=h k g;omega
 ·exact g
end
section
variable {α:Type} {K:Rw.Kind α} {G:Nat->Prop} {w w':World} {v:Value} {l:List α}
theorem iU (h:Rd K w v l) (hn:0 < l.length->∀ k,v.ownBlock=some k->¬ G k) (ho:Only G w w'):Rd K w' v l:=by
 obtain ⟨a,cap,rfl,h1,h2,h3⟩:=h;refine ⟨a,cap,rfl,h1,h2,fun h0=>?_⟩;obtain ⟨b,off,rfl,hA⟩:=h3 h0;exact ⟨b,off,rfl,fun i hi j u hu=>ho.cell (hA i hi j u hu) (hn h0 b rfl)⟩
theorem qM (h:Rd K w v l) (h0:0 < l.length):∀ k,v.ownBlock=some k->k < w.heap.size:=by
 obtain ⟨a,cap,rfl,h1,h2,h3⟩:=h;obtain ⟨b,off,rfl,hA⟩:=h3 h0
 intro k hk
 obtain rfl:b=k:=by simpa [Value.ownBlock] using hk
 obtain ⟨j,hj⟩:∃ u,(K.enc (l.getD 0 K.OE))[0]? = some u:=⟨_,am (by rw [K.len];exact K.pos)⟩;exact bo _ _ (hA 0 h0 0 _ hj)
theorem YJ (h:Rd K w v l) (hn:0 < l.length->∀ k,v.ownBlock=some k->¬ G k):0 < l.length->∀ k,v.ownBlock=some k->¬ Fx G w w' k :=
 fun h0 k hk=>Fx.not (hn h0 k hk) (qM h h0 k hk)
variable {B E:Nat}
theorem aB (h:Ow K w B E v l) (hn:∀ k,v.ownBlock=some k->¬ G k) (ho:Only G w w'):Ow K w' B E v l:=by
 obtain ⟨h1,h2⟩:=h;refine ⟨h1,?_⟩
 rcases h2 with h2 | ⟨g,cap,cur,rfl,hB,hh,r⟩
 ·exact .inl h2
 ·exact .inr ⟨g,cap,cur,rfl,hB,(ho.block g (bh hh) (hn g rfl)).trans hh,r⟩
theorem lg (h:Ow K w B E v l):∀ k,v.ownBlock=some k->B<=k/\k < w.heap.size:=fun k hk=>cC h k hk
end
def Rh (v:Value):Option (DataW Value×List MemPlace):=some (.held v,[])
def ent (c:aA):Lit×DataW Value:=(.int .i64 c.n,.held c.file)
def dat (C:List aA):DataW Value:=.map (C.map ent)
theorem law:Keyed prog 3:=int_keyed underlying3
theorem Pz (w:World):(zeroValue 83).run prog w = .ok (file 0 (.slice none 0 0)) w:=by kernel_rfl
def Wf (n:Int):Prop:=(Lit.int .i64 n).wf=true
variable {n:Int}
theorem vT (h:Wf n):keyOf prog 3 (.int .i64 n)=some (.int .i64 n):=keyOf_int_mk underlying3 h
theorem xW (c:aA):∀ l:List aA,DataW.insert (ent c) (l.map ent)=(ins aA.n c l).map ent
 | []=>rfl
 | y :: r=>by
   simp only [ij,DataW.insert,ins,ent,Lit.before,cI]
   split
   ·rfl
   ·have:=xW c r
    simp only [ent] at this;rw [this]
    rfl
theorem Jm (c:aA) (l:List aA):(l.map ent).filter (fun p=>!p.1.sameKey (ent c).1)=(l.filter fun y=>decide (¬ y.n=c.n)).map ent:=by
 rw [List.filter_map]
 congr 1
 exact dj (fun q=>List.filter q l) (funext fun x=>by simp [ent,Lit.sameKey])
theorem Ve (c:aA) (l:List aA):(dat l).put (.int .i64 c.n) (.held c.file)=dat (put aA.n c l):=by
 unfold dat DataW.put put;simp only;rw [← xW,← Jm]
 rfl
theorem Dp (n:Int):∀ l:List aA,(l.map ent).find? (fun p=>p.1.sameKey (.int .i64 n))=(look aA.n n l).map ent:=fun l=>by
 unfold look;rw [List.find?_map]
 congr 1
 exact dj (fun q=>List.find? q l) (funext fun x=>by simp [ent,Lit.sameKey])
def lv (C:List aA) (n:Int):Value:=match look aA.n n C with | none=>file 0 (.slice none 0 0) | some c=>c.file
def lb (C:List aA) (n:Int):Bool:=(look aA.n n C).isSome
theorem Ij (n:Int) (l:List aA):(dat l).atKey (.int .i64 n) (.held (file 0 (.slice none 0 0))) = .held (lv l n):=by
 unfold dat DataW.atKey lv;simp only [Dp]
 cases look aA.n n l <;> rfl
theorem Cj (n:Int) (l:List aA):Maps.has (dat l) (.int .i64 n)=lb l n:=by
 have e:∀ q:Lit×DataW Value->Bool,(l.map ent).any q=((l.map ent).find? q).isSome:=fun q=>by
  rw [Bool.eq_iff_iff,eq,List.find?_isSome]
 show (l.map ent).any (fun p=>p.1.sameKey (.int .i64 n))=_
 rw [e,Dp,Option.isSome_map]
 rfl
variable {w:World} {b:Nat} {C:List aA}
theorem tight {n:Nat} (h:w.ownsMap prog 3 Rh b n (dat C)):w.ownsMap prog 3 Rh b C.length (dat C):=by
 obtain ⟨es,clock,hb,F,hs,hD⟩:=h;refine ⟨es,clock,hb,F,?_,hD⟩;have e:C.map ent=(es.toList.map (Go.WideElems.rg prog 3 Rh)).foldr DataW.insert []:=by unfold dat at hD;injection hD
 have:=dj List.length e;rw [length_read,bt] at this
 omega
def Mp (w:World) (F:Nat->Prop) (m:Value) (C:List aA):Prop:=(m = .map none/\C = [])\/∃ b,m = .map (some b)/\F b/\w.ownsMap prog 3 Rh b C.length (dat C)
variable {F:Nat->Prop}
theorem l9 {m:Value} (M:Mp w F m C) (hn:Wf n) (c:Bool) :
 (Instr.lookup 148 m (.int .i64 n) c).run prog w = .ok (if c then .tuple #[lv C n,.bool (lb C n)] else lv C n) w:=by
 rcases M with ⟨rfl,rfl⟩ | ⟨b,rfl,_,h⟩
 ·exact Maps.look_nil c law underlying148 (Pz w) (vT hn)
 ·cases c with
  | false =>
    obtain ⟨v,ps,hr,hv⟩:=h.lookup law underlying148 (Pz w) (zd:=.held (file 0 (.slice none 0 0))) (zp:=[]) rfl (vT hn);rw [Ij] at hv;have:v=lv C n:=by simp [Rh] at hv;exact hv.1
    rw [hr,this]
    rfl
  | true =>
    obtain ⟨v,ps,hr,hv⟩:=h.look_ok law underlying148 (Pz w) (zd:=.held (file 0 (.slice none 0 0))) (zp:=[]) rfl (vT hn);rw [Ij] at hv;have:v=lv C n:=by simp [Rh] at hv;exact hv.1
    rw [hr,this,Cj]
    rfl
theorem Xb (M:Mp w F (.map (some b)) C) (c:aA) (hn:Wf c.n) (hl:C.length < maxLen) :
 ∃ w',(Instr.mapUpdate 148 (.map (some b)) (.int .i64 c.n) c.file).run prog w = .ok () w'/\Mp w' F (.map (some b)) (put aA.n c C)/\w.grownBy w' (some b):=by
 rcases M with ⟨h,_⟩ | ⟨b',e,hF,h⟩
 ·cases h
 ·obtain rfl:b=b':=by injection e with e;injection e
  obtain ⟨w',hr,h',hg⟩:=h.update law underlying148 hl (vT hn) (d:=.held c.file) (ps:=[]) rfl;rw [Ve] at h';exact ⟨w',hr,.inr ⟨b,rfl,hF,tight h'⟩,hg⟩
section
variable {ops:Array Oper} {rest:List Oper} {o:Oper} {a:Act} {Q:Exit->Act->World->Prop} {K:Act->World->Prop} {w:World} {F:Nat->Prop}
theorem JZ {m:Value} (hgd:Region.wanted o (yielded ops a.tmps)=true) (p x:Operand) (c:Bool) (hop:o.op = .lookup 148 p x c) (hm:a.eval p=m) (M:Mp w F m C) (n:Int) (hx:a.eval x = .int .i64 n) (hn:Wf n)
 (h:wpList prog ops Q rest (a.put o.dst (if c then .tuple #[lv C n,.bool (lb C n)] else lv C n)) w):wpList prog ops Q (o :: rest) a w:=by
 refine BigFrame.wpList_want hgd fun K' hK=>?_;have hr:=l9 M hn c;unfold Oper.wp
 simp [execOp,hop,hm,hx,hr,Result.andThen]
 exact hK _ _ (by simpa using h)
theorem qH (p x v:Operand) (hop:o.op = .mapUpdate 148 p x v) (hm:a.eval p = .map (some b)) (M:Mp w F (.map (some b)) C) (c:aA) (hx:a.eval x = .int .i64 c.n) (hv:a.eval v=c.file) (hn:Wf c.n) (hl:C.length < maxLen)
 (h:∀ w',Mp w' F (.map (some b)) (put aA.n c C)->w.grownBy w' (some b)->K (a.put o.dst undef) w'):o.wp prog a w K Q:=by
 obtain ⟨w',hr,h1,h2⟩:=Xb M c hn hl;unfold Oper.wp
 simp [execOp,hop,hm,hx,hv,hr,Result.andThen]
 exact h w' h1 h2
end
section
variable {w w':World} {F G:Nat->Prop} {m:Value} {C:List aA}
theorem Mp.only (h:Mp w F m C) (hn:∀ k,F k->¬ G k) (ho:Only G w w'):Mp w' F m C:=by
 rcases h with h | ⟨b,rfl,hF,h⟩
 ·exact .inl h
 ·have hlt:=h.lt
  obtain ⟨es,clock,hb,Ft,hs,hD⟩:=h;exact .inr ⟨b,rfl,hF,es,clock,(ho.block b hlt (hn b hF)).trans hb,Ft,hs,hD⟩
theorem Mp.wide (h:Mp w F m C) (hF:∀ k,F k->G k):Mp w G m C:=by
 rcases h with h | ⟨b,rfl,hb,h⟩
 ·exact .inl h
 ·exact .inr ⟨b,rfl,hF b hb,h⟩
theorem Mp.kept (h:Mp w F m C) (hb:∀ b,m = .map (some b)->w'.heap[b]? = w.heap[b]?):Mp w' F m C:=by
 rcases h with h | ⟨b,rfl,hF,h⟩
 ·exact .inl h
 ·obtain ⟨es,clock,h1,Ft,hs,hD⟩:=h
  exact .inr ⟨b,rfl,hF,es,clock,(hb b rfl).trans h1,Ft,hs,hD⟩
theorem Mp.isMap (h:Mp w F (.map (some b)) C):F b/\∃ es clock,w.heap[b]? = some (.map es clock):=by
 rcases h with ⟨h,_⟩ | ⟨b',e,hF,h⟩
 ·cases h
 ·obtain rfl:b=b':=by injection e with e;injection e
  obtain ⟨es,clock,hb,_⟩:=h;exact ⟨hF,es,clock,hb⟩
end
def apart (c c':aA):Prop:=∀ k,c.sl.ownBlock=some k->c'.sl.ownBlock≠some k
structure iJ (w:World) (s:Nat) (F:Nat->Prop) (m:Value) (C:List aA) (d:Int):Prop where
 row:w.heap[s]? = some (.cells #[m,.int .i64 d] 150 (0,0))
 l5:F s
 mp:Mp w F m C
 own:∀ c∈C,Ow K4 w 0 36 c.sl c.l
 mine:∀ c∈C,∀ k,c.sl.ownBlock=some k->F k
 apart:C.Pairwise apart
 ok:eO (C.map aA.abs)
 low:∀ k,F k->k < w.heap.size
def St (w:World) (s:Nat) (F:Nat->Prop) (A:aT) (d:Int):Prop:=∃ m C,iJ w s F m C d/\C.map aA.abs=A
section
variable {w w':World} {s:Nat} {F G:Nat->Prop} {m:Value} {C:List aA} {A:aT} {d:Int}
theorem iJ.only (h:iJ w s F m C d) (hn:∀ k,F k->¬ G k) (ho:Only G w w'):iJ w' s F m C d :=
 ⟨(ho.block s (bh h.row) (hn s h.l5)).trans h.row,h.l5,h.mp.only hn ho,fun c hc=>aB (h.own c hc) (fun k hk=>hn k (h.mine c hc k hk)) ho,h.mine,h.apart,h.ok,fun k hk=>cE (h.low k hk) ho.size⟩
theorem iJ.wide (h:iJ w s F m C d) (hF:∀ k,F k->G k) (hl:∀ k,G k->k < w.heap.size):iJ w s G m C d :=
 ⟨h.row,hF s h.l5,h.mp.wide hF,h.own,fun c hc k hk=>hF k (h.mine c hc k hk),h.apart,h.ok,hl⟩
theorem iJ.below (h:iJ w s F m C d) (hb:Below w.heap.size w w'):iJ w' s F m C d:=h.only (G:=fun _=>False) (fun _ _ g=>g) (Only.of_below hb)
theorem St.only (h:St w s F A d) (hn:∀ k,F k->¬ G k) (ho:Only G w w'):St w' s F A d:=by
 obtain ⟨m,C,h,e⟩:=h;exact ⟨m,C,h.only hn ho,e⟩
theorem St.wide (h:St w s F A d) (hF:∀ k,F k->G k) (hl:∀ k,G k->k < w.heap.size):St w s G A d:=by
 obtain ⟨m,C,h,e⟩:=h;exact ⟨m,C,h.wide hF hl,e⟩
theorem St.below (h:St w s F A d) (hb:Below w.heap.size w w'):St w' s F A d:=by
 obtain ⟨m,C,h,e⟩:=h;exact ⟨m,C,h.below hb,e⟩
theorem St.fx (h:St w s F A d) (hb:Below w.heap.size w w'):St w' s (Fx F w w') A d:=by
 have hl:∀ k,F k->k < w.heap.size:=by obtain ⟨m,C,h,_⟩:=h;exact h.low
 exact (h.below hb).wide (fun k hk=>.inl hk) (Fx.low hl hb.size)
theorem St.low (h:St w s F A d):∀ k,F k->k < w.heap.size:=by obtain ⟨m,C,h,_⟩:=h;exact h.low
theorem St.l5 (h:St w s F A d):F s:=by obtain ⟨m,C,h,_⟩:=h;exact h.l5
theorem St.okA (h:St w s F A d):eO A:=by obtain ⟨m,C,h,e⟩:=h;rw [← e];exact h.ok
theorem iJ.len (h:iJ w s F m C d):C.length<=64:=by have:=h.ok.len;rwa [bt] at this
theorem gI (n:Int) (C:List aA):look key n (C.map aA.abs)=(look aA.n n C).map aA.abs:=oO (κ:=aA.n) (κ':=key) tL n C
theorem ni (c:aA) (C:List aA):(put aA.n c C).map aA.abs=put key c.abs (C.map aA.abs):=Wp (κ:=aA.n) (κ':=key) tL c C
variable {c:aA}
theorem iJ.find (h:iJ w s F m C d) (hc:look aA.n n C=some c):Ow K4 w 0 36 c.sl c.l/\aL c.p c.l/\dG c.l/\c.n=n/\(0<=n/\n<=63)/\c∈C:=by
 obtain ⟨hm,hk⟩:=gz hc;have hma:c.abs∈C.map aA.abs:=List.mem_map_of_mem hm;have:=h.ok.nm _ hma;exact ⟨h.own c hm,h.ok.good _ hma,h.ok.ok _ hma,hk,hk ▸ this,hm⟩
theorem iJ.off (h:iJ w s F m C d) (hc:c∈C):c.sl.ownBlock≠some s/\∀ b,m = .map (some b)->c.sl.ownBlock≠some b:=by
 refine ⟨(h.own c hc).apart h.row (by decide),fun b hb e=>?_⟩;subst hb;obtain ⟨_,es,clock,hm⟩:=h.mp.isMap;obtain ⟨_,h2⟩:=h.own c hc
 rcases h2 with ⟨e2,_⟩ | ⟨g,cap,cur,e2,_,hh,_⟩
 ·rw [e2] at e;cases e
 ·rw [e2] at e
  obtain rfl:g=b:=by simpa [Value.ownBlock] using e
  rw [hh] at hm
  cases hm
theorem iJ.qP (h:iJ w s F (.map (some b)) C d):b≠s:=fun e=>by
 subst e;obtain ⟨_,es,clock,hm⟩:=h.mp.isMap;rw [h.row] at hm
 cases hm
end
structure Hf (F:Nat->Prop) (w:World) (v:Value) (L:List aA):Prop where
 rd:Rd E3 w v L
 off:0 < L.length->∀ k,v.ownBlock=some k->¬ F k
 file:∀ c∈L,Rd K4 w c.sl c.l
 Pw:∀ c∈L,0 < c.l.length->∀ k,c.sl.ownBlock=some k->¬ F k
def Ls (F:Nat->Prop) (w:World) (v:Value) (A:aT):Prop:=∃ L,Hf F w v L/\L.map aA.abs=A
section
variable {w w':World} {F G:Nat->Prop} {v:Value} {L:List aA} {A:aT}
theorem Hf.only (h:Hf F w v L) (ho:Only F w w'):Hf (Fx F w w') w' v L :=
 ⟨iU h.rd h.off ho,YJ h.rd h.off,fun c hc=>iU (h.file c hc) (h.Pw c hc) ho,fun c hc=>YJ (h.file c hc) (h.Pw c hc)⟩
theorem Hf.mono (h:Hf F w v L) (hg:∀ k,k < w.heap.size->G k->F k):Hf G w v L :=
 ⟨h.rd,fun h0 k hk g=>h.off h0 k hk (hg k (qM h.rd h0 k hk) g),h.file,fun c hc h0 k hk g=>h.Pw c hc h0 k hk (hg k (qM (h.file c hc) h0 k hk) g)⟩
theorem Hf.below (h:Hf F w v L) (hb:Below w.heap.size w w'):Hf F w' v L :=
 ⟨h.rd.below hb,h.off,fun c hc=>(h.file c hc).below hb,h.Pw⟩
theorem Ls.only (h:Ls F w v A) (ho:Only F w w'):Ls (Fx F w w') w' v A:=by obtain ⟨L,h,e⟩:=h;exact ⟨L,h.only ho,e⟩
theorem Ls.mono (h:Ls F w v A) (hg:∀ k,k < w.heap.size->G k->F k):Ls G w v A:=by obtain ⟨L,h,e⟩:=h;exact ⟨L,h.mono hg,e⟩
theorem Ls.below (h:Ls F w v A) (hb:Below w.heap.size w w'):Ls F w' v A:=by obtain ⟨L,h,e⟩:=h;exact ⟨L,h.below hb,e⟩
end
section
end
open Fl (fq bf aZ dP aM eY dR aR aH aJ bN qL xq ak at4)
theorem aW {fn:Func} {p r:Tmp} (h:fn.results=#[.cell p 36,.tmp r]) (tmps:Array Value) (w:World) (g:Nat) (y:R4) (v:Value)
 (hp:tmps.getD p undef = .pointer (some ⟨g,0,none⟩)) (hr:tmps.getD r undef=v) (h1:w.heap[g]? = some (.cells (aN y) 36 (0,0))) :
 (results fn tmps).run prog w = .ok (.tuple #[aG y,v]) w:=by
 have e2:=fd (P:=prog) w g 36 36 (aN y) (0,0) _ h1 underlying36 rfl (by show _=some 4;kernel_rfl);have hp':tmps[p]?.getD undef = .pointer (some ⟨g,0,none⟩):=by simpa using hp
 have hr':tmps[r]?.getD undef=v:=by simpa using hr
 simp only [results,h]
 simp [Result.andThen,hp',hr',asAddr,e2,aG,aN]
section
variable {ops:Array Oper} {rest:List Oper} {o:Oper} {a:Act} {Q:Exit->Act->World->Prop} {w:World} {F:Nat->Prop} {m:Value} {C:List aA}
theorem jg (hgd:Region.wanted o (yielded ops a.tmps)=true) (p x:Operand) (hop:o.op = .lookup 148 p x false) (M:Mp w F m C) (hm:a.eval p=m) (n:Int) (hx:a.eval x = .int .i64 n) (hn:Wf n) (v:Value) (hv:lv C n=v)
 (h:wpList prog ops Q rest (a.put o.dst v) w):wpList prog ops Q (o :: rest) a w:=JZ hgd p x false hop hm M n hx hn (by rw [hv];exact h)
theorem wV (hgd:Region.wanted o (yielded ops a.tmps)=true) (p x:Operand) (hop:o.op = .lookup 148 p x true) (M:Mp w F m C) (hm:a.eval p=m) (n:Int) (hx:a.eval x = .int .i64 n) (hn:Wf n) (v:Value) (hv:lv C n=v) (b:Bool) (hb:lb C n=b)
 (h:wpList prog ops Q rest (a.put o.dst (.tuple #[v,.bool b])) w):wpList prog ops Q (o :: rest) a w:=JZ hgd p x true hop hm M n hx hn (by rw [hv,hb];exact h)
end
theorem sK (h:look aA.n n C=none):lv C n = .agg #[.int .i64 0,.slice none 0 0]:=by unfold lv;rw [h];rfl
variable {c:aA}
theorem jJ (h:look aA.n n C=some c):lv C n = .agg #[.int .i64 c.p,.slice c.a c.l.length c.cap]:=by unfold lv;rw [h];rfl
theorem BG (h:look aA.n n C=none):lb C n=false:=by unfold lb;rw [h];rfl
theorem Bg (h:look aA.n n C=some c):lb C n=true:=by unfold lb;rw [h];rfl
theorem lD (p:Int) (a:Option Addr) (n cap:Nat) (w:World):(Instr.field 83 (.agg #[.int .i64 p,.slice a n cap]) 1).run prog w = .ok (.slice a n cap) w:=by kernel_rfl
def Uz (w:World) (p:Int) (l:List R4) (e:Ending) (w':World):Prop:=∃ u,e = .returned (file p u)/\Ow K4 w' w.heap.size 36 u l/\Below w.heap.size w w'
theorem Ni (w:World) (p:Int) (v:Value) (q:Int) (u:Value):((w.alloc (.cells #[.int .i64 p,v] 83)).alloc (.cells #[.int .i64 q,u] 83)).heap[w.heap.size]? = some (.cells #[.int .i64 p,v] 83 (0,0))/\((w.alloc (.cells #[.int .i64 p,v] 83)).alloc (.cells #[.int .i64 q,u] 83)).heap[w.heap.size+1]? = some (.cells #[.int .i64 q,u] 83 (0,0))/\Below w.heap.size w ((w.alloc (.cells #[.int .i64 p,v] 83)).alloc (.cells #[.int .i64 q,u] 83))/\((w.alloc (.cells #[.int .i64 p,v] 83)).alloc (.cells #[.int .i64 q,u] 83)).heap.size=w.heap.size+2:=by
 refine ⟨(cz _ _ _ (by simp)).trans (aw w _),?_,((aa w.heap.size w).alloc (ac _) _).alloc (by simp) _,by simp⟩;have:=aw (w.alloc (.cells #[.int .i64 p,v] 83)) (.cells #[.int .i64 q,u] 83)
 simpa using this
def Bx (g:Nat) (p:Int) (v:Value) (W:World):Prop:=W.heap[g]? = some (.cells #[.int .i64 p,v] 83 (0,0))
theorem kV (w:World) (p:Int) (v:Value) (l:List R4) (R:Rd K4 w v l) (hl:l.length<=260):Calls prog 73 #[file p v] w (Uz w p l):=by
 obtain ⟨h1,h2,hB,hz⟩:=Ni w p v 0 (.slice none 0 0);have H1:=Hh h1;have H2:=Hh h2;have HB:=Hh hB;have HZ:=Hh hz;have RR:=Hh R;have HL:=Hh hl;obtain ⟨a,cap,rfl,_⟩:=R.slice;clear h1 h2 hB hz R hl;generalize hn:l.length=n at *;have HN:=Hh hn;clear hn;unfold file at *
 go_enter func73,ntmps73
 go_wp2_with fail;generalize ((w.alloc (.cells #[.int .i64 p,.slice a n cap] 83)).alloc (.cells #[.int .i64 0,.slice none 0 0] 83))=W at *;have r0:=Sc.ay (C:=Bx w.heap.size p (.slice a n cap)) (a:=⟨w.heap.size,0,none⟩) (fun W' h=>ah h 0);have r1:=Sc.ay (C:=Bx w.heap.size p (.slice a n cap)) (a:=⟨w.heap.size,1,none⟩) (fun W' h=>ah h 1);have C0:Bx w.heap.size p (.slice a n cap) W.drew:=H1;have ne:Nonempty (Sc.In (Bx w.heap.size p (.slice a n cap))):=⟨⟨_,C0⟩⟩;refine Sc.start (Bx w.heap.size p (.slice a n cap)) [(false,0),(false,1),(false,2),(false,3),(true,4),(false,5),(true,6)] (by kernel_rfl) (by kernel_rfl) (by kernel_rfl) C0 ?_;dsimp only [Sd.aK,List.getElem?_cons_succ,List.getElem?_cons_zero]
 repeat (refine Sd.lit ?_;quiet_step (fail);refine bi ?_)
 refine Sd.call (by rfl) (fun K hK=>?_);go_simp;have B0:=Hh (HB.trans (((aa W.heap.size W).drew).mono HB.size));refine (qL _ _ l (RR.below B0) (by rw [HN.out];exact HL.out)).mono ?_;rintro e w2 ⟨u,rfl,o2,b2⟩;have hzz:=HZ.out;have O2:=Hh o2;have B2:=Hh (B0.trans (b2.mono (by show w.heap.size<=W.heap.size;omega)));have G1:w2.heap[w.heap.size]? = _:=(b2.block _ (by show w.heap.size < W.heap.size;omega)).trans C0;have G2:=(b2.block (w.heap.size+1) (by show w.heap.size+1 < W.heap.size;omega)).trans H2.out;have N2:u.ownBlock≠some (w.heap.size+1):=o2.range (.inl (by show _ < W.heap.size;omega));have hWz:w.heap.size+2<=W.drew.heap.size:=by show _<=W.heap.size;omega
 obtain ⟨au,cu,rfl,_⟩:=o2.slice;refine hK _ _ (Sc.Cl.of G1) ?_;clear hK K b2 o2 B0 C0 HB H1 H2 r0 r1 RR
 repeat (refine Sd.lit ?_;quiet_step (fail);refine bi ?_)
 refine Sd.call (by rfl) (fun K hK=>?_);obtain ⟨c0,c1,f0,f1⟩:=C9 G2;have RA:=Hh (aZ G2 p (.slice au l.length cu));have OA:=Hh (dR (u:=.slice au l.length cu) O2 N2 p);have BA:=Hh (aM (p:=p) (v:=.slice au l.length cu) B2 (show w.heap.size<=w.heap.size+1 by omega));have L1:Bx w.heap.size p (.slice a n cap) (fq w2 (w.heap.size+1) p (.slice au l.length cu)):=dP G1 (by omega);have hWy:=Hh hWz;clear G1 G2 O2 B2 N2 hWz hzz HZ;go_simp;refine hK _ _ (Sc.Cl.of L1) ?_;clear hK K c0 c1 f0 f1
 show Sd.aV _ _ _ _ _ _ (fq w2 (w.heap.size+1) p (.slice au l.length cu))
 generalize fq w2 (w.heap.size+1) p (.slice au l.length cu)=w3 at *;refine Sd.done ?_;go_wp2
 (try simp only [Exit.inBlock,Exit.then])
 refine bj (v:=file p (.slice au l.length cu)) ?_ rfl ⟨_,rfl,OA.low (by have:=hWy.out;omega),BA.out⟩;exact results_cell_row (p:=2) rfl _ _ (w.heap.size+1) 83 _ (0,0) _ rfl RA underlying83 rfl (by show _=some 2;kernel_rfl)
theorem mW (w:World):Calls prog 51 #[] w fun e w'=>e = .returned (.pointer (some ⟨w.heap.size,0,none⟩))/\w'=w.alloc (.cells #[.map none,.int .i64 0] 150):=by
 go_enter func51,ntmps51
 go_wp2
 go_ret
 exact ⟨rfl,rfl⟩
variable {r d:Int}
theorem tY (h:look aA.n n C=none):gB (C.map aA.abs) n r=false:=by unfold gB;rw [gI,h];rfl
theorem jE (h:look aA.n n C=some c):gB (C.map aA.abs) n r=decide (0<=r/\r < c.l.length):=by unfold gB;rw [gI,h];rfl
theorem WJ (h:look aA.n n C=none):gV (C.map aA.abs) n r=z4:=by unfold gV;rw [gI,h];rfl
theorem JX (h:look aA.n n C=some c):gV (C.map aA.abs) n r=if 0<=r/\r < c.l.length then rat c.l r.toNat else z4:=by unfold gV;rw [gI,h];rfl
variable {s:Nat} {m:Value}
theorem dZ (S:iJ w s F m C d) (hn:Wf n) (r:Int) :
 Calls prog 90 #[.pointer (some ⟨s,0,none⟩),.int .i64 n,.int .i64 r] w fun e w'=>e = .returned (.bool (gB (C.map aA.abs) n r))/\Below w.heap.size w w':=by
 have hF:=lD;have c0:=Fl.rc S.row 0;have M:=Hh S.mp;have HN:=Hh hn;clear S hn
 cases hk:look aA.n n C with
 | none =>
   have E:=Hh (tY (r:=r) hk);have L:=Hh (sK hk);clear hk
   by_cases hr:0<=r
   ·go_enter func90,ntmps90
    go_wp2_with (at_lookup;refine jg rfl _ _ rfl M rfl _ rfl HN _ L ?_)
    go_ret
    exact ⟨ak (by rw [E.out];exact aq (by omega)),aa _ _⟩
   ·go_enter func90,ntmps90
    go_wp2_with (at_lookup;refine jg rfl _ _ rfl M rfl _ rfl HN _ L ?_)
    go_ret
    exact ⟨ak E.symm,aa _ _⟩
 | some c =>
   have E:=Hh (jE (r:=r) hk);have L:=Hh (jJ hk);clear hk;generalize c.l.length=k at *
   by_cases hr:0<=r
   ·by_cases h2:r < (k:Int)
    ·go_enter func90,ntmps90
     go_wp2_with (at_lookup;refine jg rfl _ _ rfl M rfl _ rfl HN _ L ?_)
     go_ret
     exact ⟨ak (by rw [E.out,az ⟨hr,h2⟩]),aa _ _⟩
    ·go_enter func90,ntmps90
     go_wp2_with (at_lookup;refine jg rfl _ _ rfl M rfl _ rfl HN _ L ?_)
     go_ret
     exact ⟨ak (by rw [E.out,aq (fun h=>by omega)]),aa _ _⟩
   ·go_enter func90,ntmps90
    go_wp2_with (at_lookup;refine jg rfl _ _ rfl M rfl _ rfl HN _ L ?_)
    go_ret
    exact ⟨ak (by rw [E.out,aq (fun h=>by omega)]),aa _ _⟩
def iq (w:World) (y:R4) (b:Bool) (e:Ending) (w':World):Prop:=e = .returned (.tuple #[aG y,.bool b])/\Below w.heap.size w w'
theorem J7 (w:World):(w.alloc (.cells (aN z4) 36)).heap[w.heap.size]? = some (.cells (aN z4) 36 (0,0))/\Below w.heap.size w (w.alloc (.cells (aN z4) 36))/\(w.alloc (.cells (aN z4) 36)).heap.size=w.heap.size+1:=⟨aw w _,(aa w.heap.size w).alloc (ac _) _,by simp⟩
theorem PV (w:World) (s:Value) (n r:Int) (hh:∀ W,Below w.heap.size w W->Calls prog 90 #[s,.int .i64 n,.int .i64 r] W fun e w'=>e = .returned (.bool false)/\Below W.heap.size W w') :
 Calls prog 170 #[s,.int .i64 n,.int .i64 r] w (iq w z4 false):=by
 obtain ⟨h1,hB,hz⟩:=J7 w;have H1:=Hh h1;have HB:=Hh hB;have HH:=Hh (hh _ hB);have HZ:=Hh hz;clear h1 hB hz hh;unfold aN z4 at *
 go_enter func170,ntmps170
 go_wp2_with fail;generalize (w.alloc (.cells #[.int .u8 0,.int .u8 0,.int .u8 0,.int .u8 0] 36))=W at *;refine HH.mono ?_;rintro e w1 ⟨rfl,b1⟩;have hz:=HZ.out;have G:w1.heap[w.heap.size]? = some (.cells (aN z4) 36 (0,0)):=(b1.block _ (by omega)).trans H1.out;have B1:=aP HB b1;obtain ⟨d0,d1,d2,d3,k0,k1,k2,k3⟩:=sI G;have R2:=Hh (aR G z4);have B2:=Hh (aJ (o:=0) (r:=z4) B1 (show w.heap.size<=w.heap.size by omega));clear b1 HH HB H1 HZ hz G B1;go_wp2
 (try simp only [Exit.inBlock,Exit.then])
 exact bj (aW (p:=6) (r:=7) rfl _ _ w.heap.size z4 (.bool false) rfl rfl R2) rfl ⟨rfl,B2⟩
theorem Xf (S:iJ w s F m C d) (hn:Wf n) (k:Nat) (hc:look aA.n n C=some c) (hk:k < c.l.length) :
 Calls prog 170 #[.pointer (some ⟨s,0,none⟩),.int .i64 n,.int .i64 (k:Int)] w (iq w (rat c.l k) true):=by
 obtain ⟨h1,hB,hz⟩:=J7 w;have H1:=Hh h1;have HB:=Hh hB;have HZ:=Hh hz;have hh:=dZ (S.below hB) hn (k:Int);rw [jE hc,az (⟨by omega,by omega⟩:0<=(k:Int)/\(k:Int) < c.l.length)] at hh;have HH:=Hh hh;have SS:=Hh S;have HN:=Hh hn;have L:=Hh (jJ hc);obtain ⟨ho,_⟩:=S.find hc;obtain ⟨g,cap,e1,_,_,_,_,_,hA⟩:=ho.form (by omega);obtain ⟨cn,cp,ca,ccap,cl⟩:=c;obtain ⟨rfl,rfl⟩:ca=some ⟨g,0,none⟩/\ccap=cap:=by
  unfold aA.sl at e1;injection e1 with e1 e2 e3;exact ⟨e1,e3⟩
 have A4':=at4 hA k hk;rw [eI] at A4';have A4:=Hh A4';clear A4';have hk':=hk;clear h1 hB hz hh ho e1 hA hc S hn hk;simp only at *;generalize rat cl k=y at *;generalize cl.length=q at *;have y4:Hid (aN y=#[.int .u8 y.1,.int .u8 y.2.1,.int .u8 y.2.2.1,.int .u8 y.2.2.2]):=rfl;unfold aN z4 at H1 HB HZ HH
 go_enter func170,ntmps170
 go_wp2_with fail;generalize (w.alloc (.cells #[.int .u8 0,.int .u8 0,.int .u8 0,.int .u8 0] 36))=W at *;refine HH.mono ?_;rintro e w1 ⟨rfl,b1⟩;have hz:=HZ.out;have G:w1.heap[w.heap.size]? = some (.cells (aN z4) 36 (0,0)):=(b1.block _ (by omega)).trans H1.out;have B1:=aP HB b1;have S1:=SS.below B1;have M1:=Hh S1.mp;have c0:=Fl.rc S1.row 0;have hF:=lD;have q0:=fQ B1 A4.out.1;have q1:=fQ B1 A4.out.2.1;have q2:=fQ B1 A4.out.2.2.1;have q3:=fQ B1 A4.out.2.2.2;obtain ⟨d0,d1,d2,d3,k0,k1,k2,k3⟩:=sI G;have R2:=Hh (aR G y);have B2:=Hh (aJ (o:=0) (r:=y) B1 (show w.heap.size<=w.heap.size by omega));clear b1 HH HB H1 HZ hz G B1 S1 SS A4
 go_wp2_with (at_lookup;refine jg rfl _ _ rfl M1 rfl _ rfl HN _ L ?_)
 (try simp only [Exit.inBlock,Exit.then])
 exact bj (aW (p:=6) (r:=7) rfl _ _ w.heap.size y (.bool true) rfl rfl R2) rfl ⟨rfl,B2⟩
theorem XC (S:iJ w s F m C d) (hn:Wf n) (r:Int) :
 Calls prog 170 #[.pointer (some ⟨s,0,none⟩),.int .i64 n,.int .i64 r] w (iq w (gV (C.map aA.abs) n r) (gB (C.map aA.abs) n r)):=by
 cases hk:look aA.n n C with
 | none =>
   rw [WJ hk,tY hk];refine PV w _ n r fun W hb=>?_;have:=dZ (S.below hb) hn r
   rwa [tY hk] at this
 | some c =>
   by_cases hr:0<=r/\r < c.l.length
   ·obtain ⟨k,rfl⟩:∃ k:Nat,r=k:=⟨r.toNat,by omega⟩
    rw [JX hk,jE hk,an hr,az hr,cJ];exact Xf S hn k hk (by omega)
   ·rw [JX hk,jE hk,ai hr,aq hr]
    refine PV w _ n r fun W hb=>?_;have:=dZ (S.below hb) hn r
    rwa [jE hk,aq hr] at this
open Fl (fG Bt)
theorem wY {e:aA} (h:apart c e):apart e c:=fun k hk hc=>h k hc hk
theorem Pf {α:Type} {R:α->α->Prop} (sy:∀ {x y},R x y->R y x):∀ {l:List α},l.Pairwise R->∀ {x y},x∈l->y∈l->x≠y->R x y
 | [],_,_,_,hx,_,_=>by cases hx
 | a :: r,h,x,y,hx,hy,hne=>by
   obtain ⟨h1,h2⟩:=db.1 h
   rcases cj.1 hx with ex | hx <;> rcases cj.1 hy with ey | hy
   ·exact (hne (ex.trans ey.symm)).elim
   ·rw [ex];exact h1 _ hy
   ·rw [ey];exact sy (h1 _ hx)
   ·exact Pf sy h2 hx hy hne
theorem OZ {α:Type} {κ:α->Int} {R:α->α->Prop} (sy:∀ {x y},R x y->R y x) {c:α} : ∀ {l:List α},l.Pairwise R->(∀ x∈l,R c x)->(ins κ c l).Pairwise R
 | [],_,_=>by simp [ins]
 | y :: r,h,hc=>by
   obtain ⟨h1,h2⟩:=db.1 h;unfold ins
   split
   ·exact db.2 ⟨hc,h⟩
   ·refine db.2 ⟨fun z hz=>?_,OZ sy h2 fun x hx=>hc x (ci _ hx)⟩
    rcases sJ.1 hz with rfl | hz
    ·exact sy (hc y cy)
    ·exact h1 z hz
theorem aaG (h:C.Pairwise apart) (hc:∀ e∈C,e.n≠c.n->apart c e):(put aA.n c C).Pairwise apart:=by
 unfold put;refine OZ wY (h.filter _) fun e he=>?_;obtain ⟨h1,h2⟩:=fe.1 he;exact hc e h1 (by simpa using h2)
section
variable {w w':World} {s:Nat} {F F':Nat->Prop} {m m':Value} {C:List aA} {d d':Int} {c:aA}
theorem iJ.put (h:iJ w s F m C d) (row:w'.heap[s]? = some (.cells #[m',.int .i64 d'] 150 (0,0))) (hF:∀ k,F k->F' k) (mp:Mp w' F' m' (put aA.n c C)) (old:∀ e∈C,e.n≠c.n->Ow K4 w' 0 36 e.sl e.l)
 (new:Ow K4 w' 0 36 c.sl c.l) (mine:∀ k,c.sl.ownBlock=some k->F' k) (far:∀ e∈C,e.n≠c.n->Fs.apart c e) (hn:0<=c.n/\c.n<=63) (hg:aL c.p c.l) (hl:dG c.l) (low:∀ k,F' k->k < w'.heap.size):iJ w' s F' m' (Fs.put aA.n c C) d':=by
 refine ⟨row,hF s h.l5,mp,fun e he=>?_,fun e he k hk=>?_,aaG h.apart far,?_,low⟩
 ·rcases sU.1 he with rfl | ⟨he,hne⟩
  ·exact new
  ·exact old e he hne
 ·rcases sU.1 he with rfl | ⟨he,hne⟩
  ·exact mine k hk
  ·exact hF k (h.mine e he k hk)
 ·rw [ni]
  exact h.ok.put hn hg hl
def aA.recs (c:aA) (l:List R4):aA:=⟨c.n,c.p,c.a,c.cap,l⟩
variable {l:List R4}
theorem JR (c:aA) (h:l.length=c.l.length):(c.recs l).sl=c.sl:=by unfold aA.recs aA.sl;rw [h]
theorem Tv {i:Nat} (hi:C[i]? = some c) (h:l.length=c.l.length):dat (C.set i (c.recs l))=dat C:=by
 unfold dat;rw [List.map_set];have:ent (c.recs l)=ent c:=by unfold ent aA.file;rw [JR c h];rfl
 rw [this]
 congr 1
 refine eW fun j=>?_;rw [gS]
 split
 ·rename_i hij
  subst hij;rw [cL,hi];have:=(cg.1 hi).1
  simp [this]
 ·rfl
theorem iJ.write {g n cap:Nat} {k:Nat} {x:R4} (h:iJ w s F m C d) (hc:c∈C) (hs:c.sl = .slice (some ⟨g,0,none⟩) n cap) (hk:k < c.l.length) (h0:k≠0) (hx:bH x) :
 iJ (bf w g (k * 4) x) s F m (Fs.put aA.n (c.recs (c.l.set k x)) C) d/\Only F w (bf w g (k * 4) x):=by
 have hg:F g:=h.mine c hc g (by rw [hs];rfl);obtain ⟨n1,n2⟩:=h.off hc;rw [hs] at n1 n2;have ng:s≠g:=fun e=>n1 (by rw [e];rfl);have hsl:(c.recs (c.l.set k x)).sl=c.sl:=JR c (by rw [cA]);have own:=h.own c hc;rw [hs] at own;have hn:n=c.l.length:=by unfold aA.sl at hs;injection hs with _ hs _;exact hs.symm
 have hcm:c.abs∈C.map aA.abs:=List.mem_map_of_mem hc;obtain ⟨i,hi⟩:=dq hc;have yP:pY aA.n C:=(tK (κ:=aA.n) (κ':=key) tL).1 h.ok.yP;have hput:Fs.put aA.n (c.recs (c.l.set k x)) C=C.set i (c.recs (c.l.set k x)):=nk yP hi rfl;have hdat:dat (Fs.put aA.n (c.recs (c.l.set k x)) C)=dat C:=by rw [hput];exact Tv hi (by rw [cA])
 have off:∀ e∈C,e.n≠c.n->Fs.apart c e:=fun e he hne=>Pf wY h.apart hc he fun e'=>hne (by rw [e']);have hGood:aL c.p (c.l.set k x):=xM (h.ok.good _ hcm) h0;have hOk:dG (c.l.set k x):=sZ (h.ok.ok _ hcm) hx;have hMp:Mp (bf w g (k * 4) x) F m (Fs.put aA.n (c.recs (c.l.set k x)) C):=by
  have M:Mp (bf w g (k * 4) x) F m C:=h.mp.kept fun b hb=>aH rfl fun e=>n2 b hb (by rw [e];rfl)
  rcases M with ⟨rfl,rfl⟩ | ⟨b,rfl,hF,hm⟩
  ·cases hc
  ·refine .inr ⟨b,rfl,hF,?_⟩
   rw [hdat,hput,cA];exact hm
 have hRow:=aH (g:=g) (o:=k * 4) (r:=x) h.row ng;have hOld:∀ e∈C,e.n≠(c.recs (c.l.set k x)).n->Ow K4 (bf w g (k * 4) x) 0 36 e.sl e.l:=fun e he hne=>by
  have o:=h.own e he;have a:=off e he hne g (by rw [hs];rfl);exact Fl.EI o a x
 have hNew:Ow K4 (bf w g (k * 4) x) 0 36 (c.recs (c.l.set k x)).sl (c.l.set k x):=by
  rw [hsl,hs];exact fG own hn k hk x
 refine ⟨h.put hRow (fun k hk=>hk) hMp hOld hNew (fun j hj=>h.mine c hc j (by rw [← hsl];exact hj)) (fun e he hne j hj=>off e he hne j (by rw [← hsl];exact hj)) (h.ok.nm _ hcm) hGood hOk (by rw [bN];exact h.low),?_⟩;have O1:∀ W:World,∀ o v,Only F W (W.setCell ⟨g,o,none⟩ v):=fun W o v=>Only.set F W hg v;unfold bf;exact (((O1 _ _ _).trans (O1 _ _ _) fun _ _ g=>g).trans (O1 _ _ _) fun _ _ g=>g).trans (O1 _ _ _) fun _ _ g=>g
end
attribute [local irreducible] Sd.aV wpQuiet Sg.dw
def gK (w:World) (s:Nat) (F:Nat->Prop) (d:Int) (b:Bool) (A':aT) (e:Ending) (w':World):Prop:=e = .returned (.bool b)/\St w' s (Fx F w w') A' d/\Only F w w'
theorem Kw (h:look aA.n n C=some c) (h0:0<=r) (h1:r < c.l.length) (h2:r≠0):sB (C.map aA.abs) n r=true:=by
 unfold sB;rw [jE h,az ⟨h0,h1⟩,az h2]
 rfl
theorem WZ (h:look aA.n n C=some c) (h0:0<=r) (h1:r < c.l.length) (h2:r≠0) (x:R4):sA (C.map aA.abs) n r x=(put aA.n (c.recs (c.l.set r.toNat x)) C).map aA.abs:=by
 have hb:=Kw h h0 h1 h2;have he:look key n (C.map aA.abs)=some c.abs:=by rw [gI,h];rfl
 unfold sA;rw [he];simp only [hb,if_true];rw [ni];obtain ⟨_,rfl⟩:=gz h
 rfl
variable {A:aT}
theorem ab0 (h:sB A n r=false) (x:R4):sA A n r x=A:=by
 unfold sA
 split
 ·rfl
 ·rw [h];rfl
theorem Bo (w:World) (x:R4):(w.alloc (.cells (aN x) 36)).heap[w.heap.size]? = some (.cells (aN x) 36 (0,0))/\Below w.heap.size w (w.alloc (.cells (aN x) 36))/\(w.alloc (.cells (aN x) 36)).heap.size=w.heap.size+1:=⟨aw w _,(aa w.heap.size w).alloc (ac _) _,by simp⟩
theorem vI (w:World) (s:Value) (n:Int) (x:R4):Calls prog 62 #[s,.int .i64 n,.int .i64 0,aG x] w fun e w'=>e = .returned (.bool false)/\Below w.heap.size w w':=by
 unfold aG
 go_enter func62,ntmps62
 go_wp2
 go_ret
 exact ⟨rfl,(aa w.heap.size w).alloc (ac _) _⟩
theorem QS (w:World) (s:Value) (n r:Int) (x:R4) (hr:r≠0) (hh:∀ W,Below w.heap.size w W->Calls prog 90 #[s,.int .i64 n,.int .i64 r] W fun e w'=>e = .returned (.bool false)/\Below W.heap.size W w') :
 Calls prog 62 #[s,.int .i64 n,.int .i64 r,aG x] w fun e w'=>e = .returned (.bool false)/\Below w.heap.size w w':=by
 obtain ⟨h1,hB,hz⟩:=Bo w x;have HB:=Hh hB;have HH:=Hh (hh _ hB);clear h1 hB hz hh;have hr0:(r == 0)=false:=by simpa using hr
 unfold aG;unfold aN at *
 go_enter func62,ntmps62
 go_wp2_with fail;refine HH.mono ?_;rintro e w1 ⟨rfl,b1⟩;have B1:=aP HB b1;clear b1 HH HB;go_wp2
 go_ret
 exact ⟨rfl,B1⟩
structure vD (s:Nat) (F:Nat->Prop) (m:Value) (C:List aA) (d:Int) (g:Nat) (x:R4) (W:World):Prop where
 row:W.heap[s]? = some (.cells #[m,.int .i64 d] 150 (0,0))
 mp:Mp W F m C
 box:W.heap[g]? = some (.cells (aN x) 36 (0,0))
theorem VG (S:iJ w s F m C d) (hn:Wf n) (k:Nat) (x:R4) (hx:bH x) (hc:look aA.n n C=some c) (hk:k < c.l.length) (hk0:k≠0) :
 Calls prog 62 #[.pointer (some ⟨s,0,none⟩),.int .i64 n,.int .i64 (k:Int),aG x] w (gK w s F d true ((put aA.n (c.recs (c.l.set k x)) C).map aA.abs)):=by
 obtain ⟨h1,hB,hz⟩:=Bo w x;have H1:=Hh h1;have HB:=Hh hB;have HZ:=Hh hz;have hh:=dZ (S.below hB) hn (k:Int);rw [jE hc,az (⟨by omega,by omega⟩:0<=(k:Int)/\(k:Int) < c.l.length)] at hh;have HH:=Hh hh;have SS:=Hh S;have HN:=Hh hn;have L:=Hh (jJ hc);obtain ⟨ho,_,_,_,_,hm⟩:=S.find hc;obtain ⟨g,cap,e1,_,_,_,_,_,_⟩:=ho.form (by omega);have ea:c.a=some ⟨g,0,none⟩:=by unfold aA.sl at e1;injection e1
 rw [ea] at L;have FIN:Hid (∀ W,Below w.heap.size w W->gK w s F d true ((put aA.n (c.recs (c.l.set k x)) C).map aA.abs) (.returned (.bool true)) (bf W g (k * 4) x)):=fun W hb=>by
  obtain ⟨S1,O1⟩:=(S.below hb).write hm e1 hk hk0 hx;have O2:=(Only.of_below (G:=F) hb).trans O1 fun _ _ g=>g;exact ⟨rfl,⟨_,_,S1.wide (fun j hj=>.inl hj) (Fx.low S.low O2.size),rfl⟩,O2⟩
 have OW:=Hh (eJ ho (eJ e1 hk));have CB:Hid (∀ W,vD s F m C d w.heap.size x W->∀ g',g=g'->((bf W g' (k * 4) x).heap[s]? = some (.cells #[m,.int .i64 d] 150 (0,0))/\Mp (bf W g' (k * 4) x) F m C/\(bf W g' (k * 4) x).heap[w.heap.size]? = some (.cells (aN x) 36 (0,0)))):=fun W h g' eg=>by
  subst eg;obtain ⟨n1,n2⟩:=S.off hm;rw [e1] at n1 n2;have hgl:=S.low g (S.mine c hm g (by rw [e1];rfl));exact ⟨aH h.row fun e=>n1 (by rw [e];rfl),h.mp.kept fun b hb=>aH rfl fun e=>n2 b hb (by rw [e];rfl),aH h.box (by omega)⟩
 have hq:=hk;clear h1 hB hz hh ho e1 hc S hn hk hm ea;generalize put aA.n (c.recs (c.l.set k x)) C=C' at *;have hr0:((k:Int) == 0)=false:=by simpa using hk0
 have OW2:Hid (∀ W,Below w.heap.size w W->(W.cell? ⟨g,k * 4,none⟩=some (.int .u8 (rat c.l k).1)/\W.cell? ⟨g,k * 4+1,none⟩=some (.int .u8 (rat c.l k).2.1)/\W.cell? ⟨g,k * 4+2,none⟩=some (.int .u8 (rat c.l k).2.2.1)/\W.cell? ⟨g,k * 4+3,none⟩=some (.int .u8 (rat c.l k).2.2.2))/\(∀ j,W.frozen? ⟨g,j,none⟩=false)):=fun W hb=>by
  have o:=OW.out.1.keep hb;rw [OW.out.2.1] at o;have:=Bt o k OW.out.2.2;exact ⟨this.1,this.2.1⟩
 clear OW;generalize rat c.l k=y0 at *;generalize c.l.length=q at *;generalize c.p=p at *;generalize c.cap=ccap at *;unfold aG;have X4:Hid (aN x=#[.int .u8 x.1,.int .u8 x.2.1,.int .u8 x.2.2.1,.int .u8 x.2.2.2]):=rfl;unfold aN at H1 HB HZ HH
 go_enter func62,ntmps62
 go_wp2_with fail;generalize (w.alloc (.cells #[.int .u8 x.1,.int .u8 x.2.1,.int .u8 x.2.2.1,.int .u8 x.2.2.2] 36))=W at *;refine HH.mono ?_;rintro e w1 ⟨rfl,b1⟩;have hz:=HZ.out;have G:=(b1.block _ (by omega)).trans H1.out;have B1:=aP HB b1;have S1:=SS.below B1;have C0:vD s F m C d w.heap.size x w1.drew:=⟨S1.row,S1.mp,G⟩;clear b1 HH HB H1 HZ hz G S1 SS;go_wp2_with fail;have hF:=lD;have c0:=Sc.ay (C:=vD s F m C d w.heap.size x) (a:=⟨s,0,none⟩) (fun W' h=>ah h.row 0);have x0:=Sc.ay (C:=vD s F m C d w.heap.size x) (a:=⟨w.heap.size,0,none⟩) (v:=.int .u8 x.1) (fun W' h=>ah h.box 0);have x1:=Sc.ay (C:=vD s F m C d w.heap.size x) (a:=⟨w.heap.size,1,none⟩) (v:=.int .u8 x.2.1) (fun W' h=>ah h.box 1);have x2:=Sc.ay (C:=vD s F m C d w.heap.size x) (a:=⟨w.heap.size,2,none⟩) (v:=.int .u8 x.2.2.1) (fun W' h=>ah h.box 2);have x3:=Sc.ay (C:=vD s F m C d w.heap.size x) (a:=⟨w.heap.size,3,none⟩) (v:=.int .u8 x.2.2.2) (fun W' h=>ah h.box 3);have hlk:∀ P:Sc.In (vD s F m C d w.heap.size x),(Instr.lookup 148 m (.int .i64 n) false).run prog P.world = .ok (.agg #[.int .i64 p,.slice (some ⟨g,0,none⟩) q ccap]) P.world:=fun P=>by
  have:=l9 P.ok.mp HN false;rw [L.out] at this;exact this
 have ne:Nonempty (Sc.In (vD s F m C d w.heap.size x)):=⟨⟨_,C0⟩⟩;refine Sc.start (vD s F m C d w.heap.size x) [(false,0),(false,1),(false,2),(false,3),(false,4),(false,5),(false,6),(false,7),(false,8),(false,9),(true,10)] (by kernel_rfl) (by kernel_rfl) (by kernel_rfl) C0 ?_;dsimp only [Sd.aK,List.getElem?_cons_succ,List.getElem?_cons_zero]
 repeat (refine Sd.lit ?_;quiet_step (fail);refine bi ?_)
 have BW:=B1.trans ((aa _ _).drew);obtain ⟨⟨d0,d1,d2,d3⟩,hfr⟩:=OW2 w1.drew BW;have f0:=hfr (k * 4);have f1:=hfr (k * 4+1);have f2:=hfr (k * 4+2);have f3:=hfr (k * 4+3);have L1:vD s F m C d w.heap.size x (bf w1.drew g (k * 4) x):=by
  obtain ⟨a1,a2,a3⟩:=CB _ C0 _ rfl;exact ⟨a1,a2,a3⟩
 have RES:=Hh (FIN w1.drew BW);clear hfr OW2 CB FIN C0 B1 BW;generalize w1.drew=W1 at *;refine Sd.call (by rfl) (fun K hK=>?_);go_simp;refine hK _ _ (Sc.Cl.of L1) ?_;clear hK K d0 d1 d2 d3 f0 f1 f2 f3 c0 x0 x1 x2 x3 hlk
 show Sd.aV _ _ _ _ _ _ (bf W1 g (k * 4) x)
 generalize bf W1 g (k * 4) x=W2 at *;refine Sd.done ?_;go_wp2
 go_ret
 exact RES
theorem vg (S:St w s F A d) (hn:Wf n) (r:Int) (x:R4) (hx:bH x) :
 Calls prog 62 #[.pointer (some ⟨s,0,none⟩),.int .i64 n,.int .i64 r,aG x] w (gK w s F d (sB A n r) (sA A n r x)):=by
 obtain ⟨m,C,h,rfl⟩:=S;have no:∀ e w',sB (C.map aA.abs) n r=false->(e = .returned (.bool false)/\Below w.heap.size w w')->gK w s F d (sB (C.map aA.abs) n r) (sA (C.map aA.abs) n r x) e w':=fun e w' hb ⟨he,b⟩=>by
  unfold gK;rw [hb,ab0 hb x];exact ⟨he,St.fx ⟨m,C,h,rfl⟩ b,Only.of_below b⟩
 by_cases hr:r=0
 ·subst hr
  exact (vI w _ n x).mono fun e w'=>no e w' (by unfold sB;simp)
 ·have none:gB (C.map aA.abs) n r=false->Calls prog 62 #[.pointer (some ⟨s,0,none⟩),.int .i64 n,.int .i64 r,aG x] w (gK w s F d (sB (C.map aA.abs) n r) (sA (C.map aA.abs) n r x)):=fun hg =>
   (QS w _ n r x hr fun W hb=>by
     have:=dZ (h.below hb) hn r
     rwa [hg] at this).mono fun e w'=>no e w' (by unfold sB;rw [hg];rfl)
  cases hk:look aA.n n C with
  | none=>exact none (tY hk)
  | some c =>
    by_cases h2:0<=r/\r < c.l.length
    ·rw [Kw hk h2.1 h2.2 hr,WZ hk h2.1 h2.2 hr]
     obtain ⟨k,rfl⟩:∃ k:Nat,r=k:=⟨r.toNat,by omega⟩;rw [cJ];exact VG h hn k x hx hk (by omega) (by omega)
    ·exact none (by rw [jE hk,aq h2])
open Fl (aQ)
section
variable {w W W':World} {s b:Nat} {F:Nat->Prop} {C:List aA} {d:Int} {c:aA}
theorem iJ.place (h:iJ w s F (.map (some b)) C d) (hb:Below w.heap.size w W) (hg:W.grownBy W' (some b)) (mp:Mp W' F (.map (some b)) (Fs.put aA.n c C)) (ow:Ow K4 W w.heap.size 36 c.sl c.l) (hn:0<=c.n/\c.n<=63) (hgd:aL c.p c.l) (hl:dG c.l) :
 St W' s (Fx F w W') ((Fs.put aA.n c C).map aA.abs) d/\Only F w W':=by
 have hne:=h.qP;have hFb:=h.mp.isMap.1;have hbl:=h.low b hFb;have hsl:=h.low s h.l5;have O:=(Only.of_below hb).trans (Only.grown (G:=fun k=>k=b) rfl hg) fun k _ e=>e ▸ hFb;have off:=lg ow;refine ⟨⟨_,_,h.put (w':=W') (d':=d) (F':=Fx F w W') ?_ (fun k hk=>.inl hk) (mp.wide fun k hk=>.inl hk) (fun e he hne=>?_) ?_ (fun k hk=>.inr ⟨(off k hk).1,cE (off k hk).2 hg.size⟩) (fun e he hne k hk hk'=>?_) hn hgd hl (Fx.low h.low O.size),rfl⟩,O⟩
 ·rw [hg.block s (cE hsl hb.size) (by intro e;injection e with e;exact hne e.symm),hb.block s hsl]
  exact h.row
 ·exact aB (G:=fun k=>k=b) ((h.own e he).keep hb) (fun k hk e'=>(h.off he).2 b rfl (by rw [hk,e'])) (Only.grown rfl hg)
 ·exact aB (G:=fun k=>k=b) (ow.low (ce _)) (fun k hk e'=>by have:=(off k hk).1;omega) (Only.grown rfl hg)
 ·have:=(off k hk).1
  have:=h.low k (h.mine e he k hk')
  omega
theorem iJ.make (h:iJ w s F (.map none) C d) (hb:Below w.heap.size w W):iJ ((W.alloc (.map #[] 0)).setCell ⟨s,0,none⟩ (.map (some W.heap.size))) s (Fx F w ((W.alloc (.map #[] 0)).setCell ⟨s,0,none⟩ (.map (some W.heap.size)))) (.map (some W.heap.size)) C d/\Only F w ((W.alloc (.map #[] 0)).setCell ⟨s,0,none⟩ (.map (some W.heap.size))):=by
 have hC:C = []:=by
  rcases h.mp with ⟨_,e⟩ | ⟨b,e,_⟩
  ·exact e
  ·cases e
 subst hC;have hsl:=h.low s h.l5;have B2:Below w.heap.size w (W.alloc (.map #[] 0)):=hb.alloc hb.size _;have O:Only F w ((W.alloc (.map #[] 0)).setCell ⟨s,0,none⟩ (.map (some W.heap.size))):=(Only.of_below B2).trans (Only.set F _ (a:=⟨s,0,none⟩) h.l5 _) fun _ _ g=>g;refine ⟨⟨?_,.inl h.l5,.inr ⟨W.heap.size,rfl,.inr ⟨hb.size,by simp [World.setCell]⟩,?_⟩,nofun,nofun,gO,h.ok,Fx.low h.low O.size⟩,O⟩
 ·have:=Rw.heap_setCell_same (w:=W.alloc (.map #[] 0)) (g:=s) (j:=0) ((B2.block s hsl).trans h.row) (.map (some W.heap.size))
  rw [this]
  simp
 ·have:=World.ownsMap_made (H:=Value) W prog 3 Rh
  exact this.setCell (a:=⟨s,0,none⟩) (fun e=>by have:=hb.size;simp only at e;omega) _
variable {w1 w2:World}
theorem Fx.trans (h1:Only F w w1) (h2:w1.heap.size<=w2.heap.size):∀ k,Fx (Fx F w w1) w1 w2 k->Fx F w w2 k:=by
 have:=h1.size;rintro k ((g | ⟨a,b⟩) | ⟨a,b⟩)
 ·exact .inl g
 ·exact .inr ⟨a,by omega⟩
 ·exact .inr ⟨by omega,b⟩
theorem Only.trans' (h1:Only F w w1) (h2:Only (Fx F w w1) w1 w2):Only F w w2:=h1.trans h2 fun k hk g=>by
 rcases g with g | ⟨a,_⟩
 ·exact g
 ·omega
end
def ig (w:World) (s:Nat) (F:Nat->Prop) (d:Int) (z:Int) (A':aT) (e:Ending) (w':World):Prop:=e = .returned (.int .i64 z)/\St w' s (Fx F w w') A' d/\Only F w w'
theorem pR (w:World) (p:Int) (v:Value):(w.alloc (.cells #[.int .i64 p,v] 83)).heap[w.heap.size]? = some (.cells #[.int .i64 p,v] 83 (0,0))/\Below w.heap.size w (w.alloc (.cells #[.int .i64 p,v] 83))/\(w.alloc (.cells #[.int .i64 p,v] 83)).heap.size=w.heap.size+1:=⟨aw w _,(aa w.heap.size w).alloc (ac _) _,by simp⟩
theorem abb (w:World) (s:Nat) (n p:Int) (a:Option Addr) (q cap:Nat) (hn:¬ (0<=n/\n<=63)):Calls prog 52 #[.pointer (some ⟨s,0,none⟩),.int .i64 n,.agg #[.int .i64 p,.slice a q cap]] w fun e w'=>e = .returned (.int .i64 1)/\Below w.heap.size w w':=by
 by_cases h:n < 0
 ·go_enter func52,ntmps52
  go_wp2
  go_ret
  exact ⟨rfl,(aa w.heap.size w).alloc (ac _) _⟩
 ·have h2:64<=n:=by omega
  go_enter func52,ntmps52
  go_wp2
  go_ret
  exact ⟨rfl,(aa w.heap.size w).alloc (ac _) _⟩
theorem aa4 (w:World) (s:Nat) (n p:Int) (a:Option Addr) (q cap:Nat) (l:List R4) (R:Rd K4 w (.slice a q cap) l) (hn:0<=n/\n<=63) (hg:¬ aL p l):Calls prog 52 #[.pointer (some ⟨s,0,none⟩),.int .i64 n,.agg #[.int .i64 p,.slice a q cap]] w fun e w'=>e = .returned (.int .i64 2)/\Below w.heap.size w w':=by
 obtain ⟨h1,hB,hz⟩:=pR w p (.slice a q cap);have HB:=Hh hB;have GA:=aQ _ p (.slice a q cap) l (R.below hB);rw [show bG p l=false from aq hg] at GA;have HG:=Hh GA;have n1:=hn.1;have n2:n < 64:=by omega
 clear h1 hB hz R GA hg hn;unfold file at HG
 go_enter func52,ntmps52
 go_wp2_with fail;refine HG.mono ?_;rintro e w1 ⟨rfl,b1⟩;have B1:=aP HB b1;clear b1 HG HB;go_wp2
 go_ret
 exact ⟨rfl,B1⟩
theorem Zf (S:iJ w s F m C d) (n p:Int) (a:Option Addr) (q cap:Nat) (l:List R4) (R:Rd K4 w (.slice a q cap) l) (hn:0<=n/\n<=63) (hg:aL p l) (hc:look aA.n n C=some c) :
 Calls prog 52 #[.pointer (some ⟨s,0,none⟩),.int .i64 n,.agg #[.int .i64 p,.slice a q cap]] w fun e w'=>e = .returned (.int .i64 10)/\Below w.heap.size w w':=by
 obtain ⟨h1,hB,hz⟩:=pR w p (.slice a q cap);have HB:=Hh hB;have GA:=aQ _ p (.slice a q cap) l (R.below hB);rw [show bG p l=true from az hg] at GA;have HG:=Hh GA;have SS:=Hh S;have n1:=hn.1;have n2:n < 64:=by omega
 have HN:Hid (Wf n):=WalkArith.wf_i64 (by omega);have L:=Hh (jJ hc);have LB:=Hh (Bg hc);clear h1 hB hz R GA hg hn S hc;unfold file at HG
 go_enter func52,ntmps52
 go_wp2_with fail;refine HG.mono ?_;rintro e w1 ⟨rfl,b1⟩;have B1:=aP HB b1;have S1:=SS.below B1;have c0:=Fl.rc S1.row 0;have M:=Hh S1.mp;clear b1 HG HB S1 SS
 go_wp2_with (at_lookup;refine wV rfl _ _ rfl M rfl _ rfl HN _ L _ LB ?_)
 go_ret
 exact ⟨rfl,B1.alloc B1.size _⟩
structure lI (s:Nat) (m:Value) (d:Int) (g:Nat) (p:Int) (v:Value) (W:World):Prop where
 row:W.heap[s]? = some (.cells #[m,.int .i64 d] 150 (0,0))
 box:W.heap[g]? = some (.cells #[.int .i64 p,v] 83 (0,0))
theorem PG (b:Option Nat) (W:World):(binOp .eql 148 (.map b) (.map none)).run prog W = .ok (.bool b.isNone) W:=run_eql_map_nil W _ _ _ b underlying148
theorem abw {v:Value} {l:List R4} {o:Option Nat} {T:TypeId} (R:Rd K4 w v l) (h0:0 < l.length) (row:w.heap[s]? = some (.cells #[.map o,.int .i64 d] T (0,0))):∀ k,v.ownBlock=some k->k=s->False:=fun k hk e=>by
 obtain ⟨a,cap,rfl,_,_,h3⟩:=R;obtain ⟨b,off,rfl,hA⟩:=h3 h0;obtain rfl:b=k:=by simpa [Value.ownBlock] using hk
 subst e;have c:=hA 0 h0 0 _ rfl;have r:=ah row (off+0 * 4+0);have:w.cell? ⟨b,off+0 * 4+0,none⟩=some (.int .u8 (l.getD 0 z4).1):=c;rw [r] at this
 match off,this with
 | 0,h=>simp at h
 | 1,h=>simp at h
 | k+2,h=>simp at h
theorem Ql (S:iJ w s F (.map (some b)) C d) (n p:Int) (a:Option Addr) (q cap:Nat) (l:List R4) (R:Rd K4 w (.slice a q cap) l) (hn:0<=n/\n<=63) (hg:aL p l) (hl:dG l) (hc:look aA.n n C=none) :
 Calls prog 52 #[.pointer (some ⟨s,0,none⟩),.int .i64 n,.agg #[.int .i64 p,.slice a q cap]] w (ig w s F d 0 (put key (n,p,l) (C.map aA.abs))):=by
 obtain ⟨h1,hB,hz⟩:=pR w p (.slice a q cap);have HB:=Hh hB;have H1:=Hh h1;have HZ:=Hh hz;have RR:=Hh R;have HL:=Hh hl;have HGD:=Hh hg;have GA:=aQ _ p (.slice a q cap) l (R.below hB);rw [show bG p l=true from az hg] at GA;have HG:=Hh GA;have SS:=Hh S;have n1:=hn.1;have n2:n < 64:=by omega
 have HN:Hid (Wf n):=WalkArith.wf_i64 (by omega);have L:=Hh (sK hc);have LB:=Hh (BG hc);have FIN:Hid (∀ (u:Value) W W',Below w.heap.size w W->W.grownBy W' (some b)->Ow K4 W w.heap.size 36 u l->(∀ c:aA,c.n=n->c.file=file p u->c.l=l->Mp W' F (.map (some b)) (put aA.n c C))->ig w s F d 0 (put key (n,p,l) (C.map aA.abs)) (.returned (.int .i64 0)) W'):=fun u W W' hb hgr ow mp=>by
  obtain ⟨au,cu,rfl,_⟩:=ow.slice;obtain ⟨S1,O1⟩:=S.place (c:=⟨n,p,au,cu,l⟩) hb hgr (mp _ rfl rfl rfl) ow hn hg hl;rw [ni] at S1;exact ⟨rfl,S1,O1⟩
 have hne:=S.qP;have hbl:=S.low b S.mp.isMap.1;have hlen:=S.len;clear h1 hB hz R GA hg hn S hc hl;unfold file at HG
 go_enter func52,ntmps52
 go_wp2_with fail;generalize (w.alloc (.cells #[.int .i64 p,.slice a q cap] 83))=W at *;refine HG.mono ?_;rintro e w1 ⟨rfl,b1⟩;have B1:=aP HB b1;have S1:=SS.below B1;have c0:=Fl.rc S1.row 0;have M:=Hh S1.mp;have hz:=HZ.out;have G1:=Hh ((b1.block w.heap.size (by omega)).trans H1.out);have hE:=PG (some b);have B2:=Hh (B1.alloc B1.size (.cells #[.int .i64 0,.slice none 0 0] 83));have G2:=Hh ((cz w1 (.cells #[.int .i64 0,.slice none 0 0] 83) w.heap.size (by have:=b1.size;omega)).trans G1.out);have c2:=ah (SS.below B2).row 0;clear b1 HG HB S1 G1 H1 hz
 go_wp2_with (at_lookup;refine wV rfl _ _ rfl M rfl _ rfl HN _ L _ LB ?_)
 clear c0 c2 M hE B1;generalize (w1.alloc (.cells #[.int .i64 0,.slice none 0 0] 83))=W2 at *;have S2:=Hh (SS.below B2);have C0:lI s (.map (some b)) d w.heap.size p (.slice a q cap) W2.drew:=⟨S2.row,G2⟩;have c0:=Sc.ay (C:=lI s (.map (some b)) d w.heap.size p (.slice a q cap)) (a:=⟨s,0,none⟩) (fun W' h=>ah h.row 0);have r0:=Sc.ay (C:=lI s (.map (some b)) d w.heap.size p (.slice a q cap)) (a:=⟨w.heap.size,0,none⟩) (fun W' h=>ah h.box 0);have r1:=Sc.ay (C:=lI s (.map (some b)) d w.heap.size p (.slice a q cap)) (a:=⟨w.heap.size,1,none⟩) (fun W' h=>ah h.box 1);have ne:Nonempty (Sc.In (lI s (.map (some b)) d w.heap.size p (.slice a q cap))):=⟨⟨_,C0⟩⟩;have BW:=Hh (B2.trans ((aa W2.heap.size W2).drew.mono B2.size));refine Sc.start (lI s (.map (some b)) d w.heap.size p (.slice a q cap)) [(false,0),(false,1),(false,2),(false,3),(false,4),(false,5),(true,6),(true,7)] (by kernel_rfl) (by kernel_rfl) (by kernel_rfl) C0 ?_;dsimp only [Sd.aK,List.getElem?_cons_succ,List.getElem?_cons_zero]
 repeat (refine Sd.lit ?_;quiet_step (fail);refine bi ?_)
 refine Sd.call (by rfl) (fun K hK=>?_);have CA:=kV W2.drew p (.slice a q cap) l (RR.below BW) (by have:=HGD.out.2.2.2.1;omega);unfold file at CA;go_simp;refine CA.mono ?_;rintro e w3 ⟨u,rfl,o3,b3⟩;have hszz:=B2.size;have B3:=Hh (BW.trans (b3.mono hszz));have O3:=Hh (o3.low hszz);have S3:=SS.below B3;have G3:w3.heap[w.heap.size]? = _:=(b3.block _ (by have:=HZ;have:=bh G2;exact this)).trans C0.box;refine hK _ _ (Sc.Cl.of ⟨S3.row,G3⟩) ?_;clear hK K b3 o3 CA C0 G2 B2 BW c0 r0 r1 S2;have M3:=Hh S3.mp;have R3:=Hh S3.row;have Yx:=Hh G3;clear S3 G3;obtain ⟨au,cu,rfl,_⟩:=O3.slice;refine Sd.call (by rfl) (fun K hK=>?_);refine qH _ _ _ rfl rfl M3 ⟨n,p,au,cu,l⟩ rfl rfl HN (by unfold maxLen;omega) (fun w4 m4 g4=>?_)
 have RES:=Hh (FIN _ w3 w4 B3 g4 O3 (fun c e1 e2 e3=>by
  obtain ⟨cn,cp,ca,cc,cl⟩:=c;simp only at e1 e3;subst e1 e3;unfold aA.file Fl.file aA.sl at e2;injection e2 with e2;have e4:=dj (fun t:Array Value=>t[0]?) e2;have e5:=dj (fun t:Array Value=>t[1]?) e2
  simp at e4 e5
  obtain ⟨rfl,rfl⟩:=e5;subst e4
  exact m4))
 have hws:=bh R3;have hwg:=bh Yx;refine hK _ _ (Sc.Cl.of ⟨(g4.block s hws (by intro e;injection e with e;exact hne e.symm)).trans R3.out,(g4.block w.heap.size hwg (by intro e;injection e with e;omega)).trans Yx.out⟩) ?_;clear hK K m4 g4 FIN;refine Sd.done ?_;go_wp2
 go_ret
 exact RES
theorem Rl (S:iJ w s F (.map none) C d) (n p:Int) (a:Option Addr) (q cap:Nat) (l:List R4) (R:Rd K4 w (.slice a q cap) l) (hn:0<=n/\n<=63) (hg:aL p l) (hl:dG l) (hc:look aA.n n C=none) :
 Calls prog 52 #[.pointer (some ⟨s,0,none⟩),.int .i64 n,.agg #[.int .i64 p,.slice a q cap]] w (ig w s F d 0 (put key (n,p,l) (C.map aA.abs))):=by
 obtain ⟨h1,hB,hz⟩:=pR w p (.slice a q cap);have HB:=Hh hB;have H1:=Hh h1;have HZ:=Hh hz;have RR:=Hh R;have HL:=Hh hl;have HGD:=Hh hg;have GA:=aQ _ p (.slice a q cap) l (R.below hB);rw [show bG p l=true from az hg] at GA;have HG:=Hh GA;have SS:=Hh S;have n1:=hn.1;have n2:n < 64:=by omega
 have HN:Hid (Wf n):=WalkArith.wf_i64 (by omega);have L:=Hh (sK hc);have LB:=Hh (BG hc);have HNG:=Hh (eJ hn (eJ hg hl));have hlen:=S.len;have hsl:=S.low s S.l5;clear h1 hB hz R GA hg hn S hc hl;unfold file at HG;have hmm:=@run_makeMap prog
 go_enter func52,ntmps52
 go_wp2_with fail;generalize (w.alloc (.cells #[.int .i64 p,.slice a q cap] 83))=W at *;refine HG.mono ?_;rintro e w1 ⟨rfl,b1⟩;have B1:=aP HB b1;have S1:=SS.below B1;have c0:=Fl.rc S1.row 0;have M:=Hh S1.mp;have hz:=HZ.out;have G1:=Hh ((b1.block w.heap.size (by omega)).trans H1.out);have hE:=PG none;have B2:=Hh (B1.alloc B1.size (.cells #[.int .i64 0,.slice none 0 0] 83));have G2:=Hh ((cz w1 (.cells #[.int .i64 0,.slice none 0 0] 83) w.heap.size (by have:=b1.size;omega)).trans G1.out);have S2:=SS.below B2;have c2:=Fl.rc S2.row 0;have hz2:(w1.alloc (.cells #[.int .i64 0,.slice none 0 0] 83)).heap.size=w1.heap.size+1:=by simp
 have MK:=SS.make B2;have S3:=(S2.below ((aa _ _).alloc (ac _) (.map #[] 0)));have c3:=Fl.rc S3.row 0;have f3:=aj S3.row 0;have hgs:w.heap.size≠s:=by omega
 have G3:=Hh ((bs ((w1.alloc (.cells #[.int .i64 0,.slice none 0 0] 83)).alloc (.map #[] 0)) ⟨s,0,none⟩ (.map (some (w1.heap.size+1))) w.heap.size hgs).trans ((cz (w1.alloc (.cells #[.int .i64 0,.slice none 0 0] 83)) (.map #[] 0) w.heap.size (by have:=B2.out.size;have:=b1.size;omega)).trans G2.out));rw [hz2] at MK;have S3':=Hh MK.1;have O3':=Hh MK.2;have OS:Only (fun k=>k=s) w ((((w1.alloc (.cells #[.int .i64 0,.slice none 0 0] 83)).alloc (.map #[] 0)).setCell ⟨s,0,none⟩ (.map (some (w1.heap.size+1))))):=(Only.of_below (B2.alloc B2.size _)).trans (Only.set (fun k=>k=s) _ (a:=⟨s,0,none⟩) rfl _) fun _ _ g=>g;have R3:=Hh (iU RR (fun h0 k hk e=>abw RR h0 SS.row k hk e) OS);clear b1 HG HB S1 G1 H1 hz G2 S2 S3 MK hz2 OS
 go_wp2_with (at_lookup;refine wV rfl _ _ rfl M rfl _ rfl HN _ L _ LB ?_)
 clear c0 c2 c3 f3 M hE hmm B2 B1;generalize hb:w1.heap.size+1=b at *;clear hb;generalize (((w1.alloc (.cells #[.int .i64 0,.slice none 0 0] 83)).alloc (.map #[] 0)).setCell ⟨s,0,none⟩ (.map (some b)))=W2 at *;have hne:=S3'.qP;have hcl:C.length < maxLen:=by unfold maxLen;omega
 have hws2:=bh G3;have C0:lI s (.map (some b)) d w.heap.size p (.slice a q cap) W2.drew:=⟨S3'.row,G3⟩;have c0:=Sc.ay (C:=lI s (.map (some b)) d w.heap.size p (.slice a q cap)) (a:=⟨s,0,none⟩) (fun W' h=>ah h.row 0);have r0:=Sc.ay (C:=lI s (.map (some b)) d w.heap.size p (.slice a q cap)) (a:=⟨w.heap.size,0,none⟩) (fun W' h=>ah h.box 0);have r1:=Sc.ay (C:=lI s (.map (some b)) d w.heap.size p (.slice a q cap)) (a:=⟨w.heap.size,1,none⟩) (fun W' h=>ah h.box 1);have ne:Nonempty (Sc.In (lI s (.map (some b)) d w.heap.size p (.slice a q cap))):=⟨⟨_,C0⟩⟩;have BW:=Hh ((aa W2.heap.size W2).drew);have hFb:=S3'.mp.isMap.1;have hbl:=S3'.low b hFb;have hbg:w.heap.size≠b:=fun e=>by
  obtain ⟨_,es,cl,hm⟩:=S3'.mp.isMap;rw [← e] at hm;have:=G3.symm.trans hm
  cases this
 refine Sc.start (lI s (.map (some b)) d w.heap.size p (.slice a q cap)) [(false,0),(false,1),(false,2),(false,3),(false,4),(false,5),(true,6),(true,7)] (by kernel_rfl) (by kernel_rfl) (by kernel_rfl) C0 ?_;dsimp only [Sd.aK,List.getElem?_cons_succ,List.getElem?_cons_zero]
 repeat (refine Sd.lit ?_;quiet_step (fail);refine bi ?_)
 refine Sd.call (by rfl) (fun K hK=>?_);have CA:=kV W2.drew p (.slice a q cap) l (R3.below BW) (by have:=HGD.out.2.2.2.1;omega);unfold file at CA;go_simp;refine CA.mono ?_;rintro e w3 ⟨u,rfl,o3,b3⟩;have B3:=Hh (BW.trans (b3.mono (ac W2.heap.size)));have O3:=Hh (o3);have S4:=S3'.below B3;have G4:=(b3.block _ hws2).trans C0.box;refine hK _ _ (Sc.Cl.of ⟨S4.row,G4⟩) ?_;clear hK K b3 o3 CA C0 G3 BW c0 r0 r1 R3;have M3:=Hh S4.mp;have R4':=Hh S4.row;have Yx:=Hh G4;clear S4 G4;obtain ⟨au,cu,rfl,_⟩:=O3.slice;refine Sd.call (by rfl) (fun K hK=>?_);refine qH _ _ _ rfl rfl M3 ⟨n,p,au,cu,l⟩ rfl rfl HN hcl (fun w4 m4 g4=>?_);have RES:Hid (ig w s F d 0 (put key (n,p,l) (C.map aA.abs)) (.returned (.int .i64 0)) w4):=by
  obtain ⟨P1,P2⟩:=S3'.place (c:=⟨n,p,au,cu,l⟩) B3 g4 m4 O3 HNG.out.1 HNG.out.2.1 HNG.out.2.2;rw [ni] at P1;exact ⟨rfl,P1.wide (Fx.trans O3' P2.size) (Fx.low SS.low (O3'.trans' P2).size),O3'.trans' P2⟩
 have hws:=bh R4';have hwg:=bh Yx;refine hK _ _ (Sc.Cl.of ⟨(g4.block s hws (by intro e;injection e with e;exact hne e.symm)).trans R4'.out,(g4.block w.heap.size hwg (by intro e;injection e with e;exact hbg e)).trans Yx.out⟩) ?_;clear hK K m4 g4;refine Sd.done ?_;go_wp2
 go_ret
 exact RES
theorem j4 : look key n (C.map aA.abs)=(look aA.n n C).map aA.abs:=gI n C
theorem KV (S:St w s F A d) (n p:Int) (v:Value) (l:List R4) (R:Rd K4 w v l) (hl:dG l) :
 Calls prog 52 #[.pointer (some ⟨s,0,none⟩),.int .i64 n,file p v] w (ig w s F d (jq A n p l) (nN A n p l)):=by
 obtain ⟨m,C,h,rfl⟩:=S;obtain ⟨a,cap,rfl,_⟩:=R.slice;have no:∀ z e w',jq (C.map aA.abs) n p l=z->z≠0->(e = .returned (.int .i64 z)/\Below w.heap.size w w')->ig w s F d (jq (C.map aA.abs) n p l) (nN (C.map aA.abs) n p l) e w':=fun z e w' hz h0 ⟨he,b⟩=>by
  unfold ig nN;rw [hz,ai h0];exact ⟨he,St.fx ⟨m,C,h,rfl⟩ b,Only.of_below b⟩
 by_cases hn:0<=n/\n<=63
 ·by_cases hg:aL p l
  ·cases hc:look aA.n n C with
   | some c=>exact (Zf h n p a _ cap l R hn hg hc).mono fun e w'=>no 10 e w' (by unfold jq;rw [an hn,an hg,j4,hc];rfl) (by decide)
   | none =>
     have e0:jq (C.map aA.abs) n p l=0:=by unfold jq;rw [an hn,an hg,j4,hc];rfl
     unfold nN;rw [e0,an rfl]
     rcases h.mp with ⟨rfl,_⟩ | ⟨b,rfl,_,_⟩
     ·exact Rl h n p a _ cap l R hn hg hl hc
     ·exact Ql h n p a _ cap l R hn hg hl hc
  ·exact (aa4 w s n p a _ cap l R hn hg).mono fun e w'=>no 2 e w' (by unfold jq;rw [an hn,ai hg]) (by decide)
 ·exact (abb w s n p a _ cap hn).mono fun e w'=>no 1 e w' (by unfold jq;rw [ai hn]) (by decide)
end Fs
namespace Fs
open Go.Maps
attribute [local irreducible] Sd.aV wpQuiet
variable {w w':World}
theorem grown_of (h:Below w.heap.size w w'):w.grownBy w' none:=⟨h.os,h.tape,h.output,h.size,fun k hk _=>h.block k hk⟩
theorem Tn:∀ {A B:aT},pY key A->pY key B->(∀ e,e∈A↔e∈B)->A=B
 | [],[],_,_,_=>rfl
 | [],b :: B,_,_,h=>by have:=(h b).2 (cy ..);cases this
 | a :: A,[],_,_,h=>by have:=(h a).1 (cy ..);cases this
 | a :: A,b :: B,ha,hb,h=>by
   obtain ⟨ha1,ha2⟩:=db.1 ha;obtain ⟨hb1,hb2⟩:=db.1 hb;have e:a=b:=by
    rcases cj.1 ((h a).1 (cy ..)) with e | e
    ·exact e
    ·rcases cj.1 ((h b).2 (cy ..)) with e2 | e2
     ·exact e2.symm
     ·have:=ha1 b e2;have:=hb1 a e;omega
   subst e
   congr 1
   refine Tn ha2 hb2 fun e=>⟨fun he=>?_,fun he=>?_⟩
   ·rcases cj.1 ((h e).1 (ci _ he)) with rfl | h2
    ·have:=ha1 e he;omega
    ·exact h2
   ·rcases cj.1 ((h e).2 (ci _ he)) with rfl | h2
    ·have:=hb1 e he;omega
    ·exact h2
variable {s b:Nat} {F:Nat->Prop} {A:aT} {d d':Int}
theorem St.as {m:Value} {T:TypeId} (h:St w s F A d) (row:w.heap[s]? = some (.cells #[m,.int .i64 d'] T (0,0))):∃ C,iJ w s F m C d/\C.map aA.abs=A:=by
 obtain ⟨m',C,h,e⟩:=h;have r:=h.row.symm.trans row;injection r with r;injection r with r _ _;have e4:=dj (fun t:Array Value=>t[0]?) r
 simp at e4
 subst e4;exact ⟨C,h,e⟩
theorem GH (W:World) (o:Obj):Below W.heap.size W (W.alloc o):=(aa _ W).alloc (ac _) o
def iL (w:World) (A:aT) (d:Int) (e:Ending) (w':World):Prop:=∃ g F,e = .returned (.pointer (some ⟨g,0,none⟩))/\St w' g F A d/\(∀ k,F k->w.heap.size<=k)/\Below w.heap.size w w'
structure CI (w:World) (b:Nat) (C:List aA) (d:Int) (wr:World) (left:Lit->Bool) (cnt:Nat) (F:Nat->Prop) (C2:List aA):Prop where
 rg:wr.ranges prog 3 Rh b (w.heap.size+2) C.length (dat C) left cnt
 has:∀ kl,left kl=true->Maps.has (dat C) kl=true
 st:iJ wr (w.heap.size+1) F (.map (some w.heap.size)) C2 d
 mem:∀ e,e∈C2.map aA.abs↔e∈C.map aA.abs/\left (.int .i64 e.1)=false
 lo:∀ k,F k->w.heap.size<=k
 off:¬ F (w.heap.size+2)
 aD:Below w.heap.size w wr
theorem YG (w:World) (d:Int):iJ ((w.alloc (.map #[] 0)).alloc (.cells #[.map (some w.heap.size),.int .i64 d] 150)) (w.heap.size+1) (fun k=>k=w.heap.size\/k=w.heap.size+1) (.map (some w.heap.size)) [] d:=by
 have hz:(w.alloc (.map #[] 0)).heap.size=w.heap.size+1:=by simp
 have hr:=aw (w.alloc (.map #[] 0)) (.cells #[.map (some w.heap.size),.int .i64 d] 150);rw [hz] at hr;have mp:Mp (w.alloc (.map #[] 0)) (fun k=>k=w.heap.size\/k=w.heap.size+1) (.map (some w.heap.size)) []:=.inr ⟨w.heap.size,rfl,.inl rfl,World.ownsMap_made _ _ _ _⟩;refine ⟨hr,.inr rfl,mp.kept fun b hb=>?_,nofun,nofun,gO,eO.nil,fun k hk=>?_⟩
 ·injection hb with hb
  injection hb with hb;subst hb;exact cz _ _ _ (by omega)
 ·simp
  omega
variable {C:List aA}
theorem LU (S:iJ w s F (.map (some b)) C d):Calls prog 118 #[.pointer (some ⟨s,0,none⟩)] w (iL w (C.map aA.abs) d):=by
 have SS:=Hh S;have hsl:=S.low s S.l5;obtain ⟨hFb,_⟩:=S.mp.isMap;have hbl:=S.low b hFb;have hown:w.ownsMap prog 3 Rh b C.length (dat C):=by
  rcases S.mp with ⟨e,_⟩ | ⟨b',e,_,h⟩
  ·cases e
  ·injection e with e
   injection e with e;subst e;exact h
 have hmm:=@run_makeMap prog;have e1:(w.alloc (.map #[] 0)).heap.size=w.heap.size+1:=by simp
 have B1:Below w.heap.size w (w.alloc (.map #[] 0)):=(aa w.heap.size w).alloc (ac _) _;have c1:=ah (S.below B1).row 1;have S2:=Hh (YG w d);have e2:((w.alloc (.map #[] 0)).alloc (.cells #[.map (some w.heap.size),.int .i64 d] 150)).heap.size=w.heap.size+2:=by simp
 have B2:Below w.heap.size w ((w.alloc (.map #[] 0)).alloc (.cells #[.map (some w.heap.size),.int .i64 d] 150)):=B1.alloc B1.size _;have c0:=ah (S.below B2).row 0;have own2:=hown.kept (grown_of B2) (by simp);clear S hown
 go_enter func118,ntmps118
 go_wp2_with (first
  | (at_range;refine wpList_range_own _ rfl _ 148 rfl 3 83 law underlying148 _ b C.length _ rfl own2 ?_;intro w0 hrg0 hg0 hs0)
  | fail)
 go_frame
 clear c0 c1 hmm;rw [e2] at hrg0 hs0 ⊢
 go_loopw [4] (fun _ wr=>∃ left cnt F2 C2,Hid (CI w b C d wr left cnt F2 C2)) (fun _ wr=>wr.rangeLeft b (w.heap.size+2))
 case atStart =>
  have B3:=(aa _ _).grown hg0 (ac _) (fun j hj=>by cases hj);refine ⟨_,_,_,[],⟨hrg0,fun kl h=>h,S2.below B3,fun e=>⟨nofun,fun ⟨h1,h2⟩=>?_⟩,fun k hk=>by rcases hk with rfl | rfl <;> omega,fun hk=>by rcases hk with hk | hk <;> omega,B2.trans (B3.mono (by omega))⟩⟩;obtain ⟨c,hc,rfl⟩:=di.1 h1;rw [Cj,lb,Option.isSome_eq_false_iff,Option.isNone_iff_eq_none] at h2;exact absurd rfl (dJ.1 h2 c hc)
 case round =>
  obtain ⟨left,cnt,F2,C2,I⟩:=hrel;have hrg:=I.rg;clear hrg0 hg0 hs0 own2 B1 B2 e1 e2 S2
  go_wp2_with (first
   | (at_next;refine wpList_next_ranges _ rfl _ rfl 3 law Rh (Value.int .i64) id (fun key kl hkey=>by obtain ⟨x,rfl,_⟩:=Maps.keyOf_int_inv underlying3 hkey;exact ⟨x,rfl⟩) (fun v y _=>⟨v,rfl⟩) b (w.heap.size+2) C.length _ _ _ rfl hrg ?_ ?_)
   | fail)
  ·intro hc0 hl0
   clear hrg;have RES:Hid (iL w (C.map aA.abs) d (.returned (.pointer (some ⟨w.heap.size+1,0,none⟩))) wr):=by
    have e:=Tn I.st.ok.yP SS.ok.yP fun e=>(I.mem e).trans ⟨fun h=>h.1,fun h=>⟨h,hl0 _⟩⟩;exact ⟨_,F2,rfl,⟨_,C2,I.st,e⟩,I.lo,I.aD⟩
   go_wp2
   go_ret
   exact RES
  ·intro x v kl y y2 w1 cnt1 hkey hlk hv hat hrg1 hlt hg1 hs1 hen
   obtain ⟨x',ex,rfl,hwx⟩:=Maps.keyOf_int_inv underlying3 hkey
   cases ex
   have hh:=I.has _ hlk;rw [Cj] at hh;obtain ⟨c,hc⟩:∃ c,look aA.n x C=some c:=Option.isSome_iff_exists.1 hh;have hv':v=c.file:=by
    have h1:=hat (.held (file 0 (.slice none 0 0)));rw [Ij,jJ hc] at h1;obtain ⟨h2,_⟩:DataW.held v=y/\[]=y2:=by simpa [Rh] using hv
    have h3:=h1.trans h2.symm;injection h3 with h3;exact h3.symm
   subst hv';obtain ⟨fo,fg,fl,fn,fr,fm⟩:=SS.find hc;have hsb:w.heap.size+2 < w1.heap.size:=by have:=hrg.lt;omega
   have B1:Below w.heap.size w w1:=I.aD.grown hg1 I.aD.size (fun j hj=>by cases hj;omega);have O1:Only (fun k=>k=w.heap.size+2) wr w1:=Only.grown rfl hg1;have S1:=Hh (I.st.only (G:=fun k=>k=w.heap.size+2) (fun k hk (e:k=w.heap.size+2)=>I.off (e ▸ hk)) O1);have R1:=Hh (((SS.below B1).own c fm).rd);have BB:=Hh B1;have RG:=Hh hrg1;have RG0:=Hh hrg;have FF:=Hh (eJ fo (eJ fg (eJ fl (eJ fr hlt))));have HM:=Hh (eJ hlk hwx);clear hkey hh hat hv hc fo fg fl hrg1 hg1 hs1 B1 O1 fr hrg hlt hlk;obtain ⟨cn,cp,ca,cc,cl⟩:=c;simp only at fn;subst fn;unfold aA.sl at R1;simp only at R1;have hq:cl.length<=260:=by have:cl.length<=256:=FF.out.2.1.2.2.2.1;omega
   unfold aA.file Fl.file aA.sl at hen ⊢;simp only at hen ⊢;go_upto_region 7 with fail;have H1:=aw w1 (.cells #[.int .i64 cp,.slice ca cl.length cc] 83);have hb1:=GH w1 (.cells #[.int .i64 cp,.slice ca cl.length cc] 83);have hz2:(w1.alloc (.cells #[.int .i64 cp,.slice ca cl.length cc] 83)).heap.size=w1.heap.size+1:=by simp
   have W2g:=hb1.trans ((aa w1.heap.size _).drew);have S2:=Hh (S1.below W2g);have C0:lI (w.heap.size+1) (.map (some w.heap.size)) d w1.heap.size cp (.slice ca cl.length cc) (w1.alloc (.cells #[.int .i64 cp,.slice ca cl.length cc] 83)).drew:=⟨S2.row,H1⟩;have WB:=Hh W2g;have hsz:w1.heap.size+1=(w1.alloc (.cells #[.int .i64 cp,.slice ca cl.length cc] 83)).drew.heap.size:=hz2.symm;clear H1 hb1 hz2 W2g hen;generalize (w1.alloc (.cells #[.int .i64 cp,.slice ca cl.length cc] 83))=W2 at *;have k0:=Sc.ay (C:=lI (w.heap.size+1) (.map (some w.heap.size)) d w1.heap.size cp (.slice ca cl.length cc)) (a:=⟨w.heap.size+1,0,none⟩) (fun W' h=>ah h.row 0);have r0:=Sc.ay (C:=lI (w.heap.size+1) (.map (some w.heap.size)) d w1.heap.size cp (.slice ca cl.length cc)) (a:=⟨w1.heap.size,0,none⟩) (fun W' h=>ah h.box 0);have r1:=Sc.ay (C:=lI (w.heap.size+1) (.map (some w.heap.size)) d w1.heap.size cp (.slice ca cl.length cc)) (a:=⟨w1.heap.size,1,none⟩) (fun W' h=>ah h.box 1);have ne:Nonempty (Sc.In (lI (w.heap.size+1) (.map (some w.heap.size)) d w1.heap.size cp (.slice ca cl.length cc))):=⟨⟨_,C0⟩⟩;refine Sc.start (lI (w.heap.size+1) (.map (some w.heap.size)) d w1.heap.size cp (.slice ca cl.length cc)) [(false,0),(false,1),(false,2),(false,3),(false,4),(false,5),(true,6),(true,7)] (by kernel_rfl) (by kernel_rfl) (by kernel_rfl) C0 ?_;dsimp only [Sd.aK,List.getElem?_cons_succ,List.getElem?_cons_zero]
   repeat (refine Sd.lit ?_;quiet_step (fail);refine bi ?_)
   clear k0 r0 r1;generalize W2.drew=Wd at *;refine Sd.call (by rfl) (fun K hK=>?_);have CA:=kV Wd cp (.slice ca cl.length cc) cl (R1.below WB) hq;unfold file at CA;go_simp;refine CA.mono ?_;rintro e w3 ⟨u,rfl,o3,b3⟩;have S3:=S2.below b3;have W3:=Hh (WB.trans (b3.mono (by omega)));have G3:w3.heap[w1.heap.size]? = _:=(b3.block _ (by omega)).trans C0.box;refine hK _ _ (Sc.Cl.of ⟨S3.row,G3⟩) ?_;have O3:=Hh o3;have M3:=Hh S3.mp;have T3:=Hh S3;have RR3:=Hh S3.row;have GG3:=Hh G3;have BD:=Hh b3;clear hK K CA b3 o3 S3 G3 C0;obtain ⟨au,cu,rfl,_⟩:=O3.slice;refine Sd.call (by rfl) (fun K hK=>?_);have hl2:=T3.len;refine qH _ _ _ rfl rfl M3 ⟨cn,cp,au,cu,cl⟩ rfl rfl HM.out.2 (by unfold maxLen;omega) (fun w4 m4 g4=>?_);have hws:=bh RR3;have hwg:=bh GG3;have row4:=(g4.block (w.heap.size+1) hws (by intro e;injection e with e;omega)).trans RR3.out;refine hK _ _ (Sc.Cl.of ⟨row4,(g4.block w1.heap.size hwg (by intro e;injection e with e;omega)).trans GG3.out⟩) ?_;have NEW:∃ F4 C4,Hid (CI w b C d w4 (fun z=>left z && !z.sameKey (.int .i64 cn)) cnt1 F4 C4):=by
    obtain ⟨P1,P2⟩:=S2.place (c:=⟨cn,cp,au,cu,cl⟩) BD g4 m4 O3 FF.out.2.2.2.1 FF.out.2.1 FF.out.2.2.1;obtain ⟨C4,P3,P4⟩:=P1.as row4;have rg3:=RG.kept (grown_of W3) (by simp) (by simp);have rg4:=rg3.kept g4 (fun e=>by have:=cN e;omega) (fun e=>by have:=cN e;omega);have hB1:=hsb;have hb3:=W3.size;refine ⟨_,C4,⟨rg4,fun kl h=>I.has kl (by simp at h;exact h.1),P3,fun e=>?_,fun k hk=>?_,fun hk=>?_,(BB.out.trans (W3.out.mono (by omega))).grown g4 (by omega) (fun j hj=>by cases hj;exact ac _)⟩⟩
    ·rw [P4,ni,sU,I.out.mem]
     show _↔_/\(left (.int .i64 e.1) && !(Lit.int .i64 e.1).sameKey (.int .i64 cn))=false
     have hin:(cn,cp,cl)∈C.map aA.abs:=di.2 ⟨_,fm,rfl⟩;have hsk:(Lit.int .i64 e.1).sameKey (.int .i64 cn)=decide (e.1=cn):=by simp [Lit.sameKey]
     rw [hsk]
     constructor
     ·rintro (rfl | ⟨⟨h1,h2⟩,h3⟩)
      ·exact ⟨hin,by simp [aA.abs]⟩
      ·exact ⟨h1,by rw [h2];rfl⟩
     ·rintro ⟨h1,h2⟩
      by_cases he:e.1=cn
      ·left
       have q1:=jI SS.ok.yP h1;have q2:=jI SS.ok.yP hin;have:look key (key e) (C.map aA.abs)=look key (key (cn,cp,cl)) (C.map aA.abs):=by rw [show key e=key (cn,cp,cl) from he]
       exact cN (q1.symm.trans (this.trans q2))
      ·right
       simp [he] at h2
       exact ⟨⟨h1,h2⟩,he⟩
    ·rcases hk with hk | ⟨hk,_⟩
     ·exact I.lo k hk
     ·omega
    ·rcases hk with hk | ⟨hk,_⟩
     ·exact I.off hk
     ·omega
   clear hK K m4 g4 row4;refine Sd.done ?_;obtain ⟨F4,C4,NEW⟩:=NEW;have MS:Hid (w4.rangeLeft b (w.heap.size+2) < wr.rangeLeft b (w.heap.size+2)):=by
    show _ < _
    rw [NEW.out.rg.left_eq,RG0.out.left_eq];exact FF.out.2.2.2.2
   go_wp2
   go_roundw
   case rel=>exact ⟨_,_,_,_,NEW⟩
   case measure=>exact MS
theorem Om (S:iJ w s F (.map none) C d):Calls prog 118 #[.pointer (some ⟨s,0,none⟩)] w (iL w (C.map aA.abs) d):=by
 obtain rfl:C = []:=by
  rcases S.mp with ⟨_,e⟩ | ⟨b,e,_⟩
  ·exact e
  ·cases e
 have hmm:=@run_makeMap prog;have e1:(w.alloc (.map #[] 0)).heap.size=w.heap.size+1:=by simp
 have B1:Below w.heap.size w (w.alloc (.map #[] 0)):=(aa w.heap.size w).alloc (ac _) _;have c1:=ah (S.below B1).row 1;have S2:=YG w d;have e2:((w.alloc (.map #[] 0)).alloc (.cells #[.map (some w.heap.size),.int .i64 d] 150)).heap.size=w.heap.size+2:=by simp
 have B2:Below w.heap.size w ((w.alloc (.map #[] 0)).alloc (.cells #[.map (some w.heap.size),.int .i64 d] 150)):=B1.alloc B1.size _;have c0:=ah (S.below B2).row 0;have hrg:=run_range_nilMap (P:=prog) ((w.alloc (.map #[] 0)).alloc (.cells #[.map (some w.heap.size),.int .i64 d] 150)) 148 3 83 underlying148;have hnx:∀ ty,(Instr.next (.pointer (some ⟨((w.alloc (.map #[] 0)).alloc (.cells #[.map (some w.heap.size),.int .i64 d] 150)).heap.size,0,none⟩)) false ty).run prog (((w.alloc (.map #[] 0)).alloc (.cells #[.map (some w.heap.size),.int .i64 d] 150)).alloc (.mapIter none 0 #[] 0))=_:=fun ty=>run_next_nilMap _ ty 0 0 #[];have RES:Hid (iL w (([]:List aA).map aA.abs) d (.returned (.pointer (some ⟨w.heap.size+1,0,none⟩))) (((w.alloc (.map #[] 0)).alloc (.cells #[.map (some w.heap.size),.int .i64 d] 150)).alloc (.mapIter none 0 #[] 0))) :=
  ⟨_,_,rfl,⟨_,[],S2.below ((aa _ _).alloc (ac _) _),rfl⟩,fun k hk=>by rcases hk with rfl | rfl <;> omega,B2.alloc B2.size _⟩
 rw [e2] at hrg hnx;clear S S2 B1 B2
 go_enter func118,ntmps118
 go_wp2;refine wp_loop_rounds 1 ?_;rw [rounds_succ];go_wp2
 go_ret
 exact RES
theorem vY (S:St w s F A d):Calls prog 118 #[.pointer (some ⟨s,0,none⟩)] w (iL w A d):=by
 obtain ⟨m,C,h,rfl⟩:=S
 rcases h.mp with ⟨rfl,_⟩ | ⟨b,rfl,_⟩
 ·exact Om h
 ·exact LU h
end Fs
namespace Fs
open Go.Maps Go.Sort Go.Shelf
theorem UE (m:Nat):AnyZI.SortsIn prog sortedL_ren Fence.wide m :=
 ⟨fun blk off cap ss W hH hblk hsz=>callsIn_wide.2 (AnyM.slices_Sort_int sortL blk off cap ss W hH hblk hsz),
  fun p cap W=>callsIn_wide.2 (AnyM.slices_Sort_int_none sortL p cap W)⟩
theorem Rs (mb:Option Nat) (W:World):Calls prog 72 #[.map mb] W fun e w'=>e = .returned (.func (.func 98) #[] #[.pointer (some ⟨W.heap.size,0,none⟩)])/\w'=W.alloc (.cells #[.map mb] 148) :=
 (callsIn_wide (n:=5)).1 (AnyZI.keys_in keysL Fence.wide 5 trivial rfl mb W)
def KI:Rw.Kind Int:=Rw.int .i64
theorem EO:∀ l:List Int,KI.flat l=l.map encZ
 | []=>rfl
 | a :: r=>by
   have:=EO r
   show [Value.int .i64 a] ++ KI.flat r=_
   rw [this]
   rfl
theorem FJ (C:List aA):intKeys (dat C)=C.map aA.n:=by
 show (C.map ent).map (fun p=>Go.intOf p.1)=_
 rw [List.map_map]
 rfl
variable {C:List aA}
theorem Od (h:pY aA.n C) {ss:List Int} (hp:ss.Perm (intKeys (dat C))):ss.mergeSort (fun x y=>decide (x<=y))=C.map aA.n:=by
 have e:=mergeSort_of_perm_i hp
 show ss.mergeSort leI=_
 rw [e,FJ];refine List.mergeSort_of_pairwise ?_;rw [List.pairwise_map];exact h.imp fun h=>by simp only [leI,cI];exact Int.le_of_lt h
theorem Gg (C:List aA):Maps.size (dat C)=C.length:=by unfold dat Maps.size;simp
def Si (w:World) (C:List aA) (e:Ending) (w':World):Prop:=∃ v,e = .returned v/\Ow KI w' w.heap.size 3 v (C.map aA.n)/\Below w.heap.size w w'
variable {w w' w2:World} {F:Nat->Prop}
theorem nW {mb:Option Nat} (M:Mp w F (.map mb) C) (hs:pY aA.n C) (hl:C.length<=64) :
 Calls prog 71 #[.func (.func 98) #[] #[.pointer (some ⟨w.heap.size,0,none⟩)]] (w.alloc (.cells #[.map mb] 148)) (Si w C):=by
 have B0:Below w.heap.size w (w.alloc (.cells #[.map mb] 148)):=(aa w.heap.size w).alloc (ac _) _
 rcases M with ⟨e,rfl⟩ | ⟨b,e,_,hown⟩
 ·obtain rfl:mb=none:=by injection e
  have hseq:SeqGives Fence.wide 2 prog 98 #[.pointer (some ⟨w.heap.size,0,none⟩)] encZ (fun ss:List Int=>ss = []) 0 (w.alloc (.cells #[.map none] 148)) :=
   AnyZI.keys_gives_nil (ρ:=keysL_ren) { keysL with } Fence.wide _ trivial rfl w.heap.size _ (by simp) (by simp)
  have cS:=AnyZI.sorted_in sortedL Fence.wide 5 trivial trivial trivial trivial rfl (by omega) (UE _) (enters_of func97 (by kernel_rfl) rfl) 98 #[.pointer (some ⟨w.heap.size,0,none⟩)] trivial (enters_of func98 (by kernel_rfl) rfl) _ 0 (ce _) (by omega) _ hseq;refine ((callsIn_wide (n:=5)).1 cS).mono ?_;rintro e w' ⟨v,ss,rfl,rfl,hrow,hnil,hb⟩;obtain rfl:v = .slice none 0 0:=hnil.2 rfl;exact ⟨_,rfl,Ow.nil _ _ _,B0.trans (hb.mono (by simp))⟩
 ·obtain rfl:mb=some b:=by injection e
  have hbl:=hown.lt;have hseq:SeqGives Fence.wide 2 prog 98 #[.pointer (some ⟨w.heap.size,0,none⟩)] encZ (fun ss=>ss.Perm (intKeys (dat C))) (Maps.size (dat C)) (w.alloc (.cells #[.map (some b)] 148)) :=
   AnyZI.keys_gives (ρ:=keysL_ren) { keysL with } Fence.wide _ trivial rfl (by omega) w.heap.size b C.length (dat C) _ (by simp) (by simp) (by
    obtain ⟨es,clock,hb,Ft,hs,hD⟩:=hown
    exact ⟨es,clock,(cz _ _ b hbl).trans hb,Ft,hs,hD⟩)
  have cS:=AnyZI.sorted_in sortedL Fence.wide 5 trivial trivial trivial trivial rfl (by omega) (UE _) (enters_of func97 (by kernel_rfl) rfl) 98 #[.pointer (some ⟨w.heap.size,0,none⟩)] trivial (enters_of func98 (by kernel_rfl) rfl) _ _ (by rw [Gg];unfold maxLen;omega) (by rw [Gg];omega) _ hseq;refine ((callsIn_wide (n:=5)).1 cS).mono ?_;rintro e w' ⟨v,ss,rfl,hS,hrow,hnil,hb⟩;refine ⟨v,rfl,?_,B0.trans (hb.mono (by simp))⟩;have e1:=Od hs hS;have e2:ss.length=(C.map aA.n).length:=by rw [← FJ];exact hS.length_eq
  show w'.ownsRow w.heap.size 3 1 v (C.map aA.n).length (KI.flat (C.map aA.n))
  rw [EO,← e1,List.length_mergeSort];exact ownsRow_base_a hrow (by simp)
theorem UG:(prog.info? 85).map (fun i=>(i.zero,i.size,i.bytes))=some (some (.agg #[.int .i64 0,.int .i64 0,.slice none 0 0]),3,40):=by kernel_rfl
theorem yL (n p:Int) (a:Option Addr) (q cap:Nat) (w:World):(Instr.build 85 #[(0,.int .i64 n),(1,.agg #[.int .i64 p,.slice a q cap])]).run prog w = .ok (.agg #[.int .i64 n,.int .i64 p,.slice a q cap]) w:=by kernel_rfl
theorem GZ (w:World) (p:Int) (v:Value) (l:List R4) (q:Nat) (R:Rd K4 w v l) (hl:l.length<=260) (hq:l.length=q):Calls prog 73 #[.agg #[.int .i64 p,v]] w fun e w'=>∃ a cap,e = .returned (.agg #[.int .i64 p,.slice a q cap])/\Ow K4 w' w.heap.size 36 (.slice a q cap) l/\Below w.heap.size w w' :=
 (kV w p v l R hl).mono fun e w' ⟨u,h1,h2,h3⟩=>by
   obtain ⟨a,cap,rfl,_⟩:=h2.slice;rw [hq] at h1 h2;exact ⟨a,cap,h1,h2,h3⟩
variable {v:Value}
theorem QB {α:Type} {K:Rw.Kind α} {B E T:Nat} {l:List α} (h:Ow K w B E v l) (hne:E≠T) (f:Rw.Far T w w'):Ow K w' B E v l:=by
 obtain ⟨h1,h2⟩:=h;refine ⟨h1,?_⟩
 rcases h2 with h2 | ⟨g,cap,cur,e,hB,hh,r⟩
 ·exact .inl h2
 ·exact .inr ⟨g,cap,cur,e,hB,f g _ _ hh hne,r⟩
def wh (w:World) (C:List aA) (v:Value) (k:Nat) (wr:World):Prop:=∃ L:List aA,Ow E3 wr w.heap.size 85 v L/\L.map aA.abs=(C.take k).map aA.abs/\(∀ c∈L,Ow K4 wr w.heap.size 36 c.sl c.l)/\Below w.heap.size w wr
def bY (w:World) (A:aT) (e:Ending) (w':World):Prop:=∃ v,e = .returned v/\(∀ F:Nat->Prop,(∀ k,F k->k < w.heap.size)->Ls F w' v A)/\Below w.heap.size w w'
variable {A:aT}
theorem abD (h:wh w2 C v C.length w') (hA:C.map aA.abs=A) (hb:w.heap.size<=w2.heap.size) (F:Nat->Prop) (hF:∀ k,F k->k < w.heap.size):Ls F w' v A:=by
 obtain ⟨L,o,e,r,b⟩:=h;rw [cX] at e;exact ⟨L,⟨o.rd,fun _ k hk g=>by have:=(lg o k hk).1;have:=hF k g;omega,fun c hc=>(r c hc).rd,fun c hc _ k hk g=>by have:=(lg (r c hc) k hk).1;have:=hF k g;omega⟩,e.trans hA⟩
theorem Ak {s:Nat} {d:Int} (S:St w s F A d):Calls prog 42 #[.pointer (some ⟨s,0,none⟩)] w (bY w A):=by
 obtain ⟨m,C,h,hA⟩:=S;obtain ⟨mb,rfl⟩:∃ mb,m = .map mb:=by
  rcases h.mp with ⟨e,_⟩ | ⟨b,e,_⟩
  ·exact ⟨_,e⟩
  ·exact ⟨_,e⟩
 have yP:=(tK (κ:=aA.n) (κ':=key) tL).1 h.ok.yP;have c0:=Fl.rc h.row 0;have SO:=Hh (nW h.mp yP h.len);have SS:=Hh h;have HL:=Hh h.len;have HS:=Hh yP;have HA:=Hh hA;clear h hA yP
 go_enter func42,ntmps42
 go_wp2_with (first
  | (go_at_call 72;refine (Rs _ _).mono ?_;rintro e w1 ⟨rfl,rfl⟩)
  | (go_at_call 71;refine SO.out.mono ?_;rintro e w2 ⟨vk,rfl,ok,b2⟩;obtain ⟨ka,kc,rfl,hkc⟩:=ok.slice;rw [bt] at ok ⊢))
 have OK:=Hh ok;have B2:=Hh b2;have S2:=Hh (SS.out.below b2);clear c0 ok b2 SO SS hkc;generalize hn:C.length=n at *;have HN:=Hh hn;clear hn
 go_loopw [3,15] (fun v i wr=>∃ k:Nat,k<=n/\i = .int .i64 k/\Hid (wh w2 C v k wr)) (fun _ i _=>n - (intOf i).toNat)
 case atStart=>exact ⟨0,ce _,rfl,[],Ow.nil _ _ _,by simp,nofun,aa _ _⟩
 case round =>
  obtain ⟨k,hk,rfl,R⟩:=hrel
  by_cases hlt:k < n
  ·obtain ⟨L,oL,eL,rL,bL⟩:=R.out
   have hkC:k < C.length:=by have:=HN.out;omega
   obtain ⟨⟨cn,cp,ca,cc,cl⟩,hc⟩:∃ c:aA,C[k]? = some c:=⟨_,am hkC⟩;obtain ⟨g,off,ek,hK⟩:∃ g cap,(Value.slice ka n kc) = .slice (some ⟨g,0,none⟩) n cap/\w2.cell? ⟨g,k,none⟩=some (.int .i64 cn):=by
    obtain ⟨g,cap,e1,_,_,_,_,_,hAt⟩:=OK.out.form (by rw [bt];omega);rw [bt,HN.out] at e1;have c:=hAt k (by rw [bt];exact hkC) 0 (.int .i64 ((C.map aA.n).getD k 0)) rfl;have e0:(C.map aA.n).getD k 0=cn:=by rw [af,cL,hc];rfl
    rw [e0] at c;have e:0+k * KI.n+0=k:=by show 0+k * 1+0=k;omega
    rw [e] at c;exact ⟨g,cap,e1,c⟩
   obtain ⟨rfl,rfl⟩:ka=some ⟨g,0,none⟩/\kc=off:=by injection ek with e1 _ e3;exact ⟨e1,e3⟩
   have kr:=(bL.cell (bo _ _ hK)).trans hK;have SR:=S2.out.below bL;have c0:=Fl.rc SR.row 0;have M:=Hh SR.mp;have hin:=cU hc;have hl:look aA.n cn C=some ⟨cn,cp,ca,cc,cl⟩:=jI HS.out hin;have LV:=Hh (jJ hl);obtain ⟨ho,hg,-,-,hnm,-⟩:=SR.find hl;have WN:Hid (Wf cn):=WalkArith.wf_i64 (by omega);have RC:=Hh (ho.rd);have GL:Hid (cl.length<=260):=by have:=hg.2.2.2.1;show cl.length<=260;simp only at this;omega
   have TK:Hid (∀ e:aA,e.abs=(cn,cp,cl)->(L ++ [e]).map aA.abs=(C.take (k+1)).map aA.abs):=fun e he=>by
    rw [dm,hc,fw,fw,eL]
    show _ ++ [e.abs]=_ ++ [(cn,cp,cl)]
    rw [he]
   have LL:Hid (L.length<=64):=by
    have e:=dj List.length eL;rw [bt,bt,cD] at e;have:=HL.out
    show _<=64
    omega
   have OL:=Hh oL;have RL:=Hh rL;have BL:=Hh bL;obtain ⟨va,vc,ev,-⟩:=oL.slice;clear R hK ek SR hin hl ho hg hnm oL rL bL eL hkC hc;unfold aA.sl at RC;simp only at *;generalize hq:cl.length=q at *;have HQ:=Hh hq;clear hq;generalize hLl:L.length=Ln at *;have HLl:=Hh hLl;subst ev;clear hLl;have CA:=fun W (hb:Below wr.heap.size wr W)=>GZ W cp (.slice ca q cc) cl q (by have:=RC.out.below hb;exact this) (by rw [HQ.out];exact GL.out) HQ.out;have CC:=Hh CA;clear CA;have hF:=lD;have hBN:=yL;have hn64:=HL.out;have hw2:=Hh (BL.size)
   go_wp2_with (first
    | (at_lookup;refine jg rfl _ _ rfl M rfl _ rfl WN _ LV ?_)
    | (go_at_call 73;refine (CC _ (aa _ _)).mono ?_;rintro e w3 ⟨ua,uc,rfl,o3,b3⟩;have O3:=Hh o3;have B3:=Hh b3;clear o3 b3)
    | (at_builtin;refine Rw.Us (K:=E3) underlying49 UG rfl (by omega) rfl _ _ rfl w2.heap.size _ L ?e0 ((OL.out.keep B3.out).alloc _) _ ⟨cn,cp,ua,uc,cl⟩ rfl ?d1 ?d2 ?d3 ?_))
   case e0=>rfl
   case d1 =>
    intro j u hu
    unfold E3 aA.sl at hu;simp only [HQ.out] at hu
    match j,hu with
    | 0,hu=>simp at hu;subst hu;go_simp
    | 1,hu=>simp at hu;subst hu;go_simp
    | 2,hu=>simp at hu;subst hu;go_simp
    | j+3,hu=>simp at hu
   case d2=>rw [HLl.out];have:=LL.out;omega
   case d3=>have:=B3.out.size;have:=hw2.out;simp;omega
   intro v' w4 o4 b4 f4
   have N2:Hid (wh w2 C v' (k+1) w4):=by
    have hs3:=B3.size;have hs2:=hw2.out;refine ⟨L ++ [⟨cn,cp,ua,uc,cl⟩],o4,TK _ rfl,fun c hc=>?_,((BL.trans (B3.mono hs2)).alloc (by omega) _).trans b4⟩
    rcases dy.1 hc with hc | hc
    ·exact QB (((RL c hc).keep B3).alloc _) (by decide) f4
    ·obtain rfl:c=_:=cY.1 hc
     have o:Ow K4 w3 wr.heap.size 36 (⟨cn,cp,ua,uc,cl⟩:aA).sl cl:=by unfold aA.sl;rw [HQ.out];exact O3.out
     exact QB ((o.low hs2).alloc _) (by decide) f4
   clear o4 b4 f4;go_wp2
   go_roundw
   case rel=>exact ⟨k+1,by omega,by go_num,N2⟩
   case measure=>simp [intOf];omega
  ·obtain rfl:k=n:=by omega
   have E:=Hh (fun (F:Nat->Prop) (hF:∀ k,F k->k < w.heap.size)=>abD (w:=w) (by rw [HN.out];exact R.out) HA.out B2.out.size F hF);have BR:Hid (Below w2.heap.size w2 wr):=by obtain ⟨_,_,_,_,b⟩:=R;exact b
   clear R;go_wp2
   go_ret
   exact ⟨_,rfl,E,aP B2 BR⟩
open Go.Extern.Stop Go.Stop Go.Extern
def flt (n e:Int):Value:=.agg #[.int .i64 n,.iface 25 (.int .i64 e)]
def fault (n e:Int):Value:=.iface 206 (flt n e)
theorem jA (v:Value) (w:World):(Extern.ReflectliteType.typeOf #[.iface 25 v]).run prog w = .ok (.iface 222 (.agg #[.pointer (some ⟨1,25,none⟩)])) w:=by kernel_rfl
theorem Mm (v:Value) (w:World):(Extern.ReflectliteType.typeOf #[.iface 206 v]).run prog w = .ok (.iface 222 (.agg #[.pointer (some ⟨1,206,none⟩)])) w:=by kernel_rfl
def UB : Array Value → Sem Value := Extern.ReflectliteType.method fun t => do Rtype.noPackHeld "Comparable" t; pure (.bool (← typeInfo t).comparable)
theorem oH (w:World):(UB #[.agg #[.pointer (some ⟨1,25,none⟩)]]).run prog w = .ok (.bool true) w:=by kernel_rfl
theorem jo (v : Value) (w : World) : (Go.method 477 222 v "Comparable").run Tryz.prog w = .ok (262, v) w := by kernel_rfl
theorem abL (v:Value) (xT:TypeId) (w:World):(Instr.typeAssert (.iface 206 v) xT 224 true).run prog w = .ok (.tuple #[.nilIface,.bool false]) w:=run_typeAssert_lacksB underlying224 (by kernel_rfl) (by kernel_rfl) v xT w
theorem YD (v:Value) (xT:TypeId) (w:World):(Instr.typeAssert (.iface 25 v) xT 224 true).run prog w = .ok (.tuple #[.nilIface,.bool false]) w:=run_typeAssert_lacksB underlying224 (by kernel_rfl) (by kernel_rfl) v xT w
theorem yF (v:Value) (xT:TypeId) (w:World):(Instr.typeAssert (.iface 206 v) xT 227 true).run prog w = .ok (.tuple #[.iface 206 v,.bool true]) w:=run_typeAssert_hasB underlying227 (by kernel_rfl) v xT w
theorem zF (v:Value) (xT:TypeId) (w:World):(Instr.typeAssert (.iface 25 v) xT 227 true).run prog w = .ok (.tuple #[.nilIface,.bool false]) w:=run_typeAssert_lacksB underlying227 (by kernel_rfl) (by kernel_rfl) v xT w
theorem xB (v:Value) (xT:TypeId) (w:World):(Instr.typeAssert (.iface 25 v) xT 229 true).run prog w = .ok (.tuple #[.nilIface,.bool false]) w:=run_typeAssert_lacksB underlying229 (by kernel_rfl) (by kernel_rfl) v xT w
theorem pI (v : Value) (w : World) : (Go.method 477 206 v "Unwrap").run Tryz.prog w = .ok (259, v) w := by kernel_rfl
theorem zJ (a b:Int) (w:World):(binOp .eql 107 (.iface 25 (.int .i64 a)) (.iface 25 (.int .i64 b))).run prog w = .ok (.bool (decide (a=b))) w:=by
 have:=Lib.run_eql_iface_int (P:=prog) w (t:=107) (tx:=25) (k:=.i64) (q:=.i64) a b underlying107 (by kernel_rfl) underlying25;rw [this]
 congr 2
theorem Oa (v u:Value) (w:World):(binOp .eql 107 (.iface 206 v) (.iface 25 u)).run prog w = .ok (.bool false) w:=run_eql_iface_types (P:=prog) _ _ v u underlying107 (by decide) w
theorem Ky {a b:Bool} (h:a=b):Ending.returned (.bool a) = .returned (.bool b):=by rw [h]
theorem unwrap_any (w:World) (n:Int) (x:Value):Calls prog 259 #[.agg #[.int .i64 n,x]] w fun e w'=>e = .returned x/\Below w.heap.size w w':=by
 go_enter func259,ntmps259
 go_wp2
 go_ret
 exact ⟨rfl,(aa w.heap.size w).alloc (ac _) _⟩
theorem BM (n e:Int) (w:World):Calls prog 95 #[fault n e,.iface 25 (.int .i64 5),.bool true] w fun ev w'=>ev = .returned (.bool (decide (e=5)))/\Below w.heap.size w w':=by
 have nF:=abL;have nE:=YD;have uF:=yF;have uE:=zF;have vE:=xB;have mU:=pI;have hty:=Oa;have heq:=zJ;unfold fault flt
 by_cases h:e=5
 ·have hd:=az h
  go_enter func95,ntmps95
  go_wp2;refine wp_loop_rounds 2 ?_;rw [rounds_succ]
  go_wp2_with (go_at_call 259;refine (unwrap_any _ _ _).mono ?_;rintro ev w1 ⟨rfl,b1⟩)
  rw [rounds_succ];go_wp2
  go_ret
  exact ⟨Ky hd.symm,b1⟩
 ·have hd:=aq h
  go_enter func95,ntmps95
  go_wp2;refine wp_loop_rounds 2 ?_;rw [rounds_succ]
  go_wp2_with (go_at_call 259;refine (unwrap_any _ _ _).mono ?_;rintro ev w1 ⟨rfl,b1⟩)
  rw [rounds_succ];go_wp2
  go_ret
  exact ⟨Ky hd.symm,b1⟩
theorem yx (n e:Int) (w:World):Calls prog 67 #[fault n e,.iface 25 (.int .i64 5)] w fun ev w'=>ev = .returned (.bool (decide (e=5)))/\Below w.heap.size w w':=by
 have h8:=@run_callFunc_extern prog 94 _ Extern.ReflectliteType.typeOf func94 (by kernel_rfl) (by kernel_rfl) (by kernel_rfl) (by kernel_rfl);have h32:=@run_callFunc_extern prog 262 _ UB func262 (by kernel_rfl) (by kernel_rfl) (by kernel_rfl) (by kernel_rfl);have tT:=jA;have cT:=oH;have mR:=jo;have L:=Hh (BM n e w);unfold fault flt at *
 go_enter func67,ntmps67
 go_wp2_with (go_at_call 95;refine L.mono ?_;rintro ev w1 ⟨rfl,b1⟩)
 go_ret
 exact ⟨rfl,b1⟩
def oG:Array Value->Sem Value:=fun args=>ReflectliteValue.unpack (args.getD 0 (.tuple #[]))
def Em : Array Value → Sem Value := ReflectliteValue.methodAny (ReflectliteValue.valueError "reflectlite.Value.Type" 0) (fun t _ _ _ => ReflectliteType.toType t)
def yZ : Array Value → Sem Value := ReflectliteValue.method (ReflectliteValue.valueError "reflectlite.Value.IsNil" 0) ReflectliteValue.isNil
def yU:Array Value->Sem Value:=ReflectliteType.abiMethod fun t=>do pure (.int .u8 (← Rtype.kind t))
def EK:Array Value->Sem Value:=ReflectliteType.method ReflectliteType.elem
def D3 : Array Value → Sem Value := ReflectliteType.relation "Implements" ReflectliteType.implements_
def yE : Array Value → Sem Value := ReflectliteType.relation "AssignableTo" ReflectliteType.assignableTo
def zm : Array Value → Sem Value := ReflectliteValue.method (ReflectliteValue.valueError "reflectlite.Value.Elem" 0) ReflectliteValue.elem
theorem Tc (t:Addr) (w:World):(oG #[.iface 157 (.pointer (some t))]).run prog w = .ok (.agg #[.pointer (some ⟨1,157,none⟩),.pointer (some ⟨w.heap.size,0,none⟩),.int .u64 150]) (w.alloc (.cells #[.pointer (some t)] 157)):=by kernel_rfl
theorem Up (e:Int) (w:World):(oG #[.iface 25 (.int .i64 e)]).run prog w = .ok (.agg #[.pointer (some ⟨1,25,none⟩),.pointer (some ⟨w.heap.size,0,none⟩),.int .u64 130]) (w.alloc (.cells #[.int .i64 e] 25)):=by kernel_rfl
theorem Uh (a:Addr) (w:World):(Em #[.agg #[.pointer (some ⟨1,157,none⟩),.pointer (some a),.int .u64 150]]).run prog w = .ok (.iface 222 (.agg #[.pointer (some ⟨1,157,none⟩)])) w:=by kernel_rfl
theorem Ao (h : Value) (w : World) : (Go.method 477 222 (.agg #[h]) "Kind").run Tryz.prog w = .ok (244, h) w := by kernel_rfl
theorem Ab (h : Value) (w : World) : (Go.method 477 222 (.agg #[h]) "Elem").run Tryz.prog w = .ok (263, .agg #[h]) w := by kernel_rfl
theorem L9 (h : Value) (w : World) : (Go.method 477 222 (.agg #[h]) "Implements").run Tryz.prog w = .ok (264, .agg #[h]) w := by kernel_rfl
theorem M5 (h : Value) (w : World) : (Go.method 477 222 (.agg #[h]) "AssignableTo").run Tryz.prog w = .ok (261, .agg #[h]) w := by kernel_rfl
theorem Dn (w:World):(yU #[.pointer (some ⟨1,157,none⟩)]).run prog w = .ok (.int .u8 22) w:=by kernel_rfl
theorem DK (w:World):(yU #[.pointer (some ⟨1,25,none⟩)]).run prog w = .ok (.int .u8 2) w:=by kernel_rfl
theorem Dw (w:World):(EK #[.agg #[.pointer (some ⟨1,157,none⟩)]]).run prog w = .ok (.iface 222 (.agg #[.pointer (some ⟨1,25,none⟩)])) w:=by kernel_rfl
theorem P8 (w:World):(D3 #[.agg #[.pointer (some ⟨1,25,none⟩)],.iface 222 (.agg #[.pointer (some ⟨1,107,none⟩)])]).run prog w = .ok (.bool true) w:=by kernel_rfl
theorem Pk (w:World):(yE #[.agg #[.pointer (some ⟨1,25,none⟩)],.iface 222 (.agg #[.pointer (some ⟨1,25,none⟩)])]).run prog w = .ok (.bool true) w:=by kernel_rfl
theorem abO (w:World):(yE #[.agg #[.pointer (some ⟨1,206,none⟩)],.iface 222 (.agg #[.pointer (some ⟨1,25,none⟩)])]).run prog w = .ok (.bool false) w:=by kernel_rfl
theorem abt (v:Value) (xT:TypeId) (w:World):(Instr.typeAssert (.iface 206 v) xT 236 true).run prog w = .ok (.tuple #[.nilIface,.bool false]) w:=run_typeAssert_lacksB underlying236 (by kernel_rfl) (by kernel_rfl) v xT w
theorem rlm (z:Sem Value) (f:TypeId->Addr->Nat->Nat->Sem Value) (v:Value) :
 ReflectliteValue.method z f #[v]=(do match ← ReflectliteValue.parts v with | none=>z | some (t,a,fl)=>f t a fl (fl % 32)):=rfl
theorem PY (a:Addr) (w:World):(ReflectliteValue.parts (.agg #[.pointer (some ⟨1,157,none⟩),.pointer (some a),.int .u64 150])).run prog w = .ok (some (157,a,150)) w:=by kernel_rfl
theorem PM (a p:Addr) (W:World) (ha:W.cell? a=some (.pointer (some p))):(yZ #[.agg #[.pointer (some ⟨1,157,none⟩),.pointer (some a),.int .u64 150]]).run prog W = .ok (.bool false) W:=by
 unfold yZ;rw [rlm];simp only [Sem.run_bind,PY,Result.andThen]
 simp [ReflectliteValue.isNil,loadVar,isAgg,underlying,underlying157,ha,Result.andThen]
theorem Vh (w:World):(Rtype.elem? 157).run prog w = .ok (some 25) w:=by kernel_rfl
theorem mkE (p:Addr) (w:World):(ReflectliteValue.mk 25 p ReflectliteValue.flagAddr).run prog w = .ok (.agg #[.pointer (some ⟨1,25,none⟩),.pointer (some p),.int .u64 386]) w:=by kernel_rfl
theorem Tf (a p:Addr) (W:World) (ha:W.cell? a=some (.pointer (some p))):(zm #[.agg #[.pointer (some ⟨1,157,none⟩),.pointer (some a),.int .u64 150]]).run prog W = .ok (.agg #[.pointer (some ⟨1,25,none⟩),.pointer (some p),.int .u64 386]) W:=by
 unfold zm;rw [rlm];simp only [Sem.run_bind,PY,Result.andThen]
 simp [ReflectliteValue.elem,loadVar,isAgg,underlying,underlying157,ha,Result.andThen,Vh,mkE]
theorem rls (v x:Value):ReflectliteValue.set #[v,x]=(do
 let (some (dst,a,fl),some (src,b,_)):=(← ReflectliteValue.parts v,← ReflectliteValue.parts x)
  | unsupported (.noEntry "extern/(internal/reflectlite.Value).Set.zeroValue")
 if fl / ReflectliteValue.flagAddr % 2 == 0 then unsupported (.noEntry "extern/(internal/reflectlite.Value).Set.unaddressable")
 let val ← loadVar src b
 if ← Rtype.directlyAssignable dst src then storeVar dst a val
 else if ← Rtype.implements dst src then
  if (← Rtype.kind src) == 20 then
   match val with
   | .nilIface => unsupported (.noEntry "extern/reflectlite: a nil value of one interface type handed on as a value of another")
   | _=>storeVar dst a val
  else storeVar dst a (.iface src val)
 else panicString ("reflectlite.Set: value of type " ++ (← Rtype.spelt src) ++ " is not assignable to type " ++ (← Rtype.spelt dst))
 pure (.tuple #[])):=rfl
theorem Vp (a:Addr) (w:World):(ReflectliteValue.parts (.agg #[.pointer (some ⟨1,25,none⟩),.pointer (some a),.int .u64 386])).run prog w = .ok (some (25,a,386)) w:=by kernel_rfl
theorem Z8 (a:Addr) (w:World):(ReflectliteValue.parts (.agg #[.pointer (some ⟨1,25,none⟩),.pointer (some a),.int .u64 130])).run prog w = .ok (some (25,a,130)) w:=by kernel_rfl
theorem WV (w:World):(Rtype.directlyAssignable 25 25).run prog w = .ok true w:=by kernel_rfl
theorem PW (ta b:Addr) (e:Int) (old:Value) (W:World) (hb:W.cell? b=some (.int .i64 e)) (ht:W.cell? ta=some old) (hf:W.frozen? ta=false) :
 (ReflectliteValue.set #[.agg #[.pointer (some ⟨1,25,none⟩),.pointer (some ta),.int .u64 386],.agg #[.pointer (some ⟨1,25,none⟩),.pointer (some b),.int .u64 130]]).run prog W
   = .ok (.tuple #[]) (W.setCell ta (.int .i64 e)):=by
 rw [rls];simp only [Sem.run_bind,Vp,Z8,Result.andThen]
 simp [ReflectliteValue.flagAddr,loadVar,isAgg,underlying,underlying25,hb,Result.andThen,WV,storeVar,Value.cells,storeCells,Addr.add]
 rw [run_store prog W ta _ _ (by rfl)]
 simp [ht,hf]
def Glob (w:World):Prop:=w.cell? ⟨0,0,none⟩=some (.iface 222 (.agg #[.pointer (some ⟨1,107,none⟩)]))
theorem Glob.below (h:Glob w) (b:Below w.heap.size w w'):Glob w':=fQ b h
theorem Glob.only {G:Nat->Prop} (h:Glob w) (hn:¬ G 0) (o:Only G w w'):Glob w':=o.cell h hn
def gP (w:World) (tb:Nat) (e:Int) (ev:Ending) (w':World):Prop:=ev = .returned (.bool true)/\w'.heap[tb]? = some (.cells #[.int .i64 e] 25 (0,0))/\Only (fun k=>k=tb) w w'
theorem BJ (n e:Int) (tb b:Nat) (w:World) (hb:w.cell? ⟨b,0,none⟩=some (.pointer (some ⟨tb,0,none⟩))) (ht:w.heap[tb]? = some (.cells #[.int .i64 0] 25 (0,0))) :
 Calls prog 104 #[fault n e,.iface 157 (.pointer (some ⟨tb,0,none⟩)),.agg #[.pointer (some ⟨1,157,none⟩),.pointer (some ⟨b,0,none⟩),.int .u64 150],.iface 222 (.agg #[.pointer (some ⟨1,25,none⟩)])] w (gP w tb e):=by
 have h42:=@run_callFunc_extern prog 94 _ Extern.ReflectliteType.typeOf func94 (by kernel_rfl) (by kernel_rfl) (by kernel_rfl) (by kernel_rfl);have h102:=@run_callFunc_extern prog 261 _ yE func261 (by kernel_rfl) (by kernel_rfl) (by kernel_rfl) (by kernel_rfl);have h60:=@run_callFunc_extern prog 125 _ zm func125 (by kernel_rfl) (by kernel_rfl) (by kernel_rfl) (by kernel_rfl);have h50:=@run_callFunc_extern prog 101 _ oG func101 (by kernel_rfl) (by kernel_rfl) (by kernel_rfl) (by kernel_rfl);have h61:=@run_callFunc_extern prog 126 _ ReflectliteValue.set func126 (by kernel_rfl) (by kernel_rfl) (by kernel_rfl) (by kernel_rfl);have tF:=Mm;have tE:=jA;have mA:=M5;have aF:=abO;have aE:=Pk;have nA:=abt;have uF:=yF;have mU:=pI;have vE:=Up;have HB:=Hh hb;have HT:=Hh ht;have B0:=Hh ((aa w.heap.size w).alloc (ac _) (.cells #[.pointer (some ⟨1,157,none⟩),.pointer (some ⟨b,0,none⟩),.int .u64 150] 196));clear hb ht;unfold fault flt
 go_enter func104,ntmps104
 go_wp2;refine wp_loop_rounds 2 ?_;rw [rounds_succ]
 go_wp2_with (go_at_call 259;refine (unwrap_any _ _ _).mono ?_;rintro ev w1 ⟨rfl,b1⟩)
 have B1:=aP B0 b1;have G0:=(b1.block _ (by simp)).trans (aw w _);obtain ⟨e0,e1,e2⟩:=CU G0;have hbl:=bo _ _ HB;have el:=Tf ⟨b,0,none⟩ ⟨tb,0,none⟩ w1 ((B1.cell hbl).trans HB);have htl:=bh HT;have T1:=(B1.block tb htl).trans HT;have T2:=(cz w1 (.cells #[.int .i64 e] 25) tb (by have:=B1.out.size;omega)).trans T1;have st:=PW ⟨tb,0,none⟩ ⟨w1.heap.size,0,none⟩ e (.int .i64 0) (w1.alloc (.cells #[.int .i64 e] 25)) (by simp) (ah T2 0) (aj T2 0);have RES:Hid (gP w tb e (.returned (.bool true)) ((w1.alloc (.cells #[.int .i64 e] 25)).setCell ⟨tb,0,none⟩ (.int .i64 e))):=by
  refine ⟨rfl,?_,?_⟩
  ·have:=Rw.heap_setCell_same (j:=0) T2 (.int .i64 e)
   rw [this]
   simp
  ·exact (Only.of_below (B1.alloc B1.size _)).trans (Only.set (fun k=>k=tb) _ (a:=⟨tb,0,none⟩) rfl _) fun _ _ g=>g
 clear b1 G0 T1 T2 HB HT B0 B1 hbl htl;rw [rounds_succ];go_wp2
 go_ret
 exact RES
theorem aaa (n e:Int) (tb:Nat) (w:World) (hg:Glob w) (ht:w.heap[tb]? = some (.cells #[.int .i64 0] 25 (0,0))) :
 Calls prog 75 #[fault n e,.iface 157 (.pointer (some ⟨tb,0,none⟩))] w (gP w tb e):=by
 have h50:=@run_callFunc_extern prog 101 _ oG func101 (by kernel_rfl) (by kernel_rfl) (by kernel_rfl) (by kernel_rfl);have h51:=@run_callFunc_extern prog 102 _ Em func102 (by kernel_rfl) (by kernel_rfl) (by kernel_rfl) (by kernel_rfl);have h52:=@run_callFunc_extern prog 103 _ yZ func103 (by kernel_rfl) (by kernel_rfl) (by kernel_rfl) (by kernel_rfl);have h95:=@run_callFunc_extern prog 244 _ yU func244 (by kernel_rfl) (by kernel_rfl) (by kernel_rfl) (by kernel_rfl);have h104:=@run_callFunc_extern prog 263 _ EK func263 (by kernel_rfl) (by kernel_rfl) (by kernel_rfl) (by kernel_rfl);have h105:=@run_callFunc_extern prog 264 _ D3 func264 (by kernel_rfl) (by kernel_rfl) (by kernel_rfl) (by kernel_rfl);have f6:=Tc;have f7:=Uh;have mK:=Ao;have mE:=Ab;have mI:=L9;have kP:=Dn;have kE:=DK;have eP:=Dw;have iE:=P8;have hlt:=Nat.lt_of_le_of_lt (ce _) (bo _ _ hg);have htl:=bh ht;have B2:Below w.heap.size w ((w.alloc (.cells #[.pointer (some ⟨tb,0,none⟩)] 157)).alloc (.cells #[.pointer (some ⟨1,157,none⟩),.pointer (some ⟨w.heap.size,0,none⟩),.int .u64 150] 196)):=((aa w.heap.size w).alloc (ac _) _).alloc (by simp) _;have n8:=PM ⟨w.heap.size,0,none⟩ ⟨tb,0,none⟩ ((w.alloc (.cells #[.pointer (some ⟨tb,0,none⟩)] 157)).alloc (.cells #[.pointer (some ⟨1,157,none⟩),.pointer (some ⟨w.heap.size,0,none⟩),.int .u64 150] 196)) (by simp);have hg2:((w.alloc (.cells #[.pointer (some ⟨tb,0,none⟩)] 157)).alloc (.cells #[.pointer (some ⟨1,157,none⟩),.pointer (some ⟨w.heap.size,0,none⟩),.int .u64 150] 196)).cell? ⟨0,0,none⟩=some (.iface 222 (.agg #[.pointer (some ⟨1,107,none⟩)])):=hg.below B2;have AL:=Hh (BJ n e tb w.heap.size ((w.alloc (.cells #[.pointer (some ⟨tb,0,none⟩)] 157)).alloc (.cells #[.pointer (some ⟨1,157,none⟩),.pointer (some ⟨w.heap.size,0,none⟩),.int .u64 150] 196)) (by simp) ((B2.block tb htl).trans ht));have BB:=Hh B2;have HTL:=Hh htl;clear hg ht B2 htl;unfold fault flt at *
 go_enter func75,ntmps75
 go_wp2_with (go_at_call 104;refine AL.mono ?_;rintro ev w1 ⟨rfl,r1,o1⟩)
 go_ret
 exact ⟨rfl,r1,(Only.of_below BB).trans o1 fun _ _ g=>g⟩
theorem yj (n e:Int) (w:World) (hg:Glob w):Calls prog 80 #[fault n e] w fun ev w'=>ev = .returned (.int .i64 e)/\Below w.heap.size w w':=by
 have B0:=Hh ((aa w.heap.size w).alloc (ac _) (.cells #[.int .i64 0] 25));have AS:=Hh (aaa n e w.heap.size (w.alloc (.cells #[.int .i64 0] 25)) (hg.below B0) (aw w _));clear hg;unfold fault flt at *
 go_enter func80,ntmps80
 go_wp2_with fail;refine AS.mono ?_;rintro ev w1 ⟨rfl,r1,o1⟩;have c1:=Fl.rc r1 0;have BB:=Hh (B0.trans (o1.below (by simp) fun k hk=>by rw [hk];exact ac _));clear r1 o1 B0 AS;go_wp2
 go_ret
 exact ⟨rfl,BB⟩
end Fs
