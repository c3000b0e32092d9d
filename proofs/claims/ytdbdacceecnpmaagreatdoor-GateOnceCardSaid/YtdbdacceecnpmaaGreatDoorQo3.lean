import Derived.Test.YtdbdacceecnpmaaGreatDoorQo2
import Derived.WalkSpells
import Derived.Test.YtdbdacceecnpmaaGreatDoorShelfK
import Derived.Stop.Asserts
import Derived.Stop.IfaceNil
import Derived.RowKitTokens
import Derived.Lib.IfaceEq
set_option maxRecDepth 100000
set_option maxHeartbeats 4000000
namespace Go.Proofs.YtdbdacceecnpmaaGreatDoor
open Go.Proofs.Tryz Go.RowKit
open Fl (K4 R4 aG aL aO ah aj bG bJ dF file rat z4)
open Fs (aT dA dD dE dN dV eY gB gH gV jI jq key nP oh pE qB sA sB sH)
open Rw (At Ow Rd)
namespace Pa
open Ro (E5 z5 gT dJ gW iY)
open Ck (LL dH sN sE tE)
open Ua (bit zX te tp tb upd)
section
variable {h:Hr} {t:List E5} {V:Int->Int->Bool} {A:aT}
def nV (h:Hr) (l:List E5) (f r:Int) (A:aT):aT:=if (gB A f r && QM h l)=true then sA A f r (mix h l (gV A f r)) else A
variable {f r o d:Int}
theorem Pj (hA:eY A) (h0:r≠0) (hy:Zp (jc t f r)):nV h (jc t f r) f r (dR h t V A)=dR h t (also V f r) A:=by
 unfold nV;rw [UO]
 by_cases hg:gB A f r=true
 ·by_cases ha:QM h (jc t f r)=true
  ·rw [hg,ha,show (true && true)=true from rfl,az rfl,← WG hA hg h0 hy]
   congr 1
   unfold newV;rw [az ha]
  ·rw [aq (by simp [ha])]
   unfold dR;refine List.map_congr_left fun e _=>?_;unfold kX
   congr 2
   refine fS fun q=>?_;simp only [List.getElem?_mapIdx]
   by_cases hx:e.1=f/\(q:Int)=r
   ·obtain ⟨h1,h2⟩:=hx
    rw [h1,h2];have:∀ v,newV h (jc t f r) v=v:=fun v=>by unfold newV;rw [aq ha]
    simp only [this,ite_self]
   ·simp [also,hx]
 ·rw [aq (by simp [hg]),XL hA (by simpa using hg)]
def seen (t:List E5) (j:Nat) (n k:Int):Bool:=(t.take j).any (mt n k)
variable {j:Nat}
theorem xZ (hj:j < t.length):t.take (j+1)=t.take j ++ [dJ t j]:=by rw [ed,iY hj];rfl
def Yx (s:aT×Int) (x:E5):aT×Int:=if x.1=3 then (dA s.1 2 x.2.2.1 x.2.2.2.1 z4,dD s.1 2 x.2.2.1 x.2.2.2.1 s.2) else s
def exU (t:List E5) (s:aT×Int) (j:Nat):aT×Int:=(t.take j).foldl Yx s
def YT (h:Hr) (t:List E5) (s:aT×Int):aT×Int:=t.foldl Yx (tJ h t s.1,s.2)
theorem Qy (s:aT×Int):exU t s 0=s:=rfl
theorem zf (s:aT×Int) (hj:j < t.length):exU t s (j+1)=Yx (exU t s j) (dJ t j):=by unfold exU;rw [xZ hj,List.foldl_append];rfl
theorem XT (s:aT×Int) (hj:j < t.length) (h3:(dJ t j).1=3):exU t s (j+1)=(dA (exU t s j).1 2 (dJ t j).2.2.1 (dJ t j).2.2.2.1 z4,dD (exU t s j).1 2 (dJ t j).2.2.1 (dJ t j).2.2.2.1 (exU t s j).2):=by
 rw [zf s hj];unfold Yx;rw [az h3]
theorem aaE (s:aT×Int) (hj:j < t.length) (h3:(dJ t j).1≠3):exU t s (j+1)=exU t s j:=by
 rw [zf s hj];unfold Yx;rw [aq h3]
theorem Di (h:Hr) (s:aT×Int):exU t (tJ h t s.1,s.2) t.length=YT h t s:=by unfold exU YT;rw [df]
theorem TX : d<=dD A o f r d/\dD A o f r d<=d+1:=by unfold dD;split <;> omega
theorem Lc (s:aT×Int):∀ j,s.2<=(exU t s j).2/\(exU t s j).2<=s.2+j
 | 0=>by rw [Qy];omega
 | j+1=>by
   have ih:=Lc s j
   by_cases hj:j < t.length
   ·rw [zf s hj]
    unfold Yx
    split
    ·have:=TX (A:=(exU t s j).1) (o:=2) (f:=(dJ t j).2.2.1) (r:=(dJ t j).2.2.2.1) (d:=(exU t s j).2)
     simp only
     omega
    ·omega
   ·have:exU t s (j+1)=exU t s j:=by unfold exU;rw [dt (by omega),dt (by omega)]
    rw [this]
    omega
end
def tn (F:Nat->Bool) (m:Int) (i:Nat):Bool:=if 1<=i/\i < 11 then F i != bit m i else F i
abbrev S2:=Int×Int
def z2:S2:=(0,0)
def pat (P:List S2) (i:Nat):S2:=P.getD i z2
def sq1 (s:Int) (F:Nat->Bool) (x:S2):Nat->Bool:=if x.1=s then tn F x.2 else F
def sq (P:List S2) (s:Int) (F:Nat->Bool) (j:Nat):Nat->Bool:=(P.take j).foldl (sq1 s) F
variable {j i:Nat}
theorem Lm (P:List S2) (s:Int) (F:Nat->Bool) (hj:j < P.length):sq P s F (j+1)=sq1 s (sq P s F j) (pat P j):=by
 unfold sq;have:P.take (j+1)=P.take j ++ [pat P j]:=by
  rw [ed,aw hj];unfold pat;rw [an,aw hj]
  rfl
 rw [this,List.foldl_append]
 rfl
theorem Jk (P:List S2) (s:Int) (F:Nat->Bool) (hj:j < P.length) (h:(pat P j).1=s):sq P s F (j+1)=tn (sq P s F j) (pat P j).2:=by rw [Lm P s F hj];unfold sq1;rw [az h]
theorem Md (P:List S2) (s:Int) (F:Nat->Bool) (hj:j < P.length) (h:(pat P j).1≠s):sq P s F (j+1)=sq P s F j:=by rw [Lm P s F hj];unfold sq1;rw [aq h]
theorem Dn:∀ r:Fin 2048,r.val &&& 2046=r.val / 2 * 2:=by decide +kernel
theorem Vg (x:Int):bits BinOp.and .i64 x 2046=x / 2 % 1024 * 2:=by
 have h:=Ua.Ms x 2046 (by decide);have h2:((x % 18446744073709551616).toNat &&& 2046:Nat)=(x % 18446744073709551616).toNat % 2048 / 2 * 2:=by
  have a:=Dn ⟨(x % 18446744073709551616).toNat % 2048,Nat.mod_lt _ (by omega)⟩;simp only at a;rw [← a];have e:(x % 18446744073709551616).toNat % 2048=(x % 18446744073709551616).toNat &&& (2 ^ 11 - 1):=by rw [Nat.and_two_pow_sub_one_eq_mod]
  rw [e,Nat.and_assoc]
  rfl
 rw [show ((2046:Int))=((2046:Nat):Int) from rfl,h,h2]
 omega
theorem Ui (x:Int) (hi:i < 11):bit (x / 2 % 1024 * 2) i=(decide (1<=i) && bit x i):=by
 unfold bit
 rcases ij i 1 with h | h
 ·obtain rfl:i=0:=by omega
  simp
 ·rw [bj h,Bool.true_and,cY]
  obtain rfl | rfl | rfl | rfl | rfl | rfl | rfl | rfl | rfl | rfl:i=1\/i=2\/i=3\/i=4\/i=5\/i=6\/i=7\/i=8\/i=9\/i=10:=by omega
  all_goals simp only [Int.reducePow];omega
theorem YJ (F:Nat->Bool) (m:Int) (i:Nat) (hi:i < 11):Ua.turn F (bits BinOp.and .i64 m 2046) 11 i=tn F m i:=by
 rw [Vg];unfold Ua.turn tn;rw [az hi,Ui m hi]
 by_cases h:1<=i
 ·simp [h,hi]
 ·simp [h]
abbrev bW:=List (aT×Int)
def sat (S:bW) (n:Int):aT×Int:=S.getD n.toNat ([],0)
def bX (V:List Bool) (n:Int):Bool:=V.getD n.toNat false
def jR (S:bW) (T:LL) (V:List Bool) (s:Int):Bool:=decide (0<=sN s T) && bX V (sN s T) && gB (sat S (sN s T)).1 (sE s T).2.2.1 (sE s T).2.2.2.1
def Zq (S:bW) (T:LL) (s:Int):Int:=rb (gV (sat S (sN s T)).1 (sE s T).2.2.1 (sE s T).2.2.2.1) (sE s T).2.2.2.2
def sP (S:bW) (T:LL) (V:List Bool) (s:Int):Int:=if jR S T V s=true then sN s T else -1
def Nk (S:bW) (T:LL) (V:List Bool) (s:Int):Int:=if jR S T V s=true then Zq S T s else 0
def xY (_:Nat):Bool:=false
def oQ (S:bW) (T:LL) (V:List Bool) (P:List S2) (s:Int):Nat->Bool:=if jR S T V s=true then sq P s (zX (Zq S T s) false) P.length else xY
def vX (S:bW) (T:LL) (V:List Bool) (P:List S2) (s:Int):Bool:=jR S T V s && decide (te (oQ S T V P s)=0) && !tp (oQ S T V P s)
def Ja (S:bW) (T:LL) (V:List Bool) (P:List S2) (s:Int):Int:=if vX S T V P s=true then tb (oQ S T V P s) else 0
def hr (S:bW) (T:LL) (V:List Bool) (P:List S2):Hr:=fun s=>if 1<=s/\s<=16/\vX S T V P s=true then some (Ja S T V P s) else none
theorem aa5 (F:Nat->Bool):jS (tb F):=by
 unfold tb jS
 split
 ·omega
 ·have:=Ua.JY F 8
  omega
theorem Yd (S:bW) (T:LL) (V:List Bool) (P:List S2) (s:Int):jS (Ja S T V P s):=by
 unfold Ja
 split
 ·exact aa5 _
 ·unfold jS;omega
theorem Gp (S:bW) (T:LL) (V:List Bool) (P:List S2):VY (hr S T V P):=fun n y h=>by
 unfold hr at h
 split at h
 ·injection h with h;subst h;exact Yd S T V P n
 ·cases h
def jT (S:bW) (T:LL) (V:List Bool):Int:=if 1<=S.length/\S.length<=32/\T.length=S.length/\V.length=S.length then tE T else 1
def Ai (S:bW) (T:LL) (V:List Bool) (h:Hr):bW:=(List.range S.length).map fun (i:Nat)=>if bX V i=true then YT h (dH T i) (sat S i) else sat S i
theorem jK (S:bW) (T:LL) (V:List Bool) (h:Hr):(Ai S T V h).length=S.length:=by simp [Ai]
theorem qE (S:bW) (T:LL) (V:List Bool) (h:Hr) (hi:i < S.length):sat (Ai S T V h) i=if bX V i=true then YT h (dH T i) (sat S i) else sat S i:=by
 show (Ai S T V h).getD ((i:Int)).toNat _=_
 rw [cU,an];unfold Ai;rw [cX,List.getElem?_range hi]
 rfl
end Pa
namespace Fs
open Go.Maps
open Fl (jf newR)
structure aB where
 n:Int
 p:Int
 a:Option Addr
 cap:Nat
 l:List R4
def aB.sl (c:aB):Value:=.slice c.a c.l.length c.cap
def aB.file (c:aB):Value:=Fl.file c.p c.sl
def aB.abs (c:aB):sH:=(c.n,c.p,c.l)
def E3:Rw.Kind aB:=⟨fun c=>[.int .i64 c.n,.int .i64 c.p,c.sl],3,by decide,fun _=>rfl,fun _ u h=>by simp [aB.sl] at h;rcases h with rfl | rfl | rfl <;> rfl,⟨0,0,none,0,[]⟩⟩
theorem vK (c:aB):key c.abs=c.n:=rfl
structure Only (G:Nat->Prop) (w w':World):Prop where
 os:w'.os=w.os
 tape:w'.tape=w.tape
 output:w'.output=w.output
 size:w.heap.size<=w'.heap.size
 block:∀ k,k < w.heap.size->¬ G k->w'.heap[k]? = w.heap[k]?
def Fx (G:Nat->Prop) (w w':World) (k:Nat):Prop:=G k\/(w.heap.size<=k/\k < w'.heap.size)
section
variable {G:Nat->Prop} {w w' w'':World}
theorem Only.refl (G:Nat->Prop) (w:World):Only G w w:=⟨rfl,rfl,rfl,am _,fun _ _ _=>rfl⟩
theorem Only.of_below (h:Below w.heap.size w w'):Only G w w':=⟨h.os,h.tape,h.output,h.size,fun k hk _=>h.block k hk⟩
theorem Only.mono {G':Nat->Prop} (h:Only G w w') (hg:∀ k,k < w.heap.size->G k->G' k):Only G' w w':=⟨h.os,h.tape,h.output,h.size,fun k hk hn=>h.block k hk fun g=>hn (hg k hk g)⟩
theorem Only.trans {G':Nat->Prop} (h:Only G w w') (k:Only G' w' w'') (hg:∀ k,k < w.heap.size->G' k->G k):Only G w w'' :=
 ⟨k.os.trans h.os,k.tape.trans h.tape,k.output.trans h.output,cP h.size k.size,fun i hi hn=>(k.block i (cL hi h.size) fun g=>hn (hg i hi g)).trans (h.block i hi hn)⟩
theorem Only.then (h:Only G w w') (b:Below w'.heap.size w' w''):Only G w w'':=h.trans (Only.of_below (G:=fun _=>False) b) fun _ _ g=>g.elim
theorem Only.set (G:Nat->Prop) (w:World) {a:Addr} (ha:G a.block) (u:Value):Only G w (w.setCell a u) :=
 ⟨rfl,rfl,rfl,by simp [World.setCell],fun k _ hn=>cj w a u k fun e=>hn (e ▸ ha)⟩
variable {b B k:Nat}
theorem Only.grown (hb:G b) (h:w.grownBy w' (some b)):Only G w w':=⟨h.os,h.tape,h.output,h.size,fun k hk hn=>h.block k hk fun e=>hn (by injection e with e;exact e ▸ hb)⟩
theorem Only.below (h:Only G w w') (hB:B<=w.heap.size) (hG:∀ k,G k->B<=k):Below B w w' :=
 ⟨h.os,h.tape,h.output,h.size,fun k hk=>h.block k (by omega) fun g=>by have:=hG k g;omega⟩
theorem Only.cell (h:Only G w w') {a:Addr} {v:Value} (hc:w.cell? a=some v) (hn:¬ G a.block):w'.cell? a=some v :=
 (World.cell?_of_block (h.block a.block (cd _ _ hc) hn)).trans hc
theorem Fx.of (h:G k):Fx G w w' k:=.inl h
theorem Fx.not (h:¬ G k) (hk:k < w.heap.size):¬ Fx G w w' k:=by rintro (g | ⟨g,_⟩);exact h g;omega
theorem Fx.low (h:∀ k,G k->k < w.heap.size) (hs:w.heap.size<=w'.heap.size):∀ k,Fx G w w' k->k < w'.heap.size:=by
 rintro k (g | ⟨_,g⟩)
 ·have:=h k g;omega
 ·exact g
end
section
variable {α:Type} {K:Rw.Kind α} {G:Nat->Prop} {w w':World} {v:Value} {l:List α}
theorem iw (h:Rd K w v l) (hn:0 < l.length->∀ k,v.ownBlock=some k->¬ G k) (ho:Only G w w'):Rd K w' v l:=by
 obtain ⟨a,cap,rfl,h1,h2,h3⟩:=h;refine ⟨a,cap,rfl,h1,h2,fun h0=>?_⟩;obtain ⟨b,off,rfl,hA⟩:=h3 h0;exact ⟨b,off,rfl,fun i hi j u hu=>ho.cell (hA i hi j u hu) (hn h0 b rfl)⟩
theorem qU (h:Rd K w v l) (h0:0 < l.length):∀ k,v.ownBlock=some k->k < w.heap.size:=by
 obtain ⟨a,cap,rfl,h1,h2,h3⟩:=h;obtain ⟨b,off,rfl,hA⟩:=h3 h0
 intro k hk
 obtain rfl:b=k:=by simpa [Value.ownBlock] using hk
 obtain ⟨j,hj⟩:∃ u,(K.enc (l.getD 0 K.Qh))[0]? = some u:=⟨_,aw (by rw [K.len];exact K.pos)⟩;exact cd _ _ (hA 0 h0 0 _ hj)
theorem Zi (h:Rd K w v l) (hn:0 < l.length->∀ k,v.ownBlock=some k->¬ G k):0 < l.length->∀ k,v.ownBlock=some k->¬ Fx G w w' k :=
 fun h0 k hk=>Fx.not (hn h0 k hk) (qU h h0 k hk)
variable {B E:Nat}
theorem aA (h:Ow K w B E v l) (hn:∀ k,v.ownBlock=some k->¬ G k) (ho:Only G w w'):Ow K w' B E v l:=by
 obtain ⟨h1,h2⟩:=h;refine ⟨h1,?_⟩
 rcases h2 with h2 | ⟨g,cap,cur,rfl,hB,hh,r⟩
 ·exact .inl h2
 ·exact .inr ⟨g,cap,cur,rfl,hB,(ho.block g (bp hh) (hn g rfl)).trans hh,r⟩
theorem dI (h:Ow K w B E v l):∀ k,v.ownBlock=some k->B<=k/\k < w.heap.size:=fun k hk=>cJ h k hk
end
def Rh (v:Value):Option (DataW Value×List MemPlace):=some (.held v,[])
def ent (c:aB):Lit×DataW Value:=(.int .i64 c.n,.held c.file)
def dat (C:List aB):DataW Value:=.map (C.map ent)
theorem law:Keyed prog 3:=int_keyed underlying3
theorem Qr (w:World):(zeroValue 83).run prog w = .ok (file 0 (.slice none 0 0)) w:=by kernel_rfl
def Wf (n:Int):Prop:=(Lit.int .i64 n).wf=true
variable {n:Int}
theorem wN (h:Wf n):keyOf prog 3 (.int .i64 n)=some (.int .i64 n):=keyOf_int_mk underlying3 h
theorem xJ (c:aB):∀ l:List aB,DataW.insert (ent c) (l.map ent)=(ins aB.n c l).map ent
 | []=>rfl
 | y :: r=>by
   simp only [i4,DataW.insert,ins,ent,Lit.before,cQ]
   split
   ·rfl
   ·have:=xJ c r
    simp only [ent] at this;rw [this]
    rfl
theorem JB (c:aB) (l:List aB):(l.map ent).filter (fun p=>!p.1.sameKey (ent c).1)=(l.filter fun y=>decide (¬ y.n=c.n)).map ent:=by
 rw [List.filter_map]
 congr 1
 exact dv (fun q=>List.filter q l) (funext fun x=>by simp [ent,Lit.sameKey])
theorem V3 (c:aB) (l:List aB):(dat l).put (.int .i64 c.n) (.held c.file)=dat (put aB.n c l):=by
 unfold dat DataW.put put;simp only;rw [← xJ,← JB]
 rfl
theorem DZ (n:Int):∀ l:List aB,(l.map ent).find? (fun p=>p.1.sameKey (.int .i64 n))=(look aB.n n l).map ent:=fun l=>by
 unfold look;rw [List.find?_map]
 congr 1
 exact dv (fun q=>List.find? q l) (funext fun x=>by simp [ent,Lit.sameKey])
def lv (C:List aB) (n:Int):Value:=match look aB.n n C with | none=>file 0 (.slice none 0 0) | some c=>c.file
def lb (C:List aB) (n:Int):Bool:=(look aB.n n C).isSome
theorem J3 (n:Int) (l:List aB):(dat l).atKey (.int .i64 n) (.held (file 0 (.slice none 0 0))) = .held (lv l n):=by
 unfold dat DataW.atKey lv;simp only [DZ]
 cases look aB.n n l <;> rfl
theorem Bf (n:Int) (l:List aB):Maps.has (dat l) (.int .i64 n)=lb l n:=by
 have e:∀ q:Lit×DataW Value->Bool,(l.map ent).any q=((l.map ent).find? q).isSome:=fun q=>by
  rw [Bool.eq_iff_iff,eQ,List.find?_isSome]
 show (l.map ent).any (fun p=>p.1.sameKey (.int .i64 n))=_
 rw [e,DZ,Option.isSome_map]
 rfl
variable {w:World} {b:Nat} {C:List aB}
theorem tight {n:Nat} (h:w.ownsMap prog 3 Rh b n (dat C)):w.ownsMap prog 3 Rh b C.length (dat C):=by
 obtain ⟨es,clock,hb,F,hs,hD⟩:=h;refine ⟨es,clock,hb,F,?_,hD⟩;have e:C.map ent=(es.toList.map (Go.WideElems.rg prog 3 Rh)).foldr DataW.insert []:=by unfold dat at hD;injection hD
 have:=dv List.length e;rw [length_read,cm] at this
 omega
def Mp (w:World) (F:Nat->Prop) (m:Value) (C:List aB):Prop:=(m = .map none/\C = [])\/∃ b,m = .map (some b)/\F b/\w.ownsMap prog 3 Rh b C.length (dat C)
variable {F:Nat->Prop}
theorem mJ {m:Value} (M:Mp w F m C) (hn:Wf n) (c:Bool) :
 (Instr.lookup 148 m (.int .i64 n) c).run prog w = .ok (if c then .tuple #[lv C n,.bool (lb C n)] else lv C n) w:=by
 rcases M with ⟨rfl,rfl⟩ | ⟨b,rfl,_,h⟩
 ·exact Maps.look_nil c law underlying148 (Qr w) (wN hn)
 ·cases c with
  | false =>
    obtain ⟨v,ps,hr,hv⟩:=h.lookup law underlying148 (Qr w) (zd:=.held (file 0 (.slice none 0 0))) (zp:=[]) rfl (wN hn);rw [J3] at hv;have:v=lv C n:=by simp [Rh] at hv;exact hv.1
    rw [hr,this]
    rfl
  | true =>
    obtain ⟨v,ps,hr,hv⟩:=h.look_ok law underlying148 (Qr w) (zd:=.held (file 0 (.slice none 0 0))) (zp:=[]) rfl (wN hn);rw [J3] at hv;have:v=lv C n:=by simp [Rh] at hv;exact hv.1
    rw [hr,this,Bf]
    rfl
theorem WZ (M:Mp w F (.map (some b)) C) (c:aB) (hn:Wf c.n) (hl:C.length < maxLen) :
 ∃ w',(Instr.mapUpdate 148 (.map (some b)) (.int .i64 c.n) c.file).run prog w = .ok () w'/\Mp w' F (.map (some b)) (put aB.n c C)/\w.grownBy w' (some b):=by
 rcases M with ⟨h,_⟩ | ⟨b',e,hF,h⟩
 ·cases h
 ·obtain rfl:b=b':=by injection e with e;injection e
  obtain ⟨w',hr,h',hg⟩:=h.update law underlying148 hl (wN hn) (d:=.held c.file) (ps:=[]) rfl;rw [V3] at h';exact ⟨w',hr,.inr ⟨b,rfl,hF,tight h'⟩,hg⟩
section
variable {ops:Array Oper} {rest:List Oper} {o:Oper} {a:Act} {Q:Exit->Act->World->Prop} {K:Act->World->Prop} {w:World} {F:Nat->Prop}
theorem Lb {m:Value} (hgd:Region.wanted o (yielded ops a.tmps)=true) (p x:Operand) (c:Bool) (hop:o.op = .lookup 148 p x c) (hm:a.eval p=m) (M:Mp w F m C) (n:Int) (hx:a.eval x = .int .i64 n) (hn:Wf n)
 (h:wpList prog ops Q rest (a.put o.dst (if c then .tuple #[lv C n,.bool (lb C n)] else lv C n)) w):wpList prog ops Q (o :: rest) a w:=by
 refine BigFrame.wpList_want hgd fun K' hK=>?_;have hr:=mJ M hn c;unfold Oper.wp
 simp [execOp,hop,hm,hx,hr,Result.andThen]
 exact hK _ _ (by simpa using h)
theorem qQ (p x v:Operand) (hop:o.op = .mapUpdate 148 p x v) (hm:a.eval p = .map (some b)) (M:Mp w F (.map (some b)) C) (c:aB) (hx:a.eval x = .int .i64 c.n) (hv:a.eval v=c.file) (hn:Wf c.n) (hl:C.length < maxLen)
 (h:∀ w',Mp w' F (.map (some b)) (put aB.n c C)->w.grownBy w' (some b)->K (a.put o.dst undef) w'):o.wp prog a w K Q:=by
 obtain ⟨w',hr,h1,h2⟩:=WZ M c hn hl;unfold Oper.wp
 simp [execOp,hop,hm,hx,hv,hr,Result.andThen]
 exact h w' h1 h2
end
section
variable {w w':World} {F G:Nat->Prop} {m:Value} {C:List aB}
theorem Mp.only (h:Mp w F m C) (hn:∀ k,F k->¬ G k) (ho:Only G w w'):Mp w' F m C:=by
 rcases h with h | ⟨b,rfl,hF,h⟩
 ·exact .inl h
 ·have hlt:=h.lt
  obtain ⟨es,clock,hb,Ft,hs,hD⟩:=h;exact .inr ⟨b,rfl,hF,es,clock,(ho.block b hlt (hn b hF)).trans hb,Ft,hs,hD⟩
theorem Mp.wide (h:Mp w F m C) (hF:∀ k,F k->G k):Mp w G m C:=by
 rcases h with h | ⟨b,rfl,hb,h⟩
 ·exact .inl h
 ·exact .inr ⟨b,rfl,hF b hb,h⟩
theorem Mp.kept (h:Mp w F m C) (hb:∀ b,m = .map (some b)->w'.heap[b]? = w.heap[b]?):Mp w' F m C:=by
 rcases h with h | ⟨b,rfl,hF,h⟩
 ·exact .inl h
 ·obtain ⟨es,clock,h1,Ft,hs,hD⟩:=h
  exact .inr ⟨b,rfl,hF,es,clock,(hb b rfl).trans h1,Ft,hs,hD⟩
theorem Mp.isMap (h:Mp w F (.map (some b)) C):F b/\∃ es clock,w.heap[b]? = some (.map es clock):=by
 rcases h with ⟨h,_⟩ | ⟨b',e,hF,h⟩
 ·cases h
 ·obtain rfl:b=b':=by injection e with e;injection e
  obtain ⟨es,clock,hb,_⟩:=h;exact ⟨hF,es,clock,hb⟩
end
def apart (c c':aB):Prop:=∀ k,c.sl.ownBlock=some k->c'.sl.ownBlock≠some k
structure iL (w:World) (s:Nat) (F:Nat->Prop) (m:Value) (C:List aB) (d:Int):Prop where
 row:w.heap[s]? = some (.cells #[m,.int .i64 d] 150 (0,0))
 mD:F s
 mp:Mp w F m C
 own:∀ c∈C,Ow K4 w 0 36 c.sl c.l
 mine:∀ c∈C,∀ k,c.sl.ownBlock=some k->F k
 apart:C.Pairwise apart
 ok:eY (C.map aB.abs)
 low:∀ k,F k->k < w.heap.size
def St (w:World) (s:Nat) (F:Nat->Prop) (A:aT) (d:Int):Prop:=∃ m C,iL w s F m C d/\C.map aB.abs=A
section
variable {w w':World} {s:Nat} {F G:Nat->Prop} {m:Value} {C:List aB} {A:aT} {d:Int}
theorem iL.only (h:iL w s F m C d) (hn:∀ k,F k->¬ G k) (ho:Only G w w'):iL w' s F m C d :=
 ⟨(ho.block s (bp h.row) (hn s h.mD)).trans h.row,h.mD,h.mp.only hn ho,fun c hc=>aA (h.own c hc) (fun k hk=>hn k (h.mine c hc k hk)) ho,h.mine,h.apart,h.ok,fun k hk=>cL (h.low k hk) ho.size⟩
theorem iL.wide (h:iL w s F m C d) (hF:∀ k,F k->G k) (hl:∀ k,G k->k < w.heap.size):iL w s G m C d :=
 ⟨h.row,hF s h.mD,h.mp.wide hF,h.own,fun c hc k hk=>hF k (h.mine c hc k hk),h.apart,h.ok,hl⟩
theorem iL.below (h:iL w s F m C d) (hb:Below w.heap.size w w'):iL w' s F m C d:=h.only (G:=fun _=>False) (fun _ _ g=>g) (Only.of_below hb)
theorem St.only (h:St w s F A d) (hn:∀ k,F k->¬ G k) (ho:Only G w w'):St w' s F A d:=by
 obtain ⟨m,C,h,e⟩:=h;exact ⟨m,C,h.only hn ho,e⟩
theorem St.wide (h:St w s F A d) (hF:∀ k,F k->G k) (hl:∀ k,G k->k < w.heap.size):St w s G A d:=by
 obtain ⟨m,C,h,e⟩:=h;exact ⟨m,C,h.wide hF hl,e⟩
theorem St.below (h:St w s F A d) (hb:Below w.heap.size w w'):St w' s F A d:=by
 obtain ⟨m,C,h,e⟩:=h;exact ⟨m,C,h.below hb,e⟩
theorem St.fx (h:St w s F A d) (hb:Below w.heap.size w w'):St w' s (Fx F w w') A d:=by
 have hl:∀ k,F k->k < w.heap.size:=by obtain ⟨m,C,h,_⟩:=h;exact h.low
 exact (h.below hb).wide (fun k hk=>.inl hk) (Fx.low hl hb.size)
theorem St.low (h:St w s F A d):∀ k,F k->k < w.heap.size:=by obtain ⟨m,C,h,_⟩:=h;exact h.low
theorem St.mD (h:St w s F A d):F s:=by obtain ⟨m,C,h,_⟩:=h;exact h.mD
theorem St.okA (h:St w s F A d):eY A:=by obtain ⟨m,C,h,e⟩:=h;rw [← e];exact h.ok
theorem iL.len (h:iL w s F m C d):C.length<=64:=by have:=h.ok.len;rwa [cm] at this
theorem gQ (n:Int) (C:List aB):look key n (C.map aB.abs)=(look aB.n n C).map aB.abs:=pE (κ:=aB.n) (κ':=key) vK n C
theorem nU (c:aB) (C:List aB):(put aB.n c C).map aB.abs=put key c.abs (C.map aB.abs):=Yc (κ:=aB.n) (κ':=key) vK c C
variable {c:aB}
theorem iL.find (h:iL w s F m C d) (hc:look aB.n n C=some c):Ow K4 w 0 36 c.sl c.l/\aL c.p c.l/\dF c.l/\c.n=n/\(0<=n/\n<=63)/\c∈C:=by
 obtain ⟨hm,hk⟩:=gH hc;have hma:c.abs∈C.map aB.abs:=List.mem_map_of_mem hm;have:=h.ok.nm _ hma;exact ⟨h.own c hm,h.ok.good _ hma,h.ok.ok _ hma,hk,hk ▸ this,hm⟩
theorem iL.off (h:iL w s F m C d) (hc:c∈C):c.sl.ownBlock≠some s/\∀ b,m = .map (some b)->c.sl.ownBlock≠some b:=by
 refine ⟨(h.own c hc).apart h.row (by decide),fun b hb e=>?_⟩;subst hb;obtain ⟨_,es,clock,hm⟩:=h.mp.isMap;obtain ⟨_,h2⟩:=h.own c hc
 rcases h2 with ⟨e2,_⟩ | ⟨g,cap,cur,e2,_,hh,_⟩
 ·rw [e2] at e;cases e
 ·rw [e2] at e
  obtain rfl:g=b:=by simpa [Value.ownBlock] using e
  rw [hh] at hm
  cases hm
theorem iL.qZ (h:iL w s F (.map (some b)) C d):b≠s:=fun e=>by
 subst e;obtain ⟨_,es,clock,hm⟩:=h.mp.isMap;rw [h.row] at hm
 cases hm
end
structure IM (F:Nat->Prop) (w:World) (v:Value) (L:List aB):Prop where
 rd:Rd E3 w v L
 off:0 < L.length->∀ k,v.ownBlock=some k->¬ F k
 file:∀ c∈L,Rd K4 w c.sl c.l
 Up:∀ c∈L,0 < c.l.length->∀ k,c.sl.ownBlock=some k->¬ F k
def Ls (F:Nat->Prop) (w:World) (v:Value) (A:aT):Prop:=∃ L,IM F w v L/\L.map aB.abs=A
section
variable {w w':World} {F G:Nat->Prop} {v:Value} {L:List aB} {A:aT}
theorem IM.only (h:IM F w v L) (ho:Only F w w'):IM (Fx F w w') w' v L :=
 ⟨iw h.rd h.off ho,Zi h.rd h.off,fun c hc=>iw (h.file c hc) (h.Up c hc) ho,fun c hc=>Zi (h.file c hc) (h.Up c hc)⟩
theorem IM.mono (h:IM F w v L) (hg:∀ k,k < w.heap.size->G k->F k):IM G w v L :=
 ⟨h.rd,fun h0 k hk g=>h.off h0 k hk (hg k (qU h.rd h0 k hk) g),h.file,fun c hc h0 k hk g=>h.Up c hc h0 k hk (hg k (qU (h.file c hc) h0 k hk) g)⟩
theorem IM.below (h:IM F w v L) (hb:Below w.heap.size w w'):IM F w' v L :=
 ⟨h.rd.below hb,h.off,fun c hc=>(h.file c hc).below hb,h.Up⟩
theorem Ls.only (h:Ls F w v A) (ho:Only F w w'):Ls (Fx F w w') w' v A:=by obtain ⟨L,h,e⟩:=h;exact ⟨L,h.only ho,e⟩
theorem Ls.mono (h:Ls F w v A) (hg:∀ k,k < w.heap.size->G k->F k):Ls G w v A:=by obtain ⟨L,h,e⟩:=h;exact ⟨L,h.mono hg,e⟩
theorem Ls.below (h:Ls F w v A) (hb:Below w.heap.size w w'):Ls F w' v A:=by obtain ⟨L,h,e⟩:=h;exact ⟨L,h.below hb,e⟩
end
section
end
open Fl (fD bf aY dQ aM eZ dW aR aH aJ bP qN wI ak at4)
theorem aX {fn:Func} {p r:Tmp} (h:fn.results=#[.cell p 36,.tmp r]) (tmps:Array Value) (w:World) (g:Nat) (y:R4) (v:Value)
 (hp:tmps.getD p undef = .pointer (some ⟨g,0,none⟩)) (hr:tmps.getD r undef=v) (h1:w.heap[g]? = some (.cells (aO y) 36 (0,0))) :
 (results fn tmps).run prog w = .ok (.tuple #[aG y,v]) w:=by
 have e2:=fW (P:=prog) w g 36 36 (aO y) (0,0) _ h1 underlying36 rfl (by show _=some 4;kernel_rfl);have hp':tmps[p]?.getD undef = .pointer (some ⟨g,0,none⟩):=by simpa using hp
 have hr':tmps[r]?.getD undef=v:=by simpa using hr
 simp only [results,h]
 simp [Result.andThen,hp',hr',asAddr,e2,aG,aO]
section
variable {ops:Array Oper} {rest:List Oper} {o:Oper} {a:Act} {Q:Exit->Act->World->Prop} {w:World} {F:Nat->Prop} {m:Value} {C:List aB}
theorem jo (hgd:Region.wanted o (yielded ops a.tmps)=true) (p x:Operand) (hop:o.op = .lookup 148 p x false) (M:Mp w F m C) (hm:a.eval p=m) (n:Int) (hx:a.eval x = .int .i64 n) (hn:Wf n) (v:Value) (hv:lv C n=v)
 (h:wpList prog ops Q rest (a.put o.dst v) w):wpList prog ops Q (o :: rest) a w:=Lb hgd p x false hop hm M n hx hn (by rw [hv];exact h)
theorem wH (hgd:Region.wanted o (yielded ops a.tmps)=true) (p x:Operand) (hop:o.op = .lookup 148 p x true) (M:Mp w F m C) (hm:a.eval p=m) (n:Int) (hx:a.eval x = .int .i64 n) (hn:Wf n) (v:Value) (hv:lv C n=v) (b:Bool) (hb:lb C n=b)
 (h:wpList prog ops Q rest (a.put o.dst (.tuple #[v,.bool b])) w):wpList prog ops Q (o :: rest) a w:=Lb hgd p x true hop hm M n hx hn (by rw [hv,hb];exact h)
end
theorem vw (h:look aB.n n C=none):lv C n = .agg #[.int .i64 0,.slice none 0 0]:=by unfold lv;rw [h];rfl
variable {c:aB}
theorem jM (h:look aB.n n C=some c):lv C n = .agg #[.int .i64 c.p,.slice c.a c.l.length c.cap]:=by unfold lv;rw [h];rfl
theorem BU (h:look aB.n n C=none):lb C n=false:=by unfold lb;rw [h];rfl
theorem Dq (h:look aB.n n C=some c):lb C n=true:=by unfold lb;rw [h];rfl
theorem lK (p:Int) (a:Option Addr) (n cap:Nat) (w:World):(Instr.field 83 (.agg #[.int .i64 p,.slice a n cap]) 1).run prog w = .ok (.slice a n cap) w:=by kernel_rfl
def UL (w:World) (p:Int) (l:List R4) (e:Ending) (w':World):Prop:=∃ u,e = .returned (file p u)/\Ow K4 w' w.heap.size 36 u l/\Below w.heap.size w w'
theorem Nj (w:World) (p:Int) (v:Value) (q:Int) (u:Value):((w.alloc (.cells #[.int .i64 p,v] 83)).alloc (.cells #[.int .i64 q,u] 83)).heap[w.heap.size]? = some (.cells #[.int .i64 p,v] 83 (0,0))/\((w.alloc (.cells #[.int .i64 p,v] 83)).alloc (.cells #[.int .i64 q,u] 83)).heap[w.heap.size+1]? = some (.cells #[.int .i64 q,u] 83 (0,0))/\Below w.heap.size w ((w.alloc (.cells #[.int .i64 p,v] 83)).alloc (.cells #[.int .i64 q,u] 83))/\((w.alloc (.cells #[.int .i64 p,v] 83)).alloc (.cells #[.int .i64 q,u] 83)).heap.size=w.heap.size+2:=by
 refine ⟨(cD _ _ _ (by simp)).trans (bi w _),?_,((af w.heap.size w).alloc (am _) _).alloc (by simp) _,by simp⟩;have:=bi (w.alloc (.cells #[.int .i64 p,v] 83)) (.cells #[.int .i64 q,u] 83)
 simpa using this
def Bx (g:Nat) (p:Int) (v:Value) (W:World):Prop:=W.heap[g]? = some (.cells #[.int .i64 p,v] 83 (0,0))
theorem lH (w:World) (p:Int) (v:Value) (l:List R4) (R:Rd K4 w v l) (hl:l.length<=260):Calls prog 73 #[file p v] w (UL w p l):=by
 obtain ⟨h1,h2,hB,hz⟩:=Nj w p v 0 (.slice none 0 0);have H1:=Hh h1;have H2:=Hh h2;have HB:=Hh hB;have HZ:=Hh hz;have RR:=Hh R;have HL:=Hh hl;obtain ⟨a,cap,rfl,_⟩:=R.slice;clear h1 h2 hB hz R hl;generalize hn:l.length=n at *;have HN:=Hh hn;clear hn;unfold file at *
 go_enter func73,ntmps73
 go_wp2_with fail;generalize ((w.alloc (.cells #[.int .i64 p,.slice a n cap] 83)).alloc (.cells #[.int .i64 0,.slice none 0 0] 83))=W at *;have r0:=Sc.ay (C:=Bx w.heap.size p (.slice a n cap)) (a:=⟨w.heap.size,0,none⟩) (fun W' h=>ah h 0);have r1:=Sc.ay (C:=Bx w.heap.size p (.slice a n cap)) (a:=⟨w.heap.size,1,none⟩) (fun W' h=>ah h 1);have C0:Bx w.heap.size p (.slice a n cap) W.drew:=H1;have ne:Nonempty (Sc.In (Bx w.heap.size p (.slice a n cap))):=⟨⟨_,C0⟩⟩;refine Sc.start (Bx w.heap.size p (.slice a n cap)) [(false,0),(false,1),(false,2),(false,3),(true,4),(false,5),(true,6)] (by kernel_rfl) (by kernel_rfl) (by kernel_rfl) C0 ?_;dsimp only [Sd.aK,List.getElem?_cons_succ,List.getElem?_cons_zero]
 repeat (refine Sd.lit ?_;quiet_step (fail);refine br ?_)
 refine Sd.call (by rfl) (fun K hK=>?_);go_simp;have B0:=Hh (HB.trans (((af W.heap.size W).drew).mono HB.size));refine (qN _ _ l (RR.below B0) (by rw [HN.out];exact HL.out)).mono ?_;rintro e w2 ⟨u,rfl,o2,b2⟩;have hzz:=HZ.out;have O2:=Hh o2;have B2:=Hh (B0.trans (b2.mono (by show w.heap.size<=W.heap.size;omega)));have G1:w2.heap[w.heap.size]? = _:=(b2.block _ (by show w.heap.size < W.heap.size;omega)).trans C0;have G2:=(b2.block (w.heap.size+1) (by show w.heap.size+1 < W.heap.size;omega)).trans H2.out;have N2:u.ownBlock≠some (w.heap.size+1):=o2.range (.inl (by show _ < W.heap.size;omega));have hWz:w.heap.size+2<=W.drew.heap.size:=by show _<=W.heap.size;omega
 obtain ⟨au,cu,rfl,_⟩:=o2.slice;refine hK _ _ (Sc.Cl.of G1) ?_;clear hK K b2 o2 B0 C0 HB H1 H2 r0 r1 RR
 repeat (refine Sd.lit ?_;quiet_step (fail);refine br ?_)
 refine Sd.call (by rfl) (fun K hK=>?_);obtain ⟨c0,c1,f0,f1⟩:=Bw G2;have RA:=Hh (aY G2 p (.slice au l.length cu));have OA:=Hh (dW (u:=.slice au l.length cu) O2 N2 p);have BA:=Hh (aM (p:=p) (v:=.slice au l.length cu) B2 (show w.heap.size<=w.heap.size+1 by omega));have L1:Bx w.heap.size p (.slice a n cap) (fD w2 (w.heap.size+1) p (.slice au l.length cu)):=dQ G1 (by omega);have hWy:=Hh hWz;clear G1 G2 O2 B2 N2 hWz hzz HZ;go_simp;refine hK _ _ (Sc.Cl.of L1) ?_;clear hK K c0 c1 f0 f1
 show Sd.aU _ _ _ _ _ _ (fD w2 (w.heap.size+1) p (.slice au l.length cu))
 generalize fD w2 (w.heap.size+1) p (.slice au l.length cu)=w3 at *;refine Sd.done ?_;go_wp2
 (try simp only [Exit.inBlock,Exit.then])
 refine bs (v:=file p (.slice au l.length cu)) ?_ rfl ⟨_,rfl,OA.low (by have:=hWy.out;omega),BA.out⟩;exact results_cell_row (p:=2) rfl _ _ (w.heap.size+1) 83 _ (0,0) _ rfl RA underlying83 rfl (by show _=some 2;kernel_rfl)
theorem nS (w:World):Calls prog 51 #[] w fun e w'=>e = .returned (.pointer (some ⟨w.heap.size,0,none⟩))/\w'=w.alloc (.cells #[.map none,.int .i64 0] 150):=by
 go_enter func51,ntmps51
 go_wp2
 go_ret
 exact ⟨rfl,rfl⟩
variable {r d:Int}
theorem tO (h:look aB.n n C=none):gB (C.map aB.abs) n r=false:=by unfold gB;rw [gQ,h];rfl
theorem jG (h:look aB.n n C=some c):gB (C.map aB.abs) n r=decide (0<=r/\r < c.l.length):=by unfold gB;rw [gQ,h];rfl
theorem Ym (h:look aB.n n C=none):gV (C.map aB.abs) n r=z4:=by unfold gV;rw [gQ,h];rfl
theorem Kn (h:look aB.n n C=some c):gV (C.map aB.abs) n r=if 0<=r/\r < c.l.length then rat c.l r.toNat else z4:=by unfold gV;rw [gQ,h];rfl
variable {s:Nat} {m:Value}
theorem eB (S:iL w s F m C d) (hn:Wf n) (r:Int) :
 Calls prog 90 #[.pointer (some ⟨s,0,none⟩),.int .i64 n,.int .i64 r] w fun e w'=>e = .returned (.bool (gB (C.map aB.abs) n r))/\Below w.heap.size w w':=by
 have hF:=lK;have c0:=Fl.rc S.row 0;have M:=Hh S.mp;have HN:=Hh hn;clear S hn
 cases hk:look aB.n n C with
 | none =>
   have E:=Hh (tO (r:=r) hk);have L:=Hh (vw hk);clear hk
   by_cases hr:0<=r
   ·go_enter func90,ntmps90
    go_wp2_with (at_lookup;refine jo rfl _ _ rfl M rfl _ rfl HN _ L ?_)
    go_ret
    exact ⟨ak (by rw [E.out];exact bh (by omega)),af _ _⟩
   ·go_enter func90,ntmps90
    go_wp2_with (at_lookup;refine jo rfl _ _ rfl M rfl _ rfl HN _ L ?_)
    go_ret
    exact ⟨ak E.symm,af _ _⟩
 | some c =>
   have E:=Hh (jG (r:=r) hk);have L:=Hh (jM hk);clear hk;generalize c.l.length=k at *
   by_cases hr:0<=r
   ·by_cases h2:r < (k:Int)
    ·go_enter func90,ntmps90
     go_wp2_with (at_lookup;refine jo rfl _ _ rfl M rfl _ rfl HN _ L ?_)
     go_ret
     exact ⟨ak (by rw [E.out,bj ⟨hr,h2⟩]),af _ _⟩
    ·go_enter func90,ntmps90
     go_wp2_with (at_lookup;refine jo rfl _ _ rfl M rfl _ rfl HN _ L ?_)
     go_ret
     exact ⟨ak (by rw [E.out,bh (fun h=>by omega)]),af _ _⟩
   ·go_enter func90,ntmps90
    go_wp2_with (at_lookup;refine jo rfl _ _ rfl M rfl _ rfl HN _ L ?_)
    go_ret
    exact ⟨ak (by rw [E.out,bh (fun h=>by omega)]),af _ _⟩
def iy (w:World) (y:R4) (b:Bool) (e:Ending) (w':World):Prop:=e = .returned (.tuple #[aG y,.bool b])/\Below w.heap.size w w'
theorem Ky (w:World):(w.alloc (.cells (aO z4) 36)).heap[w.heap.size]? = some (.cells (aO z4) 36 (0,0))/\Below w.heap.size w (w.alloc (.cells (aO z4) 36))/\(w.alloc (.cells (aO z4) 36)).heap.size=w.heap.size+1:=⟨bi w _,(af w.heap.size w).alloc (am _) _,by simp⟩
theorem QH (w:World) (s:Value) (n r:Int) (hh:∀ W,Below w.heap.size w W->Calls prog 90 #[s,.int .i64 n,.int .i64 r] W fun e w'=>e = .returned (.bool false)/\Below W.heap.size W w') :
 Calls prog 170 #[s,.int .i64 n,.int .i64 r] w (iy w z4 false):=by
 obtain ⟨h1,hB,hz⟩:=Ky w;have H1:=Hh h1;have HB:=Hh hB;have HH:=Hh (hh _ hB);have HZ:=Hh hz;clear h1 hB hz hh;unfold aO z4 at *
 go_enter func170,ntmps170
 go_wp2_with fail;generalize (w.alloc (.cells #[.int .u8 0,.int .u8 0,.int .u8 0,.int .u8 0] 36))=W at *;refine HH.mono ?_;rintro e w1 ⟨rfl,b1⟩;have hz:=HZ.out;have G:w1.heap[w.heap.size]? = some (.cells (aO z4) 36 (0,0)):=(b1.block _ (by omega)).trans H1.out;have B1:=aN HB b1;obtain ⟨d0,d1,d2,d3,k0,k1,k2,k3⟩:=tL G;have R2:=Hh (aR G z4);have B2:=Hh (aJ (o:=0) (r:=z4) B1 (show w.heap.size<=w.heap.size by omega));clear b1 HH HB H1 HZ hz G B1;go_wp2
 (try simp only [Exit.inBlock,Exit.then])
 exact bs (aX (p:=6) (r:=7) rfl _ _ w.heap.size z4 (.bool false) rfl rfl R2) rfl ⟨rfl,B2⟩
theorem Yb (S:iL w s F m C d) (hn:Wf n) (k:Nat) (hc:look aB.n n C=some c) (hk:k < c.l.length) :
 Calls prog 170 #[.pointer (some ⟨s,0,none⟩),.int .i64 n,.int .i64 (k:Int)] w (iy w (rat c.l k) true):=by
 obtain ⟨h1,hB,hz⟩:=Ky w;have H1:=Hh h1;have HB:=Hh hB;have HZ:=Hh hz;have hh:=eB (S.below hB) hn (k:Int);rw [jG hc,bj (⟨by omega,by omega⟩:0<=(k:Int)/\(k:Int) < c.l.length)] at hh;have HH:=Hh hh;have SS:=Hh S;have HN:=Hh hn;have L:=Hh (jM hc);obtain ⟨ho,_⟩:=S.find hc;obtain ⟨g,cap,e1,_,_,_,_,_,hA⟩:=ho.form (by omega);obtain ⟨cn,cp,ca,ccap,cl⟩:=c;obtain ⟨rfl,rfl⟩:ca=some ⟨g,0,none⟩/\ccap=cap:=by
  unfold aB.sl at e1;injection e1 with e1 e2 e3;exact ⟨e1,e3⟩
 have A4':=at4 hA k hk;rw [fd] at A4';have A4:=Hh A4';clear A4';have hk':=hk;clear h1 hB hz hh ho e1 hA hc S hn hk;simp only at *;generalize rat cl k=y at *;generalize cl.length=q at *;have y4:Hid (aO y=#[.int .u8 y.1,.int .u8 y.2.1,.int .u8 y.2.2.1,.int .u8 y.2.2.2]):=rfl;unfold aO z4 at H1 HB HZ HH
 go_enter func170,ntmps170
 go_wp2_with fail;generalize (w.alloc (.cells #[.int .u8 0,.int .u8 0,.int .u8 0,.int .u8 0] 36))=W at *;refine HH.mono ?_;rintro e w1 ⟨rfl,b1⟩;have hz:=HZ.out;have G:w1.heap[w.heap.size]? = some (.cells (aO z4) 36 (0,0)):=(b1.block _ (by omega)).trans H1.out;have B1:=aN HB b1;have S1:=SS.below B1;have M1:=Hh S1.mp;have c0:=Fl.rc S1.row 0;have hF:=lK;have q0:=d9 B1 A4.out.1;have q1:=d9 B1 A4.out.2.1;have q2:=d9 B1 A4.out.2.2.1;have q3:=d9 B1 A4.out.2.2.2;obtain ⟨d0,d1,d2,d3,k0,k1,k2,k3⟩:=tL G;have R2:=Hh (aR G y);have B2:=Hh (aJ (o:=0) (r:=y) B1 (show w.heap.size<=w.heap.size by omega));clear b1 HH HB H1 HZ hz G B1 S1 SS A4
 go_wp2_with (at_lookup;refine jo rfl _ _ rfl M1 rfl _ rfl HN _ L ?_)
 (try simp only [Exit.inBlock,Exit.then])
 exact bs (aX (p:=6) (r:=7) rfl _ _ w.heap.size y (.bool true) rfl rfl R2) rfl ⟨rfl,B2⟩
theorem Ya (S:iL w s F m C d) (hn:Wf n) (r:Int) :
 Calls prog 170 #[.pointer (some ⟨s,0,none⟩),.int .i64 n,.int .i64 r] w (iy w (gV (C.map aB.abs) n r) (gB (C.map aB.abs) n r)):=by
 cases hk:look aB.n n C with
 | none =>
   rw [Ym hk,tO hk];refine QH w _ n r fun W hb=>?_;have:=eB (S.below hb) hn r
   rwa [tO hk] at this
 | some c =>
   by_cases hr:0<=r/\r < c.l.length
   ·obtain ⟨k,rfl⟩:∃ k:Nat,r=k:=⟨r.toNat,by omega⟩
    rw [Kn hk,jG hk,az hr,bj hr,cU];exact Yb S hn k hk (by omega)
   ·rw [Kn hk,jG hk,aq hr,bh hr]
    refine QH w _ n r fun W hb=>?_;have:=eB (S.below hb) hn r
    rwa [jG hk,bh hr] at this
open Fl (fG Ci)
theorem ze {e:aB} (h:apart c e):apart e c:=fun k hk hc=>h k hc hk
theorem Rk {α:Type} {R:α->α->Prop} (sy:∀ {x y},R x y->R y x):∀ {l:List α},l.Pairwise R->∀ {x y},x∈l->y∈l->x≠y->R x y
 | [],_,_,_,hx,_,_=>by cases hx
 | a :: r,h,x,y,hx,hy,hne=>by
   obtain ⟨h1,h2⟩:=dm.1 h
   rcases cy.1 hx with ex | hx <;> rcases cy.1 hy with ey | hy
   ·exact (hne (ex.trans ey.symm)).elim
   ·rw [ex];exact h1 _ hy
   ·rw [ey];exact sy (h1 _ hx)
   ·exact Rk sy h2 hx hy hne
theorem UI {α:Type} {κ:α->Int} {R:α->α->Prop} (sy:∀ {x y},R x y->R y x) {c:α} : ∀ {l:List α},l.Pairwise R->(∀ x∈l,R c x)->(ins κ c l).Pairwise R
 | [],_,_=>by simp [ins]
 | y :: r,h,hc=>by
   obtain ⟨h1,h2⟩:=dm.1 h;unfold ins
   split
   ·exact dm.2 ⟨hc,h⟩
   ·refine dm.2 ⟨fun z hz=>?_,UI sy h2 fun x hx=>hc x (cC _ hx)⟩
    rcases tZ.1 hz with rfl | hz
    ·exact sy (hc y cG)
    ·exact h1 z hz
theorem abh (h:C.Pairwise apart) (hc:∀ e∈C,e.n≠c.n->apart c e):(put aB.n c C).Pairwise apart:=by
 unfold put;refine UI ze (h.filter _) fun e he=>?_;obtain ⟨h1,h2⟩:=fX.1 he;exact hc e h1 (by simpa using h2)
section
variable {w w':World} {s:Nat} {F F':Nat->Prop} {m m':Value} {C:List aB} {d d':Int} {c:aB}
theorem iL.put (h:iL w s F m C d) (row:w'.heap[s]? = some (.cells #[m',.int .i64 d'] 150 (0,0))) (hF:∀ k,F k->F' k) (mp:Mp w' F' m' (put aB.n c C)) (old:∀ e∈C,e.n≠c.n->Ow K4 w' 0 36 e.sl e.l)
 (new:Ow K4 w' 0 36 c.sl c.l) (mine:∀ k,c.sl.ownBlock=some k->F' k) (far:∀ e∈C,e.n≠c.n->Fs.apart c e) (hn:0<=c.n/\c.n<=63) (hg:aL c.p c.l) (hl:dF c.l) (low:∀ k,F' k->k < w'.heap.size):iL w' s F' m' (Fs.put aB.n c C) d':=by
 refine ⟨row,hF s h.mD,mp,fun e he=>?_,fun e he k hk=>?_,abh h.apart far,?_,low⟩
 ·rcases vO.1 he with rfl | ⟨he,hne⟩
  ·exact new
  ·exact old e he hne
 ·rcases vO.1 he with rfl | ⟨he,hne⟩
  ·exact mine k hk
  ·exact hF k (h.mine e he k hk)
 ·rw [nU]
  exact h.ok.put hn hg hl
def aB.recs (c:aB) (l:List R4):aB:=⟨c.n,c.p,c.a,c.cap,l⟩
variable {l:List R4}
theorem Lx (c:aB) (h:l.length=c.l.length):(c.recs l).sl=c.sl:=by unfold aB.recs aB.sl;rw [h]
theorem QK {i:Nat} (hi:C[i]? = some c) (h:l.length=c.l.length):dat (C.set i (c.recs l))=dat C:=by
 unfold dat;rw [List.map_set];have:ent (c.recs l)=ent c:=by unfold ent aB.file;rw [Lx c h];rfl
 rw [this]
 congr 1
 refine fS fun j=>?_;rw [ip]
 split
 ·rename_i hij
  subst hij;rw [cX,hi];have:=(cA.1 hi).1
  simp [this]
 ·rfl
theorem iL.write {g n cap:Nat} {k:Nat} {x:R4} (h:iL w s F m C d) (hc:c∈C) (hs:c.sl = .slice (some ⟨g,0,none⟩) n cap) (hk:k < c.l.length) (h0:k≠0) (hx:bJ x) :
 iL (bf w g (k * 4) x) s F m (Fs.put aB.n (c.recs (c.l.set k x)) C) d/\Only F w (bf w g (k * 4) x):=by
 have hg:F g:=h.mine c hc g (by rw [hs];rfl);obtain ⟨n1,n2⟩:=h.off hc;rw [hs] at n1 n2;have ng:s≠g:=fun e=>n1 (by rw [e];rfl);have hsl:(c.recs (c.l.set k x)).sl=c.sl:=Lx c (by rw [cI]);have own:=h.own c hc;rw [hs] at own;have hn:n=c.l.length:=by unfold aB.sl at hs;injection hs with _ hs _;exact hs.symm
 have hcm:c.abs∈C.map aB.abs:=List.mem_map_of_mem hc;obtain ⟨i,hi⟩:=ef hc;have zm:qB aB.n C:=(vB (κ:=aB.n) (κ':=key) vK).1 h.ok.zm;have hput:Fs.put aB.n (c.recs (c.l.set k x)) C=C.set i (c.recs (c.l.set k x)):=nP zm hi rfl;have hdat:dat (Fs.put aB.n (c.recs (c.l.set k x)) C)=dat C:=by rw [hput];exact QK hi (by rw [cI])
 have off:∀ e∈C,e.n≠c.n->Fs.apart c e:=fun e he hne=>Rk ze h.apart hc he fun e'=>hne (by rw [e']);have hGood:aL c.p (c.l.set k x):=yK (h.ok.good _ hcm) h0;have hOk:dF (c.l.set k x):=vC (h.ok.ok _ hcm) hx;have hMp:Mp (bf w g (k * 4) x) F m (Fs.put aB.n (c.recs (c.l.set k x)) C):=by
  have M:Mp (bf w g (k * 4) x) F m C:=h.mp.kept fun b hb=>aH rfl fun e=>n2 b hb (by rw [e];rfl)
  rcases M with ⟨rfl,rfl⟩ | ⟨b,rfl,hF,hm⟩
  ·cases hc
  ·refine .inr ⟨b,rfl,hF,?_⟩
   rw [hdat,hput,cI];exact hm
 have hRow:=aH (g:=g) (o:=k * 4) (r:=x) h.row ng;have hOld:∀ e∈C,e.n≠(c.recs (c.l.set k x)).n->Ow K4 (bf w g (k * 4) x) 0 36 e.sl e.l:=fun e he hne=>by
  have o:=h.own e he;have a:=off e he hne g (by rw [hs];rfl);exact Fl.Hw o a x
 have hNew:Ow K4 (bf w g (k * 4) x) 0 36 (c.recs (c.l.set k x)).sl (c.l.set k x):=by
  rw [hsl,hs];exact fG own hn k hk x
 refine ⟨h.put hRow (fun k hk=>hk) hMp hOld hNew (fun j hj=>h.mine c hc j (by rw [← hsl];exact hj)) (fun e he hne j hj=>off e he hne j (by rw [← hsl];exact hj)) (h.ok.nm _ hcm) hGood hOk (by rw [bP];exact h.low),?_⟩;have O1:∀ W:World,∀ o v,Only F W (W.setCell ⟨g,o,none⟩ v):=fun W o v=>Only.set F W hg v;unfold bf;exact (((O1 _ _ _).trans (O1 _ _ _) fun _ _ g=>g).trans (O1 _ _ _) fun _ _ g=>g).trans (O1 _ _ _) fun _ _ g=>g
end
attribute [local irreducible] Sd.aU wpQuiet Sg.dx
def gM (w:World) (s:Nat) (F:Nat->Prop) (d:Int) (b:Bool) (A':aT) (e:Ending) (w':World):Prop:=e = .returned (.bool b)/\St w' s (Fx F w w') A' d/\Only F w w'
theorem LZ (h:look aB.n n C=some c) (h0:0<=r) (h1:r < c.l.length) (h2:r≠0):sB (C.map aB.abs) n r=true:=by
 unfold sB;rw [jG h,bj ⟨h0,h1⟩,bj h2]
 rfl
theorem WO (h:look aB.n n C=some c) (h0:0<=r) (h1:r < c.l.length) (h2:r≠0) (x:R4):sA (C.map aB.abs) n r x=(put aB.n (c.recs (c.l.set r.toNat x)) C).map aB.abs:=by
 have hb:=LZ h h0 h1 h2;have he:look key n (C.map aB.abs)=some c.abs:=by rw [gQ,h];rfl
 unfold sA;rw [he];simp only [hb,if_true];rw [nU];obtain ⟨_,rfl⟩:=gH h
 rfl
variable {A:aT}
theorem abS (h:sB A n r=false) (x:R4):sA A n r x=A:=by
 unfold sA
 split
 ·rfl
 ·rw [h];rfl
theorem Da (w:World) (x:R4):(w.alloc (.cells (aO x) 36)).heap[w.heap.size]? = some (.cells (aO x) 36 (0,0))/\Below w.heap.size w (w.alloc (.cells (aO x) 36))/\(w.alloc (.cells (aO x) 36)).heap.size=w.heap.size+1:=⟨bi w _,(af w.heap.size w).alloc (am _) _,by simp⟩
theorem wV (w:World) (s:Value) (n:Int) (x:R4):Calls prog 62 #[s,.int .i64 n,.int .i64 0,aG x] w fun e w'=>e = .returned (.bool false)/\Below w.heap.size w w':=by
 unfold aG
 go_enter func62,ntmps62
 go_wp2
 go_ret
 exact ⟨rfl,(af w.heap.size w).alloc (am _) _⟩
theorem Qo (w:World) (s:Value) (n r:Int) (x:R4) (hr:r≠0) (hh:∀ W,Below w.heap.size w W->Calls prog 90 #[s,.int .i64 n,.int .i64 r] W fun e w'=>e = .returned (.bool false)/\Below W.heap.size W w') :
 Calls prog 62 #[s,.int .i64 n,.int .i64 r,aG x] w fun e w'=>e = .returned (.bool false)/\Below w.heap.size w w':=by
 obtain ⟨h1,hB,hz⟩:=Da w x;have HB:=Hh hB;have HH:=Hh (hh _ hB);clear h1 hB hz hh;have hr0:(r == 0)=false:=by simpa using hr
 unfold aG;unfold aO at *
 go_enter func62,ntmps62
 go_wp2_with fail;refine HH.mono ?_;rintro e w1 ⟨rfl,b1⟩;have B1:=aN HB b1;clear b1 HH HB;go_wp2
 go_ret
 exact ⟨rfl,B1⟩
structure xA (s:Nat) (F:Nat->Prop) (m:Value) (C:List aB) (d:Int) (g:Nat) (x:R4) (W:World):Prop where
 row:W.heap[s]? = some (.cells #[m,.int .i64 d] 150 (0,0))
 mp:Mp W F m C
 box:W.heap[g]? = some (.cells (aO x) 36 (0,0))
theorem Xn (S:iL w s F m C d) (hn:Wf n) (k:Nat) (x:R4) (hx:bJ x) (hc:look aB.n n C=some c) (hk:k < c.l.length) (hk0:k≠0) :
 Calls prog 62 #[.pointer (some ⟨s,0,none⟩),.int .i64 n,.int .i64 (k:Int),aG x] w (gM w s F d true ((put aB.n (c.recs (c.l.set k x)) C).map aB.abs)):=by
 obtain ⟨h1,hB,hz⟩:=Da w x;have H1:=Hh h1;have HB:=Hh hB;have HZ:=Hh hz;have hh:=eB (S.below hB) hn (k:Int);rw [jG hc,bj (⟨by omega,by omega⟩:0<=(k:Int)/\(k:Int) < c.l.length)] at hh;have HH:=Hh hh;have SS:=Hh S;have HN:=Hh hn;have L:=Hh (jM hc);obtain ⟨ho,_,_,_,_,hm⟩:=S.find hc;obtain ⟨g,cap,e1,_,_,_,_,_,_⟩:=ho.form (by omega);have ea:c.a=some ⟨g,0,none⟩:=by unfold aB.sl at e1;injection e1
 rw [ea] at L;have FIN:Hid (∀ W,Below w.heap.size w W->gM w s F d true ((put aB.n (c.recs (c.l.set k x)) C).map aB.abs) (.returned (.bool true)) (bf W g (k * 4) x)):=fun W hb=>by
  obtain ⟨S1,O1⟩:=(S.below hb).write hm e1 hk hk0 hx;have O2:=(Only.of_below (G:=F) hb).trans O1 fun _ _ g=>g;exact ⟨rfl,⟨_,_,S1.wide (fun j hj=>.inl hj) (Fx.low S.low O2.size),rfl⟩,O2⟩
 have OW:=Hh (fh ho (fh e1 hk));have CB:Hid (∀ W,xA s F m C d w.heap.size x W->∀ g',g=g'->((bf W g' (k * 4) x).heap[s]? = some (.cells #[m,.int .i64 d] 150 (0,0))/\Mp (bf W g' (k * 4) x) F m C/\(bf W g' (k * 4) x).heap[w.heap.size]? = some (.cells (aO x) 36 (0,0)))):=fun W h g' eg=>by
  subst eg;obtain ⟨n1,n2⟩:=S.off hm;rw [e1] at n1 n2;have hgl:=S.low g (S.mine c hm g (by rw [e1];rfl));exact ⟨aH h.row fun e=>n1 (by rw [e];rfl),h.mp.kept fun b hb=>aH rfl fun e=>n2 b hb (by rw [e];rfl),aH h.box (by omega)⟩
 have hq:=hk;clear h1 hB hz hh ho e1 hc S hn hk hm ea;generalize put aB.n (c.recs (c.l.set k x)) C=C' at *;have hr0:((k:Int) == 0)=false:=by simpa using hk0
 have OW2:Hid (∀ W,Below w.heap.size w W->(W.cell? ⟨g,k * 4,none⟩=some (.int .u8 (rat c.l k).1)/\W.cell? ⟨g,k * 4+1,none⟩=some (.int .u8 (rat c.l k).2.1)/\W.cell? ⟨g,k * 4+2,none⟩=some (.int .u8 (rat c.l k).2.2.1)/\W.cell? ⟨g,k * 4+3,none⟩=some (.int .u8 (rat c.l k).2.2.2))/\(∀ j,W.frozen? ⟨g,j,none⟩=false)):=fun W hb=>by
  have o:=OW.out.1.keep hb;rw [OW.out.2.1] at o;have:=Ci o k OW.out.2.2;exact ⟨this.1,this.2.1⟩
 clear OW;generalize rat c.l k=y0 at *;generalize c.l.length=q at *;generalize c.p=p at *;generalize c.cap=ccap at *;unfold aG;have X4:Hid (aO x=#[.int .u8 x.1,.int .u8 x.2.1,.int .u8 x.2.2.1,.int .u8 x.2.2.2]):=rfl;unfold aO at H1 HB HZ HH
 go_enter func62,ntmps62
 go_wp2_with fail;generalize (w.alloc (.cells #[.int .u8 x.1,.int .u8 x.2.1,.int .u8 x.2.2.1,.int .u8 x.2.2.2] 36))=W at *;refine HH.mono ?_;rintro e w1 ⟨rfl,b1⟩;have hz:=HZ.out;have G:=(b1.block _ (by omega)).trans H1.out;have B1:=aN HB b1;have S1:=SS.below B1;have C0:xA s F m C d w.heap.size x w1.drew:=⟨S1.row,S1.mp,G⟩;clear b1 HH HB H1 HZ hz G S1 SS;go_wp2_with fail;have hF:=lK;have c0:=Sc.ay (C:=xA s F m C d w.heap.size x) (a:=⟨s,0,none⟩) (fun W' h=>ah h.row 0);have x0:=Sc.ay (C:=xA s F m C d w.heap.size x) (a:=⟨w.heap.size,0,none⟩) (v:=.int .u8 x.1) (fun W' h=>ah h.box 0);have x1:=Sc.ay (C:=xA s F m C d w.heap.size x) (a:=⟨w.heap.size,1,none⟩) (v:=.int .u8 x.2.1) (fun W' h=>ah h.box 1);have x2:=Sc.ay (C:=xA s F m C d w.heap.size x) (a:=⟨w.heap.size,2,none⟩) (v:=.int .u8 x.2.2.1) (fun W' h=>ah h.box 2);have x3:=Sc.ay (C:=xA s F m C d w.heap.size x) (a:=⟨w.heap.size,3,none⟩) (v:=.int .u8 x.2.2.2) (fun W' h=>ah h.box 3);have hlk:∀ P:Sc.In (xA s F m C d w.heap.size x),(Instr.lookup 148 m (.int .i64 n) false).run prog P.world = .ok (.agg #[.int .i64 p,.slice (some ⟨g,0,none⟩) q ccap]) P.world:=fun P=>by
  have:=mJ P.ok.mp HN false;rw [L.out] at this;exact this
 have ne:Nonempty (Sc.In (xA s F m C d w.heap.size x)):=⟨⟨_,C0⟩⟩;refine Sc.start (xA s F m C d w.heap.size x) [(false,0),(false,1),(false,2),(false,3),(false,4),(false,5),(false,6),(false,7),(false,8),(false,9),(true,10)] (by kernel_rfl) (by kernel_rfl) (by kernel_rfl) C0 ?_;dsimp only [Sd.aK,List.getElem?_cons_succ,List.getElem?_cons_zero]
 repeat (refine Sd.lit ?_;quiet_step (fail);refine br ?_)
 have BW:=B1.trans ((af _ _).drew);obtain ⟨⟨d0,d1,d2,d3⟩,hfr⟩:=OW2 w1.drew BW;have f0:=hfr (k * 4);have f1:=hfr (k * 4+1);have f2:=hfr (k * 4+2);have f3:=hfr (k * 4+3);have L1:xA s F m C d w.heap.size x (bf w1.drew g (k * 4) x):=by
  obtain ⟨a1,a2,a3⟩:=CB _ C0 _ rfl;exact ⟨a1,a2,a3⟩
 have RES:=Hh (FIN w1.drew BW);clear hfr OW2 CB FIN C0 B1 BW;generalize w1.drew=W1 at *;refine Sd.call (by rfl) (fun K hK=>?_);go_simp;refine hK _ _ (Sc.Cl.of L1) ?_;clear hK K d0 d1 d2 d3 f0 f1 f2 f3 c0 x0 x1 x2 x3 hlk
 show Sd.aU _ _ _ _ _ _ (bf W1 g (k * 4) x)
 generalize bf W1 g (k * 4) x=W2 at *;refine Sd.done ?_;go_wp2
 go_ret
 exact RES
theorem vJ (S:St w s F A d) (hn:Wf n) (r:Int) (x:R4) (hx:bJ x) :
 Calls prog 62 #[.pointer (some ⟨s,0,none⟩),.int .i64 n,.int .i64 r,aG x] w (gM w s F d (sB A n r) (sA A n r x)):=by
 obtain ⟨m,C,h,rfl⟩:=S;have no:∀ e w',sB (C.map aB.abs) n r=false->(e = .returned (.bool false)/\Below w.heap.size w w')->gM w s F d (sB (C.map aB.abs) n r) (sA (C.map aB.abs) n r x) e w':=fun e w' hb ⟨he,b⟩=>by
  unfold gM;rw [hb,abS hb x];exact ⟨he,St.fx ⟨m,C,h,rfl⟩ b,Only.of_below b⟩
 by_cases hr:r=0
 ·subst hr
  exact (wV w _ n x).mono fun e w'=>no e w' (by unfold sB;simp)
 ·have none:gB (C.map aB.abs) n r=false->Calls prog 62 #[.pointer (some ⟨s,0,none⟩),.int .i64 n,.int .i64 r,aG x] w (gM w s F d (sB (C.map aB.abs) n r) (sA (C.map aB.abs) n r x)):=fun hg =>
   (Qo w _ n r x hr fun W hb=>by
     have:=eB (h.below hb) hn r
     rwa [hg] at this).mono fun e w'=>no e w' (by unfold sB;rw [hg];rfl)
  cases hk:look aB.n n C with
  | none=>exact none (tO hk)
  | some c =>
    by_cases h2:0<=r/\r < c.l.length
    ·rw [LZ hk h2.1 h2.2 hr,WO hk h2.1 h2.2 hr]
     obtain ⟨k,rfl⟩:∃ k:Nat,r=k:=⟨r.toNat,by omega⟩;rw [cU];exact Xn h hn k x hx hk (by omega) (by omega)
    ·exact none (by rw [jG hk,bh h2])
open Fl (aQ)
section
variable {w W W':World} {s b:Nat} {F:Nat->Prop} {C:List aB} {d:Int} {c:aB}
theorem iL.place (h:iL w s F (.map (some b)) C d) (hb:Below w.heap.size w W) (hg:W.grownBy W' (some b)) (mp:Mp W' F (.map (some b)) (Fs.put aB.n c C)) (ow:Ow K4 W w.heap.size 36 c.sl c.l) (hn:0<=c.n/\c.n<=63) (hgd:aL c.p c.l) (hl:dF c.l) :
 St W' s (Fx F w W') ((Fs.put aB.n c C).map aB.abs) d/\Only F w W':=by
 have hne:=h.qZ;have hFb:=h.mp.isMap.1;have hbl:=h.low b hFb;have hsl:=h.low s h.mD;have O:=(Only.of_below hb).trans (Only.grown (G:=fun k=>k=b) rfl hg) fun k _ e=>e ▸ hFb;have off:=dI ow;refine ⟨⟨_,_,h.put (w':=W') (d':=d) (F':=Fx F w W') ?_ (fun k hk=>.inl hk) (mp.wide fun k hk=>.inl hk) (fun e he hne=>?_) ?_ (fun k hk=>.inr ⟨(off k hk).1,cL (off k hk).2 hg.size⟩) (fun e he hne k hk hk'=>?_) hn hgd hl (Fx.low h.low O.size),rfl⟩,O⟩
 ·rw [hg.block s (cL hsl hb.size) (by intro e;injection e with e;exact hne e.symm),hb.block s hsl]
  exact h.row
 ·exact aA (G:=fun k=>k=b) ((h.own e he).keep hb) (fun k hk e'=>(h.off he).2 b rfl (by rw [hk,e'])) (Only.grown rfl hg)
 ·exact aA (G:=fun k=>k=b) (ow.low (cx _)) (fun k hk e'=>by have:=(off k hk).1;omega) (Only.grown rfl hg)
 ·have:=(off k hk).1
  have:=h.low k (h.mine e he k hk')
  omega
theorem iL.make (h:iL w s F (.map none) C d) (hb:Below w.heap.size w W):iL ((W.alloc (.map #[] 0)).setCell ⟨s,0,none⟩ (.map (some W.heap.size))) s (Fx F w ((W.alloc (.map #[] 0)).setCell ⟨s,0,none⟩ (.map (some W.heap.size)))) (.map (some W.heap.size)) C d/\Only F w ((W.alloc (.map #[] 0)).setCell ⟨s,0,none⟩ (.map (some W.heap.size))):=by
 have hC:C = []:=by
  rcases h.mp with ⟨_,e⟩ | ⟨b,e,_⟩
  ·exact e
  ·cases e
 subst hC;have hsl:=h.low s h.mD;have B2:Below w.heap.size w (W.alloc (.map #[] 0)):=hb.alloc hb.size _;have O:Only F w ((W.alloc (.map #[] 0)).setCell ⟨s,0,none⟩ (.map (some W.heap.size))):=(Only.of_below B2).trans (Only.set F _ (a:=⟨s,0,none⟩) h.mD _) fun _ _ g=>g;refine ⟨⟨?_,.inl h.mD,.inr ⟨W.heap.size,rfl,.inr ⟨hb.size,by simp [World.setCell]⟩,?_⟩,nofun,nofun,ik,h.ok,Fx.low h.low O.size⟩,O⟩
 ·have:=Rw.heap_setCell_same (w:=W.alloc (.map #[] 0)) (g:=s) (j:=0) ((B2.block s hsl).trans h.row) (.map (some W.heap.size))
  rw [this]
  simp
 ·have:=World.ownsMap_made (H:=Value) W prog 3 Rh
  exact this.setCell (a:=⟨s,0,none⟩) (fun e=>by have:=hb.size;simp only at e;omega) _
variable {w1 w2:World}
theorem Fx.trans (h1:Only F w w1) (h2:w1.heap.size<=w2.heap.size):∀ k,Fx (Fx F w w1) w1 w2 k->Fx F w w2 k:=by
 have:=h1.size;rintro k ((g | ⟨a,b⟩) | ⟨a,b⟩)
 ·exact .inl g
 ·exact .inr ⟨a,by omega⟩
 ·exact .inr ⟨by omega,b⟩
theorem Only.trans' (h1:Only F w w1) (h2:Only (Fx F w w1) w1 w2):Only F w w2:=h1.trans h2 fun k hk g=>by
 rcases g with g | ⟨a,_⟩
 ·exact g
 ·omega
end
def ig (w:World) (s:Nat) (F:Nat->Prop) (d:Int) (z:Int) (A':aT) (e:Ending) (w':World):Prop:=e = .returned (.int .i64 z)/\St w' s (Fx F w w') A' d/\Only F w w'
theorem pK (w:World) (p:Int) (v:Value):(w.alloc (.cells #[.int .i64 p,v] 83)).heap[w.heap.size]? = some (.cells #[.int .i64 p,v] 83 (0,0))/\Below w.heap.size w (w.alloc (.cells #[.int .i64 p,v] 83))/\(w.alloc (.cells #[.int .i64 p,v] 83)).heap.size=w.heap.size+1:=⟨bi w _,(af w.heap.size w).alloc (am _) _,by simp⟩
theorem acf (w:World) (s:Nat) (n p:Int) (a:Option Addr) (q cap:Nat) (hn:¬ (0<=n/\n<=63)):Calls prog 52 #[.pointer (some ⟨s,0,none⟩),.int .i64 n,.agg #[.int .i64 p,.slice a q cap]] w fun e w'=>e = .returned (.int .i64 1)/\Below w.heap.size w w':=by
 by_cases h:n < 0
 ·go_enter func52,ntmps52
  go_wp2
  go_ret
  exact ⟨rfl,(af w.heap.size w).alloc (am _) _⟩
 ·have h2:64<=n:=by omega
  go_enter func52,ntmps52
  go_wp2
  go_ret
  exact ⟨rfl,(af w.heap.size w).alloc (am _) _⟩
theorem abH (w:World) (s:Nat) (n p:Int) (a:Option Addr) (q cap:Nat) (l:List R4) (R:Rd K4 w (.slice a q cap) l) (hn:0<=n/\n<=63) (hg:¬ aL p l):Calls prog 52 #[.pointer (some ⟨s,0,none⟩),.int .i64 n,.agg #[.int .i64 p,.slice a q cap]] w fun e w'=>e = .returned (.int .i64 2)/\Below w.heap.size w w':=by
 obtain ⟨h1,hB,hz⟩:=pK w p (.slice a q cap);have HB:=Hh hB;have GA:=aQ _ p (.slice a q cap) l (R.below hB);rw [show bG p l=false from bh hg] at GA;have HG:=Hh GA;have n1:=hn.1;have n2:n < 64:=by omega
 clear h1 hB hz R GA hg hn;unfold file at HG
 go_enter func52,ntmps52
 go_wp2_with fail;refine HG.mono ?_;rintro e w1 ⟨rfl,b1⟩;have B1:=aN HB b1;clear b1 HG HB;go_wp2
 go_ret
 exact ⟨rfl,B1⟩
theorem ZQ (S:iL w s F m C d) (n p:Int) (a:Option Addr) (q cap:Nat) (l:List R4) (R:Rd K4 w (.slice a q cap) l) (hn:0<=n/\n<=63) (hg:aL p l) (hc:look aB.n n C=some c) :
 Calls prog 52 #[.pointer (some ⟨s,0,none⟩),.int .i64 n,.agg #[.int .i64 p,.slice a q cap]] w fun e w'=>e = .returned (.int .i64 10)/\Below w.heap.size w w':=by
 obtain ⟨h1,hB,hz⟩:=pK w p (.slice a q cap);have HB:=Hh hB;have GA:=aQ _ p (.slice a q cap) l (R.below hB);rw [show bG p l=true from bj hg] at GA;have HG:=Hh GA;have SS:=Hh S;have n1:=hn.1;have n2:n < 64:=by omega
 have HN:Hid (Wf n):=WalkArith.wf_i64 (by omega);have L:=Hh (jM hc);have LB:=Hh (Dq hc);clear h1 hB hz R GA hg hn S hc;unfold file at HG
 go_enter func52,ntmps52
 go_wp2_with fail;refine HG.mono ?_;rintro e w1 ⟨rfl,b1⟩;have B1:=aN HB b1;have S1:=SS.below B1;have c0:=Fl.rc S1.row 0;have M:=Hh S1.mp;clear b1 HG HB S1 SS
 go_wp2_with (at_lookup;refine wH rfl _ _ rfl M rfl _ rfl HN _ L _ LB ?_)
 go_ret
 exact ⟨rfl,B1.alloc B1.size _⟩
structure lN (s:Nat) (m:Value) (d:Int) (g:Nat) (p:Int) (v:Value) (W:World):Prop where
 row:W.heap[s]? = some (.cells #[m,.int .i64 d] 150 (0,0))
 box:W.heap[g]? = some (.cells #[.int .i64 p,v] 83 (0,0))
theorem QB (b:Option Nat) (W:World):(binOp .eql 148 (.map b) (.map none)).run prog W = .ok (.bool b.isNone) W:=run_eql_map_nil W _ _ _ b underlying148
theorem acH {v:Value} {l:List R4} {o:Option Nat} {T:TypeId} (R:Rd K4 w v l) (h0:0 < l.length) (row:w.heap[s]? = some (.cells #[.map o,.int .i64 d] T (0,0))):∀ k,v.ownBlock=some k->k=s->False:=fun k hk e=>by
 obtain ⟨a,cap,rfl,_,_,h3⟩:=R;obtain ⟨b,off,rfl,hA⟩:=h3 h0;obtain rfl:b=k:=by simpa [Value.ownBlock] using hk
 subst e;have c:=hA 0 h0 0 _ rfl;have r:=ah row (off+0 * 4+0);have:w.cell? ⟨b,off+0 * 4+0,none⟩=some (.int .u8 (l.getD 0 z4).1):=c;rw [r] at this
 match off,this with
 | 0,h=>simp at h
 | 1,h=>simp at h
 | k+2,h=>simp at h
theorem Uj (S:iL w s F (.map (some b)) C d) (n p:Int) (a:Option Addr) (q cap:Nat) (l:List R4) (R:Rd K4 w (.slice a q cap) l) (hn:0<=n/\n<=63) (hg:aL p l) (hl:dF l) (hc:look aB.n n C=none) :
 Calls prog 52 #[.pointer (some ⟨s,0,none⟩),.int .i64 n,.agg #[.int .i64 p,.slice a q cap]] w (ig w s F d 0 (put key (n,p,l) (C.map aB.abs))):=by
 obtain ⟨h1,hB,hz⟩:=pK w p (.slice a q cap);have HB:=Hh hB;have H1:=Hh h1;have HZ:=Hh hz;have RR:=Hh R;have HL:=Hh hl;have HGD:=Hh hg;have GA:=aQ _ p (.slice a q cap) l (R.below hB);rw [show bG p l=true from bj hg] at GA;have HG:=Hh GA;have SS:=Hh S;have n1:=hn.1;have n2:n < 64:=by omega
 have HN:Hid (Wf n):=WalkArith.wf_i64 (by omega);have L:=Hh (vw hc);have LB:=Hh (BU hc);have FIN:Hid (∀ (u:Value) W W',Below w.heap.size w W->W.grownBy W' (some b)->Ow K4 W w.heap.size 36 u l->(∀ c:aB,c.n=n->c.file=file p u->c.l=l->Mp W' F (.map (some b)) (put aB.n c C))->ig w s F d 0 (put key (n,p,l) (C.map aB.abs)) (.returned (.int .i64 0)) W'):=fun u W W' hb hgr ow mp=>by
  obtain ⟨au,cu,rfl,_⟩:=ow.slice;obtain ⟨S1,O1⟩:=S.place (c:=⟨n,p,au,cu,l⟩) hb hgr (mp _ rfl rfl rfl) ow hn hg hl;rw [nU] at S1;exact ⟨rfl,S1,O1⟩
 have hne:=S.qZ;have hbl:=S.low b S.mp.isMap.1;have hlen:=S.len;clear h1 hB hz R GA hg hn S hc hl;unfold file at HG
 go_enter func52,ntmps52
 go_wp2_with fail;generalize (w.alloc (.cells #[.int .i64 p,.slice a q cap] 83))=W at *;refine HG.mono ?_;rintro e w1 ⟨rfl,b1⟩;have B1:=aN HB b1;have S1:=SS.below B1;have c0:=Fl.rc S1.row 0;have M:=Hh S1.mp;have hz:=HZ.out;have G1:=Hh ((b1.block w.heap.size (by omega)).trans H1.out);have hE:=QB (some b);have B2:=Hh (B1.alloc B1.size (.cells #[.int .i64 0,.slice none 0 0] 83));have G2:=Hh ((cD w1 (.cells #[.int .i64 0,.slice none 0 0] 83) w.heap.size (by have:=b1.size;omega)).trans G1.out);have c2:=ah (SS.below B2).row 0;clear b1 HG HB S1 G1 H1 hz
 go_wp2_with (at_lookup;refine wH rfl _ _ rfl M rfl _ rfl HN _ L _ LB ?_)
 clear c0 c2 M hE B1;generalize (w1.alloc (.cells #[.int .i64 0,.slice none 0 0] 83))=W2 at *;have S2:=Hh (SS.below B2);have C0:lN s (.map (some b)) d w.heap.size p (.slice a q cap) W2.drew:=⟨S2.row,G2⟩;have c0:=Sc.ay (C:=lN s (.map (some b)) d w.heap.size p (.slice a q cap)) (a:=⟨s,0,none⟩) (fun W' h=>ah h.row 0);have r0:=Sc.ay (C:=lN s (.map (some b)) d w.heap.size p (.slice a q cap)) (a:=⟨w.heap.size,0,none⟩) (fun W' h=>ah h.box 0);have r1:=Sc.ay (C:=lN s (.map (some b)) d w.heap.size p (.slice a q cap)) (a:=⟨w.heap.size,1,none⟩) (fun W' h=>ah h.box 1);have ne:Nonempty (Sc.In (lN s (.map (some b)) d w.heap.size p (.slice a q cap))):=⟨⟨_,C0⟩⟩;have BW:=Hh (B2.trans ((af W2.heap.size W2).drew.mono B2.size));refine Sc.start (lN s (.map (some b)) d w.heap.size p (.slice a q cap)) [(false,0),(false,1),(false,2),(false,3),(false,4),(false,5),(true,6),(true,7)] (by kernel_rfl) (by kernel_rfl) (by kernel_rfl) C0 ?_;dsimp only [Sd.aK,List.getElem?_cons_succ,List.getElem?_cons_zero]
 repeat (refine Sd.lit ?_;quiet_step (fail);refine br ?_)
 refine Sd.call (by rfl) (fun K hK=>?_);have CA:=lH W2.drew p (.slice a q cap) l (RR.below BW) (by have:=HGD.out.2.2.2.1;omega);unfold file at CA;go_simp;refine CA.mono ?_;rintro e w3 ⟨u,rfl,o3,b3⟩;have hszz:=B2.size;have B3:=Hh (BW.trans (b3.mono hszz));have O3:=Hh (o3.low hszz);have S3:=SS.below B3;have G3:w3.heap[w.heap.size]? = _:=(b3.block _ (by have:=HZ;have:=bp G2;exact this)).trans C0.box;refine hK _ _ (Sc.Cl.of ⟨S3.row,G3⟩) ?_;clear hK K b3 o3 CA C0 G2 B2 BW c0 r0 r1 S2;have M3:=Hh S3.mp;have R3:=Hh S3.row;have G3':=Hh G3;clear S3 G3;obtain ⟨au,cu,rfl,_⟩:=O3.slice;refine Sd.call (by rfl) (fun K hK=>?_);refine qQ _ _ _ rfl rfl M3 ⟨n,p,au,cu,l⟩ rfl rfl HN (by unfold maxLen;omega) (fun w4 m4 g4=>?_)
 have RES:=Hh (FIN _ w3 w4 B3 g4 O3 (fun c e1 e2 e3=>by
  obtain ⟨cn,cp,ca,cc,cl⟩:=c;simp only at e1 e3;subst e1 e3;unfold aB.file Fl.file aB.sl at e2;injection e2 with e2;have e4:=dv (fun t:Array Value=>t[0]?) e2;have e5:=dv (fun t:Array Value=>t[1]?) e2
  simp at e4 e5
  obtain ⟨rfl,rfl⟩:=e5;subst e4
  exact m4))
 have hws:=bp R3;have hwg:=bp G3';refine hK _ _ (Sc.Cl.of ⟨(g4.block s hws (by intro e;injection e with e;exact hne e.symm)).trans R3.out,(g4.block w.heap.size hwg (by intro e;injection e with e;omega)).trans G3'.out⟩) ?_;clear hK K m4 g4 FIN;refine Sd.done ?_;go_wp2
 go_ret
 exact RES
theorem SE (S:iL w s F (.map none) C d) (n p:Int) (a:Option Addr) (q cap:Nat) (l:List R4) (R:Rd K4 w (.slice a q cap) l) (hn:0<=n/\n<=63) (hg:aL p l) (hl:dF l) (hc:look aB.n n C=none) :
 Calls prog 52 #[.pointer (some ⟨s,0,none⟩),.int .i64 n,.agg #[.int .i64 p,.slice a q cap]] w (ig w s F d 0 (put key (n,p,l) (C.map aB.abs))):=by
 obtain ⟨h1,hB,hz⟩:=pK w p (.slice a q cap);have HB:=Hh hB;have H1:=Hh h1;have HZ:=Hh hz;have RR:=Hh R;have HL:=Hh hl;have HGD:=Hh hg;have GA:=aQ _ p (.slice a q cap) l (R.below hB);rw [show bG p l=true from bj hg] at GA;have HG:=Hh GA;have SS:=Hh S;have n1:=hn.1;have n2:n < 64:=by omega
 have HN:Hid (Wf n):=WalkArith.wf_i64 (by omega);have L:=Hh (vw hc);have LB:=Hh (BU hc);have HNG:=Hh (fh hn (fh hg hl));have hlen:=S.len;have hsl:=S.low s S.mD;clear h1 hB hz R GA hg hn S hc hl;unfold file at HG;have hmm:=@run_makeMap prog
 go_enter func52,ntmps52
 go_wp2_with fail;generalize (w.alloc (.cells #[.int .i64 p,.slice a q cap] 83))=W at *;refine HG.mono ?_;rintro e w1 ⟨rfl,b1⟩;have B1:=aN HB b1;have S1:=SS.below B1;have c0:=Fl.rc S1.row 0;have M:=Hh S1.mp;have hz:=HZ.out;have G1:=Hh ((b1.block w.heap.size (by omega)).trans H1.out);have hE:=QB none;have B2:=Hh (B1.alloc B1.size (.cells #[.int .i64 0,.slice none 0 0] 83));have G2:=Hh ((cD w1 (.cells #[.int .i64 0,.slice none 0 0] 83) w.heap.size (by have:=b1.size;omega)).trans G1.out);have S2:=SS.below B2;have c2:=Fl.rc S2.row 0;have hz2:(w1.alloc (.cells #[.int .i64 0,.slice none 0 0] 83)).heap.size=w1.heap.size+1:=by simp
 have MK:=SS.make B2;have S3:=(S2.below ((af _ _).alloc (am _) (.map #[] 0)));have c3:=Fl.rc S3.row 0;have f3:=aj S3.row 0;have hgs:w.heap.size≠s:=by omega
 have G3:=Hh ((cj ((w1.alloc (.cells #[.int .i64 0,.slice none 0 0] 83)).alloc (.map #[] 0)) ⟨s,0,none⟩ (.map (some (w1.heap.size+1))) w.heap.size hgs).trans ((cD (w1.alloc (.cells #[.int .i64 0,.slice none 0 0] 83)) (.map #[] 0) w.heap.size (by have:=B2.out.size;have:=b1.size;omega)).trans G2.out));rw [hz2] at MK;have S3':=Hh MK.1;have O3':=Hh MK.2;have OS:Only (fun k=>k=s) w ((((w1.alloc (.cells #[.int .i64 0,.slice none 0 0] 83)).alloc (.map #[] 0)).setCell ⟨s,0,none⟩ (.map (some (w1.heap.size+1))))):=(Only.of_below (B2.alloc B2.size _)).trans (Only.set (fun k=>k=s) _ (a:=⟨s,0,none⟩) rfl _) fun _ _ g=>g;have R3:=Hh (iw RR (fun h0 k hk e=>acH RR h0 SS.row k hk e) OS);clear b1 HG HB S1 G1 H1 hz G2 S2 S3 MK hz2 OS
 go_wp2_with (at_lookup;refine wH rfl _ _ rfl M rfl _ rfl HN _ L _ LB ?_)
 clear c0 c2 c3 f3 M hE hmm B2 B1;generalize hb:w1.heap.size+1=b at *;clear hb;generalize (((w1.alloc (.cells #[.int .i64 0,.slice none 0 0] 83)).alloc (.map #[] 0)).setCell ⟨s,0,none⟩ (.map (some b)))=W2 at *;have hne:=S3'.qZ;have hcl:C.length < maxLen:=by unfold maxLen;omega
 have hws2:=bp G3;have C0:lN s (.map (some b)) d w.heap.size p (.slice a q cap) W2.drew:=⟨S3'.row,G3⟩;have c0:=Sc.ay (C:=lN s (.map (some b)) d w.heap.size p (.slice a q cap)) (a:=⟨s,0,none⟩) (fun W' h=>ah h.row 0);have r0:=Sc.ay (C:=lN s (.map (some b)) d w.heap.size p (.slice a q cap)) (a:=⟨w.heap.size,0,none⟩) (fun W' h=>ah h.box 0);have r1:=Sc.ay (C:=lN s (.map (some b)) d w.heap.size p (.slice a q cap)) (a:=⟨w.heap.size,1,none⟩) (fun W' h=>ah h.box 1);have ne:Nonempty (Sc.In (lN s (.map (some b)) d w.heap.size p (.slice a q cap))):=⟨⟨_,C0⟩⟩;have BW:=Hh ((af W2.heap.size W2).drew);have hFb:=S3'.mp.isMap.1;have hbl:=S3'.low b hFb;have hbg:w.heap.size≠b:=fun e=>by
  obtain ⟨_,es,cl,hm⟩:=S3'.mp.isMap;rw [← e] at hm;have:=G3.symm.trans hm
  cases this
 refine Sc.start (lN s (.map (some b)) d w.heap.size p (.slice a q cap)) [(false,0),(false,1),(false,2),(false,3),(false,4),(false,5),(true,6),(true,7)] (by kernel_rfl) (by kernel_rfl) (by kernel_rfl) C0 ?_;dsimp only [Sd.aK,List.getElem?_cons_succ,List.getElem?_cons_zero]
 repeat (refine Sd.lit ?_;quiet_step (fail);refine br ?_)
 refine Sd.call (by rfl) (fun K hK=>?_);have CA:=lH W2.drew p (.slice a q cap) l (R3.below BW) (by have:=HGD.out.2.2.2.1;omega);unfold file at CA;go_simp;refine CA.mono ?_;rintro e w3 ⟨u,rfl,o3,b3⟩;have B3:=Hh (BW.trans (b3.mono (am W2.heap.size)));have O3:=Hh (o3);have S4:=S3'.below B3;have G4:=(b3.block _ hws2).trans C0.box;refine hK _ _ (Sc.Cl.of ⟨S4.row,G4⟩) ?_;clear hK K b3 o3 CA C0 G3 BW c0 r0 r1 R3;have M3:=Hh S4.mp;have R4':=Hh S4.row;have G3':=Hh G4;clear S4 G4;obtain ⟨au,cu,rfl,_⟩:=O3.slice;refine Sd.call (by rfl) (fun K hK=>?_);refine qQ _ _ _ rfl rfl M3 ⟨n,p,au,cu,l⟩ rfl rfl HN hcl (fun w4 m4 g4=>?_);have RES:Hid (ig w s F d 0 (put key (n,p,l) (C.map aB.abs)) (.returned (.int .i64 0)) w4):=by
  obtain ⟨P1,P2⟩:=S3'.place (c:=⟨n,p,au,cu,l⟩) B3 g4 m4 O3 HNG.out.1 HNG.out.2.1 HNG.out.2.2;rw [nU] at P1;exact ⟨rfl,P1.wide (Fx.trans O3' P2.size) (Fx.low SS.low (O3'.trans' P2).size),O3'.trans' P2⟩
 have hws:=bp R4';have hwg:=bp G3';refine hK _ _ (Sc.Cl.of ⟨(g4.block s hws (by intro e;injection e with e;exact hne e.symm)).trans R4'.out,(g4.block w.heap.size hwg (by intro e;injection e with e;exact hbg e)).trans G3'.out⟩) ?_;clear hK K m4 g4;refine Sd.done ?_;go_wp2
 go_ret
 exact RES
theorem j6 : look key n (C.map aB.abs)=(look aB.n n C).map aB.abs:=gQ n C
theorem MB (S:St w s F A d) (n p:Int) (v:Value) (l:List R4) (R:Rd K4 w v l) (hl:dF l) :
 Calls prog 52 #[.pointer (some ⟨s,0,none⟩),.int .i64 n,file p v] w (ig w s F d (jq A n p l) (oh A n p l)):=by
 obtain ⟨m,C,h,rfl⟩:=S;obtain ⟨a,cap,rfl,_⟩:=R.slice;have no:∀ z e w',jq (C.map aB.abs) n p l=z->z≠0->(e = .returned (.int .i64 z)/\Below w.heap.size w w')->ig w s F d (jq (C.map aB.abs) n p l) (oh (C.map aB.abs) n p l) e w':=fun z e w' hz h0 ⟨he,b⟩=>by
  unfold ig oh;rw [hz,aq h0];exact ⟨he,St.fx ⟨m,C,h,rfl⟩ b,Only.of_below b⟩
 by_cases hn:0<=n/\n<=63
 ·by_cases hg:aL p l
  ·cases hc:look aB.n n C with
   | some c=>exact (ZQ h n p a _ cap l R hn hg hc).mono fun e w'=>no 10 e w' (by unfold jq;rw [az hn,az hg,j6,hc];rfl) (by decide)
   | none =>
     have e0:jq (C.map aB.abs) n p l=0:=by unfold jq;rw [az hn,az hg,j6,hc];rfl
     unfold oh;rw [e0,az rfl]
     rcases h.mp with ⟨rfl,_⟩ | ⟨b,rfl,_,_⟩
     ·exact SE h n p a _ cap l R hn hg hl hc
     ·exact Uj h n p a _ cap l R hn hg hl hc
  ·exact (abH w s n p a _ cap l R hn hg).mono fun e w'=>no 2 e w' (by unfold jq;rw [az hn,aq hg]) (by decide)
 ·exact (acf w s n p a _ cap hn).mono fun e w'=>no 1 e w' (by unfold jq;rw [aq hn]) (by decide)
end Fs
namespace Fs
open Go.Maps
attribute [local irreducible] Sd.aU wpQuiet
variable {w w':World}
theorem grown_of (h:Below w.heap.size w w'):w.grownBy w' none:=⟨h.os,h.tape,h.output,h.size,fun k hk _=>h.block k hk⟩
theorem Tw:∀ {A B:aT},qB key A->qB key B->(∀ e,e∈A↔e∈B)->A=B
 | [],[],_,_,_=>rfl
 | [],b :: B,_,_,h=>by have:=(h b).2 (cG ..);cases this
 | a :: A,[],_,_,h=>by have:=(h a).1 (cG ..);cases this
 | a :: A,b :: B,ha,hb,h=>by
   obtain ⟨ha1,ha2⟩:=dm.1 ha;obtain ⟨hb1,hb2⟩:=dm.1 hb;have e:a=b:=by
    rcases cy.1 ((h a).1 (cG ..)) with e | e
    ·exact e
    ·rcases cy.1 ((h b).2 (cG ..)) with e2 | e2
     ·exact e2.symm
     ·have:=ha1 b e2;have:=hb1 a e;omega
   subst e
   congr 1
   refine Tw ha2 hb2 fun e=>⟨fun he=>?_,fun he=>?_⟩
   ·rcases cy.1 ((h e).1 (cC _ he)) with rfl | h2
    ·have:=ha1 e he;omega
    ·exact h2
   ·rcases cy.1 ((h e).2 (cC _ he)) with rfl | h2
    ·have:=hb1 e he;omega
    ·exact h2
variable {s b:Nat} {F:Nat->Prop} {A:aT} {d d':Int}
theorem St.as {m:Value} {T:TypeId} (h:St w s F A d) (row:w.heap[s]? = some (.cells #[m,.int .i64 d'] T (0,0))):∃ C,iL w s F m C d/\C.map aB.abs=A:=by
 obtain ⟨m',C,h,e⟩:=h;have r:=h.row.symm.trans row;injection r with r;injection r with r _ _;have e4:=dv (fun t:Array Value=>t[0]?) r
 simp at e4
 subst e4;exact ⟨C,h,e⟩
theorem Iy (W:World) (o:Obj):Below W.heap.size W (W.alloc o):=(af _ W).alloc (am _) o
def iO (w:World) (A:aT) (d:Int) (e:Ending) (w':World):Prop:=∃ g F,e = .returned (.pointer (some ⟨g,0,none⟩))/\St w' g F A d/\(∀ k,F k->w.heap.size<=k)/\Below w.heap.size w w'
structure CI (w:World) (b:Nat) (C:List aB) (d:Int) (wr:World) (left:Lit->Bool) (cnt:Nat) (F:Nat->Prop) (C2:List aB):Prop where
 rg:wr.ranges prog 3 Rh b (w.heap.size+2) C.length (dat C) left cnt
 has:∀ kl,left kl=true->Maps.has (dat C) kl=true
 st:iL wr (w.heap.size+1) F (.map (some w.heap.size)) C2 d
 mem:∀ e,e∈C2.map aB.abs↔e∈C.map aB.abs/\left (.int .i64 e.1)=false
 lo:∀ k,F k->w.heap.size<=k
 off:¬ F (w.heap.size+2)
 aD:Below w.heap.size w wr
theorem ZJ (w:World) (d:Int):iL ((w.alloc (.map #[] 0)).alloc (.cells #[.map (some w.heap.size),.int .i64 d] 150)) (w.heap.size+1) (fun k=>k=w.heap.size\/k=w.heap.size+1) (.map (some w.heap.size)) [] d:=by
 have hz:(w.alloc (.map #[] 0)).heap.size=w.heap.size+1:=by simp
 have hr:=bi (w.alloc (.map #[] 0)) (.cells #[.map (some w.heap.size),.int .i64 d] 150);rw [hz] at hr;have mp:Mp (w.alloc (.map #[] 0)) (fun k=>k=w.heap.size\/k=w.heap.size+1) (.map (some w.heap.size)) []:=.inr ⟨w.heap.size,rfl,.inl rfl,World.ownsMap_made _ _ _ _⟩;refine ⟨hr,.inr rfl,mp.kept fun b hb=>?_,nofun,nofun,ik,eY.nil,fun k hk=>?_⟩
 ·injection hb with hb
  injection hb with hb;subst hb;exact cD _ _ _ (by omega)
 ·simp
  omega
variable {C:List aB}
theorem Nq (S:iL w s F (.map (some b)) C d):Calls prog 118 #[.pointer (some ⟨s,0,none⟩)] w (iO w (C.map aB.abs) d):=by
 have SS:=Hh S;have hsl:=S.low s S.mD;obtain ⟨hFb,_⟩:=S.mp.isMap;have hbl:=S.low b hFb;have hown:w.ownsMap prog 3 Rh b C.length (dat C):=by
  rcases S.mp with ⟨e,_⟩ | ⟨b',e,_,h⟩
  ·cases e
  ·injection e with e
   injection e with e;subst e;exact h
 have hmm:=@run_makeMap prog;have e1:(w.alloc (.map #[] 0)).heap.size=w.heap.size+1:=by simp
 have B1:Below w.heap.size w (w.alloc (.map #[] 0)):=(af w.heap.size w).alloc (am _) _;have c1:=ah (S.below B1).row 1;have S2:=Hh (ZJ w d);have e2:((w.alloc (.map #[] 0)).alloc (.cells #[.map (some w.heap.size),.int .i64 d] 150)).heap.size=w.heap.size+2:=by simp
 have B2:Below w.heap.size w ((w.alloc (.map #[] 0)).alloc (.cells #[.map (some w.heap.size),.int .i64 d] 150)):=B1.alloc B1.size _;have c0:=ah (S.below B2).row 0;have own2:=hown.kept (grown_of B2) (by simp);clear S hown
 go_enter func118,ntmps118
 go_wp2_with (first
  | (at_range;refine wpList_range_own _ rfl _ 148 rfl 3 83 law underlying148 _ b C.length _ rfl own2 ?_;intro w0 hrg0 hg0 hs0)
  | fail)
 go_frame
 clear c0 c1 hmm;rw [e2] at hrg0 hs0 ⊢
 go_loopw [4] (fun _ wr=>∃ left cnt F2 C2,Hid (CI w b C d wr left cnt F2 C2)) (fun _ wr=>wr.rangeLeft b (w.heap.size+2))
 case atStart =>
  have B3:=(af _ _).grown hg0 (am _) (fun j hj=>by cases hj);refine ⟨_,_,_,[],⟨hrg0,fun kl h=>h,S2.below B3,fun e=>⟨nofun,fun ⟨h1,h2⟩=>?_⟩,fun k hk=>by rcases hk with rfl | rfl <;> omega,fun hk=>by rcases hk with hk | hk <;> omega,B2.trans (B3.mono (by omega))⟩⟩;obtain ⟨c,hc,rfl⟩:=dC.1 h1;rw [Bf,lb,Option.isSome_eq_false_iff,Option.isNone_iff_eq_none] at h2;exact absurd rfl (dN.1 h2 c hc)
 case round =>
  obtain ⟨left,cnt,F2,C2,I⟩:=hrel;have hrg:=I.rg;clear hrg0 hg0 hs0 own2 B1 B2 e1 e2 S2
  go_wp2_with (first
   | (at_next;refine wpList_next_ranges _ rfl _ rfl 3 law Rh (Value.int .i64) id (fun key kl hkey=>by obtain ⟨x,rfl,_⟩:=Maps.keyOf_int_inv underlying3 hkey;exact ⟨x,rfl⟩) (fun v y _=>⟨v,rfl⟩) b (w.heap.size+2) C.length _ _ _ rfl hrg ?_ ?_)
   | fail)
  ·intro hc0 hl0
   clear hrg;have RES:Hid (iO w (C.map aB.abs) d (.returned (.pointer (some ⟨w.heap.size+1,0,none⟩))) wr):=by
    have e:=Tw I.st.ok.zm SS.ok.zm fun e=>(I.mem e).trans ⟨fun h=>h.1,fun h=>⟨h,hl0 _⟩⟩;exact ⟨_,F2,rfl,⟨_,C2,I.st,e⟩,I.lo,I.aD⟩
   go_wp2
   go_ret
   exact RES
  ·intro x v kl y y2 w1 cnt1 hkey hlk hv hat hrg1 hlt hg1 hs1 hen
   obtain ⟨x',ex,rfl,hwx⟩:=Maps.keyOf_int_inv underlying3 hkey
   cases ex
   have hh:=I.has _ hlk;rw [Bf] at hh;obtain ⟨c,hc⟩:∃ c,look aB.n x C=some c:=Option.isSome_iff_exists.1 hh;have hv':v=c.file:=by
    have h1:=hat (.held (file 0 (.slice none 0 0)));rw [J3,jM hc] at h1;obtain ⟨h2,_⟩:DataW.held v=y/\[]=y2:=by simpa [Rh] using hv
    have h3:=h1.trans h2.symm;injection h3 with h3;exact h3.symm
   subst hv';obtain ⟨fo,fg,fl,fn,fr,fm⟩:=SS.find hc;have hsb:w.heap.size+2 < w1.heap.size:=by have:=hrg.lt;omega
   have B1:Below w.heap.size w w1:=I.aD.grown hg1 I.aD.size (fun j hj=>by cases hj;omega);have O1:Only (fun k=>k=w.heap.size+2) wr w1:=Only.grown rfl hg1;have S1:=Hh (I.st.only (G:=fun k=>k=w.heap.size+2) (fun k hk (e:k=w.heap.size+2)=>I.off (e ▸ hk)) O1);have R1:=Hh (((SS.below B1).own c fm).rd);have BB:=Hh B1;have RG:=Hh hrg1;have RG0:=Hh hrg;have FF:=Hh (fh fo (fh fg (fh fl (fh fr hlt))));have HM:=Hh (fh hlk hwx);clear hkey hh hat hv hc fo fg fl hrg1 hg1 hs1 B1 O1 fr hrg hlt hlk;obtain ⟨cn,cp,ca,cc,cl⟩:=c;simp only at fn;subst fn;unfold aB.sl at R1;simp only at R1;have hq:cl.length<=260:=by have:cl.length<=256:=FF.out.2.1.2.2.2.1;omega
   unfold aB.file Fl.file aB.sl at hen ⊢;simp only at hen ⊢;go_upto_region 7 with fail;have H1:=bi w1 (.cells #[.int .i64 cp,.slice ca cl.length cc] 83);have hb1:=Iy w1 (.cells #[.int .i64 cp,.slice ca cl.length cc] 83);have hz2:(w1.alloc (.cells #[.int .i64 cp,.slice ca cl.length cc] 83)).heap.size=w1.heap.size+1:=by simp
   have W2g:=hb1.trans ((af w1.heap.size _).drew);have S2:=Hh (S1.below W2g);have C0:lN (w.heap.size+1) (.map (some w.heap.size)) d w1.heap.size cp (.slice ca cl.length cc) (w1.alloc (.cells #[.int .i64 cp,.slice ca cl.length cc] 83)).drew:=⟨S2.row,H1⟩;have WB:=Hh W2g;have hsz:w1.heap.size+1=(w1.alloc (.cells #[.int .i64 cp,.slice ca cl.length cc] 83)).drew.heap.size:=hz2.symm;clear H1 hb1 hz2 W2g hen;generalize (w1.alloc (.cells #[.int .i64 cp,.slice ca cl.length cc] 83))=W2 at *;have k0:=Sc.ay (C:=lN (w.heap.size+1) (.map (some w.heap.size)) d w1.heap.size cp (.slice ca cl.length cc)) (a:=⟨w.heap.size+1,0,none⟩) (fun W' h=>ah h.row 0);have r0:=Sc.ay (C:=lN (w.heap.size+1) (.map (some w.heap.size)) d w1.heap.size cp (.slice ca cl.length cc)) (a:=⟨w1.heap.size,0,none⟩) (fun W' h=>ah h.box 0);have r1:=Sc.ay (C:=lN (w.heap.size+1) (.map (some w.heap.size)) d w1.heap.size cp (.slice ca cl.length cc)) (a:=⟨w1.heap.size,1,none⟩) (fun W' h=>ah h.box 1);have ne:Nonempty (Sc.In (lN (w.heap.size+1) (.map (some w.heap.size)) d w1.heap.size cp (.slice ca cl.length cc))):=⟨⟨_,C0⟩⟩;refine Sc.start (lN (w.heap.size+1) (.map (some w.heap.size)) d w1.heap.size cp (.slice ca cl.length cc)) [(false,0),(false,1),(false,2),(false,3),(false,4),(false,5),(true,6),(true,7)] (by kernel_rfl) (by kernel_rfl) (by kernel_rfl) C0 ?_;dsimp only [Sd.aK,List.getElem?_cons_succ,List.getElem?_cons_zero]
   repeat (refine Sd.lit ?_;quiet_step (fail);refine br ?_)
   clear k0 r0 r1;generalize W2.drew=Wd at *;refine Sd.call (by rfl) (fun K hK=>?_);have CA:=lH Wd cp (.slice ca cl.length cc) cl (R1.below WB) hq;unfold file at CA;go_simp;refine CA.mono ?_;rintro e w3 ⟨u,rfl,o3,b3⟩;have S3:=S2.below b3;have W3:=Hh (WB.trans (b3.mono (by omega)));have G3:w3.heap[w1.heap.size]? = _:=(b3.block _ (by omega)).trans C0.box;refine hK _ _ (Sc.Cl.of ⟨S3.row,G3⟩) ?_;have O3:=Hh o3;have M3:=Hh S3.mp;have T3:=Hh S3;have RR3:=Hh S3.row;have GG3:=Hh G3;have BD:=Hh b3;clear hK K CA b3 o3 S3 G3 C0;obtain ⟨au,cu,rfl,_⟩:=O3.slice;refine Sd.call (by rfl) (fun K hK=>?_);have hl2:=T3.len;refine qQ _ _ _ rfl rfl M3 ⟨cn,cp,au,cu,cl⟩ rfl rfl HM.out.2 (by unfold maxLen;omega) (fun w4 m4 g4=>?_);have hws:=bp RR3;have hwg:=bp GG3;have row4:=(g4.block (w.heap.size+1) hws (by intro e;injection e with e;omega)).trans RR3.out;refine hK _ _ (Sc.Cl.of ⟨row4,(g4.block w1.heap.size hwg (by intro e;injection e with e;omega)).trans GG3.out⟩) ?_;have NEW:∃ F4 C4,Hid (CI w b C d w4 (fun z=>left z && !z.sameKey (.int .i64 cn)) cnt1 F4 C4):=by
    obtain ⟨P1,P2⟩:=S2.place (c:=⟨cn,cp,au,cu,cl⟩) BD g4 m4 O3 FF.out.2.2.2.1 FF.out.2.1 FF.out.2.2.1;obtain ⟨C4,P3,P4⟩:=P1.as row4;have rg3:=RG.kept (grown_of W3) (by simp) (by simp);have rg4:=rg3.kept g4 (fun e=>by have:=db e;omega) (fun e=>by have:=db e;omega);have hB1:=hsb;have hb3:=W3.size;refine ⟨_,C4,⟨rg4,fun kl h=>I.has kl (by simp at h;exact h.1),P3,fun e=>?_,fun k hk=>?_,fun hk=>?_,(BB.out.trans (W3.out.mono (by omega))).grown g4 (by omega) (fun j hj=>by cases hj;exact am _)⟩⟩
    ·rw [P4,nU,vO,I.out.mem]
     show _↔_/\(left (.int .i64 e.1) && !(Lit.int .i64 e.1).sameKey (.int .i64 cn))=false
     have hin:(cn,cp,cl)∈C.map aB.abs:=dC.2 ⟨_,fm,rfl⟩;have hsk:(Lit.int .i64 e.1).sameKey (.int .i64 cn)=decide (e.1=cn):=by simp [Lit.sameKey]
     rw [hsk]
     constructor
     ·rintro (rfl | ⟨⟨h1,h2⟩,h3⟩)
      ·exact ⟨hin,by simp [aB.abs]⟩
      ·exact ⟨h1,by rw [h2];rfl⟩
     ·rintro ⟨h1,h2⟩
      by_cases he:e.1=cn
      ·left
       have q1:=jI SS.ok.zm h1;have q2:=jI SS.ok.zm hin;have:look key (key e) (C.map aB.abs)=look key (key (cn,cp,cl)) (C.map aB.abs):=by rw [show key e=key (cn,cp,cl) from he]
       exact db (q1.symm.trans (this.trans q2))
      ·right
       simp [he] at h2
       exact ⟨⟨h1,h2⟩,he⟩
    ·rcases hk with hk | ⟨hk,_⟩
     ·exact I.lo k hk
     ·omega
    ·rcases hk with hk | ⟨hk,_⟩
     ·exact I.off hk
     ·omega
   clear hK K m4 g4 row4;refine Sd.done ?_;obtain ⟨F4,C4,NEW⟩:=NEW;have MS:Hid (w4.rangeLeft b (w.heap.size+2) < wr.rangeLeft b (w.heap.size+2)):=by
    show _ < _
    rw [NEW.out.rg.left_eq,RG0.out.left_eq];exact FF.out.2.2.2.2
   go_wp2
   go_roundw
   case rel=>exact ⟨_,_,_,_,NEW⟩
   case measure=>exact MS
theorem OR (S:iL w s F (.map none) C d):Calls prog 118 #[.pointer (some ⟨s,0,none⟩)] w (iO w (C.map aB.abs) d):=by
 obtain rfl:C = []:=by
  rcases S.mp with ⟨_,e⟩ | ⟨b,e,_⟩
  ·exact e
  ·cases e
 have hmm:=@run_makeMap prog;have e1:(w.alloc (.map #[] 0)).heap.size=w.heap.size+1:=by simp
 have B1:Below w.heap.size w (w.alloc (.map #[] 0)):=(af w.heap.size w).alloc (am _) _;have c1:=ah (S.below B1).row 1;have S2:=ZJ w d;have e2:((w.alloc (.map #[] 0)).alloc (.cells #[.map (some w.heap.size),.int .i64 d] 150)).heap.size=w.heap.size+2:=by simp
 have B2:Below w.heap.size w ((w.alloc (.map #[] 0)).alloc (.cells #[.map (some w.heap.size),.int .i64 d] 150)):=B1.alloc B1.size _;have c0:=ah (S.below B2).row 0;have hrg:=run_range_nilMap (P:=prog) ((w.alloc (.map #[] 0)).alloc (.cells #[.map (some w.heap.size),.int .i64 d] 150)) 148 3 83 underlying148;have hnx:∀ ty,(Instr.next (.pointer (some ⟨((w.alloc (.map #[] 0)).alloc (.cells #[.map (some w.heap.size),.int .i64 d] 150)).heap.size,0,none⟩)) false ty).run prog (((w.alloc (.map #[] 0)).alloc (.cells #[.map (some w.heap.size),.int .i64 d] 150)).alloc (.mapIter none 0 #[] 0))=_:=fun ty=>run_next_nilMap _ ty 0 0 #[];have RES:Hid (iO w (([]:List aB).map aB.abs) d (.returned (.pointer (some ⟨w.heap.size+1,0,none⟩))) (((w.alloc (.map #[] 0)).alloc (.cells #[.map (some w.heap.size),.int .i64 d] 150)).alloc (.mapIter none 0 #[] 0))) :=
  ⟨_,_,rfl,⟨_,[],S2.below ((af _ _).alloc (am _) _),rfl⟩,fun k hk=>by rcases hk with rfl | rfl <;> omega,B2.alloc B2.size _⟩
 rw [e2] at hrg hnx;clear S S2 B1 B2
 go_enter func118,ntmps118
 go_wp2;refine wp_loop_rounds 1 ?_;rw [rounds_succ];go_wp2
 go_ret
 exact RES
theorem yQ (S:St w s F A d):Calls prog 118 #[.pointer (some ⟨s,0,none⟩)] w (iO w A d):=by
 obtain ⟨m,C,h,rfl⟩:=S
 rcases h.mp with ⟨rfl,_⟩ | ⟨b,rfl,_⟩
 ·exact OR h
 ·exact Nq h
end Fs
namespace Fs
open Go.Maps Go.Sort Go.Shelf
theorem Uv (m:Nat):AnyZI.SortsIn prog sortedL_ren Fence.wide m :=
 ⟨fun blk off cap ss W hH hblk hsz=>callsIn_wide.2 (AnyM.slices_Sort_int sortL blk off cap ss W hH hblk hsz),
  fun p cap W=>callsIn_wide.2 (AnyM.slices_Sort_int_none sortL p cap W)⟩
theorem QG (mb:Option Nat) (W:World):Calls prog 72 #[.map mb] W fun e w'=>e = .returned (.func (.func 98) #[] #[.pointer (some ⟨W.heap.size,0,none⟩)])/\w'=W.alloc (.cells #[.map mb] 148) :=
 (callsIn_wide (n:=5)).1 (AnyZI.keys_in keysL Fence.wide 5 trivial rfl mb W)
def KI:Rw.Kind Int:=Rw.int .i64
theorem FT:∀ l:List Int,KI.flat l=l.map encZ
 | []=>rfl
 | a :: r=>by
   have:=FT r
   show [Value.int .i64 a] ++ KI.flat r=_
   rw [this]
   rfl
theorem F8 (C:List aB):intKeys (dat C)=C.map aB.n:=by
 show (C.map ent).map (fun p=>Go.intOf p.1)=_
 rw [List.map_map]
 rfl
variable {C:List aB}
theorem NC (h:qB aB.n C) {ss:List Int} (hp:ss.Perm (intKeys (dat C))):ss.mergeSort (fun x y=>decide (x<=y))=C.map aB.n:=by
 have e:=mergeSort_of_perm_i hp
 show ss.mergeSort leI=_
 rw [e,F8];refine List.mergeSort_of_pairwise ?_;rw [List.pairwise_map];exact h.imp fun h=>by simp only [leI,cQ];exact Int.le_of_lt h
theorem Gz (C:List aB):Maps.size (dat C)=C.length:=by unfold dat Maps.size;simp
def Rx (w:World) (C:List aB) (e:Ending) (w':World):Prop:=∃ v,e = .returned v/\Ow KI w' w.heap.size 3 v (C.map aB.n)/\Below w.heap.size w w'
variable {w w' w2:World} {F:Nat->Prop}
theorem oC {mb:Option Nat} (M:Mp w F (.map mb) C) (hs:qB aB.n C) (hl:C.length<=64) :
 Calls prog 71 #[.func (.func 98) #[] #[.pointer (some ⟨w.heap.size,0,none⟩)]] (w.alloc (.cells #[.map mb] 148)) (Rx w C):=by
 have B0:Below w.heap.size w (w.alloc (.cells #[.map mb] 148)):=(af w.heap.size w).alloc (am _) _
 rcases M with ⟨e,rfl⟩ | ⟨b,e,_,hown⟩
 ·obtain rfl:mb=none:=by injection e
  have hseq:SeqGives Fence.wide 2 prog 98 #[.pointer (some ⟨w.heap.size,0,none⟩)] encZ (fun ss:List Int=>ss = []) 0 (w.alloc (.cells #[.map none] 148)) :=
   AnyZI.keys_gives_nil (ρ:=keysL_ren) { keysL with } Fence.wide _ trivial rfl w.heap.size _ (by simp) (by simp)
  have cS:=AnyZI.sorted_in sortedL Fence.wide 5 trivial trivial trivial trivial rfl (by omega) (Uv _) (enters_of func97 (by kernel_rfl) rfl) 98 #[.pointer (some ⟨w.heap.size,0,none⟩)] trivial (enters_of func98 (by kernel_rfl) rfl) _ 0 (cx _) (by omega) _ hseq;refine ((callsIn_wide (n:=5)).1 cS).mono ?_;rintro e w' ⟨v,ss,rfl,rfl,hrow,hnil,hb⟩;obtain rfl:v = .slice none 0 0:=hnil.2 rfl;exact ⟨_,rfl,Ow.nil _ _ _,B0.trans (hb.mono (by simp))⟩
 ·obtain rfl:mb=some b:=by injection e
  have hbl:=hown.lt;have hseq:SeqGives Fence.wide 2 prog 98 #[.pointer (some ⟨w.heap.size,0,none⟩)] encZ (fun ss=>ss.Perm (intKeys (dat C))) (Maps.size (dat C)) (w.alloc (.cells #[.map (some b)] 148)) :=
   AnyZI.keys_gives (ρ:=keysL_ren) { keysL with } Fence.wide _ trivial rfl (by omega) w.heap.size b C.length (dat C) _ (by simp) (by simp) (by
    obtain ⟨es,clock,hb,Ft,hs,hD⟩:=hown
    exact ⟨es,clock,(cD _ _ b hbl).trans hb,Ft,hs,hD⟩)
  have cS:=AnyZI.sorted_in sortedL Fence.wide 5 trivial trivial trivial trivial rfl (by omega) (Uv _) (enters_of func97 (by kernel_rfl) rfl) 98 #[.pointer (some ⟨w.heap.size,0,none⟩)] trivial (enters_of func98 (by kernel_rfl) rfl) _ _ (by rw [Gz];unfold maxLen;omega) (by rw [Gz];omega) _ hseq;refine ((callsIn_wide (n:=5)).1 cS).mono ?_;rintro e w' ⟨v,ss,rfl,hS,hrow,hnil,hb⟩;refine ⟨v,rfl,?_,B0.trans (hb.mono (by simp))⟩;have e1:=NC hs hS;have e2:ss.length=(C.map aB.n).length:=by rw [← F8];exact hS.length_eq
  show w'.ownsRow w.heap.size 3 1 v (C.map aB.n).length (KI.flat (C.map aB.n))
  rw [FT,← e1,List.length_mergeSort];exact ownsRow_base_a hrow (by simp)
theorem SY:(prog.info? 85).map (fun i=>(i.zero,i.size,i.bytes))=some (some (.agg #[.int .i64 0,.int .i64 0,.slice none 0 0]),3,40):=by kernel_rfl
theorem wK (n p:Int) (a:Option Addr) (q cap:Nat) (w:World):(Instr.build 85 #[(0,.int .i64 n),(1,.agg #[.int .i64 p,.slice a q cap])]).run prog w = .ok (.agg #[.int .i64 n,.int .i64 p,.slice a q cap]) w:=by kernel_rfl
theorem IZ (w:World) (p:Int) (v:Value) (l:List R4) (q:Nat) (R:Rd K4 w v l) (hl:l.length<=260) (hq:l.length=q):Calls prog 73 #[.agg #[.int .i64 p,v]] w fun e w'=>∃ a cap,e = .returned (.agg #[.int .i64 p,.slice a q cap])/\Ow K4 w' w.heap.size 36 (.slice a q cap) l/\Below w.heap.size w w' :=
 (lH w p v l R hl).mono fun e w' ⟨u,h1,h2,h3⟩=>by
   obtain ⟨a,cap,rfl,_⟩:=h2.slice;rw [hq] at h1 h2;exact ⟨a,cap,h1,h2,h3⟩
variable {v:Value}
theorem Tf {α:Type} {K:Rw.Kind α} {B E T:Nat} {l:List α} (h:Ow K w B E v l) (hne:E≠T) (f:Rw.Far T w w'):Ow K w' B E v l:=by
 obtain ⟨h1,h2⟩:=h;refine ⟨h1,?_⟩
 rcases h2 with h2 | ⟨g,cap,cur,e,hB,hh,r⟩
 ·exact .inl h2
 ·exact .inr ⟨g,cap,cur,e,hB,f g _ _ hh hne,r⟩
def xN (w:World) (C:List aB) (v:Value) (k:Nat) (wr:World):Prop:=∃ L:List aB,Ow E3 wr w.heap.size 85 v L/\L.map aB.abs=(C.take k).map aB.abs/\(∀ c∈L,Ow K4 wr w.heap.size 36 c.sl c.l)/\Below w.heap.size w wr
def bZ (w:World) (A:aT) (e:Ending) (w':World):Prop:=∃ v,e = .returned v/\(∀ F:Nat->Prop,(∀ k,F k->k < w.heap.size)->Ls F w' v A)/\Below w.heap.size w w'
variable {A:aT}
theorem acO (h:xN w2 C v C.length w') (hA:C.map aB.abs=A) (hb:w.heap.size<=w2.heap.size) (F:Nat->Prop) (hF:∀ k,F k->k < w.heap.size):Ls F w' v A:=by
 obtain ⟨L,o,e,r,b⟩:=h;rw [df] at e;exact ⟨L,⟨o.rd,fun _ k hk g=>by have:=(dI o k hk).1;have:=hF k g;omega,fun c hc=>(r c hc).rd,fun c hc _ k hk g=>by have:=(dI (r c hc) k hk).1;have:=hF k g;omega⟩,e.trans hA⟩
theorem AB {s:Nat} {d:Int} (S:St w s F A d):Calls prog 42 #[.pointer (some ⟨s,0,none⟩)] w (bZ w A):=by
 obtain ⟨m,C,h,hA⟩:=S;obtain ⟨mb,rfl⟩:∃ mb,m = .map mb:=by
  rcases h.mp with ⟨e,_⟩ | ⟨b,e,_⟩
  ·exact ⟨_,e⟩
  ·exact ⟨_,e⟩
 have zm:=(vB (κ:=aB.n) (κ':=key) vK).1 h.ok.zm;have c0:=Fl.rc h.row 0;have SO:=Hh (oC h.mp zm h.len);have SS:=Hh h;have HL:=Hh h.len;have HS:=Hh zm;have HA:=Hh hA;clear h hA zm
 go_enter func42,ntmps42
 go_wp2_with (first
  | (go_at_call 72;refine (QG _ _).mono ?_;rintro e w1 ⟨rfl,rfl⟩)
  | (go_at_call 71;refine SO.out.mono ?_;rintro e w2 ⟨vk,rfl,ok,b2⟩;obtain ⟨ka,kc,rfl,hkc⟩:=ok.slice;rw [cm] at ok ⊢))
 have OK:=Hh ok;have B2:=Hh b2;have S2:=Hh (SS.out.below b2);clear c0 ok b2 SO SS hkc;generalize hn:C.length=n at *;have HN:=Hh hn;clear hn
 go_loopw [3,15] (fun v i wr=>∃ k:Nat,k<=n/\i = .int .i64 k/\Hid (xN w2 C v k wr)) (fun _ i _=>n - (intOf i).toNat)
 case atStart=>exact ⟨0,cx _,rfl,[],Ow.nil _ _ _,by simp,nofun,af _ _⟩
 case round =>
  obtain ⟨k,hk,rfl,R⟩:=hrel
  by_cases hlt:k < n
  ·obtain ⟨L,oL,eL,rL,bL⟩:=R.out
   have hkC:k < C.length:=by have:=HN.out;omega
   obtain ⟨⟨cn,cp,ca,cc,cl⟩,hc⟩:∃ c:aB,C[k]? = some c:=⟨_,aw hkC⟩;obtain ⟨g,off,ek,hK⟩:∃ g cap,(Value.slice ka n kc) = .slice (some ⟨g,0,none⟩) n cap/\w2.cell? ⟨g,k,none⟩=some (.int .i64 cn):=by
    obtain ⟨g,cap,e1,_,_,_,_,_,hAt⟩:=OK.out.form (by rw [cm];omega);rw [cm,HN.out] at e1;have c:=hAt k (by rw [cm];exact hkC) 0 (.int .i64 ((C.map aB.n).getD k 0)) rfl;have e0:(C.map aB.n).getD k 0=cn:=by rw [an,cX,hc];rfl
    rw [e0] at c;have e:0+k * KI.n+0=k:=by show 0+k * 1+0=k;omega
    rw [e] at c;exact ⟨g,cap,e1,c⟩
   obtain ⟨rfl,rfl⟩:ka=some ⟨g,0,none⟩/\kc=off:=by injection ek with e1 _ e3;exact ⟨e1,e3⟩
   have kr:=(bL.cell (cd _ _ hK)).trans hK;have SR:=S2.out.below bL;have c0:=Fl.rc SR.row 0;have M:=Hh SR.mp;have hin:=di hc;have hl:look aB.n cn C=some ⟨cn,cp,ca,cc,cl⟩:=jI HS.out hin;have LV:=Hh (jM hl);obtain ⟨ho,hg,-,-,hnm,-⟩:=SR.find hl;have WN:Hid (Wf cn):=WalkArith.wf_i64 (by omega);have RC:=Hh (ho.rd);have GL:Hid (cl.length<=260):=by have:=hg.2.2.2.1;show cl.length<=260;simp only at this;omega
   have TK:Hid (∀ e:aB,e.abs=(cn,cp,cl)->(L ++ [e]).map aB.abs=(C.take (k+1)).map aB.abs):=fun e he=>by
    rw [ed,hc,gk,gk,eL]
    show _ ++ [e.abs]=_ ++ [(cn,cp,cl)]
    rw [he]
   have LL:Hid (L.length<=64):=by
    have e:=dv List.length eL;rw [cm,cm,cM] at e;have:=HL.out
    show _<=64
    omega
   have OL:=Hh oL;have RL:=Hh rL;have BL:=Hh bL;obtain ⟨va,vc,ev,-⟩:=oL.slice;clear R hK ek SR hin hl ho hg hnm oL rL bL eL hkC hc;unfold aB.sl at RC;simp only at *;generalize hq:cl.length=q at *;have HQ:=Hh hq;clear hq;generalize hLl:L.length=Ln at *;have HLl:=Hh hLl;subst ev;clear hLl;have CA:=fun W (hb:Below wr.heap.size wr W)=>IZ W cp (.slice ca q cc) cl q (by have:=RC.out.below hb;exact this) (by rw [HQ.out];exact GL.out) HQ.out;have CC:=Hh CA;clear CA;have hF:=lK;have hBN:=wK;have hn64:=HL.out;have hw2:=Hh (BL.size)
   go_wp2_with (first
    | (at_lookup;refine jo rfl _ _ rfl M rfl _ rfl WN _ LV ?_)
    | (go_at_call 73;refine (CC _ (af _ _)).mono ?_;rintro e w3 ⟨ua,uc,rfl,o3,b3⟩;have O3:=Hh o3;have B3:=Hh b3;clear o3 b3)
    | (at_builtin;refine Rw.Eg (K:=E3) underlying49 SY rfl (by omega) rfl _ _ rfl w2.heap.size _ L ?e0 ((OL.out.keep B3.out).alloc _) _ ⟨cn,cp,ua,uc,cl⟩ rfl ?d1 ?d2 ?d3 ?_))
   case e0=>rfl
   case d1 =>
    intro j u hu
    unfold E3 aB.sl at hu;simp only [HQ.out] at hu
    match j,hu with
    | 0,hu=>simp at hu;subst hu;go_simp
    | 1,hu=>simp at hu;subst hu;go_simp
    | 2,hu=>simp at hu;subst hu;go_simp
    | j+3,hu=>simp at hu
   case d2=>rw [HLl.out];have:=LL.out;omega
   case d3=>have:=B3.out.size;have:=hw2.out;simp;omega
   intro v' w4 o4 b4 f4
   have N2:Hid (xN w2 C v' (k+1) w4):=by
    have hs3:=B3.size;have hs2:=hw2.out;refine ⟨L ++ [⟨cn,cp,ua,uc,cl⟩],o4,TK _ rfl,fun c hc=>?_,((BL.trans (B3.mono hs2)).alloc (by omega) _).trans b4⟩
    rcases eC.1 hc with hc | hc
    ·exact Tf (((RL c hc).keep B3).alloc _) (by decide) f4
    ·obtain rfl:c=_:=dg.1 hc
     have o:Ow K4 w3 wr.heap.size 36 (⟨cn,cp,ua,uc,cl⟩:aB).sl cl:=by unfold aB.sl;rw [HQ.out];exact O3.out
     exact Tf ((o.low hs2).alloc _) (by decide) f4
   clear o4 b4 f4;go_wp2
   go_roundw
   case rel=>exact ⟨k+1,by omega,by go_num,N2⟩
   case measure=>simp [intOf];omega
  ·obtain rfl:k=n:=by omega
   have E:=Hh (fun (F:Nat->Prop) (hF:∀ k,F k->k < w.heap.size)=>acO (w:=w) (by rw [HN.out];exact R.out) HA.out B2.out.size F hF);have BR:Hid (Below w2.heap.size w2 wr):=by obtain ⟨_,_,_,_,b⟩:=R;exact b
   clear R;go_wp2
   go_ret
   exact ⟨_,rfl,E,aN B2 BR⟩
open Go.Extern.Stop Go.Stop Go.Extern
def flt (n e:Int):Value:=.agg #[.int .i64 n,.iface 25 (.int .i64 e)]
def fault (n e:Int):Value:=.iface 206 (flt n e)
theorem jh (v:Value) (w:World):(Extern.ReflectliteType.typeOf #[.iface 25 v]).run prog w = .ok (.iface 222 (.agg #[.pointer (some ⟨1,25,none⟩)])) w:=by kernel_rfl
theorem Oi (v:Value) (w:World):(Extern.ReflectliteType.typeOf #[.iface 206 v]).run prog w = .ok (.iface 222 (.agg #[.pointer (some ⟨1,206,none⟩)])) w:=by kernel_rfl
def Us : Array Value → Sem Value := Extern.ReflectliteType.method fun t => do Rtype.noPackHeld "Comparable" t; pure (.bool (← typeInfo t).comparable)
theorem pY (w:World):(Us #[.agg #[.pointer (some ⟨1,25,none⟩)]]).run prog w = .ok (.bool true) w:=by kernel_rfl
theorem jg (v : Value) (w : World) : (Go.method 477 222 v "Comparable").run Tryz.prog w = .ok (262, v) w := by kernel_rfl
theorem acC (v:Value) (xT:TypeId) (w:World):(Instr.typeAssert (.iface 206 v) xT 224 true).run prog w = .ok (.tuple #[.nilIface,.bool false]) w:=run_typeAssert_lacksB underlying224 (by kernel_rfl) (by kernel_rfl) v xT w
theorem Zs (v:Value) (xT:TypeId) (w:World):(Instr.typeAssert (.iface 25 v) xT 224 true).run prog w = .ok (.tuple #[.nilIface,.bool false]) w:=run_typeAssert_lacksB underlying224 (by kernel_rfl) (by kernel_rfl) v xT w
theorem xU (v:Value) (xT:TypeId) (w:World):(Instr.typeAssert (.iface 206 v) xT 227 true).run prog w = .ok (.tuple #[.iface 206 v,.bool true]) w:=run_typeAssert_hasB underlying227 (by kernel_rfl) v xT w
theorem Af (v:Value) (xT:TypeId) (w:World):(Instr.typeAssert (.iface 25 v) xT 227 true).run prog w = .ok (.tuple #[.nilIface,.bool false]) w:=run_typeAssert_lacksB underlying227 (by kernel_rfl) (by kernel_rfl) v xT w
theorem xw (v:Value) (xT:TypeId) (w:World):(Instr.typeAssert (.iface 25 v) xT 229 true).run prog w = .ok (.tuple #[.nilIface,.bool false]) w:=run_typeAssert_lacksB underlying229 (by kernel_rfl) (by kernel_rfl) v xT w
theorem qm (v : Value) (w : World) : (Go.method 477 206 v "Unwrap").run Tryz.prog w = .ok (259, v) w := by kernel_rfl
theorem zU (a b:Int) (w:World):(binOp .eql 107 (.iface 25 (.int .i64 a)) (.iface 25 (.int .i64 b))).run prog w = .ok (.bool (decide (a=b))) w:=by
 have:=Lib.run_eql_iface_int (P:=prog) w (t:=107) (tx:=25) (k:=.i64) (q:=.i64) a b underlying107 (by kernel_rfl) underlying25;rw [this]
 congr 2
theorem Oq (v u:Value) (w:World):(binOp .eql 107 (.iface 206 v) (.iface 25 u)).run prog w = .ok (.bool false) w:=run_eql_iface_types (P:=prog) _ _ v u underlying107 (by decide) w
theorem Li {a b:Bool} (h:a=b):Ending.returned (.bool a) = .returned (.bool b):=by rw [h]
theorem unwrap_any (w:World) (n:Int) (x:Value):Calls prog 259 #[.agg #[.int .i64 n,x]] w fun e w'=>e = .returned x/\Below w.heap.size w w':=by
 go_enter func259,ntmps259
 go_wp2
 go_ret
 exact ⟨rfl,(af w.heap.size w).alloc (am _) _⟩
theorem BH (n e:Int) (w:World):Calls prog 95 #[fault n e,.iface 25 (.int .i64 5),.bool true] w fun ev w'=>ev = .returned (.bool (decide (e=5)))/\Below w.heap.size w w':=by
 have nF:=acC;have nE:=Zs;have uF:=xU;have uE:=Af;have vE:=xw;have mU:=qm;have hty:=Oq;have heq:=zU;unfold fault flt
 by_cases h:e=5
 ·have hd:=bj h
  go_enter func95,ntmps95
  go_wp2;refine wp_loop_rounds 2 ?_;rw [rounds_succ]
  go_wp2_with (go_at_call 259;refine (unwrap_any _ _ _).mono ?_;rintro ev w1 ⟨rfl,b1⟩)
  rw [rounds_succ];go_wp2
  go_ret
  exact ⟨Li hd.symm,b1⟩
 ·have hd:=bh h
  go_enter func95,ntmps95
  go_wp2;refine wp_loop_rounds 2 ?_;rw [rounds_succ]
  go_wp2_with (go_at_call 259;refine (unwrap_any _ _ _).mono ?_;rintro ev w1 ⟨rfl,b1⟩)
  rw [rounds_succ];go_wp2
  go_ret
  exact ⟨Li hd.symm,b1⟩
theorem yX (n e:Int) (w:World):Calls prog 67 #[fault n e,.iface 25 (.int .i64 5)] w fun ev w'=>ev = .returned (.bool (decide (e=5)))/\Below w.heap.size w w':=by
 have h8:=@run_callFunc_extern prog 94 _ Extern.ReflectliteType.typeOf func94 (by kernel_rfl) (by kernel_rfl) (by kernel_rfl) (by kernel_rfl);have h32:=@run_callFunc_extern prog 262 _ Us func262 (by kernel_rfl) (by kernel_rfl) (by kernel_rfl) (by kernel_rfl);have tT:=jh;have cT:=pY;have mR:=jg;have L:=Hh (BH n e w);unfold fault flt at *
 go_enter func67,ntmps67
 go_wp2_with (go_at_call 95;refine L.mono ?_;rintro ev w1 ⟨rfl,b1⟩)
 go_ret
 exact ⟨rfl,b1⟩
def qj:Array Value->Sem Value:=fun args=>ReflectliteValue.unpack (args.getD 0 (.tuple #[]))
def Ej : Array Value → Sem Value := ReflectliteValue.methodAny (ReflectliteValue.valueError "reflectlite.Value.Type" 0) (fun t _ _ _ => ReflectliteType.toType t)
def zN : Array Value → Sem Value := ReflectliteValue.method (ReflectliteValue.valueError "reflectlite.Value.IsNil" 0) ReflectliteValue.isNil
def zy:Array Value->Sem Value:=ReflectliteType.abiMethod fun t=>do pure (.int .u8 (← Rtype.kind t))
def Fz:Array Value->Sem Value:=ReflectliteType.method ReflectliteType.elem
def ET : Array Value → Sem Value := ReflectliteType.relation "Implements" ReflectliteType.implements_
def xV : Array Value → Sem Value := ReflectliteType.relation "AssignableTo" ReflectliteType.assignableTo
def zP : Array Value → Sem Value := ReflectliteValue.method (ReflectliteValue.valueError "reflectlite.Value.Elem" 0) ReflectliteValue.elem
theorem UK (t:Addr) (w:World):(qj #[.iface 157 (.pointer (some t))]).run prog w = .ok (.agg #[.pointer (some ⟨1,157,none⟩),.pointer (some ⟨w.heap.size,0,none⟩),.int .u64 150]) (w.alloc (.cells #[.pointer (some t)] 157)):=by kernel_rfl
theorem Qm (e:Int) (w:World):(qj #[.iface 25 (.int .i64 e)]).run prog w = .ok (.agg #[.pointer (some ⟨1,25,none⟩),.pointer (some ⟨w.heap.size,0,none⟩),.int .u64 130]) (w.alloc (.cells #[.int .i64 e] 25)):=by kernel_rfl
theorem Qv (a:Addr) (w:World):(Ej #[.agg #[.pointer (some ⟨1,157,none⟩),.pointer (some a),.int .u64 150]]).run prog w = .ok (.iface 222 (.agg #[.pointer (some ⟨1,157,none⟩)])) w:=by kernel_rfl
theorem Aw (h : Value) (w : World) : (Go.method 477 222 (.agg #[h]) "Kind").run Tryz.prog w = .ok (244, h) w := by kernel_rfl
theorem AY (h : Value) (w : World) : (Go.method 477 222 (.agg #[h]) "Elem").run Tryz.prog w = .ok (263, .agg #[h]) w := by kernel_rfl
theorem Ng (h : Value) (w : World) : (Go.method 477 222 (.agg #[h]) "Implements").run Tryz.prog w = .ok (264, .agg #[h]) w := by kernel_rfl
theorem OG (h : Value) (w : World) : (Go.method 477 222 (.agg #[h]) "AssignableTo").run Tryz.prog w = .ok (261, .agg #[h]) w := by kernel_rfl
theorem GH (w:World):(zy #[.pointer (some ⟨1,157,none⟩)]).run prog w = .ok (.int .u8 22) w:=by kernel_rfl
theorem Dz (w:World):(zy #[.pointer (some ⟨1,25,none⟩)]).run prog w = .ok (.int .u8 2) w:=by kernel_rfl
theorem Ez (w:World):(Fz #[.agg #[.pointer (some ⟨1,157,none⟩)]]).run prog w = .ok (.iface 222 (.agg #[.pointer (some ⟨1,25,none⟩)])) w:=by kernel_rfl
theorem Vi (w:World):(ET #[.agg #[.pointer (some ⟨1,25,none⟩)],.iface 222 (.agg #[.pointer (some ⟨1,107,none⟩)])]).run prog w = .ok (.bool true) w:=by kernel_rfl
theorem Vq (w:World):(xV #[.agg #[.pointer (some ⟨1,25,none⟩)],.iface 222 (.agg #[.pointer (some ⟨1,25,none⟩)])]).run prog w = .ok (.bool true) w:=by kernel_rfl
theorem acd (w:World):(xV #[.agg #[.pointer (some ⟨1,206,none⟩)],.iface 222 (.agg #[.pointer (some ⟨1,25,none⟩)])]).run prog w = .ok (.bool false) w:=by kernel_rfl
theorem abK (v:Value) (xT:TypeId) (w:World):(Instr.typeAssert (.iface 206 v) xT 236 true).run prog w = .ok (.tuple #[.nilIface,.bool false]) w:=run_typeAssert_lacksB underlying236 (by kernel_rfl) (by kernel_rfl) v xT w
theorem rlm (z:Sem Value) (f:TypeId->Addr->Nat->Nat->Sem Value) (v:Value) :
 ReflectliteValue.method z f #[v]=(do match ← ReflectliteValue.parts v with | none=>z | some (t,a,fl)=>f t a fl (fl % 32)):=rfl
theorem U7 (a:Addr) (w:World):(ReflectliteValue.parts (.agg #[.pointer (some ⟨1,157,none⟩),.pointer (some a),.int .u64 150])).run prog w = .ok (some (157,a,150)) w:=by kernel_rfl
theorem QC (a p:Addr) (W:World) (ha:W.cell? a=some (.pointer (some p))):(zN #[.agg #[.pointer (some ⟨1,157,none⟩),.pointer (some a),.int .u64 150]]).run prog W = .ok (.bool false) W:=by
 unfold zN;rw [rlm];simp only [Sem.run_bind,U7,Result.andThen]
 simp [ReflectliteValue.isNil,loadVar,isAgg,underlying,underlying157,ha,Result.andThen]
theorem Xb (w:World):(Rtype.elem? 157).run prog w = .ok (some 25) w:=by kernel_rfl
theorem mkE (p:Addr) (w:World):(ReflectliteValue.mk 25 p ReflectliteValue.flagAddr).run prog w = .ok (.agg #[.pointer (some ⟨1,25,none⟩),.pointer (some p),.int .u64 386]) w:=by kernel_rfl
theorem Uf (a p:Addr) (W:World) (ha:W.cell? a=some (.pointer (some p))):(zP #[.agg #[.pointer (some ⟨1,157,none⟩),.pointer (some a),.int .u64 150]]).run prog W = .ok (.agg #[.pointer (some ⟨1,25,none⟩),.pointer (some p),.int .u64 386]) W:=by
 unfold zP;rw [rlm];simp only [Sem.run_bind,U7,Result.andThen]
 simp [ReflectliteValue.elem,loadVar,isAgg,underlying,underlying157,ha,Result.andThen,Xb,mkE]
theorem rls (v x:Value):ReflectliteValue.set #[v,x]=(do
 let (some (dst,a,fl),some (src,b,_)):=(← ReflectliteValue.parts v,← ReflectliteValue.parts x)
  | unsupported (.noEntry "extern/(internal/reflectlite.Value).Set.zeroValue")
 if fl / ReflectliteValue.flagAddr % 2 == 0 then unsupported (.noEntry "extern/(internal/reflectlite.Value).Set.unaddressable")
 let val ← loadVar src b
 if ← Rtype.directlyAssignable dst src then storeVar dst a val
 else if ← Rtype.implements dst src then
  if (← Rtype.kind src) == 20 then
   match val with
   | .nilIface => unsupported (.noEntry "extern/reflectlite: a nil value of one interface type handed on as a value of another")
   | _=>storeVar dst a val
  else storeVar dst a (.iface src val)
 else panicString ("reflectlite.Set: value of type " ++ (← Rtype.spelt src) ++ " is not assignable to type " ++ (← Rtype.spelt dst))
 pure (.tuple #[])):=rfl
theorem Y9 (a:Addr) (w:World):(ReflectliteValue.parts (.agg #[.pointer (some ⟨1,25,none⟩),.pointer (some a),.int .u64 386])).run prog w = .ok (some (25,a,386)) w:=by kernel_rfl
theorem aa4 (a:Addr) (w:World):(ReflectliteValue.parts (.agg #[.pointer (some ⟨1,25,none⟩),.pointer (some a),.int .u64 130])).run prog w = .ok (some (25,a,130)) w:=by kernel_rfl
theorem WC (w:World):(Rtype.directlyAssignable 25 25).run prog w = .ok true w:=by kernel_rfl
theorem QS (ta b:Addr) (e:Int) (old:Value) (W:World) (hb:W.cell? b=some (.int .i64 e)) (ht:W.cell? ta=some old) (hf:W.frozen? ta=false) :
 (ReflectliteValue.set #[.agg #[.pointer (some ⟨1,25,none⟩),.pointer (some ta),.int .u64 386],.agg #[.pointer (some ⟨1,25,none⟩),.pointer (some b),.int .u64 130]]).run prog W
   = .ok (.tuple #[]) (W.setCell ta (.int .i64 e)):=by
 rw [rls];simp only [Sem.run_bind,Y9,aa4,Result.andThen]
 simp [ReflectliteValue.flagAddr,loadVar,isAgg,underlying,underlying25,hb,Result.andThen,WC,storeVar,Value.cells,storeCells,Addr.add]
 rw [run_store prog W ta _ _ (by rfl)]
 simp [ht,hf]
def Glob (w:World):Prop:=w.cell? ⟨0,0,none⟩=some (.iface 222 (.agg #[.pointer (some ⟨1,107,none⟩)]))
theorem Glob.below (h:Glob w) (b:Below w.heap.size w w'):Glob w':=d9 b h
theorem Glob.only {G:Nat->Prop} (h:Glob w) (hn:¬ G 0) (o:Only G w w'):Glob w':=o.cell h hn
def gJ (w:World) (tb:Nat) (e:Int) (ev:Ending) (w':World):Prop:=ev = .returned (.bool true)/\w'.heap[tb]? = some (.cells #[.int .i64 e] 25 (0,0))/\Only (fun k=>k=tb) w w'
theorem Ch (n e:Int) (tb b:Nat) (w:World) (hb:w.cell? ⟨b,0,none⟩=some (.pointer (some ⟨tb,0,none⟩))) (ht:w.heap[tb]? = some (.cells #[.int .i64 0] 25 (0,0))) :
 Calls prog 104 #[fault n e,.iface 157 (.pointer (some ⟨tb,0,none⟩)),.agg #[.pointer (some ⟨1,157,none⟩),.pointer (some ⟨b,0,none⟩),.int .u64 150],.iface 222 (.agg #[.pointer (some ⟨1,25,none⟩)])] w (gJ w tb e):=by
 have h42:=@run_callFunc_extern prog 94 _ Extern.ReflectliteType.typeOf func94 (by kernel_rfl) (by kernel_rfl) (by kernel_rfl) (by kernel_rfl);have h102:=@run_callFunc_extern prog 261 _ xV func261 (by kernel_rfl) (by kernel_rfl) (by kernel_rfl) (by kernel_rfl);have h60:=@run_callFunc_extern prog 125 _ zP func125 (by kernel_rfl) (by kernel_rfl) (by kernel_rfl) (by kernel_rfl);have h50:=@run_callFunc_extern prog 101 _ qj func101 (by kernel_rfl) (by kernel_rfl) (by kernel_rfl) (by kernel_rfl);have h61:=@run_callFunc_extern prog 126 _ ReflectliteValue.set func126 (by kernel_rfl) (by kernel_rfl) (by kernel_rfl) (by kernel_rfl);have tF:=Oi;have tE:=jh;have mA:=OG;have aF:=acd;have aE:=Vq;have nA:=abK;have uF:=xU;have mU:=qm;have vE:=Qm;have HB:=Hh hb;have HT:=Hh ht;have B0:=Hh ((af w.heap.size w).alloc (am _) (.cells #[.pointer (some ⟨1,157,none⟩),.pointer (some ⟨b,0,none⟩),.int .u64 150] 196));clear hb ht;unfold fault flt
 go_enter func104,ntmps104
 go_wp2;refine wp_loop_rounds 2 ?_;rw [rounds_succ]
 go_wp2_with (go_at_call 259;refine (unwrap_any _ _ _).mono ?_;rintro ev w1 ⟨rfl,b1⟩)
 have B1:=aN B0 b1;have G0:=(b1.block _ (by simp)).trans (bi w _);obtain ⟨e0,e1,e2⟩:=Dx G0;have hbl:=cd _ _ HB;have el:=Uf ⟨b,0,none⟩ ⟨tb,0,none⟩ w1 ((B1.cell hbl).trans HB);have htl:=bp HT;have T1:=(B1.block tb htl).trans HT;have T2:=(cD w1 (.cells #[.int .i64 e] 25) tb (by have:=B1.out.size;omega)).trans T1;have st:=QS ⟨tb,0,none⟩ ⟨w1.heap.size,0,none⟩ e (.int .i64 0) (w1.alloc (.cells #[.int .i64 e] 25)) (by simp) (ah T2 0) (aj T2 0);have RES:Hid (gJ w tb e (.returned (.bool true)) ((w1.alloc (.cells #[.int .i64 e] 25)).setCell ⟨tb,0,none⟩ (.int .i64 e))):=by
  refine ⟨rfl,?_,?_⟩
  ·have:=Rw.heap_setCell_same (j:=0) T2 (.int .i64 e)
   rw [this]
   simp
  ·exact (Only.of_below (B1.alloc B1.size _)).trans (Only.set (fun k=>k=tb) _ (a:=⟨tb,0,none⟩) rfl _) fun _ _ g=>g
 clear b1 G0 T1 T2 HB HT B0 B1 hbl htl;rw [rounds_succ];go_wp2
 go_ret
 exact RES
theorem aaz (n e:Int) (tb:Nat) (w:World) (hg:Glob w) (ht:w.heap[tb]? = some (.cells #[.int .i64 0] 25 (0,0))) :
 Calls prog 75 #[fault n e,.iface 157 (.pointer (some ⟨tb,0,none⟩))] w (gJ w tb e):=by
 have h50:=@run_callFunc_extern prog 101 _ qj func101 (by kernel_rfl) (by kernel_rfl) (by kernel_rfl) (by kernel_rfl);have h51:=@run_callFunc_extern prog 102 _ Ej func102 (by kernel_rfl) (by kernel_rfl) (by kernel_rfl) (by kernel_rfl);have h52:=@run_callFunc_extern prog 103 _ zN func103 (by kernel_rfl) (by kernel_rfl) (by kernel_rfl) (by kernel_rfl);have h95:=@run_callFunc_extern prog 244 _ zy func244 (by kernel_rfl) (by kernel_rfl) (by kernel_rfl) (by kernel_rfl);have h104:=@run_callFunc_extern prog 263 _ Fz func263 (by kernel_rfl) (by kernel_rfl) (by kernel_rfl) (by kernel_rfl);have h105:=@run_callFunc_extern prog 264 _ ET func264 (by kernel_rfl) (by kernel_rfl) (by kernel_rfl) (by kernel_rfl);have f6:=UK;have f7:=Qv;have mK:=Aw;have mE:=AY;have mI:=Ng;have kP:=GH;have kE:=Dz;have eP:=Ez;have iE:=Vi;have hlt:=Nat.lt_of_le_of_lt (cx _) (cd _ _ hg);have htl:=bp ht;have B2:Below w.heap.size w ((w.alloc (.cells #[.pointer (some ⟨tb,0,none⟩)] 157)).alloc (.cells #[.pointer (some ⟨1,157,none⟩),.pointer (some ⟨w.heap.size,0,none⟩),.int .u64 150] 196)):=((af w.heap.size w).alloc (am _) _).alloc (by simp) _;have n8:=QC ⟨w.heap.size,0,none⟩ ⟨tb,0,none⟩ ((w.alloc (.cells #[.pointer (some ⟨tb,0,none⟩)] 157)).alloc (.cells #[.pointer (some ⟨1,157,none⟩),.pointer (some ⟨w.heap.size,0,none⟩),.int .u64 150] 196)) (by simp);have hg2:((w.alloc (.cells #[.pointer (some ⟨tb,0,none⟩)] 157)).alloc (.cells #[.pointer (some ⟨1,157,none⟩),.pointer (some ⟨w.heap.size,0,none⟩),.int .u64 150] 196)).cell? ⟨0,0,none⟩=some (.iface 222 (.agg #[.pointer (some ⟨1,107,none⟩)])):=hg.below B2;have AL:=Hh (Ch n e tb w.heap.size ((w.alloc (.cells #[.pointer (some ⟨tb,0,none⟩)] 157)).alloc (.cells #[.pointer (some ⟨1,157,none⟩),.pointer (some ⟨w.heap.size,0,none⟩),.int .u64 150] 196)) (by simp) ((B2.block tb htl).trans ht));have BB:=Hh B2;have HTL:=Hh htl;clear hg ht B2 htl;unfold fault flt at *
 go_enter func75,ntmps75
 go_wp2_with (go_at_call 104;refine AL.mono ?_;rintro ev w1 ⟨rfl,r1,o1⟩)
 go_ret
 exact ⟨rfl,r1,(Only.of_below BB).trans o1 fun _ _ g=>g⟩
theorem yF (n e:Int) (w:World) (hg:Glob w):Calls prog 80 #[fault n e] w fun ev w'=>ev = .returned (.int .i64 e)/\Below w.heap.size w w':=by
 have B0:=Hh ((af w.heap.size w).alloc (am _) (.cells #[.int .i64 0] 25));have AS:=Hh (aaz n e w.heap.size (w.alloc (.cells #[.int .i64 0] 25)) (hg.below B0) (bi w _));clear hg;unfold fault flt at *
 go_enter func80,ntmps80
 go_wp2_with fail;refine AS.mono ?_;rintro ev w1 ⟨rfl,r1,o1⟩;have c1:=Fl.rc r1 0;have BB:=Hh (B0.trans (o1.below (by simp) fun k hk=>by rw [hk];exact am _));clear r1 o1 B0 AS;go_wp2
 go_ret
 exact ⟨rfl,BB⟩
end Fs
