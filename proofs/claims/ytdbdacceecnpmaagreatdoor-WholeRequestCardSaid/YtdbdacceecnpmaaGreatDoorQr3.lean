import Derived.Test.YtdbdacceecnpmaaGreatDoorQr2
import Derived.WalkSpells
import Derived.Test.YtdbdacceecnpmaaGreatDoorShelfK
import Derived.Stop.Asserts
import Derived.Stop.IfaceNil
import Derived.RowKitTokens
import Derived.Lib.IfaceEq
set_option maxRecDepth 100000
set_option maxHeartbeats 4000000
namespace Go.Proofs.YtdbdacceecnpmaaGreatDoor
open Go.Proofs.Tryz Go.RowKit
open Fl (K4 R4 arr4 file goodF goodFB okL okR rat rec4 row_cell row_frozen z4)
open Fs (Abs Fil OkA Srt addA addE dA dD dE dV gB gV key look_at look_none look_some map_look put_set sA sB)
open Rw (At Ow Rd)
namespace Pa
open Ro (E5 z5 okE eat mayP eat_get)
open Ck (LL lat sN sE tE)
open Ua (bit frm te tp tb upd)
section
variable {h:Hr} {t:List E5} {V:Int->Int->Bool} {A:Abs}
def rcv1 (h:Hr) (l:List E5) (f r:Int) (A:Abs):Abs:=if (gB A f r && allH h l)=true then sA A f r (mix h l (gV A f r)) else A
variable {f r o d:Int}
theorem rcv1_next (hA:OkA A) (h0:r≠0) (hy:okY (grp t f r)):rcv1 h (grp t f r) f r (recV h t V A)=recV h t (also V f r) A:=by
 unfold rcv1;rw [rec_gB]
 by_cases hg:gB A f r=true
 ·by_cases ha:allH h (grp t f r)=true
  ·rw [hg,ha,show (true && true)=true from rfl,aj rfl,← rec_set hA hg h0 hy]
   congr 1
   unfold newV;rw [aj ha]
  ·rw [ah (by simp [ha])]
   unfold recV;refine List.map_congr_left fun e _=>?_;unfold recF
   congr 2
   refine bZ fun q=>?_;simp only [List.getElem?_mapIdx]
   by_cases hx:e.1=f/\(q:Int)=r
   ·obtain ⟨h1,h2⟩:=hx
    rw [h1,h2];have:∀ v,newV h (grp t f r) v=v:=fun v=>by unfold newV;rw [ah ha]
    simp only [this,ite_self]
   ·simp [also,hx]
 ·rw [ah (by simp [hg]),rec_out hA (by simpa using hg)]
def seen (t:List E5) (j:Nat) (n k:Int):Bool:=(t.take j).any (mt n k)
variable {j:Nat}
theorem take_eat (hj:j < t.length):t.take (j+1)=t.take j ++ [eat t j]:=by rw [bG,eat_get hj];rfl
def ex1 (s:Abs×Int) (x:E5):Abs×Int:=if x.1=3 then (dA s.1 2 x.2.2.1 x.2.2.2.1 z4,dD s.1 2 x.2.2.1 x.2.2.2.1 s.2) else s
def exU (t:List E5) (s:Abs×Int) (j:Nat):Abs×Int:=(t.take j).foldl ex1 s
def apS (h:Hr) (t:List E5) (s:Abs×Int):Abs×Int:=t.foldl ex1 (recA h t s.1,s.2)
theorem exU_zero (s:Abs×Int):exU t s 0=s:=rfl
theorem exU_next (s:Abs×Int) (hj:j < t.length):exU t s (j+1)=ex1 (exU t s j) (eat t j):=by unfold exU;rw [take_eat hj,List.foldl_append];rfl
theorem exU_yes (s:Abs×Int) (hj:j < t.length) (h3:(eat t j).1=3):exU t s (j+1)=(dA (exU t s j).1 2 (eat t j).2.2.1 (eat t j).2.2.2.1 z4,dD (exU t s j).1 2 (eat t j).2.2.1 (eat t j).2.2.2.1 (exU t s j).2):=by
 rw [exU_next s hj];unfold ex1;rw [aj h3]
theorem exU_no (s:Abs×Int) (hj:j < t.length) (h3:(eat t j).1≠3):exU t s (j+1)=exU t s j:=by
 rw [exU_next s hj];unfold ex1;rw [ah h3]
theorem exU_end (h:Hr) (s:Abs×Int):exU t (recA h t s.1,s.2) t.length=apS h t s:=by unfold exU apS;rw [br]
theorem dD_le : d<=dD A o f r d/\dD A o f r d<=d+1:=by unfold dD;split <;> omega
theorem exU_d (s:Abs×Int):∀ j,s.2<=(exU t s j).2/\(exU t s j).2<=s.2+j
 | 0=>by rw [exU_zero];omega
 | j+1=>by
   have ih:=exU_d s j
   by_cases hj:j < t.length
   ·rw [exU_next s hj]
    unfold ex1
    split
    ·have:=dD_le (A:=(exU t s j).1) (o:=2) (f:=(eat t j).2.2.1) (r:=(eat t j).2.2.2.1) (d:=(exU t s j).2)
     simp only
     omega
    ·omega
   ·have:exU t s (j+1)=exU t s j:=by unfold exU;rw [bA (by omega),bA (by omega)]
    rw [this]
    omega
end
def tn (F:Nat->Bool) (m:Int) (i:Nat):Bool:=if 1<=i/\i < 11 then F i != bit m i else F i
abbrev S2:=Int×Int
def z2:S2:=(0,0)
def pat (P:List S2) (i:Nat):S2:=P.getD i z2
def sq1 (s:Int) (F:Nat->Bool) (x:S2):Nat->Bool:=if x.1=s then tn F x.2 else F
def sq (P:List S2) (s:Int) (F:Nat->Bool) (j:Nat):Nat->Bool:=(P.take j).foldl (sq1 s) F
variable {j i:Nat}
theorem sq_next (P:List S2) (s:Int) (F:Nat->Bool) (hj:j < P.length):sq P s F (j+1)=sq1 s (sq P s F j) (pat P j):=by
 unfold sq;have:P.take (j+1)=P.take j ++ [pat P j]:=by
  rw [bG,ai hj];unfold pat;rw [af,ai hj]
  rfl
 rw [this,List.foldl_append]
 rfl
theorem sq_yes (P:List S2) (s:Int) (F:Nat->Bool) (hj:j < P.length) (h:(pat P j).1=s):sq P s F (j+1)=tn (sq P s F j) (pat P j).2:=by rw [sq_next P s F hj];unfold sq1;rw [aj h]
theorem sq_no (P:List S2) (s:Int) (F:Nat->Bool) (hj:j < P.length) (h:(pat P j).1≠s):sq P s F (j+1)=sq P s F j:=by rw [sq_next P s F hj];unfold sq1;rw [ah h]
theorem and_2046_all:∀ r:Fin 2048,r.val &&& 2046=r.val / 2 * 2:=by decide +kernel
theorem and_2046 (x:Int):bits BinOp.and .i64 x 2046=x / 2 % 1024 * 2:=by
 have h:=Ua.and_i64 x 2046 (by decide);have h2:((x % 18446744073709551616).toNat &&& 2046:Nat)=(x % 18446744073709551616).toNat % 2048 / 2 * 2:=by
  have a:=and_2046_all ⟨(x % 18446744073709551616).toNat % 2048,Nat.mod_lt _ (by omega)⟩;simp only at a;rw [← a];have e:(x % 18446744073709551616).toNat % 2048=(x % 18446744073709551616).toNat &&& (2 ^ 11 - 1):=by rw [Nat.and_two_pow_sub_one_eq_mod]
  rw [e,Nat.and_assoc]
  rfl
 rw [show ((2046:Int))=((2046:Nat):Int) from rfl,h,h2]
 omega
theorem bit_2046 (x:Int) (hi:i < 11):bit (x / 2 % 1024 * 2) i=(decide (1<=i) && bit x i):=by
 unfold bit
 rcases cM i 1 with h | h
 ·obtain rfl:i=0:=by omega
  simp
 ·rw [an h,Bool.true_and,bf]
  obtain rfl | rfl | rfl | rfl | rfl | rfl | rfl | rfl | rfl | rfl:i=1\/i=2\/i=3\/i=4\/i=5\/i=6\/i=7\/i=8\/i=9\/i=10:=by omega
  all_goals simp only [Int.reducePow];omega
theorem tn_code (F:Nat->Bool) (m:Int) (i:Nat) (hi:i < 11):Ua.turn F (bits BinOp.and .i64 m 2046) 11 i=tn F m i:=by
 rw [and_2046];unfold Ua.turn tn;rw [aj hi,bit_2046 m hi]
 by_cases h:1<=i
 ·simp [h,hi]
 ·simp [h]
abbrev Sts:=List (Abs×Int)
def sat (S:Sts) (n:Int):Abs×Int:=S.getD n.toNat ([],0)
def vat (V:List Bool) (n:Int):Bool:=V.getD n.toNat false
def snB (S:Sts) (T:LL) (V:List Bool) (s:Int):Bool:=decide (0<=sN s T) && vat V (sN s T) && gB (sat S (sN s T)).1 (sE s T).2.2.1 (sE s T).2.2.2.1
def snX (S:Sts) (T:LL) (s:Int):Int:=rb (gV (sat S (sN s T)).1 (sE s T).2.2.1 (sE s T).2.2.2.1) (sE s T).2.2.2.2
def sbN (S:Sts) (T:LL) (V:List Bool) (s:Int):Int:=if snB S T V s=true then sN s T else -1
def sbX (S:Sts) (T:LL) (V:List Bool) (s:Int):Int:=if snB S T V s=true then snX S T s else 0
def lowF (_:Nat):Bool:=false
def frF (S:Sts) (T:LL) (V:List Bool) (P:List S2) (s:Int):Nat->Bool:=if snB S T V s=true then sq P s (frm (snX S T s) false) P.length else lowF
def hrB (S:Sts) (T:LL) (V:List Bool) (P:List S2) (s:Int):Bool:=snB S T V s && decide (te (frF S T V P s)=0) && !tp (frF S T V P s)
def hrV (S:Sts) (T:LL) (V:List Bool) (P:List S2) (s:Int):Int:=if hrB S T V P s=true then tb (frF S T V P s) else 0
def hr (S:Sts) (T:LL) (V:List Bool) (P:List S2):Hr:=fun s=>if 1<=s/\s<=16/\hrB S T V P s=true then some (hrV S T V P s) else none
theorem tb_byt (F:Nat->Bool):byt (tb F):=by
 unfold tb byt
 split
 ·omega
 ·have:=Ua.val_lt F 8
  omega
theorem hrV_byt (S:Sts) (T:LL) (V:List Bool) (P:List S2) (s:Int):byt (hrV S T V P s):=by
 unfold hrV
 split
 ·exact tb_byt _
 ·unfold byt;omega
theorem hr_ok (S:Sts) (T:LL) (V:List Bool) (P:List S2):okH (hr S T V P):=fun n y h=>by
 unfold hr at h
 split at h
 ·injection h with h;subst h;exact hrV_byt S T V P n
 ·cases h
def rdE (S:Sts) (T:LL) (V:List Bool):Int:=if 1<=S.length/\S.length<=32/\T.length=S.length/\V.length=S.length then tE T else 1
def rdS (S:Sts) (T:LL) (V:List Bool) (h:Hr):Sts:=(List.range S.length).map fun (i:Nat)=>if vat V i=true then apS h (lat T i) (sat S i) else sat S i
theorem rdS_len (S:Sts) (T:LL) (V:List Bool) (h:Hr):(rdS S T V h).length=S.length:=by simp [rdS]
theorem rdS_at (S:Sts) (T:LL) (V:List Bool) (h:Hr) (hi:i < S.length):sat (rdS S T V h) i=if vat V i=true then apS h (lat T i) (sat S i) else sat S i:=by
 show (rdS S T V h).getD ((i:Int)).toNat _=_
 rw [a7,af];unfold rdS;rw [a9,List.getElem?_range hi]
 rfl
end Pa
namespace Fs
open Go.Maps
open Fl (doE newR)
structure Ent where
 n:Int
 p:Int
 a:Option Addr
 cap:Nat
 l:List R4
def Ent.sl (c:Ent):Value:=.slice c.a c.l.length c.cap
def Ent.file (c:Ent):Value:=Fl.file c.p c.sl
def Ent.abs (c:Ent):Fil:=(c.n,c.p,c.l)
def E3:Rw.Kind Ent:=⟨fun c=>[.int .i64 c.n,.int .i64 c.p,c.sl],3,by decide,fun _=>rfl,fun _ u h=>by simp [Ent.sl] at h;rcases h with rfl | rfl | rfl <;> rfl,⟨0,0,none,0,[]⟩⟩
theorem abs_key (c:Ent):key c.abs=c.n:=rfl
structure Only (G:Nat->Prop) (w w':World):Prop where
 os:w'.os=w.os
 tape:w'.tape=w.tape
 output:w'.output=w.output
 size:w.heap.size<=w'.heap.size
 block:∀ k,k < w.heap.size->¬ G k->w'.heap[k]? = w.heap[k]?
def Fx (G:Nat->Prop) (w w':World) (k:Nat):Prop:=G k\/(w.heap.size<=k/\k < w'.heap.size)
section
variable {G:Nat->Prop} {w w' w'':World}
theorem Only.refl (G:Nat->Prop) (w:World):Only G w w:=⟨rfl,rfl,rfl,ac _,fun _ _ _=>rfl⟩
theorem Only.of_below (h:Below w.heap.size w w'):Only G w w':=⟨h.os,h.tape,h.output,h.size,fun k hk _=>h.block k hk⟩
theorem Only.mono {G':Nat->Prop} (h:Only G w w') (hg:∀ k,k < w.heap.size->G k->G' k):Only G' w w':=⟨h.os,h.tape,h.output,h.size,fun k hk hn=>h.block k hk fun g=>hn (hg k hk g)⟩
theorem Only.trans {G':Nat->Prop} (h:Only G w w') (k:Only G' w' w'') (hg:∀ k,k < w.heap.size->G' k->G k):Only G w w'' :=
 ⟨k.os.trans h.os,k.tape.trans h.tape,k.output.trans h.output,aX h.size k.size,fun i hi hn=>(k.block i (aV hi h.size) fun g=>hn (hg i hi g)).trans (h.block i hi hn)⟩
theorem Only.then (h:Only G w w') (b:Below w'.heap.size w' w''):Only G w w'':=h.trans (Only.of_below (G:=fun _=>False) b) fun _ _ g=>g.elim
theorem Only.set (G:Nat->Prop) (w:World) {a:Addr} (ha:G a.block) (u:Value):Only G w (w.setCell a u) :=
 ⟨rfl,rfl,rfl,by simp [World.setCell],fun k _ hn=>aH w a u k fun e=>hn (e ▸ ha)⟩
variable {b B k:Nat}
theorem Only.grown (hb:G b) (h:w.grownBy w' (some b)):Only G w w':=⟨h.os,h.tape,h.output,h.size,fun k hk hn=>h.block k hk fun e=>hn (by injection e with e;exact e ▸ hb)⟩
theorem Only.below (h:Only G w w') (hB:B<=w.heap.size) (hG:∀ k,G k->B<=k):Below B w w' :=
 ⟨h.os,h.tape,h.output,h.size,fun k hk=>h.block k (by omega) fun g=>by have:=hG k g;omega⟩
theorem Only.cell (h:Only G w w') {a:Addr} {v:Value} (hc:w.cell? a=some v) (hn:¬ G a.block):w'.cell? a=some v :=
 (World.cell?_of_block (h.block a.block (aC _ _ hc) hn)).trans hc
theorem Fx.of (h:G k):Fx G w w' k:=.inl h
theorem Fx.not (h:¬ G k) (hk:k < w.heap.size):¬ Fx G w w' k:=by rintro (g | ⟨g,_⟩);exact h g;omega
theorem Fx.low (h:∀ k,G k->k < w.heap.size) (hs:w.heap.size<=w'.heap.size):∀ k,Fx G w w' k->k < w'.heap.size:=by
 rintro k (g | ⟨_,g⟩)
 ·have:=h k g;omega
 ·exact g
end
section
variable {α:Type} {K:Rw.Kind α} {G:Nat->Prop} {w w':World} {v:Value} {l:List α}
theorem rd_only (h:Rd K w v l) (hn:0 < l.length->∀ k,v.ownBlock=some k->¬ G k) (ho:Only G w w'):Rd K w' v l:=by
 obtain ⟨a,cap,rfl,h1,h2,h3⟩:=h;refine ⟨a,cap,rfl,h1,h2,fun h0=>?_⟩;obtain ⟨b,off,rfl,hA⟩:=h3 h0;exact ⟨b,off,rfl,fun i hi j u hu=>ho.cell (hA i hi j u hu) (hn h0 b rfl)⟩
theorem rd_low (h:Rd K w v l) (h0:0 < l.length):∀ k,v.ownBlock=some k->k < w.heap.size:=by
 obtain ⟨a,cap,rfl,h1,h2,h3⟩:=h;obtain ⟨b,off,rfl,hA⟩:=h3 h0
 intro k hk
 obtain rfl:b=k:=by simpa [Value.ownBlock] using hk
 obtain ⟨j,hj⟩:∃ u,(K.enc (l.getD 0 K.dft))[0]? = some u:=⟨_,ai (by rw [K.len];exact K.pos)⟩;exact aC _ _ (hA 0 h0 0 _ hj)
theorem rd_fx (h:Rd K w v l) (hn:0 < l.length->∀ k,v.ownBlock=some k->¬ G k):0 < l.length->∀ k,v.ownBlock=some k->¬ Fx G w w' k :=
 fun h0 k hk=>Fx.not (hn h0 k hk) (rd_low h h0 k hk)
variable {B E:Nat}
theorem ow_only (h:Ow K w B E v l) (hn:∀ k,v.ownBlock=some k->¬ G k) (ho:Only G w w'):Ow K w' B E v l:=by
 obtain ⟨h1,h2⟩:=h;refine ⟨h1,?_⟩
 rcases h2 with h2 | ⟨g,cap,cur,rfl,hB,hh,r⟩
 ·exact .inl h2
 ·exact .inr ⟨g,cap,cur,rfl,hB,(ho.block g (ay hh) (hn g rfl)).trans hh,r⟩
theorem ow_new (h:Ow K w B E v l):∀ k,v.ownBlock=some k->B<=k/\k < w.heap.size:=fun k hk=>aU h k hk
end
def Rh (v:Value):Option (DataW Value×List MemPlace):=some (.held v,[])
def ent (c:Ent):Lit×DataW Value:=(.int .i64 c.n,.held c.file)
def dat (C:List Ent):DataW Value:=.map (C.map ent)
theorem law:Keyed prog 3:=int_keyed underlying3
theorem zeroF (w:World):(zeroValue 83).run prog w = .ok (file 0 (.slice none 0 0)) w:=by kernel_rfl
def Wf (n:Int):Prop:=(Lit.int .i64 n).wf=true
variable {n:Int}
theorem keyI (h:Wf n):keyOf prog 3 (.int .i64 n)=some (.int .i64 n):=keyOf_int_mk underlying3 h
theorem insert_ent (c:Ent):∀ l:List Ent,DataW.insert (ent c) (l.map ent)=(ins Ent.n c l).map ent
 | []=>rfl
 | y :: r=>by
   simp only [dg,DataW.insert,ins,ent,Lit.before,aZ]
   split
   ·rfl
   ·have:=insert_ent c r
    simp only [ent] at this;rw [this]
    rfl
theorem filter_ent (c:Ent) (l:List Ent):(l.map ent).filter (fun p=>!p.1.sameKey (ent c).1)=(l.filter fun y=>decide (¬ y.n=c.n)).map ent:=by
 rw [List.filter_map]
 congr 1
 exact bF (fun q=>List.filter q l) (funext fun x=>by simp [ent,Lit.sameKey])
theorem dat_put (c:Ent) (l:List Ent):(dat l).put (.int .i64 c.n) (.held c.file)=dat (put Ent.n c l):=by
 unfold dat DataW.put put;simp only;rw [← insert_ent,← filter_ent]
 rfl
theorem find_ent (n:Int):∀ l:List Ent,(l.map ent).find? (fun p=>p.1.sameKey (.int .i64 n))=(look Ent.n n l).map ent:=fun l=>by
 unfold look;rw [List.find?_map]
 congr 1
 exact bF (fun q=>List.find? q l) (funext fun x=>by simp [ent,Lit.sameKey])
def lv (C:List Ent) (n:Int):Value:=match look Ent.n n C with | none=>file 0 (.slice none 0 0) | some c=>c.file
def lb (C:List Ent) (n:Int):Bool:=(look Ent.n n C).isSome
theorem dat_at (n:Int) (l:List Ent):(dat l).atKey (.int .i64 n) (.held (file 0 (.slice none 0 0))) = .held (lv l n):=by
 unfold dat DataW.atKey lv;simp only [find_ent]
 cases look Ent.n n l <;> rfl
theorem dat_has (n:Int) (l:List Ent):Maps.has (dat l) (.int .i64 n)=lb l n:=by
 have e:∀ q:Lit×DataW Value->Bool,(l.map ent).any q=((l.map ent).find? q).isSome:=fun q=>by
  rw [Bool.eq_iff_iff,bP,List.find?_isSome]
 show (l.map ent).any (fun p=>p.1.sameKey (.int .i64 n))=_
 rw [e,find_ent,Option.isSome_map]
 rfl
variable {w:World} {b:Nat} {C:List Ent}
theorem tight {n:Nat} (h:w.ownsMap prog 3 Rh b n (dat C)):w.ownsMap prog 3 Rh b C.length (dat C):=by
 obtain ⟨es,clock,hb,F,hs,hD⟩:=h;refine ⟨es,clock,hb,F,?_,hD⟩;have e:C.map ent=(es.toList.map (Go.WideElems.rg prog 3 Rh)).foldr DataW.insert []:=by unfold dat at hD;injection hD
 have:=bF List.length e;rw [length_read,aL] at this
 omega
def Mp (w:World) (F:Nat->Prop) (m:Value) (C:List Ent):Prop:=(m = .map none/\C = [])\/∃ b,m = .map (some b)/\F b/\w.ownsMap prog 3 Rh b C.length (dat C)
variable {F:Nat->Prop}
theorem run_look {m:Value} (M:Mp w F m C) (hn:Wf n) (c:Bool) :
 (Instr.lookup 148 m (.int .i64 n) c).run prog w = .ok (if c then .tuple #[lv C n,.bool (lb C n)] else lv C n) w:=by
 rcases M with ⟨rfl,rfl⟩ | ⟨b,rfl,_,h⟩
 ·exact Maps.look_nil c law underlying148 (zeroF w) (keyI hn)
 ·cases c with
  | false =>
    obtain ⟨v,ps,hr,hv⟩:=h.lookup law underlying148 (zeroF w) (zd:=.held (file 0 (.slice none 0 0))) (zp:=[]) rfl (keyI hn);rw [dat_at] at hv;have:v=lv C n:=by simp [Rh] at hv;exact hv.1
    rw [hr,this]
    rfl
  | true =>
    obtain ⟨v,ps,hr,hv⟩:=h.look_ok law underlying148 (zeroF w) (zd:=.held (file 0 (.slice none 0 0))) (zp:=[]) rfl (keyI hn);rw [dat_at] at hv;have:v=lv C n:=by simp [Rh] at hv;exact hv.1
    rw [hr,this,dat_has]
    rfl
theorem run_put (M:Mp w F (.map (some b)) C) (c:Ent) (hn:Wf c.n) (hl:C.length < maxLen) :
 ∃ w',(Instr.mapUpdate 148 (.map (some b)) (.int .i64 c.n) c.file).run prog w = .ok () w'/\Mp w' F (.map (some b)) (put Ent.n c C)/\w.grownBy w' (some b):=by
 rcases M with ⟨h,_⟩ | ⟨b',e,hF,h⟩
 ·cases h
 ·obtain rfl:b=b':=by injection e with e;injection e
  obtain ⟨w',hr,h',hg⟩:=h.update law underlying148 hl (keyI hn) (d:=.held c.file) (ps:=[]) rfl;rw [dat_put] at h';exact ⟨w',hr,.inr ⟨b,rfl,hF,tight h'⟩,hg⟩
section
variable {ops:Array Oper} {rest:List Oper} {o:Oper} {a:Act} {Q:Exit->Act->World->Prop} {K:Act->World->Prop} {w:World} {F:Nat->Prop}
theorem at_look {m:Value} (hgd:Region.wanted o (yielded ops a.tmps)=true) (p x:Operand) (c:Bool) (hop:o.op = .lookup 148 p x c) (hm:a.eval p=m) (M:Mp w F m C) (n:Int) (hx:a.eval x = .int .i64 n) (hn:Wf n)
 (h:wpList prog ops Q rest (a.put o.dst (if c then .tuple #[lv C n,.bool (lb C n)] else lv C n)) w):wpList prog ops Q (o :: rest) a w:=by
 refine BigFrame.wpList_want hgd fun K' hK=>?_;have hr:=run_look M hn c;unfold Oper.wp
 simp [execOp,hop,hm,hx,hr,Result.andThen]
 exact hK _ _ (by simpa using h)
theorem wp_put (p x v:Operand) (hop:o.op = .mapUpdate 148 p x v) (hm:a.eval p = .map (some b)) (M:Mp w F (.map (some b)) C) (c:Ent) (hx:a.eval x = .int .i64 c.n) (hv:a.eval v=c.file) (hn:Wf c.n) (hl:C.length < maxLen)
 (h:∀ w',Mp w' F (.map (some b)) (put Ent.n c C)->w.grownBy w' (some b)->K (a.put o.dst undef) w'):o.wp prog a w K Q:=by
 obtain ⟨w',hr,h1,h2⟩:=run_put M c hn hl;unfold Oper.wp
 simp [execOp,hop,hm,hx,hv,hr,Result.andThen]
 exact h w' h1 h2
end
section
variable {w w':World} {F G:Nat->Prop} {m:Value} {C:List Ent}
theorem Mp.only (h:Mp w F m C) (hn:∀ k,F k->¬ G k) (ho:Only G w w'):Mp w' F m C:=by
 rcases h with h | ⟨b,rfl,hF,h⟩
 ·exact .inl h
 ·have hlt:=h.lt
  obtain ⟨es,clock,hb,Ft,hs,hD⟩:=h;exact .inr ⟨b,rfl,hF,es,clock,(ho.block b hlt (hn b hF)).trans hb,Ft,hs,hD⟩
theorem Mp.wide (h:Mp w F m C) (hF:∀ k,F k->G k):Mp w G m C:=by
 rcases h with h | ⟨b,rfl,hb,h⟩
 ·exact .inl h
 ·exact .inr ⟨b,rfl,hF b hb,h⟩
theorem Mp.kept (h:Mp w F m C) (hb:∀ b,m = .map (some b)->w'.heap[b]? = w.heap[b]?):Mp w' F m C:=by
 rcases h with h | ⟨b,rfl,hF,h⟩
 ·exact .inl h
 ·obtain ⟨es,clock,h1,Ft,hs,hD⟩:=h
  exact .inr ⟨b,rfl,hF,es,clock,(hb b rfl).trans h1,Ft,hs,hD⟩
theorem Mp.isMap (h:Mp w F (.map (some b)) C):F b/\∃ es clock,w.heap[b]? = some (.map es clock):=by
 rcases h with ⟨h,_⟩ | ⟨b',e,hF,h⟩
 ·cases h
 ·obtain rfl:b=b':=by injection e with e;injection e
  obtain ⟨es,clock,hb,_⟩:=h;exact ⟨hF,es,clock,hb⟩
end
def apart (c c':Ent):Prop:=∀ k,c.sl.ownBlock=some k->c'.sl.ownBlock≠some k
structure Sto (w:World) (s:Nat) (F:Nat->Prop) (m:Value) (C:List Ent) (d:Int):Prop where
 row:w.heap[s]? = some (.cells #[m,.int .i64 d] 150 (0,0))
 foot:F s
 mp:Mp w F m C
 own:∀ c∈C,Ow K4 w 0 36 c.sl c.l
 mine:∀ c∈C,∀ k,c.sl.ownBlock=some k->F k
 apart:C.Pairwise apart
 ok:OkA (C.map Ent.abs)
 low:∀ k,F k->k < w.heap.size
def St (w:World) (s:Nat) (F:Nat->Prop) (A:Abs) (d:Int):Prop:=∃ m C,Sto w s F m C d/\C.map Ent.abs=A
section
variable {w w':World} {s:Nat} {F G:Nat->Prop} {m:Value} {C:List Ent} {A:Abs} {d:Int}
theorem Sto.only (h:Sto w s F m C d) (hn:∀ k,F k->¬ G k) (ho:Only G w w'):Sto w' s F m C d :=
 ⟨(ho.block s (ay h.row) (hn s h.foot)).trans h.row,h.foot,h.mp.only hn ho,fun c hc=>ow_only (h.own c hc) (fun k hk=>hn k (h.mine c hc k hk)) ho,h.mine,h.apart,h.ok,fun k hk=>aV (h.low k hk) ho.size⟩
theorem Sto.wide (h:Sto w s F m C d) (hF:∀ k,F k->G k) (hl:∀ k,G k->k < w.heap.size):Sto w s G m C d :=
 ⟨h.row,hF s h.foot,h.mp.wide hF,h.own,fun c hc k hk=>hF k (h.mine c hc k hk),h.apart,h.ok,hl⟩
theorem Sto.below (h:Sto w s F m C d) (hb:Below w.heap.size w w'):Sto w' s F m C d:=h.only (G:=fun _=>False) (fun _ _ g=>g) (Only.of_below hb)
theorem St.only (h:St w s F A d) (hn:∀ k,F k->¬ G k) (ho:Only G w w'):St w' s F A d:=by
 obtain ⟨m,C,h,e⟩:=h;exact ⟨m,C,h.only hn ho,e⟩
theorem St.wide (h:St w s F A d) (hF:∀ k,F k->G k) (hl:∀ k,G k->k < w.heap.size):St w s G A d:=by
 obtain ⟨m,C,h,e⟩:=h;exact ⟨m,C,h.wide hF hl,e⟩
theorem St.below (h:St w s F A d) (hb:Below w.heap.size w w'):St w' s F A d:=by
 obtain ⟨m,C,h,e⟩:=h;exact ⟨m,C,h.below hb,e⟩
theorem St.fx (h:St w s F A d) (hb:Below w.heap.size w w'):St w' s (Fx F w w') A d:=by
 have hl:∀ k,F k->k < w.heap.size:=by obtain ⟨m,C,h,_⟩:=h;exact h.low
 exact (h.below hb).wide (fun k hk=>.inl hk) (Fx.low hl hb.size)
theorem St.low (h:St w s F A d):∀ k,F k->k < w.heap.size:=by obtain ⟨m,C,h,_⟩:=h;exact h.low
theorem St.foot (h:St w s F A d):F s:=by obtain ⟨m,C,h,_⟩:=h;exact h.foot
theorem St.okA (h:St w s F A d):OkA A:=by obtain ⟨m,C,h,e⟩:=h;rw [← e];exact h.ok
theorem Sto.len (h:Sto w s F m C d):C.length<=64:=by have:=h.ok.len;rwa [aL] at this
theorem abs_look (n:Int) (C:List Ent):look key n (C.map Ent.abs)=(look Ent.n n C).map Ent.abs:=map_look (κ:=Ent.n) (κ':=key) abs_key n C
theorem abs_put (c:Ent) (C:List Ent):(put Ent.n c C).map Ent.abs=put key c.abs (C.map Ent.abs):=map_put (κ:=Ent.n) (κ':=key) abs_key c C
variable {c:Ent}
theorem Sto.find (h:Sto w s F m C d) (hc:look Ent.n n C=some c):Ow K4 w 0 36 c.sl c.l/\goodF c.p c.l/\okL c.l/\c.n=n/\(0<=n/\n<=63)/\c∈C:=by
 obtain ⟨hm,hk⟩:=look_some hc;have hma:c.abs∈C.map Ent.abs:=List.mem_map_of_mem hm;have:=h.ok.nm _ hma;exact ⟨h.own c hm,h.ok.good _ hma,h.ok.ok _ hma,hk,hk ▸ this,hm⟩
theorem Sto.off (h:Sto w s F m C d) (hc:c∈C):c.sl.ownBlock≠some s/\∀ b,m = .map (some b)->c.sl.ownBlock≠some b:=by
 refine ⟨(h.own c hc).apart h.row (by decide),fun b hb e=>?_⟩;subst hb;obtain ⟨_,es,clock,hm⟩:=h.mp.isMap;obtain ⟨_,h2⟩:=h.own c hc
 rcases h2 with ⟨e2,_⟩ | ⟨g,cap,cur,e2,_,hh,_⟩
 ·rw [e2] at e;cases e
 ·rw [e2] at e
  obtain rfl:g=b:=by simpa [Value.ownBlock] using e
  rw [hh] at hm
  cases hm
theorem Sto.map_ne (h:Sto w s F (.map (some b)) C d):b≠s:=fun e=>by
 subst e;obtain ⟨_,es,clock,hm⟩:=h.mp.isMap;rw [h.row] at hm
 cases hm
end
structure Lst (F:Nat->Prop) (w:World) (v:Value) (L:List Ent):Prop where
 rd:Rd E3 w v L
 off:0 < L.length->∀ k,v.ownBlock=some k->¬ F k
 file:∀ c∈L,Rd K4 w c.sl c.l
 foff:∀ c∈L,0 < c.l.length->∀ k,c.sl.ownBlock=some k->¬ F k
def Ls (F:Nat->Prop) (w:World) (v:Value) (A:Abs):Prop:=∃ L,Lst F w v L/\L.map Ent.abs=A
section
variable {w w':World} {F G:Nat->Prop} {v:Value} {L:List Ent} {A:Abs}
theorem Lst.only (h:Lst F w v L) (ho:Only F w w'):Lst (Fx F w w') w' v L :=
 ⟨rd_only h.rd h.off ho,rd_fx h.rd h.off,fun c hc=>rd_only (h.file c hc) (h.foff c hc) ho,fun c hc=>rd_fx (h.file c hc) (h.foff c hc)⟩
theorem Lst.mono (h:Lst F w v L) (hg:∀ k,k < w.heap.size->G k->F k):Lst G w v L :=
 ⟨h.rd,fun h0 k hk g=>h.off h0 k hk (hg k (rd_low h.rd h0 k hk) g),h.file,fun c hc h0 k hk g=>h.foff c hc h0 k hk (hg k (rd_low (h.file c hc) h0 k hk) g)⟩
theorem Lst.below (h:Lst F w v L) (hb:Below w.heap.size w w'):Lst F w' v L :=
 ⟨h.rd.below hb,h.off,fun c hc=>(h.file c hc).below hb,h.foff⟩
theorem Ls.only (h:Ls F w v A) (ho:Only F w w'):Ls (Fx F w w') w' v A:=by obtain ⟨L,h,e⟩:=h;exact ⟨L,h.only ho,e⟩
theorem Ls.mono (h:Ls F w v A) (hg:∀ k,k < w.heap.size->G k->F k):Ls G w v A:=by obtain ⟨L,h,e⟩:=h;exact ⟨L,h.mono hg,e⟩
theorem Ls.below (h:Ls F w v A) (hb:Below w.heap.size w w'):Ls F w' v A:=by obtain ⟨L,h,e⟩:=h;exact ⟨L,h.below hb,e⟩
end
section
end
open Fl (sto2 sto4 sto2_row sto2_other sto2_below sto2_size sto2_off sto4_row sto4_other sto4_below sto4_size clone_any own_form ret_bool at4)
theorem results_rec {fn:Func} {p r:Tmp} (h:fn.results=#[.cell p 36,.tmp r]) (tmps:Array Value) (w:World) (g:Nat) (y:R4) (v:Value)
 (hp:tmps.getD p undef = .pointer (some ⟨g,0,none⟩)) (hr:tmps.getD r undef=v) (h1:w.heap[g]? = some (.cells (arr4 y) 36 (0,0))) :
 (results fn tmps).run prog w = .ok (.tuple #[rec4 y,v]) w:=by
 have e2:=ce (P:=prog) w g 36 36 (arr4 y) (0,0) _ h1 underlying36 rfl (by show _=some 4;kernel_rfl);have hp':tmps[p]?.getD undef = .pointer (some ⟨g,0,none⟩):=by simpa using hp
 have hr':tmps[r]?.getD undef=v:=by simpa using hr
 simp only [results,h]
 simp [Result.andThen,hp',hr',asAddr,e2,rec4,arr4]
section
variable {ops:Array Oper} {rest:List Oper} {o:Oper} {a:Act} {Q:Exit->Act->World->Prop} {w:World} {F:Nat->Prop} {m:Value} {C:List Ent}
theorem at_look0 (hgd:Region.wanted o (yielded ops a.tmps)=true) (p x:Operand) (hop:o.op = .lookup 148 p x false) (M:Mp w F m C) (hm:a.eval p=m) (n:Int) (hx:a.eval x = .int .i64 n) (hn:Wf n) (v:Value) (hv:lv C n=v)
 (h:wpList prog ops Q rest (a.put o.dst v) w):wpList prog ops Q (o :: rest) a w:=at_look hgd p x false hop hm M n hx hn (by rw [hv];exact h)
theorem at_look1 (hgd:Region.wanted o (yielded ops a.tmps)=true) (p x:Operand) (hop:o.op = .lookup 148 p x true) (M:Mp w F m C) (hm:a.eval p=m) (n:Int) (hx:a.eval x = .int .i64 n) (hn:Wf n) (v:Value) (hv:lv C n=v) (b:Bool) (hb:lb C n=b)
 (h:wpList prog ops Q rest (a.put o.dst (.tuple #[v,.bool b])) w):wpList prog ops Q (o :: rest) a w:=at_look hgd p x true hop hm M n hx hn (by rw [hv,hb];exact h)
end
theorem lv_none (h:look Ent.n n C=none):lv C n = .agg #[.int .i64 0,.slice none 0 0]:=by unfold lv;rw [h];rfl
variable {c:Ent}
theorem lv_some (h:look Ent.n n C=some c):lv C n = .agg #[.int .i64 c.p,.slice c.a c.l.length c.cap]:=by unfold lv;rw [h];rfl
theorem lb_none (h:look Ent.n n C=none):lb C n=false:=by unfold lb;rw [h];rfl
theorem lb_some (h:look Ent.n n C=some c):lb C n=true:=by unfold lb;rw [h];rfl
theorem run_fieldF (p:Int) (a:Option Addr) (n cap:Nat) (w:World):(Instr.field 83 (.agg #[.int .i64 p,.slice a n cap]) 1).run prog w = .ok (.slice a n cap) w:=by kernel_rfl
def CopyPost (w:World) (p:Int) (l:List R4) (e:Ending) (w':World):Prop:=∃ u,e = .returned (file p u)/\Ow K4 w' w.heap.size 36 u l/\Below w.heap.size w w'
theorem two_files (w:World) (p:Int) (v:Value) (q:Int) (u:Value):((w.alloc (.cells #[.int .i64 p,v] 83)).alloc (.cells #[.int .i64 q,u] 83)).heap[w.heap.size]? = some (.cells #[.int .i64 p,v] 83 (0,0))/\((w.alloc (.cells #[.int .i64 p,v] 83)).alloc (.cells #[.int .i64 q,u] 83)).heap[w.heap.size+1]? = some (.cells #[.int .i64 q,u] 83 (0,0))/\Below w.heap.size w ((w.alloc (.cells #[.int .i64 p,v] 83)).alloc (.cells #[.int .i64 q,u] 83))/\((w.alloc (.cells #[.int .i64 p,v] 83)).alloc (.cells #[.int .i64 q,u] 83)).heap.size=w.heap.size+2:=by
 refine ⟨(aQ _ _ _ (by simp)).trans (am w _),?_,((aa w.heap.size w).alloc (ac _) _).alloc (by simp) _,by simp⟩;have:=am (w.alloc (.cells #[.int .i64 p,v] 83)) (.cells #[.int .i64 q,u] 83)
 simpa using this
def Bx (g:Nat) (p:Int) (v:Value) (W:World):Prop:=W.heap[g]? = some (.cells #[.int .i64 p,v] 83 (0,0))
theorem copied_any (w:World) (p:Int) (v:Value) (l:List R4) (R:Rd K4 w v l) (hl:l.length<=260):Calls prog 73 #[file p v] w (CopyPost w p l):=by
 obtain ⟨h1,h2,hB,hz⟩:=two_files w p v 0 (.slice none 0 0);have H1:=Hh h1;have H2:=Hh h2;have HB:=Hh hB;have HZ:=Hh hz;have RR:=Hh R;have HL:=Hh hl;obtain ⟨a,cap,rfl,_⟩:=R.slice;clear h1 h2 hB hz R hl;generalize hn:l.length=n at *;have HN:=Hh hn;clear hn;unfold file at *
 go_enter func73,ntmps73
 go_wp2_with fail;generalize ((w.alloc (.cells #[.int .i64 p,.slice a n cap] 83)).alloc (.cells #[.int .i64 0,.slice none 0 0] 83))=W at *;have r0:=Sc.cell_in (C:=Bx w.heap.size p (.slice a n cap)) (a:=⟨w.heap.size,0,none⟩) (fun W' h=>row_cell h 0);have r1:=Sc.cell_in (C:=Bx w.heap.size p (.slice a n cap)) (a:=⟨w.heap.size,1,none⟩) (fun W' h=>row_cell h 1);have C0:Bx w.heap.size p (.slice a n cap) W.drew:=H1;have ne:Nonempty (Sc.In (Bx w.heap.size p (.slice a n cap))):=⟨⟨_,C0⟩⟩;refine Sc.start (Bx w.heap.size p (.slice a n cap)) [(false,0),(false,1),(false,2),(false,3),(true,4),(false,5),(true,6)] (by kernel_rfl) (by kernel_rfl) (by kernel_rfl) C0 ?_;dsimp only [Sd.picks,List.getElem?_cons_succ,List.getElem?_cons_zero]
 repeat (refine Sd.lit ?_;quiet_step (fail);refine az ?_)
 refine Sd.call (by rfl) (fun K hK=>?_);go_simp;have B0:=Hh (HB.trans (((aa W.heap.size W).drew).mono HB.size));refine (clone_any _ _ l (RR.below B0) (by rw [HN.out];exact HL.out)).mono ?_;rintro e w2 ⟨u,rfl,o2,b2⟩;have hzz:=HZ.out;have O2:=Hh o2;have B2:=Hh (B0.trans (b2.mono (by show w.heap.size<=W.heap.size;omega)));have G1:w2.heap[w.heap.size]? = _:=(b2.block _ (by show w.heap.size < W.heap.size;omega)).trans C0;have G2:=(b2.block (w.heap.size+1) (by show w.heap.size+1 < W.heap.size;omega)).trans H2.out;have N2:u.ownBlock≠some (w.heap.size+1):=o2.range (.inl (by show _ < W.heap.size;omega));have hWz:w.heap.size+2<=W.drew.heap.size:=by show _<=W.heap.size;omega
 obtain ⟨au,cu,rfl,_⟩:=o2.slice;refine hK _ _ (Sc.Cl.of G1) ?_;clear hK K b2 o2 B0 C0 HB H1 H2 r0 r1 RR
 repeat (refine Sd.lit ?_;quiet_step (fail);refine az ?_)
 refine Sd.call (by rfl) (fun K hK=>?_);obtain ⟨c0,c1,f0,f1⟩:=rf2 G2;have RA:=Hh (sto2_row G2 p (.slice au l.length cu));have OA:=Hh (sto2_off (u:=.slice au l.length cu) O2 N2 p);have BA:=Hh (sto2_below (p:=p) (v:=.slice au l.length cu) B2 (show w.heap.size<=w.heap.size+1 by omega));have L1:Bx w.heap.size p (.slice a n cap) (sto2 w2 (w.heap.size+1) p (.slice au l.length cu)):=sto2_other G1 (by omega);have hWy:=Hh hWz;clear G1 G2 O2 B2 N2 hWz hzz HZ;go_simp;refine hK _ _ (Sc.Cl.of L1) ?_;clear hK K c0 c1 f0 f1
 show Sd.wpSd _ _ _ _ _ _ (sto2 w2 (w.heap.size+1) p (.slice au l.length cu))
 generalize sto2 w2 (w.heap.size+1) p (.slice au l.length cu)=w3 at *;refine Sd.done ?_;go_wp2
 (try simp only [Exit.inBlock,Exit.then])
 refine aA (v:=file p (.slice au l.length cu)) ?_ rfl ⟨_,rfl,OA.low (by have:=hWy.out;omega),BA.out⟩;exact results_cell_row (p:=2) rfl _ _ (w.heap.size+1) 83 _ (0,0) _ rfl RA underlying83 rfl (by show _=some 2;kernel_rfl)
theorem new_any (w:World):Calls prog 51 #[] w fun e w'=>e = .returned (.pointer (some ⟨w.heap.size,0,none⟩))/\w'=w.alloc (.cells #[.map none,.int .i64 0] 150):=by
 go_enter func51,ntmps51
 go_wp2
 go_ret
 exact ⟨rfl,rfl⟩
variable {r d:Int}
theorem gB_none (h:look Ent.n n C=none):gB (C.map Ent.abs) n r=false:=by unfold gB;rw [abs_look,h];rfl
theorem gB_some (h:look Ent.n n C=some c):gB (C.map Ent.abs) n r=decide (0<=r/\r < c.l.length):=by unfold gB;rw [abs_look,h];rfl
theorem gV_none (h:look Ent.n n C=none):gV (C.map Ent.abs) n r=z4:=by unfold gV;rw [abs_look,h];rfl
theorem gV_some (h:look Ent.n n C=some c):gV (C.map Ent.abs) n r=if 0<=r/\r < c.l.length then rat c.l r.toNat else z4:=by unfold gV;rw [abs_look,h];rfl
variable {s:Nat} {m:Value}
theorem has_any (S:Sto w s F m C d) (hn:Wf n) (r:Int) :
 Calls prog 90 #[.pointer (some ⟨s,0,none⟩),.int .i64 n,.int .i64 r] w fun e w'=>e = .returned (.bool (gB (C.map Ent.abs) n r))/\Below w.heap.size w w':=by
 have hF:=run_fieldF;have c0:=Fl.rc S.row 0;have M:=Hh S.mp;have HN:=Hh hn;clear S hn
 cases hk:look Ent.n n C with
 | none =>
   have E:=Hh (gB_none (r:=r) hk);have L:=Hh (lv_none hk);clear hk
   by_cases hr:0<=r
   ·go_enter func90,ntmps90
    go_wp2_with (at_lookup;refine at_look0 rfl _ _ rfl M rfl _ rfl HN _ L ?_)
    go_ret
    exact ⟨ret_bool (by rw [E.out];exact ak (by omega)),aa _ _⟩
   ·go_enter func90,ntmps90
    go_wp2_with (at_lookup;refine at_look0 rfl _ _ rfl M rfl _ rfl HN _ L ?_)
    go_ret
    exact ⟨ret_bool E.symm,aa _ _⟩
 | some c =>
   have E:=Hh (gB_some (r:=r) hk);have L:=Hh (lv_some hk);clear hk;generalize c.l.length=k at *
   by_cases hr:0<=r
   ·by_cases h2:r < (k:Int)
    ·go_enter func90,ntmps90
     go_wp2_with (at_lookup;refine at_look0 rfl _ _ rfl M rfl _ rfl HN _ L ?_)
     go_ret
     exact ⟨ret_bool (by rw [E.out,an ⟨hr,h2⟩]),aa _ _⟩
    ·go_enter func90,ntmps90
     go_wp2_with (at_lookup;refine at_look0 rfl _ _ rfl M rfl _ rfl HN _ L ?_)
     go_ret
     exact ⟨ret_bool (by rw [E.out,ak (fun h=>by omega)]),aa _ _⟩
   ·go_enter func90,ntmps90
    go_wp2_with (at_lookup;refine at_look0 rfl _ _ rfl M rfl _ rfl HN _ L ?_)
    go_ret
    exact ⟨ret_bool (by rw [E.out,ak (fun h=>by omega)]),aa _ _⟩
def GetPost (w:World) (y:R4) (b:Bool) (e:Ending) (w':World):Prop:=e = .returned (.tuple #[rec4 y,.bool b])/\Below w.heap.size w w'
theorem one_rec (w:World):(w.alloc (.cells (arr4 z4) 36)).heap[w.heap.size]? = some (.cells (arr4 z4) 36 (0,0))/\Below w.heap.size w (w.alloc (.cells (arr4 z4) 36))/\(w.alloc (.cells (arr4 z4) 36)).heap.size=w.heap.size+1:=⟨am w _,(aa w.heap.size w).alloc (ac _) _,by simp⟩
theorem get_no (w:World) (s:Value) (n r:Int) (hh:∀ W,Below w.heap.size w W->Calls prog 90 #[s,.int .i64 n,.int .i64 r] W fun e w'=>e = .returned (.bool false)/\Below W.heap.size W w') :
 Calls prog 170 #[s,.int .i64 n,.int .i64 r] w (GetPost w z4 false):=by
 obtain ⟨h1,hB,hz⟩:=one_rec w;have H1:=Hh h1;have HB:=Hh hB;have HH:=Hh (hh _ hB);have HZ:=Hh hz;clear h1 hB hz hh;unfold arr4 z4 at *
 go_enter func170,ntmps170
 go_wp2_with fail;generalize (w.alloc (.cells #[.int .u8 0,.int .u8 0,.int .u8 0,.int .u8 0] 36))=W at *;refine HH.mono ?_;rintro e w1 ⟨rfl,b1⟩;have hz:=HZ.out;have G:w1.heap[w.heap.size]? = some (.cells (arr4 z4) 36 (0,0)):=(b1.block _ (by omega)).trans H1.out;have B1:=bTr HB b1;obtain ⟨d0,d1,d2,d3,k0,k1,k2,k3⟩:=rf4 G;have R2:=Hh (sto4_row G z4);have B2:=Hh (sto4_below (o:=0) (r:=z4) B1 (show w.heap.size<=w.heap.size by omega));clear b1 HH HB H1 HZ hz G B1;go_wp2
 (try simp only [Exit.inBlock,Exit.then])
 exact aA (results_rec (p:=6) (r:=7) rfl _ _ w.heap.size z4 (.bool false) rfl rfl R2) rfl ⟨rfl,B2⟩
theorem get_yes (S:Sto w s F m C d) (hn:Wf n) (k:Nat) (hc:look Ent.n n C=some c) (hk:k < c.l.length) :
 Calls prog 170 #[.pointer (some ⟨s,0,none⟩),.int .i64 n,.int .i64 (k:Int)] w (GetPost w (rat c.l k) true):=by
 obtain ⟨h1,hB,hz⟩:=one_rec w;have H1:=Hh h1;have HB:=Hh hB;have HZ:=Hh hz;have hh:=has_any (S.below hB) hn (k:Int);rw [gB_some hc,an (⟨by omega,by omega⟩:0<=(k:Int)/\(k:Int) < c.l.length)] at hh;have HH:=Hh hh;have SS:=Hh S;have HN:=Hh hn;have L:=Hh (lv_some hc);obtain ⟨ho,_⟩:=S.find hc;obtain ⟨g,cap,e1,_,_,_,_,_,hA⟩:=ho.form (by omega);obtain ⟨cn,cp,ca,ccap,cl⟩:=c;obtain ⟨rfl,rfl⟩:ca=some ⟨g,0,none⟩/\ccap=cap:=by
  unfold Ent.sl at e1;injection e1 with e1 e2 e3;exact ⟨e1,e3⟩
 have A4':=at4 hA k hk;rw [cd] at A4';have A4:=Hh A4';clear A4';have hk':=hk;clear h1 hB hz hh ho e1 hA hc S hn hk;simp only at *;generalize rat cl k=y at *;generalize cl.length=q at *;have y4:Hid (arr4 y=#[.int .u8 y.1,.int .u8 y.2.1,.int .u8 y.2.2.1,.int .u8 y.2.2.2]):=rfl;unfold arr4 z4 at H1 HB HZ HH
 go_enter func170,ntmps170
 go_wp2_with fail;generalize (w.alloc (.cells #[.int .u8 0,.int .u8 0,.int .u8 0,.int .u8 0] 36))=W at *;refine HH.mono ?_;rintro e w1 ⟨rfl,b1⟩;have hz:=HZ.out;have G:w1.heap[w.heap.size]? = some (.cells (arr4 z4) 36 (0,0)):=(b1.block _ (by omega)).trans H1.out;have B1:=bTr HB b1;have S1:=SS.below B1;have M1:=Hh S1.mp;have c0:=Fl.rc S1.row 0;have hF:=run_fieldF;have q0:=bCe B1 A4.out.1;have q1:=bCe B1 A4.out.2.1;have q2:=bCe B1 A4.out.2.2.1;have q3:=bCe B1 A4.out.2.2.2;obtain ⟨d0,d1,d2,d3,k0,k1,k2,k3⟩:=rf4 G;have R2:=Hh (sto4_row G y);have B2:=Hh (sto4_below (o:=0) (r:=y) B1 (show w.heap.size<=w.heap.size by omega));clear b1 HH HB H1 HZ hz G B1 S1 SS A4
 go_wp2_with (at_lookup;refine at_look0 rfl _ _ rfl M1 rfl _ rfl HN _ L ?_)
 (try simp only [Exit.inBlock,Exit.then])
 exact aA (results_rec (p:=6) (r:=7) rfl _ _ w.heap.size y (.bool true) rfl rfl R2) rfl ⟨rfl,B2⟩
theorem get_any (S:Sto w s F m C d) (hn:Wf n) (r:Int) :
 Calls prog 170 #[.pointer (some ⟨s,0,none⟩),.int .i64 n,.int .i64 r] w (GetPost w (gV (C.map Ent.abs) n r) (gB (C.map Ent.abs) n r)):=by
 cases hk:look Ent.n n C with
 | none =>
   rw [gV_none hk,gB_none hk];refine get_no w _ n r fun W hb=>?_;have:=has_any (S.below hb) hn r
   rwa [gB_none hk] at this
 | some c =>
   by_cases hr:0<=r/\r < c.l.length
   ·obtain ⟨k,rfl⟩:∃ k:Nat,r=k:=⟨r.toNat,by omega⟩
    rw [gV_some hk,gB_some hk,aj hr,an hr,a7];exact get_yes S hn k hk (by omega)
   ·rw [gV_some hk,gB_some hk,ah hr,ak hr]
    refine get_no w _ n r fun W hb=>?_;have:=has_any (S.below hb) hn r
    rwa [gB_some hk,ak hr] at this
open Fl (sto4_own own4)
theorem apart_symm {e:Ent} (h:apart c e):apart e c:=fun k hk hc=>h k hc hk
theorem pw_mem {α:Type} {R:α->α->Prop} (sy:∀ {x y},R x y->R y x):∀ {l:List α},l.Pairwise R->∀ {x y},x∈l->y∈l->x≠y->R x y
 | [],_,_,_,hx,_,_=>by cases hx
 | a :: r,h,x,y,hx,hy,hne=>by
   obtain ⟨h1,h2⟩:=bs.1 h
   rcases aN.1 hx with ex | hx <;> rcases aN.1 hy with ey | hy
   ·exact (hne (ex.trans ey.symm)).elim
   ·rw [ex];exact h1 _ hy
   ·rw [ey];exact sy (h1 _ hx)
   ·exact pw_mem sy h2 hx hy hne
theorem pw_ins {α:Type} {κ:α->Int} {R:α->α->Prop} (sy:∀ {x y},R x y->R y x) {c:α} : ∀ {l:List α},l.Pairwise R->(∀ x∈l,R c x)->(ins κ c l).Pairwise R
 | [],_,_=>by simp [ins]
 | y :: r,h,hc=>by
   obtain ⟨h1,h2⟩:=bs.1 h;unfold ins
   split
   ·exact bs.2 ⟨hc,h⟩
   ·refine bs.2 ⟨fun z hz=>?_,pw_ins sy h2 fun x hx=>hc x (aJ _ hx)⟩
    rcases mem_ins.1 hz with rfl | hz
    ·exact sy (hc y aO)
    ·exact h1 z hz
theorem pw_put (h:C.Pairwise apart) (hc:∀ e∈C,e.n≠c.n->apart c e):(put Ent.n c C).Pairwise apart:=by
 unfold put;refine pw_ins apart_symm (h.filter _) fun e he=>?_;obtain ⟨h1,h2⟩:=cg.1 he;exact hc e h1 (by simpa using h2)
section
variable {w w':World} {s:Nat} {F F':Nat->Prop} {m m':Value} {C:List Ent} {d d':Int} {c:Ent}
theorem Sto.put (h:Sto w s F m C d) (row:w'.heap[s]? = some (.cells #[m',.int .i64 d'] 150 (0,0))) (hF:∀ k,F k->F' k) (mp:Mp w' F' m' (put Ent.n c C)) (old:∀ e∈C,e.n≠c.n->Ow K4 w' 0 36 e.sl e.l)
 (new:Ow K4 w' 0 36 c.sl c.l) (mine:∀ k,c.sl.ownBlock=some k->F' k) (far:∀ e∈C,e.n≠c.n->Fs.apart c e) (hn:0<=c.n/\c.n<=63) (hg:goodF c.p c.l) (hl:okL c.l) (low:∀ k,F' k->k < w'.heap.size):Sto w' s F' m' (Fs.put Ent.n c C) d':=by
 refine ⟨row,hF s h.foot,mp,fun e he=>?_,fun e he k hk=>?_,pw_put h.apart far,?_,low⟩
 ·rcases mem_put.1 he with rfl | ⟨he,hne⟩
  ·exact new
  ·exact old e he hne
 ·rcases mem_put.1 he with rfl | ⟨he,hne⟩
  ·exact mine k hk
  ·exact hF k (h.mine e he k hk)
 ·rw [abs_put]
  exact h.ok.put hn hg hl
def Ent.recs (c:Ent) (l:List R4):Ent:=⟨c.n,c.p,c.a,c.cap,l⟩
variable {l:List R4}
theorem recs_sl (c:Ent) (h:l.length=c.l.length):(c.recs l).sl=c.sl:=by unfold Ent.recs Ent.sl;rw [h]
theorem dat_recs {i:Nat} (hi:C[i]? = some c) (h:l.length=c.l.length):dat (C.set i (c.recs l))=dat C:=by
 unfold dat;rw [List.map_set];have:ent (c.recs l)=ent c:=by unfold ent Ent.file;rw [recs_sl c h];rfl
 rw [this]
 congr 1
 refine bZ fun j=>?_;rw [cQ]
 split
 ·rename_i hij
  subst hij;rw [a9,hi];have:=(aM.1 hi).1
  simp [this]
 ·rfl
theorem Sto.write {g n cap:Nat} {k:Nat} {x:R4} (h:Sto w s F m C d) (hc:c∈C) (hs:c.sl = .slice (some ⟨g,0,none⟩) n cap) (hk:k < c.l.length) (h0:k≠0) (hx:okR x) :
 Sto (sto4 w g (k * 4) x) s F m (Fs.put Ent.n (c.recs (c.l.set k x)) C) d/\Only F w (sto4 w g (k * 4) x):=by
 have hg:F g:=h.mine c hc g (by rw [hs];rfl);obtain ⟨n1,n2⟩:=h.off hc;rw [hs] at n1 n2;have ng:s≠g:=fun e=>n1 (by rw [e];rfl);have hsl:(c.recs (c.l.set k x)).sl=c.sl:=recs_sl c (by rw [aT]);have own:=h.own c hc;rw [hs] at own;have hn:n=c.l.length:=by unfold Ent.sl at hs;injection hs with _ hs _;exact hs.symm
 have hcm:c.abs∈C.map Ent.abs:=List.mem_map_of_mem hc;obtain ⟨i,hi⟩:=bH hc;have srt:Srt Ent.n C:=(map_srt (κ:=Ent.n) (κ':=key) abs_key).1 h.ok.srt;have hput:Fs.put Ent.n (c.recs (c.l.set k x)) C=C.set i (c.recs (c.l.set k x)):=put_set srt hi rfl;have hdat:dat (Fs.put Ent.n (c.recs (c.l.set k x)) C)=dat C:=by rw [hput];exact dat_recs hi (by rw [aT])
 have off:∀ e∈C,e.n≠c.n->Fs.apart c e:=fun e he hne=>pw_mem apart_symm h.apart hc he fun e'=>hne (by rw [e']);have hGood:goodF c.p (c.l.set k x):=good_set (h.ok.good _ hcm) h0;have hOk:okL (c.l.set k x):=okL_set (h.ok.ok _ hcm) hx;have hMp:Mp (sto4 w g (k * 4) x) F m (Fs.put Ent.n (c.recs (c.l.set k x)) C):=by
  have M:Mp (sto4 w g (k * 4) x) F m C:=h.mp.kept fun b hb=>sto4_other rfl fun e=>n2 b hb (by rw [e];rfl)
  rcases M with ⟨rfl,rfl⟩ | ⟨b,rfl,hF,hm⟩
  ·cases hc
  ·refine .inr ⟨b,rfl,hF,?_⟩
   rw [hdat,hput,aT];exact hm
 have hRow:=sto4_other (g:=g) (o:=k * 4) (r:=x) h.row ng;have hOld:∀ e∈C,e.n≠(c.recs (c.l.set k x)).n->Ow K4 (sto4 w g (k * 4) x) 0 36 e.sl e.l:=fun e he hne=>by
  have o:=h.own e he;have a:=off e he hne g (by rw [hs];rfl);exact Fl.sto4_off o a x
 have hNew:Ow K4 (sto4 w g (k * 4) x) 0 36 (c.recs (c.l.set k x)).sl (c.l.set k x):=by
  rw [hsl,hs];exact sto4_own own hn k hk x
 refine ⟨h.put hRow (fun k hk=>hk) hMp hOld hNew (fun j hj=>h.mine c hc j (by rw [← hsl];exact hj)) (fun e he hne j hj=>off e he hne j (by rw [← hsl];exact hj)) (h.ok.nm _ hcm) hGood hOk (by rw [sto4_size];exact h.low),?_⟩;have O1:∀ W:World,∀ o v,Only F W (W.setCell ⟨g,o,none⟩ v):=fun W o v=>Only.set F W hg v;unfold sto4;exact (((O1 _ _ _).trans (O1 _ _ _) fun _ _ g=>g).trans (O1 _ _ _) fun _ _ g=>g).trans (O1 _ _ _) fun _ _ g=>g
end
attribute [local irreducible] Sd.wpSd wpQuiet Sg.wpSg
def SetPost (w:World) (s:Nat) (F:Nat->Prop) (d:Int) (b:Bool) (A':Abs) (e:Ending) (w':World):Prop:=e = .returned (.bool b)/\St w' s (Fx F w w') A' d/\Only F w w'
theorem sB_some (h:look Ent.n n C=some c) (h0:0<=r) (h1:r < c.l.length) (h2:r≠0):sB (C.map Ent.abs) n r=true:=by
 unfold sB;rw [gB_some h,an ⟨h0,h1⟩,an h2]
 rfl
theorem sA_some (h:look Ent.n n C=some c) (h0:0<=r) (h1:r < c.l.length) (h2:r≠0) (x:R4):sA (C.map Ent.abs) n r x=(put Ent.n (c.recs (c.l.set r.toNat x)) C).map Ent.abs:=by
 have hb:=sB_some h h0 h1 h2;have he:look key n (C.map Ent.abs)=some c.abs:=by rw [abs_look,h];rfl
 unfold sA;rw [he];simp only [hb,if_true];rw [abs_put];obtain ⟨_,rfl⟩:=look_some h
 rfl
variable {A:Abs}
theorem sA_no (h:sB A n r=false) (x:R4):sA A n r x=A:=by
 unfold sA
 split
 ·rfl
 ·rw [h];rfl
theorem box_rec (w:World) (x:R4):(w.alloc (.cells (arr4 x) 36)).heap[w.heap.size]? = some (.cells (arr4 x) 36 (0,0))/\Below w.heap.size w (w.alloc (.cells (arr4 x) 36))/\(w.alloc (.cells (arr4 x) 36)).heap.size=w.heap.size+1:=⟨am w _,(aa w.heap.size w).alloc (ac _) _,by simp⟩
theorem set_zero (w:World) (s:Value) (n:Int) (x:R4):Calls prog 62 #[s,.int .i64 n,.int .i64 0,rec4 x] w fun e w'=>e = .returned (.bool false)/\Below w.heap.size w w':=by
 unfold rec4
 go_enter func62,ntmps62
 go_wp2
 go_ret
 exact ⟨rfl,(aa w.heap.size w).alloc (ac _) _⟩
theorem set_none (w:World) (s:Value) (n r:Int) (x:R4) (hr:r≠0) (hh:∀ W,Below w.heap.size w W->Calls prog 90 #[s,.int .i64 n,.int .i64 r] W fun e w'=>e = .returned (.bool false)/\Below W.heap.size W w') :
 Calls prog 62 #[s,.int .i64 n,.int .i64 r,rec4 x] w fun e w'=>e = .returned (.bool false)/\Below w.heap.size w w':=by
 obtain ⟨h1,hB,hz⟩:=box_rec w x;have HB:=Hh hB;have HH:=Hh (hh _ hB);clear h1 hB hz hh;have hr0:(r == 0)=false:=by simpa using hr
 unfold rec4;unfold arr4 at *
 go_enter func62,ntmps62
 go_wp2_with fail;refine HH.mono ?_;rintro e w1 ⟨rfl,b1⟩;have B1:=bTr HB b1;clear b1 HH HB;go_wp2
 go_ret
 exact ⟨rfl,B1⟩
structure SetC (s:Nat) (F:Nat->Prop) (m:Value) (C:List Ent) (d:Int) (g:Nat) (x:R4) (W:World):Prop where
 row:W.heap[s]? = some (.cells #[m,.int .i64 d] 150 (0,0))
 mp:Mp W F m C
 box:W.heap[g]? = some (.cells (arr4 x) 36 (0,0))
theorem set_yes (S:Sto w s F m C d) (hn:Wf n) (k:Nat) (x:R4) (hx:okR x) (hc:look Ent.n n C=some c) (hk:k < c.l.length) (hk0:k≠0) :
 Calls prog 62 #[.pointer (some ⟨s,0,none⟩),.int .i64 n,.int .i64 (k:Int),rec4 x] w (SetPost w s F d true ((put Ent.n (c.recs (c.l.set k x)) C).map Ent.abs)):=by
 obtain ⟨h1,hB,hz⟩:=box_rec w x;have H1:=Hh h1;have HB:=Hh hB;have HZ:=Hh hz;have hh:=has_any (S.below hB) hn (k:Int);rw [gB_some hc,an (⟨by omega,by omega⟩:0<=(k:Int)/\(k:Int) < c.l.length)] at hh;have HH:=Hh hh;have SS:=Hh S;have HN:=Hh hn;have L:=Hh (lv_some hc);obtain ⟨ho,_,_,_,_,hm⟩:=S.find hc;obtain ⟨g,cap,e1,_,_,_,_,_,_⟩:=ho.form (by omega);have ea:c.a=some ⟨g,0,none⟩:=by unfold Ent.sl at e1;injection e1
 rw [ea] at L;have FIN:Hid (∀ W,Below w.heap.size w W->SetPost w s F d true ((put Ent.n (c.recs (c.l.set k x)) C).map Ent.abs) (.returned (.bool true)) (sto4 W g (k * 4) x)):=fun W hb=>by
  obtain ⟨S1,O1⟩:=(S.below hb).write hm e1 hk hk0 hx;have O2:=(Only.of_below (G:=F) hb).trans O1 fun _ _ g=>g;exact ⟨rfl,⟨_,_,S1.wide (fun j hj=>.inl hj) (Fx.low S.low O2.size),rfl⟩,O2⟩
 have OW:=Hh (bT ho (bT e1 hk));have CB:Hid (∀ W,SetC s F m C d w.heap.size x W->∀ g',g=g'->((sto4 W g' (k * 4) x).heap[s]? = some (.cells #[m,.int .i64 d] 150 (0,0))/\Mp (sto4 W g' (k * 4) x) F m C/\(sto4 W g' (k * 4) x).heap[w.heap.size]? = some (.cells (arr4 x) 36 (0,0)))):=fun W h g' eg=>by
  subst eg;obtain ⟨n1,n2⟩:=S.off hm;rw [e1] at n1 n2;have hgl:=S.low g (S.mine c hm g (by rw [e1];rfl));exact ⟨sto4_other h.row fun e=>n1 (by rw [e];rfl),h.mp.kept fun b hb=>sto4_other rfl fun e=>n2 b hb (by rw [e];rfl),sto4_other h.box (by omega)⟩
 have hq:=hk;clear h1 hB hz hh ho e1 hc S hn hk hm ea;generalize put Ent.n (c.recs (c.l.set k x)) C=C' at *;have hr0:((k:Int) == 0)=false:=by simpa using hk0
 have OW2:Hid (∀ W,Below w.heap.size w W->(W.cell? ⟨g,k * 4,none⟩=some (.int .u8 (rat c.l k).1)/\W.cell? ⟨g,k * 4+1,none⟩=some (.int .u8 (rat c.l k).2.1)/\W.cell? ⟨g,k * 4+2,none⟩=some (.int .u8 (rat c.l k).2.2.1)/\W.cell? ⟨g,k * 4+3,none⟩=some (.int .u8 (rat c.l k).2.2.2))/\(∀ j,W.frozen? ⟨g,j,none⟩=false)):=fun W hb=>by
  have o:=OW.out.1.keep hb;rw [OW.out.2.1] at o;have:=own4 o k OW.out.2.2;exact ⟨this.1,this.2.1⟩
 clear OW;generalize rat c.l k=y0 at *;generalize c.l.length=q at *;generalize c.p=p at *;generalize c.cap=ccap at *;unfold rec4;have X4:Hid (arr4 x=#[.int .u8 x.1,.int .u8 x.2.1,.int .u8 x.2.2.1,.int .u8 x.2.2.2]):=rfl;unfold arr4 at H1 HB HZ HH
 go_enter func62,ntmps62
 go_wp2_with fail;generalize (w.alloc (.cells #[.int .u8 x.1,.int .u8 x.2.1,.int .u8 x.2.2.1,.int .u8 x.2.2.2] 36))=W at *;refine HH.mono ?_;rintro e w1 ⟨rfl,b1⟩;have hz:=HZ.out;have G:=(b1.block _ (by omega)).trans H1.out;have B1:=bTr HB b1;have S1:=SS.below B1;have C0:SetC s F m C d w.heap.size x w1.drew:=⟨S1.row,S1.mp,G⟩;clear b1 HH HB H1 HZ hz G S1 SS;go_wp2_with fail;have hF:=run_fieldF;have c0:=Sc.cell_in (C:=SetC s F m C d w.heap.size x) (a:=⟨s,0,none⟩) (fun W' h=>row_cell h.row 0);have x0:=Sc.cell_in (C:=SetC s F m C d w.heap.size x) (a:=⟨w.heap.size,0,none⟩) (v:=.int .u8 x.1) (fun W' h=>row_cell h.box 0);have x1:=Sc.cell_in (C:=SetC s F m C d w.heap.size x) (a:=⟨w.heap.size,1,none⟩) (v:=.int .u8 x.2.1) (fun W' h=>row_cell h.box 1);have x2:=Sc.cell_in (C:=SetC s F m C d w.heap.size x) (a:=⟨w.heap.size,2,none⟩) (v:=.int .u8 x.2.2.1) (fun W' h=>row_cell h.box 2);have x3:=Sc.cell_in (C:=SetC s F m C d w.heap.size x) (a:=⟨w.heap.size,3,none⟩) (v:=.int .u8 x.2.2.2) (fun W' h=>row_cell h.box 3);have hlk:∀ P:Sc.In (SetC s F m C d w.heap.size x),(Instr.lookup 148 m (.int .i64 n) false).run prog P.world = .ok (.agg #[.int .i64 p,.slice (some ⟨g,0,none⟩) q ccap]) P.world:=fun P=>by
  have:=run_look P.ok.mp HN false;rw [L.out] at this;exact this
 have ne:Nonempty (Sc.In (SetC s F m C d w.heap.size x)):=⟨⟨_,C0⟩⟩;refine Sc.start (SetC s F m C d w.heap.size x) [(false,0),(false,1),(false,2),(false,3),(false,4),(false,5),(false,6),(false,7),(false,8),(false,9),(true,10)] (by kernel_rfl) (by kernel_rfl) (by kernel_rfl) C0 ?_;dsimp only [Sd.picks,List.getElem?_cons_succ,List.getElem?_cons_zero]
 repeat (refine Sd.lit ?_;quiet_step (fail);refine az ?_)
 have BW:=B1.trans ((aa _ _).drew);obtain ⟨⟨d0,d1,d2,d3⟩,hfr⟩:=OW2 w1.drew BW;have f0:=hfr (k * 4);have f1:=hfr (k * 4+1);have f2:=hfr (k * 4+2);have f3:=hfr (k * 4+3);have L1:SetC s F m C d w.heap.size x (sto4 w1.drew g (k * 4) x):=by
  obtain ⟨a1,a2,a3⟩:=CB _ C0 _ rfl;exact ⟨a1,a2,a3⟩
 have RES:=Hh (FIN w1.drew BW);clear hfr OW2 CB FIN C0 B1 BW;generalize w1.drew=W1 at *;refine Sd.call (by rfl) (fun K hK=>?_);go_simp;refine hK _ _ (Sc.Cl.of L1) ?_;clear hK K d0 d1 d2 d3 f0 f1 f2 f3 c0 x0 x1 x2 x3 hlk
 show Sd.wpSd _ _ _ _ _ _ (sto4 W1 g (k * 4) x)
 generalize sto4 W1 g (k * 4) x=W2 at *;refine Sd.done ?_;go_wp2
 go_ret
 exact RES
theorem set_any (S:St w s F A d) (hn:Wf n) (r:Int) (x:R4) (hx:okR x) :
 Calls prog 62 #[.pointer (some ⟨s,0,none⟩),.int .i64 n,.int .i64 r,rec4 x] w (SetPost w s F d (sB A n r) (sA A n r x)):=by
 obtain ⟨m,C,h,rfl⟩:=S;have no:∀ e w',sB (C.map Ent.abs) n r=false->(e = .returned (.bool false)/\Below w.heap.size w w')->SetPost w s F d (sB (C.map Ent.abs) n r) (sA (C.map Ent.abs) n r x) e w':=fun e w' hb ⟨he,b⟩=>by
  unfold SetPost;rw [hb,sA_no hb x];exact ⟨he,St.fx ⟨m,C,h,rfl⟩ b,Only.of_below b⟩
 by_cases hr:r=0
 ·subst hr
  exact (set_zero w _ n x).mono fun e w'=>no e w' (by unfold sB;simp)
 ·have none:gB (C.map Ent.abs) n r=false->Calls prog 62 #[.pointer (some ⟨s,0,none⟩),.int .i64 n,.int .i64 r,rec4 x] w (SetPost w s F d (sB (C.map Ent.abs) n r) (sA (C.map Ent.abs) n r x)):=fun hg =>
   (set_none w _ n r x hr fun W hb=>by
     have:=has_any (h.below hb) hn r
     rwa [hg] at this).mono fun e w'=>no e w' (by unfold sB;rw [hg];rfl)
  cases hk:look Ent.n n C with
  | none=>exact none (gB_none hk)
  | some c =>
    by_cases h2:0<=r/\r < c.l.length
    ·rw [sB_some hk h2.1 h2.2 hr,sA_some hk h2.1 h2.2 hr]
     obtain ⟨k,rfl⟩:∃ k:Nat,r=k:=⟨r.toNat,by omega⟩;rw [a7];exact set_yes h hn k x hx hk (by omega) (by omega)
    ·exact none (by rw [gB_some hk,ak h2])
open Fl (good_any)
section
variable {w W W':World} {s b:Nat} {F:Nat->Prop} {C:List Ent} {d:Int} {c:Ent}
theorem Sto.place (h:Sto w s F (.map (some b)) C d) (hb:Below w.heap.size w W) (hg:W.grownBy W' (some b)) (mp:Mp W' F (.map (some b)) (Fs.put Ent.n c C)) (ow:Ow K4 W w.heap.size 36 c.sl c.l) (hn:0<=c.n/\c.n<=63) (hgd:goodF c.p c.l) (hl:okL c.l) :
 St W' s (Fx F w W') ((Fs.put Ent.n c C).map Ent.abs) d/\Only F w W':=by
 have hne:=h.map_ne;have hFb:=h.mp.isMap.1;have hbl:=h.low b hFb;have hsl:=h.low s h.foot;have O:=(Only.of_below hb).trans (Only.grown (G:=fun k=>k=b) rfl hg) fun k _ e=>e ▸ hFb;have off:=ow_new ow;refine ⟨⟨_,_,h.put (w':=W') (d':=d) (F':=Fx F w W') ?_ (fun k hk=>.inl hk) (mp.wide fun k hk=>.inl hk) (fun e he hne=>?_) ?_ (fun k hk=>.inr ⟨(off k hk).1,aV (off k hk).2 hg.size⟩) (fun e he hne k hk hk'=>?_) hn hgd hl (Fx.low h.low O.size),rfl⟩,O⟩
 ·rw [hg.block s (aV hsl hb.size) (by intro e;injection e with e;exact hne e.symm),hb.block s hsl]
  exact h.row
 ·exact ow_only (G:=fun k=>k=b) ((h.own e he).keep hb) (fun k hk e'=>(h.off he).2 b rfl (by rw [hk,e'])) (Only.grown rfl hg)
 ·exact ow_only (G:=fun k=>k=b) (ow.low (aI _)) (fun k hk e'=>by have:=(off k hk).1;omega) (Only.grown rfl hg)
 ·have:=(off k hk).1
  have:=h.low k (h.mine e he k hk')
  omega
theorem Sto.make (h:Sto w s F (.map none) C d) (hb:Below w.heap.size w W):Sto ((W.alloc (.map #[] 0)).setCell ⟨s,0,none⟩ (.map (some W.heap.size))) s (Fx F w ((W.alloc (.map #[] 0)).setCell ⟨s,0,none⟩ (.map (some W.heap.size)))) (.map (some W.heap.size)) C d/\Only F w ((W.alloc (.map #[] 0)).setCell ⟨s,0,none⟩ (.map (some W.heap.size))):=by
 have hC:C = []:=by
  rcases h.mp with ⟨_,e⟩ | ⟨b,e,_⟩
  ·exact e
  ·cases e
 subst hC;have hsl:=h.low s h.foot;have B2:Below w.heap.size w (W.alloc (.map #[] 0)):=hb.alloc hb.size _;have O:Only F w ((W.alloc (.map #[] 0)).setCell ⟨s,0,none⟩ (.map (some W.heap.size))):=(Only.of_below B2).trans (Only.set F _ (a:=⟨s,0,none⟩) h.foot _) fun _ _ g=>g;refine ⟨⟨?_,.inl h.foot,.inr ⟨W.heap.size,rfl,.inr ⟨hb.size,by simp [World.setCell]⟩,?_⟩,nofun,nofun,cN,h.ok,Fx.low h.low O.size⟩,O⟩
 ·have:=Rw.heap_setCell_same (w:=W.alloc (.map #[] 0)) (g:=s) (j:=0) ((B2.block s hsl).trans h.row) (.map (some W.heap.size))
  rw [this]
  simp
 ·have:=World.ownsMap_made (H:=Value) W prog 3 Rh
  exact this.setCell (a:=⟨s,0,none⟩) (fun e=>by have:=hb.size;simp only at e;omega) _
variable {w1 w2:World}
theorem Fx.trans (h1:Only F w w1) (h2:w1.heap.size<=w2.heap.size):∀ k,Fx (Fx F w w1) w1 w2 k->Fx F w w2 k:=by
 have:=h1.size;rintro k ((g | ⟨a,b⟩) | ⟨a,b⟩)
 ·exact .inl g
 ·exact .inr ⟨a,by omega⟩
 ·exact .inr ⟨by omega,b⟩
theorem Only.trans' (h1:Only F w w1) (h2:Only (Fx F w w1) w1 w2):Only F w w2:=h1.trans h2 fun k hk g=>by
 rcases g with g | ⟨a,_⟩
 ·exact g
 ·omega
end
def AddPost (w:World) (s:Nat) (F:Nat->Prop) (d:Int) (z:Int) (A':Abs) (e:Ending) (w':World):Prop:=e = .returned (.int .i64 z)/\St w' s (Fx F w w') A' d/\Only F w w'
theorem box_file (w:World) (p:Int) (v:Value):(w.alloc (.cells #[.int .i64 p,v] 83)).heap[w.heap.size]? = some (.cells #[.int .i64 p,v] 83 (0,0))/\Below w.heap.size w (w.alloc (.cells #[.int .i64 p,v] 83))/\(w.alloc (.cells #[.int .i64 p,v] 83)).heap.size=w.heap.size+1:=⟨am w _,(aa w.heap.size w).alloc (ac _) _,by simp⟩
theorem add_1 (w:World) (s:Nat) (n p:Int) (a:Option Addr) (q cap:Nat) (hn:¬ (0<=n/\n<=63)):Calls prog 52 #[.pointer (some ⟨s,0,none⟩),.int .i64 n,.agg #[.int .i64 p,.slice a q cap]] w fun e w'=>e = .returned (.int .i64 1)/\Below w.heap.size w w':=by
 by_cases h:n < 0
 ·go_enter func52,ntmps52
  go_wp2
  go_ret
  exact ⟨rfl,(aa w.heap.size w).alloc (ac _) _⟩
 ·have h2:64<=n:=by omega
  go_enter func52,ntmps52
  go_wp2
  go_ret
  exact ⟨rfl,(aa w.heap.size w).alloc (ac _) _⟩
theorem add_2 (w:World) (s:Nat) (n p:Int) (a:Option Addr) (q cap:Nat) (l:List R4) (R:Rd K4 w (.slice a q cap) l) (hn:0<=n/\n<=63) (hg:¬ goodF p l):Calls prog 52 #[.pointer (some ⟨s,0,none⟩),.int .i64 n,.agg #[.int .i64 p,.slice a q cap]] w fun e w'=>e = .returned (.int .i64 2)/\Below w.heap.size w w':=by
 obtain ⟨h1,hB,hz⟩:=box_file w p (.slice a q cap);have HB:=Hh hB;have GA:=good_any _ p (.slice a q cap) l (R.below hB);rw [show goodFB p l=false from ak hg] at GA;have HG:=Hh GA;have n1:=hn.1;have n2:n < 64:=by omega
 clear h1 hB hz R GA hg hn;unfold file at HG
 go_enter func52,ntmps52
 go_wp2_with fail;refine HG.mono ?_;rintro e w1 ⟨rfl,b1⟩;have B1:=bTr HB b1;clear b1 HG HB;go_wp2
 go_ret
 exact ⟨rfl,B1⟩
theorem add_10 (S:Sto w s F m C d) (n p:Int) (a:Option Addr) (q cap:Nat) (l:List R4) (R:Rd K4 w (.slice a q cap) l) (hn:0<=n/\n<=63) (hg:goodF p l) (hc:look Ent.n n C=some c) :
 Calls prog 52 #[.pointer (some ⟨s,0,none⟩),.int .i64 n,.agg #[.int .i64 p,.slice a q cap]] w fun e w'=>e = .returned (.int .i64 10)/\Below w.heap.size w w':=by
 obtain ⟨h1,hB,hz⟩:=box_file w p (.slice a q cap);have HB:=Hh hB;have GA:=good_any _ p (.slice a q cap) l (R.below hB);rw [show goodFB p l=true from an hg] at GA;have HG:=Hh GA;have SS:=Hh S;have n1:=hn.1;have n2:n < 64:=by omega
 have HN:Hid (Wf n):=WalkArith.wf_i64 (by omega);have L:=Hh (lv_some hc);have LB:=Hh (lb_some hc);clear h1 hB hz R GA hg hn S hc;unfold file at HG
 go_enter func52,ntmps52
 go_wp2_with fail;refine HG.mono ?_;rintro e w1 ⟨rfl,b1⟩;have B1:=bTr HB b1;have S1:=SS.below B1;have c0:=Fl.rc S1.row 0;have M:=Hh S1.mp;clear b1 HG HB S1 SS
 go_wp2_with (at_lookup;refine at_look1 rfl _ _ rfl M rfl _ rfl HN _ L _ LB ?_)
 go_ret
 exact ⟨rfl,B1.alloc B1.size _⟩
structure AddC (s:Nat) (m:Value) (d:Int) (g:Nat) (p:Int) (v:Value) (W:World):Prop where
 row:W.heap[s]? = some (.cells #[m,.int .i64 d] 150 (0,0))
 box:W.heap[g]? = some (.cells #[.int .i64 p,v] 83 (0,0))
theorem mk_eql (b:Option Nat) (W:World):(binOp .eql 148 (.map b) (.map none)).run prog W = .ok (.bool b.isNone) W:=run_eql_map_nil W _ _ _ b underlying148
theorem off_s {v:Value} {l:List R4} {o:Option Nat} {T:TypeId} (R:Rd K4 w v l) (h0:0 < l.length) (row:w.heap[s]? = some (.cells #[.map o,.int .i64 d] T (0,0))):∀ k,v.ownBlock=some k->k=s->False:=fun k hk e=>by
 obtain ⟨a,cap,rfl,_,_,h3⟩:=R;obtain ⟨b,off,rfl,hA⟩:=h3 h0;obtain rfl:b=k:=by simpa [Value.ownBlock] using hk
 subst e;have c:=hA 0 h0 0 _ rfl;have r:=row_cell row (off+0 * 4+0);have:w.cell? ⟨b,off+0 * 4+0,none⟩=some (.int .u8 (l.getD 0 z4).1):=c;rw [r] at this
 match off,this with
 | 0,h=>simp at h
 | 1,h=>simp at h
 | k+2,h=>simp at h
theorem add_some (S:Sto w s F (.map (some b)) C d) (n p:Int) (a:Option Addr) (q cap:Nat) (l:List R4) (R:Rd K4 w (.slice a q cap) l) (hn:0<=n/\n<=63) (hg:goodF p l) (hl:okL l) (hc:look Ent.n n C=none) :
 Calls prog 52 #[.pointer (some ⟨s,0,none⟩),.int .i64 n,.agg #[.int .i64 p,.slice a q cap]] w (AddPost w s F d 0 (put key (n,p,l) (C.map Ent.abs))):=by
 obtain ⟨h1,hB,hz⟩:=box_file w p (.slice a q cap);have HB:=Hh hB;have H1:=Hh h1;have HZ:=Hh hz;have RR:=Hh R;have HL:=Hh hl;have HGD:=Hh hg;have GA:=good_any _ p (.slice a q cap) l (R.below hB);rw [show goodFB p l=true from an hg] at GA;have HG:=Hh GA;have SS:=Hh S;have n1:=hn.1;have n2:n < 64:=by omega
 have HN:Hid (Wf n):=WalkArith.wf_i64 (by omega);have L:=Hh (lv_none hc);have LB:=Hh (lb_none hc);have FIN:Hid (∀ (u:Value) W W',Below w.heap.size w W->W.grownBy W' (some b)->Ow K4 W w.heap.size 36 u l->(∀ c:Ent,c.n=n->c.file=file p u->c.l=l->Mp W' F (.map (some b)) (put Ent.n c C))->AddPost w s F d 0 (put key (n,p,l) (C.map Ent.abs)) (.returned (.int .i64 0)) W'):=fun u W W' hb hgr ow mp=>by
  obtain ⟨au,cu,rfl,_⟩:=ow.slice;obtain ⟨S1,O1⟩:=S.place (c:=⟨n,p,au,cu,l⟩) hb hgr (mp _ rfl rfl rfl) ow hn hg hl;rw [abs_put] at S1;exact ⟨rfl,S1,O1⟩
 have hne:=S.map_ne;have hbl:=S.low b S.mp.isMap.1;have hlen:=S.len;clear h1 hB hz R GA hg hn S hc hl;unfold file at HG
 go_enter func52,ntmps52
 go_wp2_with fail;generalize (w.alloc (.cells #[.int .i64 p,.slice a q cap] 83))=W at *;refine HG.mono ?_;rintro e w1 ⟨rfl,b1⟩;have B1:=bTr HB b1;have S1:=SS.below B1;have c0:=Fl.rc S1.row 0;have M:=Hh S1.mp;have hz:=HZ.out;have G1:=Hh ((b1.block w.heap.size (by omega)).trans H1.out);have hE:=mk_eql (some b);have B2:=Hh (B1.alloc B1.size (.cells #[.int .i64 0,.slice none 0 0] 83));have G2:=Hh ((aQ w1 (.cells #[.int .i64 0,.slice none 0 0] 83) w.heap.size (by have:=b1.size;omega)).trans G1.out);have c2:=row_cell (SS.below B2).row 0;clear b1 HG HB S1 G1 H1 hz
 go_wp2_with (at_lookup;refine at_look1 rfl _ _ rfl M rfl _ rfl HN _ L _ LB ?_)
 clear c0 c2 M hE B1;generalize (w1.alloc (.cells #[.int .i64 0,.slice none 0 0] 83))=W2 at *;have S2:=Hh (SS.below B2);have C0:AddC s (.map (some b)) d w.heap.size p (.slice a q cap) W2.drew:=⟨S2.row,G2⟩;have c0:=Sc.cell_in (C:=AddC s (.map (some b)) d w.heap.size p (.slice a q cap)) (a:=⟨s,0,none⟩) (fun W' h=>row_cell h.row 0);have r0:=Sc.cell_in (C:=AddC s (.map (some b)) d w.heap.size p (.slice a q cap)) (a:=⟨w.heap.size,0,none⟩) (fun W' h=>row_cell h.box 0);have r1:=Sc.cell_in (C:=AddC s (.map (some b)) d w.heap.size p (.slice a q cap)) (a:=⟨w.heap.size,1,none⟩) (fun W' h=>row_cell h.box 1);have ne:Nonempty (Sc.In (AddC s (.map (some b)) d w.heap.size p (.slice a q cap))):=⟨⟨_,C0⟩⟩;have BW:=Hh (B2.trans ((aa W2.heap.size W2).drew.mono B2.size));refine Sc.start (AddC s (.map (some b)) d w.heap.size p (.slice a q cap)) [(false,0),(false,1),(false,2),(false,3),(false,4),(false,5),(true,6),(true,7)] (by kernel_rfl) (by kernel_rfl) (by kernel_rfl) C0 ?_;dsimp only [Sd.picks,List.getElem?_cons_succ,List.getElem?_cons_zero]
 repeat (refine Sd.lit ?_;quiet_step (fail);refine az ?_)
 refine Sd.call (by rfl) (fun K hK=>?_);have CA:=copied_any W2.drew p (.slice a q cap) l (RR.below BW) (by have:=HGD.out.2.2.2.1;omega);unfold file at CA;go_simp;refine CA.mono ?_;rintro e w3 ⟨u,rfl,o3,b3⟩;have hszz:=B2.size;have B3:=Hh (BW.trans (b3.mono hszz));have O3:=Hh (o3.low hszz);have S3:=SS.below B3;have G3:w3.heap[w.heap.size]? = _:=(b3.block _ (by have:=HZ;have:=ay G2;exact this)).trans C0.box;refine hK _ _ (Sc.Cl.of ⟨S3.row,G3⟩) ?_;clear hK K b3 o3 CA C0 G2 B2 BW c0 r0 r1 S2;have M3:=Hh S3.mp;have R3:=Hh S3.row;have G3':=Hh G3;clear S3 G3;obtain ⟨au,cu,rfl,_⟩:=O3.slice;refine Sd.call (by rfl) (fun K hK=>?_);refine wp_put _ _ _ rfl rfl M3 ⟨n,p,au,cu,l⟩ rfl rfl HN (by unfold maxLen;omega) (fun w4 m4 g4=>?_)
 have RES:=Hh (FIN _ w3 w4 B3 g4 O3 (fun c e1 e2 e3=>by
  obtain ⟨cn,cp,ca,cc,cl⟩:=c;simp only at e1 e3;subst e1 e3;unfold Ent.file Fl.file Ent.sl at e2;injection e2 with e2;have e4:=bF (fun t:Array Value=>t[0]?) e2;have e5:=bF (fun t:Array Value=>t[1]?) e2
  simp at e4 e5
  obtain ⟨rfl,rfl⟩:=e5;subst e4
  exact m4))
 have hws:=ay R3;have hwg:=ay G3';refine hK _ _ (Sc.Cl.of ⟨(g4.block s hws (by intro e;injection e with e;exact hne e.symm)).trans R3.out,(g4.block w.heap.size hwg (by intro e;injection e with e;omega)).trans G3'.out⟩) ?_;clear hK K m4 g4 FIN;refine Sd.done ?_;go_wp2
 go_ret
 exact RES
theorem add_make (S:Sto w s F (.map none) C d) (n p:Int) (a:Option Addr) (q cap:Nat) (l:List R4) (R:Rd K4 w (.slice a q cap) l) (hn:0<=n/\n<=63) (hg:goodF p l) (hl:okL l) (hc:look Ent.n n C=none) :
 Calls prog 52 #[.pointer (some ⟨s,0,none⟩),.int .i64 n,.agg #[.int .i64 p,.slice a q cap]] w (AddPost w s F d 0 (put key (n,p,l) (C.map Ent.abs))):=by
 obtain ⟨h1,hB,hz⟩:=box_file w p (.slice a q cap);have HB:=Hh hB;have H1:=Hh h1;have HZ:=Hh hz;have RR:=Hh R;have HL:=Hh hl;have HGD:=Hh hg;have GA:=good_any _ p (.slice a q cap) l (R.below hB);rw [show goodFB p l=true from an hg] at GA;have HG:=Hh GA;have SS:=Hh S;have n1:=hn.1;have n2:n < 64:=by omega
 have HN:Hid (Wf n):=WalkArith.wf_i64 (by omega);have L:=Hh (lv_none hc);have LB:=Hh (lb_none hc);have HNG:=Hh (bT hn (bT hg hl));have hlen:=S.len;have hsl:=S.low s S.foot;clear h1 hB hz R GA hg hn S hc hl;unfold file at HG;have hmm:=@run_makeMap prog
 go_enter func52,ntmps52
 go_wp2_with fail;generalize (w.alloc (.cells #[.int .i64 p,.slice a q cap] 83))=W at *;refine HG.mono ?_;rintro e w1 ⟨rfl,b1⟩;have B1:=bTr HB b1;have S1:=SS.below B1;have c0:=Fl.rc S1.row 0;have M:=Hh S1.mp;have hz:=HZ.out;have G1:=Hh ((b1.block w.heap.size (by omega)).trans H1.out);have hE:=mk_eql none;have B2:=Hh (B1.alloc B1.size (.cells #[.int .i64 0,.slice none 0 0] 83));have G2:=Hh ((aQ w1 (.cells #[.int .i64 0,.slice none 0 0] 83) w.heap.size (by have:=b1.size;omega)).trans G1.out);have S2:=SS.below B2;have c2:=Fl.rc S2.row 0;have hz2:(w1.alloc (.cells #[.int .i64 0,.slice none 0 0] 83)).heap.size=w1.heap.size+1:=by simp
 have MK:=SS.make B2;have S3:=(S2.below ((aa _ _).alloc (ac _) (.map #[] 0)));have c3:=Fl.rc S3.row 0;have f3:=row_frozen S3.row 0;have hgs:w.heap.size≠s:=by omega
 have G3:=Hh ((aH ((w1.alloc (.cells #[.int .i64 0,.slice none 0 0] 83)).alloc (.map #[] 0)) ⟨s,0,none⟩ (.map (some (w1.heap.size+1))) w.heap.size hgs).trans ((aQ (w1.alloc (.cells #[.int .i64 0,.slice none 0 0] 83)) (.map #[] 0) w.heap.size (by have:=B2.out.size;have:=b1.size;omega)).trans G2.out));rw [hz2] at MK;have S3':=Hh MK.1;have O3':=Hh MK.2;have OS:Only (fun k=>k=s) w ((((w1.alloc (.cells #[.int .i64 0,.slice none 0 0] 83)).alloc (.map #[] 0)).setCell ⟨s,0,none⟩ (.map (some (w1.heap.size+1))))):=(Only.of_below (B2.alloc B2.size _)).trans (Only.set (fun k=>k=s) _ (a:=⟨s,0,none⟩) rfl _) fun _ _ g=>g;have R3:=Hh (rd_only RR (fun h0 k hk e=>off_s RR h0 SS.row k hk e) OS);clear b1 HG HB S1 G1 H1 hz G2 S2 S3 MK hz2 OS
 go_wp2_with (at_lookup;refine at_look1 rfl _ _ rfl M rfl _ rfl HN _ L _ LB ?_)
 clear c0 c2 c3 f3 M hE hmm B2 B1;generalize hb:w1.heap.size+1=b at *;clear hb;generalize (((w1.alloc (.cells #[.int .i64 0,.slice none 0 0] 83)).alloc (.map #[] 0)).setCell ⟨s,0,none⟩ (.map (some b)))=W2 at *;have hne:=S3'.map_ne;have hcl:C.length < maxLen:=by unfold maxLen;omega
 have hws2:=ay G3;have C0:AddC s (.map (some b)) d w.heap.size p (.slice a q cap) W2.drew:=⟨S3'.row,G3⟩;have c0:=Sc.cell_in (C:=AddC s (.map (some b)) d w.heap.size p (.slice a q cap)) (a:=⟨s,0,none⟩) (fun W' h=>row_cell h.row 0);have r0:=Sc.cell_in (C:=AddC s (.map (some b)) d w.heap.size p (.slice a q cap)) (a:=⟨w.heap.size,0,none⟩) (fun W' h=>row_cell h.box 0);have r1:=Sc.cell_in (C:=AddC s (.map (some b)) d w.heap.size p (.slice a q cap)) (a:=⟨w.heap.size,1,none⟩) (fun W' h=>row_cell h.box 1);have ne:Nonempty (Sc.In (AddC s (.map (some b)) d w.heap.size p (.slice a q cap))):=⟨⟨_,C0⟩⟩;have BW:=Hh ((aa W2.heap.size W2).drew);have hFb:=S3'.mp.isMap.1;have hbl:=S3'.low b hFb;have hbg:w.heap.size≠b:=fun e=>by
  obtain ⟨_,es,cl,hm⟩:=S3'.mp.isMap;rw [← e] at hm;have:=G3.symm.trans hm
  cases this
 refine Sc.start (AddC s (.map (some b)) d w.heap.size p (.slice a q cap)) [(false,0),(false,1),(false,2),(false,3),(false,4),(false,5),(true,6),(true,7)] (by kernel_rfl) (by kernel_rfl) (by kernel_rfl) C0 ?_;dsimp only [Sd.picks,List.getElem?_cons_succ,List.getElem?_cons_zero]
 repeat (refine Sd.lit ?_;quiet_step (fail);refine az ?_)
 refine Sd.call (by rfl) (fun K hK=>?_);have CA:=copied_any W2.drew p (.slice a q cap) l (R3.below BW) (by have:=HGD.out.2.2.2.1;omega);unfold file at CA;go_simp;refine CA.mono ?_;rintro e w3 ⟨u,rfl,o3,b3⟩;have B3:=Hh (BW.trans (b3.mono (ac W2.heap.size)));have O3:=Hh (o3);have S4:=S3'.below B3;have G4:=(b3.block _ hws2).trans C0.box;refine hK _ _ (Sc.Cl.of ⟨S4.row,G4⟩) ?_;clear hK K b3 o3 CA C0 G3 BW c0 r0 r1 R3;have M3:=Hh S4.mp;have R4':=Hh S4.row;have G3':=Hh G4;clear S4 G4;obtain ⟨au,cu,rfl,_⟩:=O3.slice;refine Sd.call (by rfl) (fun K hK=>?_);refine wp_put _ _ _ rfl rfl M3 ⟨n,p,au,cu,l⟩ rfl rfl HN hcl (fun w4 m4 g4=>?_);have RES:Hid (AddPost w s F d 0 (put key (n,p,l) (C.map Ent.abs)) (.returned (.int .i64 0)) w4):=by
  obtain ⟨P1,P2⟩:=S3'.place (c:=⟨n,p,au,cu,l⟩) B3 g4 m4 O3 HNG.out.1 HNG.out.2.1 HNG.out.2.2;rw [abs_put] at P1;exact ⟨rfl,P1.wide (Fx.trans O3' P2.size) (Fx.low SS.low (O3'.trans' P2).size),O3'.trans' P2⟩
 have hws:=ay R4';have hwg:=ay G3';refine hK _ _ (Sc.Cl.of ⟨(g4.block s hws (by intro e;injection e with e;exact hne e.symm)).trans R4'.out,(g4.block w.heap.size hwg (by intro e;injection e with e;exact hbg e)).trans G3'.out⟩) ?_;clear hK K m4 g4;refine Sd.done ?_;go_wp2
 go_ret
 exact RES
theorem look_abs : look key n (C.map Ent.abs)=(look Ent.n n C).map Ent.abs:=abs_look n C
theorem add_any (S:St w s F A d) (n p:Int) (v:Value) (l:List R4) (R:Rd K4 w v l) (hl:okL l) :
 Calls prog 52 #[.pointer (some ⟨s,0,none⟩),.int .i64 n,file p v] w (AddPost w s F d (addE A n p l) (addA A n p l)):=by
 obtain ⟨m,C,h,rfl⟩:=S;obtain ⟨a,cap,rfl,_⟩:=R.slice;have no:∀ z e w',addE (C.map Ent.abs) n p l=z->z≠0->(e = .returned (.int .i64 z)/\Below w.heap.size w w')->AddPost w s F d (addE (C.map Ent.abs) n p l) (addA (C.map Ent.abs) n p l) e w':=fun z e w' hz h0 ⟨he,b⟩=>by
  unfold AddPost addA;rw [hz,ah h0];exact ⟨he,St.fx ⟨m,C,h,rfl⟩ b,Only.of_below b⟩
 by_cases hn:0<=n/\n<=63
 ·by_cases hg:goodF p l
  ·cases hc:look Ent.n n C with
   | some c=>exact (add_10 h n p a _ cap l R hn hg hc).mono fun e w'=>no 10 e w' (by unfold addE;rw [aj hn,aj hg,look_abs,hc];rfl) (by decide)
   | none =>
     have e0:addE (C.map Ent.abs) n p l=0:=by unfold addE;rw [aj hn,aj hg,look_abs,hc];rfl
     unfold addA;rw [e0,aj rfl]
     rcases h.mp with ⟨rfl,_⟩ | ⟨b,rfl,_,_⟩
     ·exact add_make h n p a _ cap l R hn hg hl hc
     ·exact add_some h n p a _ cap l R hn hg hl hc
  ·exact (add_2 w s n p a _ cap l R hn hg).mono fun e w'=>no 2 e w' (by unfold addE;rw [aj hn,ah hg]) (by decide)
 ·exact (add_1 w s n p a _ cap hn).mono fun e w'=>no 1 e w' (by unfold addE;rw [ah hn]) (by decide)
end Fs
namespace Fs
open Go.Maps
attribute [local irreducible] Sd.wpSd wpQuiet
variable {w w':World}
theorem grown_of (h:Below w.heap.size w w'):w.grownBy w' none:=⟨h.os,h.tape,h.output,h.size,fun k hk _=>h.block k hk⟩
theorem srt_eq:∀ {A B:Abs},Srt key A->Srt key B->(∀ e,e∈A↔e∈B)->A=B
 | [],[],_,_,_=>rfl
 | [],b :: B,_,_,h=>by have:=(h b).2 (aO ..);cases this
 | a :: A,[],_,_,h=>by have:=(h a).1 (aO ..);cases this
 | a :: A,b :: B,ha,hb,h=>by
   obtain ⟨ha1,ha2⟩:=bs.1 ha;obtain ⟨hb1,hb2⟩:=bs.1 hb;have e:a=b:=by
    rcases aN.1 ((h a).1 (aO ..)) with e | e
    ·exact e
    ·rcases aN.1 ((h b).2 (aO ..)) with e2 | e2
     ·exact e2.symm
     ·have:=ha1 b e2;have:=hb1 a e;omega
   subst e
   congr 1
   refine srt_eq ha2 hb2 fun e=>⟨fun he=>?_,fun he=>?_⟩
   ·rcases aN.1 ((h e).1 (aJ _ he)) with rfl | h2
    ·have:=ha1 e he;omega
    ·exact h2
   ·rcases aN.1 ((h e).2 (aJ _ he)) with rfl | h2
    ·have:=hb1 e he;omega
    ·exact h2
variable {s b:Nat} {F:Nat->Prop} {A:Abs} {d d':Int}
theorem St.as {m:Value} {T:TypeId} (h:St w s F A d) (row:w.heap[s]? = some (.cells #[m,.int .i64 d'] T (0,0))):∃ C,Sto w s F m C d/\C.map Ent.abs=A:=by
 obtain ⟨m',C,h,e⟩:=h;have r:=h.row.symm.trans row;injection r with r;injection r with r _ _;have e4:=bF (fun t:Array Value=>t[0]?) r
 simp at e4
 subst e4;exact ⟨C,h,e⟩
theorem below_new1 (W:World) (o:Obj):Below W.heap.size W (W.alloc o):=(aa _ W).alloc (ac _) o
def CopySt (w:World) (A:Abs) (d:Int) (e:Ending) (w':World):Prop:=∃ g F,e = .returned (.pointer (some ⟨g,0,none⟩))/\St w' g F A d/\(∀ k,F k->w.heap.size<=k)/\Below w.heap.size w w'
structure CI (w:World) (b:Nat) (C:List Ent) (d:Int) (wr:World) (left:Lit->Bool) (cnt:Nat) (F:Nat->Prop) (C2:List Ent):Prop where
 rg:wr.ranges prog 3 Rh b (w.heap.size+2) C.length (dat C) left cnt
 has:∀ kl,left kl=true->Maps.has (dat C) kl=true
 st:Sto wr (w.heap.size+1) F (.map (some w.heap.size)) C2 d
 mem:∀ e,e∈C2.map Ent.abs↔e∈C.map Ent.abs/\left (.int .i64 e.1)=false
 lo:∀ k,F k->w.heap.size<=k
 off:¬ F (w.heap.size+2)
 bel:Below w.heap.size w wr
theorem copy0 (w:World) (d:Int):Sto ((w.alloc (.map #[] 0)).alloc (.cells #[.map (some w.heap.size),.int .i64 d] 150)) (w.heap.size+1) (fun k=>k=w.heap.size\/k=w.heap.size+1) (.map (some w.heap.size)) [] d:=by
 have hz:(w.alloc (.map #[] 0)).heap.size=w.heap.size+1:=by simp
 have hr:=am (w.alloc (.map #[] 0)) (.cells #[.map (some w.heap.size),.int .i64 d] 150);rw [hz] at hr;have mp:Mp (w.alloc (.map #[] 0)) (fun k=>k=w.heap.size\/k=w.heap.size+1) (.map (some w.heap.size)) []:=.inr ⟨w.heap.size,rfl,.inl rfl,World.ownsMap_made _ _ _ _⟩;refine ⟨hr,.inr rfl,mp.kept fun b hb=>?_,nofun,nofun,cN,OkA.nil,fun k hk=>?_⟩
 ·injection hb with hb
  injection hb with hb;subst hb;exact aQ _ _ _ (by omega)
 ·simp
  omega
variable {C:List Ent}
theorem copy_some (S:Sto w s F (.map (some b)) C d):Calls prog 118 #[.pointer (some ⟨s,0,none⟩)] w (CopySt w (C.map Ent.abs) d):=by
 have SS:=Hh S;have hsl:=S.low s S.foot;obtain ⟨hFb,_⟩:=S.mp.isMap;have hbl:=S.low b hFb;have hown:w.ownsMap prog 3 Rh b C.length (dat C):=by
  rcases S.mp with ⟨e,_⟩ | ⟨b',e,_,h⟩
  ·cases e
  ·injection e with e
   injection e with e;subst e;exact h
 have hmm:=@run_makeMap prog;have e1:(w.alloc (.map #[] 0)).heap.size=w.heap.size+1:=by simp
 have B1:Below w.heap.size w (w.alloc (.map #[] 0)):=(aa w.heap.size w).alloc (ac _) _;have c1:=row_cell (S.below B1).row 1;have S2:=Hh (copy0 w d);have e2:((w.alloc (.map #[] 0)).alloc (.cells #[.map (some w.heap.size),.int .i64 d] 150)).heap.size=w.heap.size+2:=by simp
 have B2:Below w.heap.size w ((w.alloc (.map #[] 0)).alloc (.cells #[.map (some w.heap.size),.int .i64 d] 150)):=B1.alloc B1.size _;have c0:=row_cell (S.below B2).row 0;have own2:=hown.kept (grown_of B2) (by simp);clear S hown
 go_enter func118,ntmps118
 go_wp2_with (first
  | (at_range;refine wpList_range_own _ rfl _ 148 rfl 3 83 law underlying148 _ b C.length _ rfl own2 ?_;intro w0 hrg0 hg0 hs0)
  | fail)
 go_frame
 clear c0 c1 hmm;rw [e2] at hrg0 hs0 ⊢
 go_loopw [4] (fun _ wr=>∃ left cnt F2 C2,Hid (CI w b C d wr left cnt F2 C2)) (fun _ wr=>wr.rangeLeft b (w.heap.size+2))
 case atStart =>
  have B3:=(aa _ _).grown hg0 (ac _) (fun j hj=>by cases hj);refine ⟨_,_,_,[],⟨hrg0,fun kl h=>h,S2.below B3,fun e=>⟨nofun,fun ⟨h1,h2⟩=>?_⟩,fun k hk=>by rcases hk with rfl | rfl <;> omega,fun hk=>by rcases hk with hk | hk <;> omega,B2.trans (B3.mono (by omega))⟩⟩;obtain ⟨c,hc,rfl⟩:=bE.1 h1;rw [dat_has,lb,Option.isSome_eq_false_iff,Option.isNone_iff_eq_none] at h2;exact absurd rfl (look_none.1 h2 c hc)
 case round =>
  obtain ⟨left,cnt,F2,C2,I⟩:=hrel;have hrg:=I.rg;clear hrg0 hg0 hs0 own2 B1 B2 e1 e2 S2
  go_wp2_with (first
   | (at_next;refine wpList_next_ranges _ rfl _ rfl 3 law Rh (Value.int .i64) id (fun key kl hkey=>by obtain ⟨x,rfl,_⟩:=Maps.keyOf_int_inv underlying3 hkey;exact ⟨x,rfl⟩) (fun v y _=>⟨v,rfl⟩) b (w.heap.size+2) C.length _ _ _ rfl hrg ?_ ?_)
   | fail)
  ·intro hc0 hl0
   clear hrg;have RES:Hid (CopySt w (C.map Ent.abs) d (.returned (.pointer (some ⟨w.heap.size+1,0,none⟩))) wr):=by
    have e:=srt_eq I.st.ok.srt SS.ok.srt fun e=>(I.mem e).trans ⟨fun h=>h.1,fun h=>⟨h,hl0 _⟩⟩;exact ⟨_,F2,rfl,⟨_,C2,I.st,e⟩,I.lo,I.bel⟩
   go_wp2
   go_ret
   exact RES
  ·intro x v kl y y2 w1 cnt1 hkey hlk hv hat hrg1 hlt hg1 hs1 hen
   obtain ⟨x',ex,rfl,hwx⟩:=Maps.keyOf_int_inv underlying3 hkey
   cases ex
   have hh:=I.has _ hlk;rw [dat_has] at hh;obtain ⟨c,hc⟩:∃ c,look Ent.n x C=some c:=Option.isSome_iff_exists.1 hh;have hv':v=c.file:=by
    have h1:=hat (.held (file 0 (.slice none 0 0)));rw [dat_at,lv_some hc] at h1;obtain ⟨h2,_⟩:DataW.held v=y/\[]=y2:=by simpa [Rh] using hv
    have h3:=h1.trans h2.symm;injection h3 with h3;exact h3.symm
   subst hv';obtain ⟨fo,fg,fl,fn,fr,fm⟩:=SS.find hc;have hsb:w.heap.size+2 < w1.heap.size:=by have:=hrg.lt;omega
   have B1:Below w.heap.size w w1:=I.bel.grown hg1 I.bel.size (fun j hj=>by cases hj;omega);have O1:Only (fun k=>k=w.heap.size+2) wr w1:=Only.grown rfl hg1;have S1:=Hh (I.st.only (G:=fun k=>k=w.heap.size+2) (fun k hk (e:k=w.heap.size+2)=>I.off (e ▸ hk)) O1);have R1:=Hh (((SS.below B1).own c fm).rd);have BB:=Hh B1;have RG:=Hh hrg1;have RG0:=Hh hrg;have FF:=Hh (bT fo (bT fg (bT fl (bT fr hlt))));have HM:=Hh (bT hlk hwx);clear hkey hh hat hv hc fo fg fl hrg1 hg1 hs1 B1 O1 fr hrg hlt hlk;obtain ⟨cn,cp,ca,cc,cl⟩:=c;simp only at fn;subst fn;unfold Ent.sl at R1;simp only at R1;have hq:cl.length<=260:=by have:cl.length<=256:=FF.out.2.1.2.2.2.1;omega
   unfold Ent.file Fl.file Ent.sl at hen ⊢;simp only at hen ⊢;go_upto_region 7 with fail;have H1:=am w1 (.cells #[.int .i64 cp,.slice ca cl.length cc] 83);have hb1:=below_new1 w1 (.cells #[.int .i64 cp,.slice ca cl.length cc] 83);have hz2:(w1.alloc (.cells #[.int .i64 cp,.slice ca cl.length cc] 83)).heap.size=w1.heap.size+1:=by simp
   have W2g:=hb1.trans ((aa w1.heap.size _).drew);have S2:=Hh (S1.below W2g);have C0:AddC (w.heap.size+1) (.map (some w.heap.size)) d w1.heap.size cp (.slice ca cl.length cc) (w1.alloc (.cells #[.int .i64 cp,.slice ca cl.length cc] 83)).drew:=⟨S2.row,H1⟩;have WB:=Hh W2g;have hsz:w1.heap.size+1=(w1.alloc (.cells #[.int .i64 cp,.slice ca cl.length cc] 83)).drew.heap.size:=hz2.symm;clear H1 hb1 hz2 W2g hen;generalize (w1.alloc (.cells #[.int .i64 cp,.slice ca cl.length cc] 83))=W2 at *;have k0:=Sc.cell_in (C:=AddC (w.heap.size+1) (.map (some w.heap.size)) d w1.heap.size cp (.slice ca cl.length cc)) (a:=⟨w.heap.size+1,0,none⟩) (fun W' h=>row_cell h.row 0);have r0:=Sc.cell_in (C:=AddC (w.heap.size+1) (.map (some w.heap.size)) d w1.heap.size cp (.slice ca cl.length cc)) (a:=⟨w1.heap.size,0,none⟩) (fun W' h=>row_cell h.box 0);have r1:=Sc.cell_in (C:=AddC (w.heap.size+1) (.map (some w.heap.size)) d w1.heap.size cp (.slice ca cl.length cc)) (a:=⟨w1.heap.size,1,none⟩) (fun W' h=>row_cell h.box 1);have ne:Nonempty (Sc.In (AddC (w.heap.size+1) (.map (some w.heap.size)) d w1.heap.size cp (.slice ca cl.length cc))):=⟨⟨_,C0⟩⟩;refine Sc.start (AddC (w.heap.size+1) (.map (some w.heap.size)) d w1.heap.size cp (.slice ca cl.length cc)) [(false,0),(false,1),(false,2),(false,3),(false,4),(false,5),(true,6),(true,7)] (by kernel_rfl) (by kernel_rfl) (by kernel_rfl) C0 ?_;dsimp only [Sd.picks,List.getElem?_cons_succ,List.getElem?_cons_zero]
   repeat (refine Sd.lit ?_;quiet_step (fail);refine az ?_)
   clear k0 r0 r1;generalize W2.drew=Wd at *;refine Sd.call (by rfl) (fun K hK=>?_);have CA:=copied_any Wd cp (.slice ca cl.length cc) cl (R1.below WB) hq;unfold file at CA;go_simp;refine CA.mono ?_;rintro e w3 ⟨u,rfl,o3,b3⟩;have S3:=S2.below b3;have W3:=Hh (WB.trans (b3.mono (by omega)));have G3:w3.heap[w1.heap.size]? = _:=(b3.block _ (by omega)).trans C0.box;refine hK _ _ (Sc.Cl.of ⟨S3.row,G3⟩) ?_;have O3:=Hh o3;have M3:=Hh S3.mp;have T3:=Hh S3;have RR3:=Hh S3.row;have GG3:=Hh G3;have BD:=Hh b3;clear hK K CA b3 o3 S3 G3 C0;obtain ⟨au,cu,rfl,_⟩:=O3.slice;refine Sd.call (by rfl) (fun K hK=>?_);have hl2:=T3.len;refine wp_put _ _ _ rfl rfl M3 ⟨cn,cp,au,cu,cl⟩ rfl rfl HM.out.2 (by unfold maxLen;omega) (fun w4 m4 g4=>?_);have hws:=ay RR3;have hwg:=ay GG3;have row4:=(g4.block (w.heap.size+1) hws (by intro e;injection e with e;omega)).trans RR3.out;refine hK _ _ (Sc.Cl.of ⟨row4,(g4.block w1.heap.size hwg (by intro e;injection e with e;omega)).trans GG3.out⟩) ?_;have NEW:∃ F4 C4,Hid (CI w b C d w4 (fun z=>left z && !z.sameKey (.int .i64 cn)) cnt1 F4 C4):=by
    obtain ⟨P1,P2⟩:=S2.place (c:=⟨cn,cp,au,cu,cl⟩) BD g4 m4 O3 FF.out.2.2.2.1 FF.out.2.1 FF.out.2.2.1;obtain ⟨C4,P3,P4⟩:=P1.as row4;have rg3:=RG.kept (grown_of W3) (by simp) (by simp);have rg4:=rg3.kept g4 (fun e=>by have:=bh e;omega) (fun e=>by have:=bh e;omega);have hB1:=hsb;have hb3:=W3.size;refine ⟨_,C4,⟨rg4,fun kl h=>I.has kl (by simp at h;exact h.1),P3,fun e=>?_,fun k hk=>?_,fun hk=>?_,(BB.out.trans (W3.out.mono (by omega))).grown g4 (by omega) (fun j hj=>by cases hj;exact ac _)⟩⟩
    ·rw [P4,abs_put,mem_put,I.out.mem]
     show _↔_/\(left (.int .i64 e.1) && !(Lit.int .i64 e.1).sameKey (.int .i64 cn))=false
     have hin:(cn,cp,cl)∈C.map Ent.abs:=bE.2 ⟨_,fm,rfl⟩;have hsk:(Lit.int .i64 e.1).sameKey (.int .i64 cn)=decide (e.1=cn):=by simp [Lit.sameKey]
     rw [hsk]
     constructor
     ·rintro (rfl | ⟨⟨h1,h2⟩,h3⟩)
      ·exact ⟨hin,by simp [Ent.abs]⟩
      ·exact ⟨h1,by rw [h2];rfl⟩
     ·rintro ⟨h1,h2⟩
      by_cases he:e.1=cn
      ·left
       have q1:=look_at SS.ok.srt h1;have q2:=look_at SS.ok.srt hin;have:look key (key e) (C.map Ent.abs)=look key (key (cn,cp,cl)) (C.map Ent.abs):=by rw [show key e=key (cn,cp,cl) from he]
       exact bh (q1.symm.trans (this.trans q2))
      ·right
       simp [he] at h2
       exact ⟨⟨h1,h2⟩,he⟩
    ·rcases hk with hk | ⟨hk,_⟩
     ·exact I.lo k hk
     ·omega
    ·rcases hk with hk | ⟨hk,_⟩
     ·exact I.off hk
     ·omega
   clear hK K m4 g4 row4;refine Sd.done ?_;obtain ⟨F4,C4,NEW⟩:=NEW;have MS:Hid (w4.rangeLeft b (w.heap.size+2) < wr.rangeLeft b (w.heap.size+2)):=by
    show _ < _
    rw [NEW.out.rg.left_eq,RG0.out.left_eq];exact FF.out.2.2.2.2
   go_wp2
   go_roundw
   case rel=>exact ⟨_,_,_,_,NEW⟩
   case measure=>exact MS
theorem copy_none (S:Sto w s F (.map none) C d):Calls prog 118 #[.pointer (some ⟨s,0,none⟩)] w (CopySt w (C.map Ent.abs) d):=by
 obtain rfl:C = []:=by
  rcases S.mp with ⟨_,e⟩ | ⟨b,e,_⟩
  ·exact e
  ·cases e
 have hmm:=@run_makeMap prog;have e1:(w.alloc (.map #[] 0)).heap.size=w.heap.size+1:=by simp
 have B1:Below w.heap.size w (w.alloc (.map #[] 0)):=(aa w.heap.size w).alloc (ac _) _;have c1:=row_cell (S.below B1).row 1;have S2:=copy0 w d;have e2:((w.alloc (.map #[] 0)).alloc (.cells #[.map (some w.heap.size),.int .i64 d] 150)).heap.size=w.heap.size+2:=by simp
 have B2:Below w.heap.size w ((w.alloc (.map #[] 0)).alloc (.cells #[.map (some w.heap.size),.int .i64 d] 150)):=B1.alloc B1.size _;have c0:=row_cell (S.below B2).row 0;have hrg:=run_range_nilMap (P:=prog) ((w.alloc (.map #[] 0)).alloc (.cells #[.map (some w.heap.size),.int .i64 d] 150)) 148 3 83 underlying148;have hnx:∀ ty,(Instr.next (.pointer (some ⟨((w.alloc (.map #[] 0)).alloc (.cells #[.map (some w.heap.size),.int .i64 d] 150)).heap.size,0,none⟩)) false ty).run prog (((w.alloc (.map #[] 0)).alloc (.cells #[.map (some w.heap.size),.int .i64 d] 150)).alloc (.mapIter none 0 #[] 0))=_:=fun ty=>run_next_nilMap _ ty 0 0 #[];have RES:Hid (CopySt w (([]:List Ent).map Ent.abs) d (.returned (.pointer (some ⟨w.heap.size+1,0,none⟩))) (((w.alloc (.map #[] 0)).alloc (.cells #[.map (some w.heap.size),.int .i64 d] 150)).alloc (.mapIter none 0 #[] 0))) :=
  ⟨_,_,rfl,⟨_,[],S2.below ((aa _ _).alloc (ac _) _),rfl⟩,fun k hk=>by rcases hk with rfl | rfl <;> omega,B2.alloc B2.size _⟩
 rw [e2] at hrg hnx;clear S S2 B1 B2
 go_enter func118,ntmps118
 go_wp2;refine wp_loop_rounds 1 ?_;rw [rounds_succ];go_wp2
 go_ret
 exact RES
theorem copy_any (S:St w s F A d):Calls prog 118 #[.pointer (some ⟨s,0,none⟩)] w (CopySt w A d):=by
 obtain ⟨m,C,h,rfl⟩:=S
 rcases h.mp with ⟨rfl,_⟩ | ⟨b,rfl,_⟩
 ·exact copy_none h
 ·exact copy_some h
end Fs
namespace Fs
open Go.Maps Go.Sort Go.Shelf
theorem sortsL (m:Nat):AnyZI.SortsIn prog sortedL_ren Fence.wide m :=
 ⟨fun blk off cap ss W hH hblk hsz=>callsIn_wide.2 (AnyM.slices_Sort_int sortL blk off cap ss W hH hblk hsz),
  fun p cap W=>callsIn_wide.2 (AnyM.slices_Sort_int_none sortL p cap W)⟩
theorem keys_any (mb:Option Nat) (W:World):Calls prog 72 #[.map mb] W fun e w'=>e = .returned (.func (.func 98) #[] #[.pointer (some ⟨W.heap.size,0,none⟩)])/\w'=W.alloc (.cells #[.map mb] 148) :=
 (callsIn_wide (n:=5)).1 (AnyZI.keys_in keysL Fence.wide 5 trivial rfl mb W)
def KI:Rw.Kind Int:=Rw.int .i64
theorem flat_int:∀ l:List Int,KI.flat l=l.map encZ
 | []=>rfl
 | a :: r=>by
   have:=flat_int r
   show [Value.int .i64 a] ++ KI.flat r=_
   rw [this]
   rfl
theorem keys_dat (C:List Ent):intKeys (dat C)=C.map Ent.n:=by
 show (C.map ent).map (fun p=>Go.intOf p.1)=_
 rw [List.map_map]
 rfl
variable {C:List Ent}
theorem sort_keys (h:Srt Ent.n C) {ss:List Int} (hp:ss.Perm (intKeys (dat C))):ss.mergeSort (fun x y=>decide (x<=y))=C.map Ent.n:=by
 have e:=mergeSort_of_perm_i hp
 show ss.mergeSort leI=_
 rw [e,keys_dat];refine List.mergeSort_of_pairwise ?_;rw [List.pairwise_map];exact h.imp fun h=>by simp only [leI,aZ];exact Int.le_of_lt h
theorem size_dat (C:List Ent):Maps.size (dat C)=C.length:=by unfold dat Maps.size;simp
def SortPost (w:World) (C:List Ent) (e:Ending) (w':World):Prop:=∃ v,e = .returned v/\Ow KI w' w.heap.size 3 v (C.map Ent.n)/\Below w.heap.size w w'
variable {w w' w2:World} {F:Nat->Prop}
theorem sorted_any {mb:Option Nat} (M:Mp w F (.map mb) C) (hs:Srt Ent.n C) (hl:C.length<=64) :
 Calls prog 71 #[.func (.func 98) #[] #[.pointer (some ⟨w.heap.size,0,none⟩)]] (w.alloc (.cells #[.map mb] 148)) (SortPost w C):=by
 have B0:Below w.heap.size w (w.alloc (.cells #[.map mb] 148)):=(aa w.heap.size w).alloc (ac _) _
 rcases M with ⟨e,rfl⟩ | ⟨b,e,_,hown⟩
 ·obtain rfl:mb=none:=by injection e
  have hseq:SeqGives Fence.wide 2 prog 98 #[.pointer (some ⟨w.heap.size,0,none⟩)] encZ (fun ss:List Int=>ss = []) 0 (w.alloc (.cells #[.map none] 148)) :=
   AnyZI.keys_gives_nil (ρ:=keysL_ren) { keysL with } Fence.wide _ trivial rfl w.heap.size _ (by simp) (by simp)
  have cS:=AnyZI.sorted_in sortedL Fence.wide 5 trivial trivial trivial trivial rfl (by omega) (sortsL _) (enters_of func97 (by kernel_rfl) rfl) 98 #[.pointer (some ⟨w.heap.size,0,none⟩)] trivial (enters_of func98 (by kernel_rfl) rfl) _ 0 (aI _) (by omega) _ hseq;refine ((callsIn_wide (n:=5)).1 cS).mono ?_;rintro e w' ⟨v,ss,rfl,rfl,hrow,hnil,hb⟩;obtain rfl:v = .slice none 0 0:=hnil.2 rfl;exact ⟨_,rfl,Ow.nil _ _ _,B0.trans (hb.mono (by simp))⟩
 ·obtain rfl:mb=some b:=by injection e
  have hbl:=hown.lt;have hseq:SeqGives Fence.wide 2 prog 98 #[.pointer (some ⟨w.heap.size,0,none⟩)] encZ (fun ss=>ss.Perm (intKeys (dat C))) (Maps.size (dat C)) (w.alloc (.cells #[.map (some b)] 148)) :=
   AnyZI.keys_gives (ρ:=keysL_ren) { keysL with } Fence.wide _ trivial rfl (by omega) w.heap.size b C.length (dat C) _ (by simp) (by simp) (by
    obtain ⟨es,clock,hb,Ft,hs,hD⟩:=hown
    exact ⟨es,clock,(aQ _ _ b hbl).trans hb,Ft,hs,hD⟩)
  have cS:=AnyZI.sorted_in sortedL Fence.wide 5 trivial trivial trivial trivial rfl (by omega) (sortsL _) (enters_of func97 (by kernel_rfl) rfl) 98 #[.pointer (some ⟨w.heap.size,0,none⟩)] trivial (enters_of func98 (by kernel_rfl) rfl) _ _ (by rw [size_dat];unfold maxLen;omega) (by rw [size_dat];omega) _ hseq;refine ((callsIn_wide (n:=5)).1 cS).mono ?_;rintro e w' ⟨v,ss,rfl,hS,hrow,hnil,hb⟩;refine ⟨v,rfl,?_,B0.trans (hb.mono (by simp))⟩;have e1:=sort_keys hs hS;have e2:ss.length=(C.map Ent.n).length:=by rw [← keys_dat];exact hS.length_eq
  show w'.ownsRow w.heap.size 3 1 v (C.map Ent.n).length (KI.flat (C.map Ent.n))
  rw [flat_int,← e1,List.length_mergeSort];exact ownsRow_base_a hrow (by simp)
theorem infoE3:(prog.info? 85).map (fun i=>(i.zero,i.size,i.bytes))=some (some (.agg #[.int .i64 0,.int .i64 0,.slice none 0 0]),3,40):=by kernel_rfl
theorem run_buildN (n p:Int) (a:Option Addr) (q cap:Nat) (w:World):(Instr.build 85 #[(0,.int .i64 n),(1,.agg #[.int .i64 p,.slice a q cap])]).run prog w = .ok (.agg #[.int .i64 n,.int .i64 p,.slice a q cap]) w:=by kernel_rfl
theorem copied_agg (w:World) (p:Int) (v:Value) (l:List R4) (q:Nat) (R:Rd K4 w v l) (hl:l.length<=260) (hq:l.length=q):Calls prog 73 #[.agg #[.int .i64 p,v]] w fun e w'=>∃ a cap,e = .returned (.agg #[.int .i64 p,.slice a q cap])/\Ow K4 w' w.heap.size 36 (.slice a q cap) l/\Below w.heap.size w w' :=
 (copied_any w p v l R hl).mono fun e w' ⟨u,h1,h2,h3⟩=>by
   obtain ⟨a,cap,rfl,_⟩:=h2.slice;rw [hq] at h1 h2;exact ⟨a,cap,h1,h2,h3⟩
variable {v:Value}
theorem ow_far {α:Type} {K:Rw.Kind α} {B E T:Nat} {l:List α} (h:Ow K w B E v l) (hne:E≠T) (f:Rw.Far T w w'):Ow K w' B E v l:=by
 obtain ⟨h1,h2⟩:=h;refine ⟨h1,?_⟩
 rcases h2 with h2 | ⟨g,cap,cur,e,hB,hh,r⟩
 ·exact .inl h2
 ·exact .inr ⟨g,cap,cur,e,hB,f g _ _ hh hne,r⟩
def FRel (w:World) (C:List Ent) (v:Value) (k:Nat) (wr:World):Prop:=∃ L:List Ent,Ow E3 wr w.heap.size 85 v L/\L.map Ent.abs=(C.take k).map Ent.abs/\(∀ c∈L,Ow K4 wr w.heap.size 36 c.sl c.l)/\Below w.heap.size w wr
def FilesPost (w:World) (A:Abs) (e:Ending) (w':World):Prop:=∃ v,e = .returned v/\(∀ F:Nat->Prop,(∀ k,F k->k < w.heap.size)->Ls F w' v A)/\Below w.heap.size w w'
variable {A:Abs}
theorem ls_of (h:FRel w2 C v C.length w') (hA:C.map Ent.abs=A) (hb:w.heap.size<=w2.heap.size) (F:Nat->Prop) (hF:∀ k,F k->k < w.heap.size):Ls F w' v A:=by
 obtain ⟨L,o,e,r,b⟩:=h;rw [br] at e;exact ⟨L,⟨o.rd,fun _ k hk g=>by have:=(ow_new o k hk).1;have:=hF k g;omega,fun c hc=>(r c hc).rd,fun c hc _ k hk g=>by have:=(ow_new (r c hc) k hk).1;have:=hF k g;omega⟩,e.trans hA⟩
theorem files_any {s:Nat} {d:Int} (S:St w s F A d):Calls prog 42 #[.pointer (some ⟨s,0,none⟩)] w (FilesPost w A):=by
 obtain ⟨m,C,h,hA⟩:=S;obtain ⟨mb,rfl⟩:∃ mb,m = .map mb:=by
  rcases h.mp with ⟨e,_⟩ | ⟨b,e,_⟩
  ·exact ⟨_,e⟩
  ·exact ⟨_,e⟩
 have srt:=(map_srt (κ:=Ent.n) (κ':=key) abs_key).1 h.ok.srt;have c0:=Fl.rc h.row 0;have SO:=Hh (sorted_any h.mp srt h.len);have SS:=Hh h;have HL:=Hh h.len;have HS:=Hh srt;have HA:=Hh hA;clear h hA srt
 go_enter func42,ntmps42
 go_wp2_with (first
  | (go_at_call 72;refine (keys_any _ _).mono ?_;rintro e w1 ⟨rfl,rfl⟩)
  | (go_at_call 71;refine SO.out.mono ?_;rintro e w2 ⟨vk,rfl,ok,b2⟩;obtain ⟨ka,kc,rfl,hkc⟩:=ok.slice;rw [aL] at ok ⊢))
 have OK:=Hh ok;have B2:=Hh b2;have S2:=Hh (SS.out.below b2);clear c0 ok b2 SO SS hkc;generalize hn:C.length=n at *;have HN:=Hh hn;clear hn
 go_loopw [3,15] (fun v i wr=>∃ k:Nat,k<=n/\i = .int .i64 k/\Hid (FRel w2 C v k wr)) (fun _ i _=>n - (intOf i).toNat)
 case atStart=>exact ⟨0,aI _,rfl,[],Ow.nil _ _ _,by simp,nofun,aa _ _⟩
 case round =>
  obtain ⟨k,hk,rfl,R⟩:=hrel
  by_cases hlt:k < n
  ·obtain ⟨L,oL,eL,rL,bL⟩:=R.out
   have hkC:k < C.length:=by have:=HN.out;omega
   obtain ⟨⟨cn,cp,ca,cc,cl⟩,hc⟩:∃ c:Ent,C[k]? = some c:=⟨_,ai hkC⟩;obtain ⟨g,off,ek,hK⟩:∃ g cap,(Value.slice ka n kc) = .slice (some ⟨g,0,none⟩) n cap/\w2.cell? ⟨g,k,none⟩=some (.int .i64 cn):=by
    obtain ⟨g,cap,e1,_,_,_,_,_,hAt⟩:=OK.out.form (by rw [aL];omega);rw [aL,HN.out] at e1;have c:=hAt k (by rw [aL];exact hkC) 0 (.int .i64 ((C.map Ent.n).getD k 0)) rfl;have e0:(C.map Ent.n).getD k 0=cn:=by rw [af,a9,hc];rfl
    rw [e0] at c;have e:0+k * KI.n+0=k:=by show 0+k * 1+0=k;omega
    rw [e] at c;exact ⟨g,cap,e1,c⟩
   obtain ⟨rfl,rfl⟩:ka=some ⟨g,0,none⟩/\kc=off:=by injection ek with e1 _ e3;exact ⟨e1,e3⟩
   have kr:=(bL.cell (aC _ _ hK)).trans hK;have SR:=S2.out.below bL;have c0:=Fl.rc SR.row 0;have M:=Hh SR.mp;have hin:=bo hc;have hl:look Ent.n cn C=some ⟨cn,cp,ca,cc,cl⟩:=look_at HS.out hin;have LV:=Hh (lv_some hl);obtain ⟨ho,hg,-,-,hnm,-⟩:=SR.find hl;have WN:Hid (Wf cn):=WalkArith.wf_i64 (by omega);have RC:=Hh (ho.rd);have GL:Hid (cl.length<=260):=by have:=hg.2.2.2.1;show cl.length<=260;simp only at this;omega
   have TK:Hid (∀ e:Ent,e.abs=(cn,cp,cl)->(L ++ [e]).map Ent.abs=(C.take (k+1)).map Ent.abs):=fun e he=>by
    rw [bG,hc,cA,cA,eL]
    show _ ++ [e.abs]=_ ++ [(cn,cp,cl)]
    rw [he]
   have LL:Hid (L.length<=64):=by
    have e:=bF List.length eL;rw [aL,aL,aW] at e;have:=HL.out
    show _<=64
    omega
   have OL:=Hh oL;have RL:=Hh rL;have BL:=Hh bL;obtain ⟨va,vc,ev,-⟩:=oL.slice;clear R hK ek SR hin hl ho hg hnm oL rL bL eL hkC hc;unfold Ent.sl at RC;simp only at *;generalize hq:cl.length=q at *;have HQ:=Hh hq;clear hq;generalize hLl:L.length=Ln at *;have HLl:=Hh hLl;subst ev;clear hLl;have CA:=fun W (hb:Below wr.heap.size wr W)=>copied_agg W cp (.slice ca q cc) cl q (by have:=RC.out.below hb;exact this) (by rw [HQ.out];exact GL.out) HQ.out;have CC:=Hh CA;clear CA;have hF:=run_fieldF;have hBN:=run_buildN;have hn64:=HL.out;have hw2:=Hh (BL.size)
   go_wp2_with (first
    | (at_lookup;refine at_look0 rfl _ _ rfl M rfl _ rfl WN _ LV ?_)
    | (go_at_call 73;refine (CC _ (aa _ _)).mono ?_;rintro e w3 ⟨ua,uc,rfl,o3,b3⟩;have O3:=Hh o3;have B3:=Hh b3;clear o3 b3)
    | (at_builtin;refine Rw.push_far (K:=E3) underlying49 infoE3 rfl (by omega) rfl _ _ rfl w2.heap.size _ L ?e0 ((OL.out.keep B3.out).alloc _) _ ⟨cn,cp,ua,uc,cl⟩ rfl ?d1 ?d2 ?d3 ?_))
   case e0=>rfl
   case d1 =>
    intro j u hu
    unfold E3 Ent.sl at hu;simp only [HQ.out] at hu
    match j,hu with
    | 0,hu=>simp at hu;subst hu;go_simp
    | 1,hu=>simp at hu;subst hu;go_simp
    | 2,hu=>simp at hu;subst hu;go_simp
    | j+3,hu=>simp at hu
   case d2=>rw [HLl.out];have:=LL.out;omega
   case d3=>have:=B3.out.size;have:=hw2.out;simp;omega
   intro v' w4 o4 b4 f4
   have N2:Hid (FRel w2 C v' (k+1) w4):=by
    have hs3:=B3.size;have hs2:=hw2.out;refine ⟨L ++ [⟨cn,cp,ua,uc,cl⟩],o4,TK _ rfl,fun c hc=>?_,((BL.trans (B3.mono hs2)).alloc (by omega) _).trans b4⟩
    rcases bM.1 hc with hc | hc
    ·exact ow_far (((RL c hc).keep B3).alloc _) (by decide) f4
    ·obtain rfl:c=_:=bm.1 hc
     have o:Ow K4 w3 wr.heap.size 36 (⟨cn,cp,ua,uc,cl⟩:Ent).sl cl:=by unfold Ent.sl;rw [HQ.out];exact O3.out
     exact ow_far ((o.low hs2).alloc _) (by decide) f4
   clear o4 b4 f4;go_wp2
   go_roundw
   case rel=>exact ⟨k+1,by omega,by go_num,N2⟩
   case measure=>simp [intOf];omega
  ·obtain rfl:k=n:=by omega
   have E:=Hh (fun (F:Nat->Prop) (hF:∀ k,F k->k < w.heap.size)=>ls_of (w:=w) (by rw [HN.out];exact R.out) HA.out B2.out.size F hF);have BR:Hid (Below w2.heap.size w2 wr):=by obtain ⟨_,_,_,_,b⟩:=R;exact b
   clear R;go_wp2
   go_ret
   exact ⟨_,rfl,E,bTr B2 BR⟩
open Go.Extern.Stop Go.Stop Go.Extern
def flt (n e:Int):Value:=.agg #[.int .i64 n,.iface 25 (.int .i64 e)]
def fault (n e:Int):Value:=.iface 206 (flt n e)
theorem isTypeOf (v:Value) (w:World):(Extern.ReflectliteType.typeOf #[.iface 25 v]).run prog w = .ok (.iface 222 (.agg #[.pointer (some ⟨1,25,none⟩)])) w:=by kernel_rfl
theorem isTypeOfF (v:Value) (w:World):(Extern.ReflectliteType.typeOf #[.iface 206 v]).run prog w = .ok (.iface 222 (.agg #[.pointer (some ⟨1,206,none⟩)])) w:=by kernel_rfl
def compF : Array Value → Sem Value := Extern.ReflectliteType.method fun t => do Rtype.noPackHeld "Comparable" t; pure (.bool (← typeInfo t).comparable)
theorem isComparable (w:World):(compF #[.agg #[.pointer (some ⟨1,25,none⟩)]]).run prog w = .ok (.bool true) w:=by kernel_rfl
theorem isMethodComparable (v : Value) (w : World) : (Go.method 477 222 v "Comparable").run Tryz.prog w = .ok (262, v) w := by kernel_rfl
theorem noIsF (v:Value) (xT:TypeId) (w:World):(Instr.typeAssert (.iface 206 v) xT 224 true).run prog w = .ok (.tuple #[.nilIface,.bool false]) w:=run_typeAssert_lacksB underlying224 (by kernel_rfl) (by kernel_rfl) v xT w
theorem noIsE (v:Value) (xT:TypeId) (w:World):(Instr.typeAssert (.iface 25 v) xT 224 true).run prog w = .ok (.tuple #[.nilIface,.bool false]) w:=run_typeAssert_lacksB underlying224 (by kernel_rfl) (by kernel_rfl) v xT w
theorem hasUnwrapF (v:Value) (xT:TypeId) (w:World):(Instr.typeAssert (.iface 206 v) xT 227 true).run prog w = .ok (.tuple #[.iface 206 v,.bool true]) w:=run_typeAssert_hasB underlying227 (by kernel_rfl) v xT w
theorem noUnwrapE (v:Value) (xT:TypeId) (w:World):(Instr.typeAssert (.iface 25 v) xT 227 true).run prog w = .ok (.tuple #[.nilIface,.bool false]) w:=run_typeAssert_lacksB underlying227 (by kernel_rfl) (by kernel_rfl) v xT w
theorem noUnwrapsE (v:Value) (xT:TypeId) (w:World):(Instr.typeAssert (.iface 25 v) xT 229 true).run prog w = .ok (.tuple #[.nilIface,.bool false]) w:=run_typeAssert_lacksB underlying229 (by kernel_rfl) (by kernel_rfl) v xT w
theorem methodUnwrap (v : Value) (w : World) : (Go.method 477 206 v "Unwrap").run Tryz.prog w = .ok (259, v) w := by kernel_rfl
theorem eql_errno (a b:Int) (w:World):(binOp .eql 107 (.iface 25 (.int .i64 a)) (.iface 25 (.int .i64 b))).run prog w = .ok (.bool (decide (a=b))) w:=by
 have:=Lib.run_eql_iface_int (P:=prog) w (t:=107) (tx:=25) (k:=.i64) (q:=.i64) a b underlying107 (by kernel_rfl) underlying25;rw [this]
 congr 2
theorem eql_types (v u:Value) (w:World):(binOp .eql 107 (.iface 206 v) (.iface 25 u)).run prog w = .ok (.bool false) w:=run_eql_iface_types (P:=prog) _ _ v u underlying107 (by decide) w
theorem ret_b {a b:Bool} (h:a=b):Ending.returned (.bool a) = .returned (.bool b):=by rw [h]
theorem unwrap_any (w:World) (n:Int) (x:Value):Calls prog 259 #[.agg #[.int .i64 n,x]] w fun e w'=>e = .returned x/\Below w.heap.size w w':=by
 go_enter func259,ntmps259
 go_wp2
 go_ret
 exact ⟨rfl,(aa w.heap.size w).alloc (ac _) _⟩
theorem is_loop (n e:Int) (w:World):Calls prog 95 #[fault n e,.iface 25 (.int .i64 5),.bool true] w fun ev w'=>ev = .returned (.bool (decide (e=5)))/\Below w.heap.size w w':=by
 have nF:=noIsF;have nE:=noIsE;have uF:=hasUnwrapF;have uE:=noUnwrapE;have vE:=noUnwrapsE;have mU:=methodUnwrap;have hty:=eql_types;have heq:=eql_errno;unfold fault flt
 by_cases h:e=5
 ·have hd:=an h
  go_enter func95,ntmps95
  go_wp2;refine wp_loop_rounds 2 ?_;rw [rounds_succ]
  go_wp2_with (go_at_call 259;refine (unwrap_any _ _ _).mono ?_;rintro ev w1 ⟨rfl,b1⟩)
  rw [rounds_succ];go_wp2
  go_ret
  exact ⟨ret_b hd.symm,b1⟩
 ·have hd:=ak h
  go_enter func95,ntmps95
  go_wp2;refine wp_loop_rounds 2 ?_;rw [rounds_succ]
  go_wp2_with (go_at_call 259;refine (unwrap_any _ _ _).mono ?_;rintro ev w1 ⟨rfl,b1⟩)
  rw [rounds_succ];go_wp2
  go_ret
  exact ⟨ret_b hd.symm,b1⟩
theorem is_any (n e:Int) (w:World):Calls prog 67 #[fault n e,.iface 25 (.int .i64 5)] w fun ev w'=>ev = .returned (.bool (decide (e=5)))/\Below w.heap.size w w':=by
 have h8:=@run_callFunc_extern prog 94 _ Extern.ReflectliteType.typeOf func94 (by kernel_rfl) (by kernel_rfl) (by kernel_rfl) (by kernel_rfl);have h32:=@run_callFunc_extern prog 262 _ compF func262 (by kernel_rfl) (by kernel_rfl) (by kernel_rfl) (by kernel_rfl);have tT:=isTypeOf;have cT:=isComparable;have mR:=isMethodComparable;have L:=Hh (is_loop n e w);unfold fault flt at *
 go_enter func67,ntmps67
 go_wp2_with (go_at_call 95;refine L.mono ?_;rintro ev w1 ⟨rfl,b1⟩)
 go_ret
 exact ⟨rfl,b1⟩
def valF:Array Value->Sem Value:=fun args=>ReflectliteValue.unpack (args.getD 0 (.tuple #[]))
def typF : Array Value → Sem Value := ReflectliteValue.methodAny (ReflectliteValue.valueError "reflectlite.Value.Type" 0) (fun t _ _ _ => ReflectliteType.toType t)
def nilF : Array Value → Sem Value := ReflectliteValue.method (ReflectliteValue.valueError "reflectlite.Value.IsNil" 0) ReflectliteValue.isNil
def kinF:Array Value->Sem Value:=ReflectliteType.abiMethod fun t=>do pure (.int .u8 (← Rtype.kind t))
def eleF:Array Value->Sem Value:=ReflectliteType.method ReflectliteType.elem
def impF : Array Value → Sem Value := ReflectliteType.relation "Implements" ReflectliteType.implements_
def asgF : Array Value → Sem Value := ReflectliteType.relation "AssignableTo" ReflectliteType.assignableTo
def elvF : Array Value → Sem Value := ReflectliteValue.method (ReflectliteValue.valueError "reflectlite.Value.Elem" 0) ReflectliteValue.elem
theorem valP (t:Addr) (w:World):(valF #[.iface 157 (.pointer (some t))]).run prog w = .ok (.agg #[.pointer (some ⟨1,157,none⟩),.pointer (some ⟨w.heap.size,0,none⟩),.int .u64 150]) (w.alloc (.cells #[.pointer (some t)] 157)):=by kernel_rfl
theorem valE (e:Int) (w:World):(valF #[.iface 25 (.int .i64 e)]).run prog w = .ok (.agg #[.pointer (some ⟨1,25,none⟩),.pointer (some ⟨w.heap.size,0,none⟩),.int .u64 130]) (w.alloc (.cells #[.int .i64 e] 25)):=by kernel_rfl
theorem typP (a:Addr) (w:World):(typF #[.agg #[.pointer (some ⟨1,157,none⟩),.pointer (some a),.int .u64 150]]).run prog w = .ok (.iface 222 (.agg #[.pointer (some ⟨1,157,none⟩)])) w:=by kernel_rfl
theorem mKind (h : Value) (w : World) : (Go.method 477 222 (.agg #[h]) "Kind").run Tryz.prog w = .ok (244, h) w := by kernel_rfl
theorem mElem (h : Value) (w : World) : (Go.method 477 222 (.agg #[h]) "Elem").run Tryz.prog w = .ok (263, .agg #[h]) w := by kernel_rfl
theorem mImp (h : Value) (w : World) : (Go.method 477 222 (.agg #[h]) "Implements").run Tryz.prog w = .ok (264, .agg #[h]) w := by kernel_rfl
theorem mAsg (h : Value) (w : World) : (Go.method 477 222 (.agg #[h]) "AssignableTo").run Tryz.prog w = .ok (261, .agg #[h]) w := by kernel_rfl
theorem kindP (w:World):(kinF #[.pointer (some ⟨1,157,none⟩)]).run prog w = .ok (.int .u8 22) w:=by kernel_rfl
theorem kindE (w:World):(kinF #[.pointer (some ⟨1,25,none⟩)]).run prog w = .ok (.int .u8 2) w:=by kernel_rfl
theorem elemP (w:World):(eleF #[.agg #[.pointer (some ⟨1,157,none⟩)]]).run prog w = .ok (.iface 222 (.agg #[.pointer (some ⟨1,25,none⟩)])) w:=by kernel_rfl
theorem impE (w:World):(impF #[.agg #[.pointer (some ⟨1,25,none⟩)],.iface 222 (.agg #[.pointer (some ⟨1,107,none⟩)])]).run prog w = .ok (.bool true) w:=by kernel_rfl
theorem asgE (w:World):(asgF #[.agg #[.pointer (some ⟨1,25,none⟩)],.iface 222 (.agg #[.pointer (some ⟨1,25,none⟩)])]).run prog w = .ok (.bool true) w:=by kernel_rfl
theorem asgF' (w:World):(asgF #[.agg #[.pointer (some ⟨1,206,none⟩)],.iface 222 (.agg #[.pointer (some ⟨1,25,none⟩)])]).run prog w = .ok (.bool false) w:=by kernel_rfl
theorem noAsF (v:Value) (xT:TypeId) (w:World):(Instr.typeAssert (.iface 206 v) xT 236 true).run prog w = .ok (.tuple #[.nilIface,.bool false]) w:=run_typeAssert_lacksB underlying236 (by kernel_rfl) (by kernel_rfl) v xT w
theorem rlm (z:Sem Value) (f:TypeId->Addr->Nat->Nat->Sem Value) (v:Value) :
 ReflectliteValue.method z f #[v]=(do match ← ReflectliteValue.parts v with | none=>z | some (t,a,fl)=>f t a fl (fl % 32)):=rfl
theorem partsP (a:Addr) (w:World):(ReflectliteValue.parts (.agg #[.pointer (some ⟨1,157,none⟩),.pointer (some a),.int .u64 150])).run prog w = .ok (some (157,a,150)) w:=by kernel_rfl
theorem nilP (a p:Addr) (W:World) (ha:W.cell? a=some (.pointer (some p))):(nilF #[.agg #[.pointer (some ⟨1,157,none⟩),.pointer (some a),.int .u64 150]]).run prog W = .ok (.bool false) W:=by
 unfold nilF;rw [rlm];simp only [Sem.run_bind,partsP,Result.andThen]
 simp [ReflectliteValue.isNil,loadVar,isAgg,underlying,underlying157,ha,Result.andThen]
theorem elemOfP (w:World):(Rtype.elem? 157).run prog w = .ok (some 25) w:=by kernel_rfl
theorem mkE (p:Addr) (w:World):(ReflectliteValue.mk 25 p ReflectliteValue.flagAddr).run prog w = .ok (.agg #[.pointer (some ⟨1,25,none⟩),.pointer (some p),.int .u64 386]) w:=by kernel_rfl
theorem elvP (a p:Addr) (W:World) (ha:W.cell? a=some (.pointer (some p))):(elvF #[.agg #[.pointer (some ⟨1,157,none⟩),.pointer (some a),.int .u64 150]]).run prog W = .ok (.agg #[.pointer (some ⟨1,25,none⟩),.pointer (some p),.int .u64 386]) W:=by
 unfold elvF;rw [rlm];simp only [Sem.run_bind,partsP,Result.andThen]
 simp [ReflectliteValue.elem,loadVar,isAgg,underlying,underlying157,ha,Result.andThen,elemOfP,mkE]
theorem rls (v x:Value):ReflectliteValue.set #[v,x]=(do
 let (some (dst,a,fl),some (src,b,_)):=(← ReflectliteValue.parts v,← ReflectliteValue.parts x)
  | unsupported (.noEntry "extern/(internal/reflectlite.Value).Set.zeroValue")
 if fl / ReflectliteValue.flagAddr % 2 == 0 then unsupported (.noEntry "extern/(internal/reflectlite.Value).Set.unaddressable")
 let val ← loadVar src b
 if ← Rtype.directlyAssignable dst src then storeVar dst a val
 else if ← Rtype.implements dst src then
  if (← Rtype.kind src) == 20 then
   match val with
   | .nilIface => unsupported (.noEntry "extern/reflectlite: a nil value of one interface type handed on as a value of another")
   | _=>storeVar dst a val
  else storeVar dst a (.iface src val)
 else panicString ("reflectlite.Set: value of type " ++ (← Rtype.spelt src) ++ " is not assignable to type " ++ (← Rtype.spelt dst))
 pure (.tuple #[])):=rfl
theorem partsEa (a:Addr) (w:World):(ReflectliteValue.parts (.agg #[.pointer (some ⟨1,25,none⟩),.pointer (some a),.int .u64 386])).run prog w = .ok (some (25,a,386)) w:=by kernel_rfl
theorem partsE (a:Addr) (w:World):(ReflectliteValue.parts (.agg #[.pointer (some ⟨1,25,none⟩),.pointer (some a),.int .u64 130])).run prog w = .ok (some (25,a,130)) w:=by kernel_rfl
theorem directE (w:World):(Rtype.directlyAssignable 25 25).run prog w = .ok true w:=by kernel_rfl
theorem setE (ta b:Addr) (e:Int) (old:Value) (W:World) (hb:W.cell? b=some (.int .i64 e)) (ht:W.cell? ta=some old) (hf:W.frozen? ta=false) :
 (ReflectliteValue.set #[.agg #[.pointer (some ⟨1,25,none⟩),.pointer (some ta),.int .u64 386],.agg #[.pointer (some ⟨1,25,none⟩),.pointer (some b),.int .u64 130]]).run prog W
   = .ok (.tuple #[]) (W.setCell ta (.int .i64 e)):=by
 rw [rls];simp only [Sem.run_bind,partsEa,partsE,Result.andThen]
 simp [ReflectliteValue.flagAddr,loadVar,isAgg,underlying,underlying25,hb,Result.andThen,directE,storeVar,Value.cells,storeCells,Addr.add]
 rw [run_store prog W ta _ _ (by rfl)]
 simp [ht,hf]
def Glob (w:World):Prop:=w.cell? ⟨0,0,none⟩=some (.iface 222 (.agg #[.pointer (some ⟨1,107,none⟩)]))
theorem Glob.below (h:Glob w) (b:Below w.heap.size w w'):Glob w':=bCe b h
theorem Glob.only {G:Nat->Prop} (h:Glob w) (hn:¬ G 0) (o:Only G w w'):Glob w':=o.cell h hn
def AsPost (w:World) (tb:Nat) (e:Int) (ev:Ending) (w':World):Prop:=ev = .returned (.bool true)/\w'.heap[tb]? = some (.cells #[.int .i64 e] 25 (0,0))/\Only (fun k=>k=tb) w w'
theorem as_loop (n e:Int) (tb b:Nat) (w:World) (hb:w.cell? ⟨b,0,none⟩=some (.pointer (some ⟨tb,0,none⟩))) (ht:w.heap[tb]? = some (.cells #[.int .i64 0] 25 (0,0))) :
 Calls prog 104 #[fault n e,.iface 157 (.pointer (some ⟨tb,0,none⟩)),.agg #[.pointer (some ⟨1,157,none⟩),.pointer (some ⟨b,0,none⟩),.int .u64 150],.iface 222 (.agg #[.pointer (some ⟨1,25,none⟩)])] w (AsPost w tb e):=by
 have h42:=@run_callFunc_extern prog 94 _ Extern.ReflectliteType.typeOf func94 (by kernel_rfl) (by kernel_rfl) (by kernel_rfl) (by kernel_rfl);have h102:=@run_callFunc_extern prog 261 _ asgF func261 (by kernel_rfl) (by kernel_rfl) (by kernel_rfl) (by kernel_rfl);have h60:=@run_callFunc_extern prog 125 _ elvF func125 (by kernel_rfl) (by kernel_rfl) (by kernel_rfl) (by kernel_rfl);have h50:=@run_callFunc_extern prog 101 _ valF func101 (by kernel_rfl) (by kernel_rfl) (by kernel_rfl) (by kernel_rfl);have h61:=@run_callFunc_extern prog 126 _ ReflectliteValue.set func126 (by kernel_rfl) (by kernel_rfl) (by kernel_rfl) (by kernel_rfl);have tF:=isTypeOfF;have tE:=isTypeOf;have mA:=mAsg;have aF:=asgF';have aE:=asgE;have nA:=noAsF;have uF:=hasUnwrapF;have mU:=methodUnwrap;have vE:=valE;have HB:=Hh hb;have HT:=Hh ht;have B0:=Hh ((aa w.heap.size w).alloc (ac _) (.cells #[.pointer (some ⟨1,157,none⟩),.pointer (some ⟨b,0,none⟩),.int .u64 150] 196));clear hb ht;unfold fault flt
 go_enter func104,ntmps104
 go_wp2;refine wp_loop_rounds 2 ?_;rw [rounds_succ]
 go_wp2_with (go_at_call 259;refine (unwrap_any _ _ _).mono ?_;rintro ev w1 ⟨rfl,b1⟩)
 have B1:=bTr B0 b1;have G0:=(b1.block _ (by simp)).trans (am w _);obtain ⟨e0,e1,e2⟩:=rc3 G0;have hbl:=aC _ _ HB;have el:=elvP ⟨b,0,none⟩ ⟨tb,0,none⟩ w1 ((B1.cell hbl).trans HB);have htl:=ay HT;have T1:=(B1.block tb htl).trans HT;have T2:=(aQ w1 (.cells #[.int .i64 e] 25) tb (by have:=B1.out.size;omega)).trans T1;have st:=setE ⟨tb,0,none⟩ ⟨w1.heap.size,0,none⟩ e (.int .i64 0) (w1.alloc (.cells #[.int .i64 e] 25)) (by simp) (row_cell T2 0) (row_frozen T2 0);have RES:Hid (AsPost w tb e (.returned (.bool true)) ((w1.alloc (.cells #[.int .i64 e] 25)).setCell ⟨tb,0,none⟩ (.int .i64 e))):=by
  refine ⟨rfl,?_,?_⟩
  ·have:=Rw.heap_setCell_same (j:=0) T2 (.int .i64 e)
   rw [this]
   simp
  ·exact (Only.of_below (B1.alloc B1.size _)).trans (Only.set (fun k=>k=tb) _ (a:=⟨tb,0,none⟩) rfl _) fun _ _ g=>g
 clear b1 G0 T1 T2 HB HT B0 B1 hbl htl;rw [rounds_succ];go_wp2
 go_ret
 exact RES
theorem as_any (n e:Int) (tb:Nat) (w:World) (hg:Glob w) (ht:w.heap[tb]? = some (.cells #[.int .i64 0] 25 (0,0))) :
 Calls prog 75 #[fault n e,.iface 157 (.pointer (some ⟨tb,0,none⟩))] w (AsPost w tb e):=by
 have h50:=@run_callFunc_extern prog 101 _ valF func101 (by kernel_rfl) (by kernel_rfl) (by kernel_rfl) (by kernel_rfl);have h51:=@run_callFunc_extern prog 102 _ typF func102 (by kernel_rfl) (by kernel_rfl) (by kernel_rfl) (by kernel_rfl);have h52:=@run_callFunc_extern prog 103 _ nilF func103 (by kernel_rfl) (by kernel_rfl) (by kernel_rfl) (by kernel_rfl);have h95:=@run_callFunc_extern prog 244 _ kinF func244 (by kernel_rfl) (by kernel_rfl) (by kernel_rfl) (by kernel_rfl);have h104:=@run_callFunc_extern prog 263 _ eleF func263 (by kernel_rfl) (by kernel_rfl) (by kernel_rfl) (by kernel_rfl);have h105:=@run_callFunc_extern prog 264 _ impF func264 (by kernel_rfl) (by kernel_rfl) (by kernel_rfl) (by kernel_rfl);have f6:=valP;have f7:=typP;have mK:=mKind;have mE:=mElem;have mI:=mImp;have kP:=kindP;have kE:=kindE;have eP:=elemP;have iE:=impE;have hlt:=Nat.lt_of_le_of_lt (aI _) (aC _ _ hg);have htl:=ay ht;have B2:Below w.heap.size w ((w.alloc (.cells #[.pointer (some ⟨tb,0,none⟩)] 157)).alloc (.cells #[.pointer (some ⟨1,157,none⟩),.pointer (some ⟨w.heap.size,0,none⟩),.int .u64 150] 196)):=((aa w.heap.size w).alloc (ac _) _).alloc (by simp) _;have n8:=nilP ⟨w.heap.size,0,none⟩ ⟨tb,0,none⟩ ((w.alloc (.cells #[.pointer (some ⟨tb,0,none⟩)] 157)).alloc (.cells #[.pointer (some ⟨1,157,none⟩),.pointer (some ⟨w.heap.size,0,none⟩),.int .u64 150] 196)) (by simp);have hg2:((w.alloc (.cells #[.pointer (some ⟨tb,0,none⟩)] 157)).alloc (.cells #[.pointer (some ⟨1,157,none⟩),.pointer (some ⟨w.heap.size,0,none⟩),.int .u64 150] 196)).cell? ⟨0,0,none⟩=some (.iface 222 (.agg #[.pointer (some ⟨1,107,none⟩)])):=hg.below B2;have AL:=Hh (as_loop n e tb w.heap.size ((w.alloc (.cells #[.pointer (some ⟨tb,0,none⟩)] 157)).alloc (.cells #[.pointer (some ⟨1,157,none⟩),.pointer (some ⟨w.heap.size,0,none⟩),.int .u64 150] 196)) (by simp) ((B2.block tb htl).trans ht));have BB:=Hh B2;have HTL:=Hh htl;clear hg ht B2 htl;unfold fault flt at *
 go_enter func75,ntmps75
 go_wp2_with (go_at_call 104;refine AL.mono ?_;rintro ev w1 ⟨rfl,r1,o1⟩)
 go_ret
 exact ⟨rfl,r1,(Only.of_below BB).trans o1 fun _ _ g=>g⟩
theorem number_any (n e:Int) (w:World) (hg:Glob w):Calls prog 80 #[fault n e] w fun ev w'=>ev = .returned (.int .i64 e)/\Below w.heap.size w w':=by
 have B0:=Hh ((aa w.heap.size w).alloc (ac _) (.cells #[.int .i64 0] 25));have AS:=Hh (as_any n e w.heap.size (w.alloc (.cells #[.int .i64 0] 25)) (hg.below B0) (am w _));clear hg;unfold fault flt at *
 go_enter func80,ntmps80
 go_wp2_with fail;refine AS.mono ?_;rintro ev w1 ⟨rfl,r1,o1⟩;have c1:=Fl.rc r1 0;have BB:=Hh (B0.trans (o1.below (by simp) fun k hk=>by rw [hk];exact ac _));clear r1 o1 B0 AS;go_wp2
 go_ret
 exact ⟨rfl,BB⟩
end Fs
