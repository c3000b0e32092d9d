import Derived.Test.YtljnkaodhfnbbaaGreatDoorPc4
import Derived.WideKeyEntry
import Derived.DeepKeys5
import Derived.Maps.AppendAt
import Derived.Deep.Cut
import Derived.Test.YtljnkaodhfnbbaaGreatDoorPc1
import Derived.Test.YtljnkaodhfnbbaaGreatDoorPc3
import Derived.Shelf.Abstract
set_option maxRecDepth 100000
namespace Go.Proofs.YtljnkaodhfnbbaaGreatDoor.Pa
open Go.RowKit Go.Maps
open Fs (Wf law keyI Rh)
open Rw (Rd Ow At)
open Ro (E5 z5 eat K5)
def bv (y:Int):Value:=.int .u8 y
structure HIs (D:DataW Value) (h:Hr):Prop where
 has:∀ n,Wf n→Maps.has D (.int .i64 n)=(h n).isSome
 val:∀ n y,Wf n→h n=some y→∀ z,D.atKey (.int .i64 n) z = .held (bv y)
def HBl (w:World) (b N:Nat) (h:Hr):Prop:=∃ D,w.ownsMap Tryz.prog 3 Rh b N D∧HIs D h
def HMap (w:World) (v:Value) (h:Hr):Prop:=∃ b N,v = .map (some b)∧HBl w b N h
theorem zeroB (w:World):(zeroValue 5).run Tryz.prog w = .ok (.int .u8 0) w:=by kernel_rfl
section
variable {w w':World} {v:Value} {h:Hr} {b N:Nat}
theorem HBl.lt (M:HBl w b N h):b < w.heap.size:=by obtain ⟨D,o,_⟩:=M;exact o.lt
theorem HBl.kept (M:HBl w b N h) (e:w'.heap[b]? = w.heap[b]?):HBl w' b N h:=by
 obtain ⟨D,⟨es,clock,hb,F,hs,hD⟩,I⟩:=M;exact ⟨D,⟨es,clock,e.trans hb,F,hs,hD⟩,I⟩
theorem HBl.below (M:HBl w b N h) (hb:Below w.heap.size w w'):HBl w' b N h:=M.kept (hb.block b M.lt)
theorem HMap.below (M:HMap w v h) (hb:Below w.heap.size w w'):HMap w' v h:=by
 obtain ⟨b,N,e,M⟩:=M;exact ⟨b,N,e,M.below hb⟩
theorem HMap.only {G:Nat→Prop} (M:HMap w v h) (ho:Fs.Only G w w') (hn:∀ b,v = .map (some b)→¬ G b):HMap w' v h:=by
 obtain ⟨b,N,e,M⟩:=M;exact ⟨b,N,e,M.kept (ho.block b M.lt (hn b e))⟩
theorem run_heard (M:HMap w v h) {n:Int} (hn:Wf n):(Instr.lookup 173 v (.int .i64 n) true).run Tryz.prog w = .ok (.tuple #[bv ((h n).getD 0),.bool (h n).isSome]) w:=by
 obtain ⟨b,N,rfl,D,o,I⟩:=M;obtain ⟨u,ps,hr,hu⟩:=o.look_ok law Tryz.underlying173 (zeroB w) (zd:=.held (bv 0)) (zp:=[]) rfl (keyI hn);rw [hr,I.has n hn];have:u=bv ((h n).getD 0):=by
  have e:DataW.held u=D.atKey (.int .i64 n) (.held (bv 0)):=by simp [Rh] at hu;exact hu.1
  rcases ey:h n with _ | y
  ·have:=I.has n hn
   rw [ey] at this;rw [atKey_of_not_has this] at e;injection e
  ·rw [I.val n y hn ey] at e
   injection e
 rw [this]
theorem at_heard {ops:Array Oper} {rest:List Oper} {o:Oper} {a:Act} {Q:Exit→Act→World→Prop} (hgd:Region.wanted o (yielded ops a.tmps)=true) (p x:Operand) (hop:o.op = .lookup 173 p x true) (hm:a.eval p=v) (M:HMap w v h) (n:Int) (hx:a.eval x = .int .i64 n) (hn:Wf n) (y:Int) (q:Bool) (hy:(h n).getD 0=y) (hq:(h n).isSome=q)
 (hK:wpList Tryz.prog ops Q rest (a.put o.dst (.tuple #[.int .u8 y,.bool q])) w):wpList Tryz.prog ops Q (o :: rest) a w:=by
 refine BigFrame.wpList_want hgd fun K' hK'=>?_;have hr:=run_heard M hn;rw [hy,hq] at hr;unfold Oper.wp
 simp [execOp,hop,hm,hx,hr,Result.andThen]
 exact hK' _ _ (by simpa [bv] using hK)
def hput (h:Hr) (n y:Int):Hr:=fun m=>if m=n then some y else h m
theorem HIs.put {D:DataW Value} (I:HIs D h) (hD:IsMap D) {n y:Int} (hn:Wf n):HIs (D.put (.int .i64 n) (.held (bv y))) (hput h n y) where
 has m hm:=by
  unfold hput
  by_cases e:m=n
  ·subst e
   rw [has_put_same hD (law.key (keyI hn)),if_pos rfl]
   rfl
  ·rw [has_put_other (fun e2=>e (by injection e2)),if_neg e]
   exact I.has m hm
 val m z hm hz u:=by
  unfold hput at hz
  by_cases e:m=n
  ·subst e
   rw [if_pos rfl] at hz;injection hz with hz;subst hz;exact atKey_put_same hD (law.key (keyI hn)) _ _
  ·rw [if_neg e] at hz
   rw [atKey_put_other (fun e2=>e (by injection e2))];exact I.val m z hm hz u
theorem run_hput (M:HBl w b N h) (hN:N < maxLen) {n y:Int} (hn:Wf n):∃ w',(Instr.mapUpdate 173 (.map (some b)) (.int .i64 n) (bv y)).run Tryz.prog w = .ok () w'∧HBl w' b (N+1) (hput h n y)∧w.grownBy w' (some b):=by
 obtain ⟨D,o,I⟩:=M;obtain ⟨w',hr,h',hg⟩:=o.update law Tryz.underlying173 hN (keyI hn) (val:=bv y) (d:=.held (bv y)) (ps:=[]) rfl;exact ⟨w',hr,⟨_,h',I.put o.isMap hn⟩,hg⟩
theorem at_hput {ops:Array Oper} {rest:List Oper} {o:Oper} {a:Act} {Q:Exit→Act→World→Prop} (hgd:Region.wanted o (yielded ops a.tmps)=true) (p x u:Operand) (hop:o.op = .mapUpdate 173 p x u) (hm:a.eval p = .map (some b)) (M:HBl w b N h) (hN:N < maxLen) (n y:Int) (hx:a.eval x = .int .i64 n) (hu:a.eval u = .int .u8 y) (hn:Wf n)
 (hK:∀ w',HBl w' b (N+1) (hput h n y)→w.grownBy w' (some b)→wpList Tryz.prog ops Q rest (a.put o.dst undef) w'):wpList Tryz.prog ops Q (o :: rest) a w:=by
 refine BigFrame.wpList_want hgd fun K' hK'=>?_;obtain ⟨w',hr,h1,h2⟩:=run_hput M hN (y:=y) hn;unfold bv at hr;unfold Oper.wp
 simp [execOp,hop,hm,hx,hu,hr,Result.andThen]
 exact hK' _ _ (hK w' h1 h2)
theorem hbl_new (w:World):HBl (w.alloc (.map #[] 0)) w.heap.size 0 (fun _=>none):=⟨_,World.ownsMap_made _ _ _ _,fun _ _=>rfl,fun _ _ _ h=>by cases h⟩
end
def plc (f r:Int):Value:=.agg #[.int .i64 f,.int .i64 r]
theorem laidOutP:laidOutB Tryz.prog=true:=by kernel_rfl
theorem lawP:WideMaps.KeyLaw Tryz.prog 248:=deep_law_laid laidOutP (m:=2) (by omega) (of_decide_eq_true (by kernel_rfl)) (by kernel_rfl) (by kernel_rfl)
theorem keyedP:Keyed Tryz.prog 248:=Keyed.of_law lawP
theorem cellsP:Tryz.prog.cellsOf 248=2:=by kernel_rfl
theorem cellsI:Tryz.prog.cellsOf 3=1:=by kernel_rfl
theorem sizeP:∃ m,Tryz.prog.types.size=m+1:=by
 have:0 < Tryz.prog.types.size:=of_decide_eq_true (by kernel_rfl);exact ⟨Tryz.prog.types.size - 1,(Nat.succ_pred_eq_of_pos this).symm⟩
theorem litsI (d:Nat) (f:Int):Tryz.prog.keyLits (d+1) 3 [.int .i64 f]=if (Lit.int .i64 f).wf=true then some [.int .i64 f] else none:=by
 unfold Program.keyLits
 simp [Tryz.underlying3]
theorem keyP {f r:Int} (hf:Wf f) (hr:Wf r):keyOf Tryz.prog 248 (plc f r)=some (.string (keyBytes [.int .i64 f,.int .i64 r])):=by
 have h1:Tryz.prog.keyType 248=true:=by kernel_rfl
 have h2:(plc f r).formed Tryz.prog 248=true:=by simp [plc,Value.formed,Tryz.underlying248,cellsP]
 obtain ⟨m,hm⟩:=sizeP;have h4:Tryz.prog.keyLits (Tryz.prog.types.size+1) 248 (plc f r).cells.toList=some [.int .i64 f,.int .i64 r]:=by
  have e:(plc f r).cells.toList = [.int .i64 f,.int .i64 r]:=rfl;have f1:(Lit.int .i64 f).wf=true:=hf;have f2:(Lit.int .i64 r).wf=true:=hr;have g1:=litsI m f;have g2:=litsI m r;rw [if_pos f1] at g1;rw [if_pos f2] at g2;rw [e,hm];unfold Program.keyLits
  simp [Tryz.underlying248,cellsP,cellsI,g1,g2]
 unfold keyOf;simp only [Tryz.underlying248,h1,h2,h4,Bool.and_self,if_true,Option.map_some]
theorem keyP_inv {v:Value} {kl:Lit} (h:keyOf Tryz.prog 248 v=some kl):∃ f r,v=plc f r∧Wf f∧Wf r:=by
 unfold keyOf at h;simp only [Tryz.underlying248] at h
 split at h
 ·rename_i hc
  rw [Bool.and_eq_true] at hc;obtain ⟨_,hfm⟩:=hc;obtain ⟨xs,rfl,hs⟩:∃ xs,v = .agg xs∧xs.size=2:=by
   cases v <;> simp [Value.formed,Tryz.underlying248,cellsP] at hfm
   exact ⟨_,rfl,hfm⟩
  obtain ⟨m,hm⟩:=sizeP;obtain ⟨l⟩:=xs
  match l,hs with
  | [a,b],_ =>
    have e:(Value.agg (Array.mk [a,b])).cells.toList = [a,b]:=rfl;rw [e,hm] at h;unfold Program.keyLits at h
    simp [Tryz.underlying248,cellsP,cellsI] at h
    rcases e1:Tryz.prog.keyLits (m+1) 3 [a] with _ | x
    ·rw [e1] at h
     simp at h
    ·rcases e2:Tryz.prog.keyLits (m+1) 3 [b] with _ | y
     ·rw [e1,e2] at h
      simp at h
     ·obtain ⟨n,h5,_⟩:=keyLits_int' Tryz.underlying3 e1
      obtain ⟨m',h8,_⟩:=keyLits_int' Tryz.underlying3 e2;obtain rfl:a = .int .i64 n:=by simpa using h5
      obtain rfl:b = .int .i64 m':=by simpa using h8
      refine ⟨n,m',rfl,?_,?_⟩
      ·rw [litsI] at e1
       by_cases g:(Lit.int .i64 n).wf=true
       ·exact g
       ·rw [if_neg g] at e1;cases e1
      ·rw [litsI] at e2
       by_cases g:(Lit.int .i64 m').wf=true
       ·exact g
       ·rw [if_neg g] at e2;cases e2
 ·cases h
def pk (f r:Int):Lit:=.string (keyBytes [.int .i64 f,.int .i64 r])
theorem pk_inj {f r f' r':Int} (h1:Wf f) (h2:Wf r) (h3:Wf f') (h4:Wf r') (e:pk f r=pk f' r'):f=f'∧r=r':=by
 have k1:=keyP h1 h2;have k2:=keyP h3 h4;rw [show Lit.string (keyBytes [.int .i64 f',.int .i64 r'])=pk f r from e.symm] at k2;have:=keyedP.inj k1 k2;unfold plc at this;injection this with this;have e1:=congrArg (fun t:Array Value=>t[0]?) this;have e2:=congrArg (fun t:Array Value=>t[1]?) this
 simp at e1 e2
 exact ⟨e1,e2⟩
structure Gm (w:World) (b N:Nat) (t:List E5) (vs:Int→Int→Value) (D:DataW Value):Prop where
 own:w.ownsMap Tryz.prog 248 Rh b N D
 has:∀ f r,Wf f→Wf r→Maps.has D (pk f r)=decide (grp t f r≠[])
 val:∀ f r,Wf f→Wf r→grp t f r≠[]→∀ z,D.atKey (pk f r) z = .held (vs f r)
 nil:∀ f r,grp t f r = []→vs f r = .slice none 0 0
 row:∀ f r,Ow K5 w (b+1) 87 (vs f r) (grp t f r)
 far:∀ f r f' r',¬ (f=f'∧r=r')→∀ k,(vs f r).ownBlock=some k→(vs f' r').ownBlock≠some k
theorem zeroS (w:World):(zeroValue 85).run Tryz.prog w = .ok (.slice none 0 0) w:=by kernel_rfl
section
variable {w w':World} {b N:Nat} {t:List E5} {vs:Int→Int→Value} {D:DataW Value}
theorem grp_nil (f r:Int):grp [] f r = []:=rfl
theorem gm_new (w:World):Gm (w.alloc (.map #[] 0)) w.heap.size 0 [] (fun _ _=>.slice none 0 0) (.map []) :=
 ⟨World.ownsMap_made _ _ _ _,fun _ _ _ _=>by simp [grp_nil,Maps.has],fun _ _ _ _ h=>absurd rfl h,fun _ _ _=>rfl,fun _ _=>Ow.nil _ _ _,fun _ _ _ _ _ k h=>by simp [Value.ownBlock] at h⟩
theorem Gm.below (G:Gm w b N t vs D) (hb:Below w.heap.size w w'):Gm w' b N t vs D :=
 ⟨G.own.kept (Fs.grown_of hb) (fun h=>by cases h),G.has,G.val,G.nil,fun f r=>(G.row f r).keep hb,G.far⟩
theorem grp_snoc (t:List E5) (x:E5) (f r:Int):grp (t ++ [x]) f r=if mt f r x=true then grp t f r ++ [x] else grp t f r:=by
 unfold grp;rw [List.filter_append]
 by_cases h:mt f r x=true
 ·simp [h]
 ·simp [h]
def upP (vs:Int→Int→Value) (f r:Int) (u:Value) (a c:Int):Value:=if a=f∧c=r then u else vs a c
theorem Gm.step (G:Gm w b N t vs D) (hN:N < maxLen) {x:E5} (h2:x.1=2) (hf:Wf x.2.2.1) (hr:Wf x.2.2.2.1) :
 ∃ st w1,(Instr.mapEntry 245 (.map (some b)) (plc x.2.2.1 x.2.2.2.1)).run Tryz.prog w = .ok (.tuple #[vs x.2.2.1 x.2.2.2.1,.int .i64 ((st:Nat):Int)]) w1∧w.grownBy w1 (some b)∧w1.heap.size=w.heap.size ∧
  ∀ w2 u,w1.grownBy w2 (vs x.2.2.1 x.2.2.2.1).ownBlock→Ow K5 w2 (b+1) 87 u (grp t x.2.2.1 x.2.2.2.1 ++ [x])→(u.ownBlock=(vs x.2.2.1 x.2.2.2.1).ownBlock∨∃ g,u.ownBlock=some g∧w1.heap.size≤g) →
   ∃ w3 D',(Instr.entryStore 245 (.map (some b)) (.int .i64 ((st:Nat):Int)) u).run Tryz.prog w2 = .ok () w3∧w2.grownBy w3 (some b)∧Gm w3 b (N+1) (t ++ [x]) (upP vs x.2.2.1 x.2.2.2.1 u) D':=by
 obtain ⟨k,s,f,r,y⟩:=x;simp only at h2 hf hr ⊢;subst h2;have hkey:=keyP hf hr;obtain ⟨es,clock,hb,F,hs,hD⟩:=G.own;obtain ⟨v0,st,es1,clock1,hE,hcase,hS⟩:=WideElems.entry_then_store (w:=w) lawP Tryz.underlying245 zeroS hb F hkey;have hv0:v0=vs f r:=by
  have hl:=Maps.fit_look false keyedP Tryz.underlying245 (zeroS w) hb F hkey;rw [← hD] at hl
  rcases hl with ⟨_,hno,hat⟩ | ⟨e1,y1,hm1,hk1,_,hR,hat,_⟩
  ·have h1:Maps.has D (pk f r)=false:=has_false_of_atKey hat
   rw [G.has f r hf hr,decide_eq_false_iff_not,Classical.not_not] at h1;rw [G.nil f r h1]
   rcases hcase with ⟨e0,hm0,hk0,_⟩ | ⟨_,hz⟩
   ·exact absurd hk0 (hno e0 hm0)
   ·exact hz
  ·have h1:Maps.has D (pk f r)=true:=has_true_of_atKey hat
   rw [G.has f r hf hr,decide_eq_true_eq] at h1;have h3:=(hat .nil).symm.trans (G.val f r hf hr h1 .nil);have h4:y1=(.held e1.val,[]):=by simp [Rh] at hR;exact hR.symm
   rw [h4] at h3;injection h3 with h3
   rcases hcase with ⟨e0,hm0,hk0,hv⟩ | ⟨hno,_⟩
   ·have he:=entry_eq_of_key ((MapKept.stamped_iff es clock).1 F.stamped).2.2 hm0 hm1 (hk0.trans hk1.symm)
    rw [hv,he,h3]
   ·exact absurd hk1 (hno e1 hm1)
 subst hv0;have hg1:w.grownBy (ChangeMaps.setBlock w b (.map es1 clock1)) (some b):=⟨rfl,rfl,rfl,by simp [ChangeMaps.setBlock],fun i _ hi=>ChangeMaps.heap_setBlock_other hb _ (fun e=>hi (by rw [e]))⟩;have hb1:(ChangeMaps.setBlock w b (.map es1 clock1)).heap[b]? = some (.map es1 clock1):=ChangeMaps.heap_setBlock_same hb _;have hz1:(ChangeMaps.setBlock w b (.map es1 clock1)).heap.size=w.heap.size:=by simp [ChangeMaps.setBlock]
 have hbl:b < w.heap.size:=G.own.lt;have ownb:∀ a c,(vs a c).ownBlock≠some b:=fun a c e=>by have:=World.ownsRow.lt (G.row a c) b e;omega
 refine ⟨st,_,hE,hg1,hz1,fun w2 u hg2 hu hub=>?_⟩;have hb2:w2.heap[b]? = some (.map es1 clock1):=(hg2.block b (by rw [hz1];exact hbl) (fun e=>ownb f r e.symm)).trans hb1;obtain ⟨es',clock',hS1,hS2⟩:=hS w2 u hb2;obtain ⟨w',hU,hO,_⟩:=G.own.update keyedP Tryz.underlying245 hN hkey (val:=u) (d:=.held u) (ps:=[]) rfl;have hw':w'=ChangeMaps.setBlock w b (.map es' clock'):=by
  rw [hU] at hS2;injection hS2
 subst hw';have hg3:w2.grownBy (ChangeMaps.setBlock w2 b (.map es' clock')) (some b):=⟨rfl,rfl,rfl,by simp [ChangeMaps.setBlock],fun i _ hi=>ChangeMaps.heap_setBlock_other hb2 _ (fun e=>hi (by rw [e]))⟩;have hO3:(ChangeMaps.setBlock w2 b (.map es' clock')).ownsMap Tryz.prog 248 Rh b (N+1) (D.put (pk f r) (.held u)):=by
  obtain ⟨es3,clock3,q1,q2,q3,q4⟩:=hO;rw [ChangeMaps.heap_setBlock_same hb] at q1;exact ⟨es3,clock3,(ChangeMaps.heap_setBlock_same hb2 _).trans q1,q2,q3,q4⟩
 have hself:mt f r (2,s,f,r,y)=true:=by simp [mt]
 have hoth:∀ a c,¬ (a=f∧c=r)→mt a c (2,s,f,r,y)=false:=fun a c h=>by
  unfold mt;rw [decide_eq_false];rintro ⟨_,h1,h2⟩;exact h ⟨h1.symm,h2.symm⟩
 have ownu:∀ k,u.ownBlock=some k→b+1≤k∧k < w2.heap.size:=fun k e=>World.ownsRow.lt hu k e;have hdiff:∀ a c,¬ (a=f∧c=r)→∀ k,(vs a c).ownBlock=some k→u.ownBlock≠some k:=fun a c h k hk e=>by
  rcases hub with e2 | ⟨g,e2,hg⟩
  ·exact G.far a c f r h k hk (e2.symm.trans e)
  ·rw [e2] at e
   injection e with e;have:=(World.ownsRow.lt (G.row a c) k hk).2
   omega
 refine ⟨_,_,hS1,hg3,hO3,fun a c ha hc=>?_,fun a c ha hc hne z=>?_,fun a c hn=>?_,fun a c=>?_,fun a c a' c' hne k hk=>?_⟩
 ·rw [grp_snoc]
  by_cases e:a=f∧c=r
  ·obtain ⟨rfl,rfl⟩:=e
   rw [show Maps.has (D.put (pk a c) (.held u)) (pk a c)=true from has_put_same G.own.isMap (keyedP.key hkey) _,hself,if_pos rfl]
   simp
  ·rw [has_put_other (fun e2=>e (pk_inj ha hc hf hr e2)),hoth a c e,if_neg (by simp)]
   exact G.has a c ha hc
 ·rw [grp_snoc] at hne
  unfold upP
  by_cases e:a=f∧c=r
  ·obtain ⟨rfl,rfl⟩:=e
   rw [if_pos ⟨rfl,rfl⟩];exact atKey_put_same G.own.isMap (keyedP.key hkey) _ _
  ·rw [hoth a c e,if_neg (by simp)] at hne
   rw [atKey_put_other (fun e2=>e (pk_inj ha hc hf hr e2)),if_neg e];exact G.val a c ha hc hne z
 ·rw [grp_snoc] at hn
  unfold upP
  by_cases e:a=f∧c=r
  ·obtain ⟨rfl,rfl⟩:=e
   rw [hself,if_pos rfl] at hn
   simp at hn
  ·rw [hoth a c e,if_neg (by simp)] at hn
   rw [if_neg e];exact G.nil a c hn
 ·rw [grp_snoc]
  unfold upP
  by_cases e:a=f∧c=r
  ·obtain ⟨rfl,rfl⟩:=e
   rw [hself,if_pos rfl,if_pos ⟨rfl,rfl⟩];exact World.ownsRow.kept hu hg3 (.inr fun e2=>by have:=(ownu b e2).1;omega)
  ·rw [hoth a c e,if_neg e,if_neg Bool.false_ne_true]
   have r1:=World.ownsRow.kept (G.row a c) hg1 (.inr (ownb a c))
   have r2:=World.ownsRow.kept r1 hg2 (by
    rcases e3:(vs a c).ownBlock with _ | k
    ·exact .inl rfl
    ·exact .inr fun e4=>G.far a c f r e k e3 e4.symm)
   exact World.ownsRow.kept r2 hg3 (.inr (ownb a c))
 ·unfold upP at hk ⊢
  by_cases e:a=f∧c=r
  ·rw [if_pos e] at hk
   by_cases e':a'=f∧c'=r
   ·exact absurd ⟨e.1.trans e'.1.symm,e.2.trans e'.2.symm⟩ hne
   ·rw [if_neg e']
    exact fun e4=>hdiff a' c' e' k e4 hk
  ·rw [if_neg e] at hk
   by_cases e':a'=f∧c'=r
   ·rw [if_pos e']
    exact hdiff a c e k hk
   ·rw [if_neg e']
    exact G.far a c a' c' hne k hk
end
theorem push_group {ops:Array Oper} {rest:List Oper} {o:Oper} {a:Act} {w:World} {Q:Exit→Act→World→Prop} (hgd:o.guard=none) (s x:Operand)
 (ho:o.op = .call { callee:=.builtin .append,args:=#[s,x],argTypes:=#[85,85] }) (B:Nat) (v:Value) (l:List E5) (hs:a.eval s=v) (hown:Ow K5 w B 87 v l)
 (ad:Addr) (c:E5) (hx:a.eval x = .slice (some ad) 1 1) (hc:∀ j u,(K5.enc c)[j]? = some u→w.cell? (ad.add j)=some u) (hlen:l.length < 100000) (hB:B≤w.heap.size)
 (h:∀ v' w',Ow K5 w' B 87 v' (l ++ [c])→w.grownBy w' v.ownBlock→(v'.ownBlock=v.ownBlock∨∃ g,v'.ownBlock=some g∧w.heap.size≤g)→wpList Tryz.prog ops Q rest (a.put o.dst v') w'):wpList Tryz.prog ops Q (o :: rest) a w:=by
 obtain ⟨i0,hi0,hz0,hz1,hz2⟩:=info_parts Ro.infoE;refine wpList_append_own_at _ hgd s x 85 ho B 87 i0 _ 5 40 Tryz.underlying85 hi0 hz0 hz1 hz2 rfl (by omega) v l.length (K5.flat l) hs hown ad 1 1 (K5.enc c) hx (by rw [K5.len];rfl) hc (K5.one c) (by unfold maxLen;omega) (by omega) hB ?_
 intro v' w' h2 h3 _ h5
 exact h v' w' (Rw.Ow.push h2) h3 (h5.imp id fun e=>⟨_,e,Nat.le_refl _⟩)
end Go.Proofs.YtljnkaodhfnbbaaGreatDoor.Pa
namespace Go.Proofs.YtljnkaodhfnbbaaGreatDoor.Pa
open Go.RowKit Go.Maps
open Fs (Abs St Rs Rst Only Fx Lst)
open Rw (Rd Ow At Kind)
theorem push_at {α:Type} {K:Kind α} {P:Program} {E:TypeId} {ops:Array Oper} {rest:List Oper} {o:Oper} {a:Act} {w:World} {Q:Exit→Act→World→Prop} {T:TypeId} {z:Value} {bytes:Nat} (ht:P.underlying T=some (.slice E))
 (hi:(P.info? E).map (fun i=>(i.zero,i.size,i.bytes))=some (some z,K.n,bytes)) (hz:z.cells.size=K.n) (hby:bytes≤64) (hgd:o.guard=none) (s x:Operand)
 (ho:o.op = .call { callee:=.builtin .append,args:=#[s,x],argTypes:=#[T,T] }) (B:Nat) (v:Value) (l:List α) (hs:a.eval s=v) (hown:Ow K w B E v l)
 (ad:Addr) (c:α) (hx:a.eval x = .slice (some ad) 1 1) (hc:∀ j u,(K.enc c)[j]? = some u→w.cell? (ad.add j)=some u) (hlen:l.length < 2199023255552) (hB:B≤w.heap.size)
 (h:∀ v' w',Ow K w' B E v' (l ++ [c])→w.grownBy w' v.ownBlock→(v'.ownBlock=v.ownBlock∨∃ g,v'.ownBlock=some g∧w.heap.size≤g)→wpList P ops Q rest (a.put o.dst v') w'):wpList P ops Q (o :: rest) a w:=by
 obtain ⟨i0,hi0,hz0,hz1,hz2⟩:=info_parts hi;have hb:(l.length+1) * bytes≤140737488355328:=Nat.le_trans (Nat.mul_le_mul (show l.length+1≤2199023255552 by omega) hby) (by omega);refine wpList_append_own_at _ hgd s x T ho B E i0 z K.n bytes ht hi0 hz0 hz1 hz2 hz K.pos v l.length (K.flat l) hs hown ad 1 1 (K.enc c) hx (by rw [K.len,Nat.one_mul]) hc (K.one c) (by unfold maxLen;omega) hb hB ?_
 intro v' w' h2 h3 _ h5
 exact h v' w' (Rw.Ow.push h2) h3 (h5.imp id fun e=>⟨_,e,Nat.le_refl _⟩)
theorem wp_push_at {α:Type} {K:Kind α} {P:Program} {E:TypeId} {o:Oper} {a:Act} {w:World} {KK:Act→World→Prop} {Q:Exit→Act→World→Prop} {T:TypeId} {z:Value} {bytes:Nat} (ht:P.underlying T=some (.slice E))
 (hi:(P.info? E).map (fun i=>(i.zero,i.size,i.bytes))=some (some z,K.n,bytes)) (hz:z.cells.size=K.n) (hby:bytes≤64) (s x:Operand)
 (ho:o.op = .call { callee:=.builtin .append,args:=#[s,x],argTypes:=#[T,T] }) (B:Nat) (v:Value) (l:List α) (hs:a.eval s=v) (hown:Ow K w B E v l)
 (ad:Addr) (c:α) (hx:a.eval x = .slice (some ad) 1 1) (hc:∀ j u,(K.enc c)[j]? = some u→w.cell? (ad.add j)=some u) (hlen:l.length < 2199023255552) (hB:B≤w.heap.size)
 (h:∀ v' w',Ow K w' B E v' (l ++ [c])→w.grownBy w' v.ownBlock→(v'.ownBlock=v.ownBlock∨∃ g,v'.ownBlock=some g∧w.heap.size≤g)→KK (a.put o.dst v') w'):o.wp P a w KK Q:=by
 obtain ⟨i0,hi0,hz0,hz1,hz2⟩:=info_parts hi;have hb:(l.length+1) * bytes≤140737488355328:=Nat.le_trans (Nat.mul_le_mul (show l.length+1≤2199023255552 by omega) hby) (by omega);obtain ⟨v',w',hr,h2,h3,_,h5⟩:=run_append_own_at (P:=P) w B T o.type E i0 z K.n bytes ht hi0 hz0 hz1 hz2 hz K.pos v l.length (K.flat l) hown ad 1 1 (K.enc c) (by rw [K.len,Nat.one_mul]) hc (K.one c) (by unfold maxLen;omega) hb hB;unfold Oper.wp execOp;simp only [ho,resolve,invoke,builtin,Sem.run_bind,Sem.run_pure,Result.andThen_ok,List.map_toArray,List.map_cons,List.map_nil,hs,hx,hr];exact h v' w' (Rw.Ow.push h2) h3 (h5.imp id fun e=>⟨_,e,Nat.le_refl _⟩)
def SAp (w:World) (s:Nat) (x:Abs×Int) (q:Option Nat):Prop:=∃ F,St w s F x.1 x.2∧∀ k,F k→q≠some k
structure Good (Ap:World→Nat→Abs×Int→Option Nat→Prop):Prop where
 below:∀ {w w' s x q},Ap w s x q→Below w.heap.size w w'→Ap w' s x q
 grow:∀ {w w' s x q q'},Ap w s x q→w.grownBy w' q→(q'=q∨∃ g,q'=some g∧w.heap.size≤g)→(∀ g,q'=some g→g < w'.heap.size)→Ap w' s x q'
theorem only_grown {w w':World} {q:Option Nat} (h:w.grownBy w' q):Only (fun k=>q=some k) w w':=⟨h.os,h.tape,h.output,h.size,fun k hk hn=>h.block k hk fun e=>hn e.symm⟩
theorem sap_good:Good SAp where
 below:=fun ⟨F,h,d⟩ b=>⟨F,h.below b,d⟩
 grow:=fun ⟨F,h,d⟩ g hq _=>⟨F,h.only (G:=fun k=>_=some k) (fun k hk e=>d k hk e) (only_grown g),fun k hk e=>by
  rcases hq with rfl | ⟨j,rfl,hj⟩
  ·exact d k hk e
  ·injection e with e
   have:=h.low k hk
   omega⟩
theorem rs_mono {w:World} {r:Nat} {F G:Nat→Prop} {A:Abs} {d:Int} (h:Rs w r F A d) (hg:∀ k,k < w.heap.size→G k→F k):Rs w r G A d:=by
 obtain ⟨v,L,h,e⟩:=h;refine ⟨v,L,⟨h.row,fun g=>h.off (hg r (lt_of_block h.row) g),h.list.mono fun k hk g=>?_,h.ok⟩,e⟩
 rcases g with g | g
 ·exact .inl (hg k hk g)
 ·exact .inr g
theorem SAp.has {w:World} {s:Nat} {x:Abs×Int} {q:Option Nat} (h:SAp w s x q):Has w s x:=by obtain ⟨F,h,_⟩:=h;exact ⟨F,h⟩
theorem sap_new {w w':World} {s:Nat} {F:Nat→Prop} {x:Abs×Int} {q:Option Nat} (h:St w' s F x.1 x.2) (lo:∀ k,F k→w.heap.size≤k) (hq:∀ k,q=some k→k < w.heap.size):SAp w' s x q :=
 ⟨F,h,fun k hk e=>by have:=lo k hk;have:=hq k e;omega⟩
section
variable {Ap:World→Nat→Abs×Int→Option Nat→Prop} {E:TypeId} {w wr w1 w2:World} {S:Sts} {k:Nat} {o o':Value} {ps:List Nat} {g:Nat}
structure PI (Ap:World→Nat→Abs×Int→Option Nat→Prop) (E:TypeId) (w:World) (S:Sts) (k:Nat) (o:Value) (ps:List Nat) (wr:World):Prop where
 own:Ow KN wr w.heap.size E o ps
 len:ps.length=k
 each:∀ i,i < k→Ap wr (ps.getD i 0) (sat S i) o.ownBlock
 bel:Below w.heap.size w wr
theorem PI.start (w:World) (hb:Below w.heap.size w wr):PI Ap E w S 0 (.slice none 0 0) [] wr:=⟨Rw.Ow.nil _ _ _,rfl,fun i hi=>by omega,hb⟩
theorem PI.made (hb:Below w.heap.size w wr):PI Ap E w S 0 (.slice (some ⟨wr.heap.size,0,none⟩) 0 0) [] (wr.alloc (.cells #[] E)):=⟨Rw.Ow.made _ _ _ hb.size,rfl,fun i hi=>by omega,hb.alloc hb.size _⟩
theorem PI.below (G:Good Ap) (h:PI Ap E w S k o ps wr) (b:Below wr.heap.size wr w1):PI Ap E w S k o ps w1:=⟨h.own.keep b,h.len,fun i hi=>G.below (h.each i hi) b,h.bel.trans (b.mono h.bel.size)⟩
theorem PI.lt (h:PI Ap E w S k o ps wr):∀ k,o.ownBlock=some k→k < wr.heap.size:=fun k e=>(World.ownsRow.lt h.own k e).2
theorem PI.push (G:Good Ap) (h:PI Ap E w S k o ps wr) (own:Ow KN w1 w.heap.size E o' (ps ++ [g])) (gr:wr.grownBy w1 o.ownBlock) (hq:o'.ownBlock=o.ownBlock∨∃ g,o'.ownBlock=some g∧wr.heap.size≤g) (hg:Ap wr g (sat S k) o.ownBlock):PI Ap E w S (k+1) o' (ps ++ [g]) w1:=by
 have hl:∀ j,o'.ownBlock=some j→j < w1.heap.size:=fun j e=>(World.ownsRow.lt own j e).2;refine ⟨own,by rw [List.length_append,h.len];rfl,fun i hi=>?_,h.bel.grown gr h.bel.size fun j e=>(World.ownsRow.lt h.own j e).1⟩
 by_cases e:i=k
 ·subst e
  have:(ps ++ [g]).getD i 0=g:=by rw [List.getD_eq_getElem?_getD,List.getElem?_append_right (by rw [h.len];exact Nat.le_refl _),h.len];simp
  rw [this];exact G.grow hg gr hq hl
 ·have:(ps ++ [g]).getD i 0=ps.getD i 0:=by rw [List.getD_eq_getElem?_getD,List.getElem?_append_left (by rw [h.len];omega),List.getD_eq_getElem?_getD]
  rw [this];exact G.grow (h.each i (by omega)) gr hq hl
theorem PI.congr {S':Sts} (h:PI Ap E w S k o ps wr) (e:∀ i,i < k→sat S i=sat S' i):PI Ap E w S' k o ps wr:=⟨h.own,h.len,fun i hi=>by rw [← e i hi];exact h.each i hi,h.bel⟩
end
theorem PI.stl {w wr:World} {S:Sts} {o:Value} {ps:List Nat} {E:TypeId} (h:PI SAp E w S S.length o ps wr):Stl wr o S:=⟨ps,h.own.rd,h.len,fun i hi=>(h.each i hi).has⟩
theorem infoN:(Tryz.prog.info? 89).map (fun i=>(i.zero,i.size,i.bytes))=some (some (.pointer none),1,8):=by kernel_rfl
end Go.Proofs.YtljnkaodhfnbbaaGreatDoor.Pa
namespace Go.Proofs.YtljnkaodhfnbbaaGreatDoor.Pa
open Go.RowKit Go.Maps
open Fs (Abs St Rs Rst Only Fx Lst E3 infoE3 rd_low Ent OkA radd_any RAPost at3)
open Rw (Rd Ow At Kind)
open Fl (row_cell row_frozen K4 R4 okL goodF goodFB rgood_any file)
attribute [local irreducible] Sd.wpSd wpQuiet
def entD:Ent:=⟨0,0,none,0,[]⟩
def eatF (L:List Ent) (i:Nat):Ent:=L.getD i entD
structure Fls (w:World) (v:Value) (L:List Ent) (B:Nat):Prop where
 rd:Rd E3 w v L
 file:∀ i,i < L.length→Rd K4 w (eatF L i).sl (eatF L i).l∧okL (eatF L i).l
 low:∀ i,i < L.length→0 < (eatF L i).l.length→∀ k,(eatF L i).sl.ownBlock=some k→k < B
theorem Fls.below {w w':World} {v:Value} {L:List Ent} {B:Nat} (h:Fls w v L B) (b:Below w.heap.size w w'):Fls w' v L B:=⟨h.rd.below b,fun i hi=>⟨(h.file i hi).1.below b,(h.file i hi).2⟩,h.low⟩
def RstPost (w:World) (F:Nat→Prop) (e:Ending) (w':World):Prop:=∃ r A,e = .returned (ptr r)∧Rs w' r F A 0∧w.heap.size≤r∧Below w.heap.size w w'
structure RSI (w:World) (r:Nat) (F:Nat→Prop) (A:Abs) (wr:World):Prop where
 rs:Rs wr r F A 0
 bel:Below w.heap.size w wr
theorem RSI.below {w wr wr':World} {r:Nat} {F:Nat→Prop} {A:Abs} (h:RSI w r F A wr) (b:Below wr.heap.size wr wr'):RSI w r F A wr':=⟨Fs.Rs.below h.rs b,h.bel.trans (b.mono h.bel.size)⟩
theorem RSI.step {w wr wr':World} {r:Nat} {F:Nat→Prop} {A A':Abs} (h:RSI w r F A wr) (hr:w.heap.size≤r) (rs:Rs wr' r F A' 0) (o:Only (fun k=>k=r) wr wr'):RSI w r F A' wr':=⟨rs,h.bel.trans (o.below h.bel.size fun k e=>by subst e;exact hr)⟩
theorem rsi_new (w:World) (F:Nat→Prop) (hF:∀ k,F k→k < w.heap.size):RSI w w.heap.size F [] (w.alloc (.cells #[.slice none 0 0,.int .i64 0] 50)) :=
 ⟨⟨_,[],⟨heap_alloc_new w _,fun g=>by have:=hF _ g;omega,⟨Rw.Rd.nil _,(fun h=>by simp at h),(fun c hc=>by cases hc),(fun c hc=>by cases hc)⟩,OkA.nil⟩,rfl⟩,(Below.refl w.heap.size w).alloc (Nat.le_refl _) _⟩
structure RsC (b o:Nat) (cn:Int) (g:Nat) (p:Int) (u:Value) (W:World):Prop where
 n:W.cell? ⟨b,o,none⟩=some (.int .i64 cn)
 box:W.heap[g]? = some (.cells #[.int .i64 p,u] 70 (0,0))
def stA (l:List Ent):Abs:=l.foldl (fun A c=>Fs.addA A c.n c.p c.l) []
def stL (L:List Ent):Abs:=stA (L.take 8)
theorem stA_next {L:List Ent} {k:Nat} (h:k < L.length):stA (L.take (k+1))=Fs.addA (stA (L.take k)) (eatF L k).n (eatF L k).p (eatF L k).l:=by
 unfold stA eatF;rw [List.take_add_one,List.getElem?_eq_getElem h,List.foldl_append]
 simp [List.getD,h]
theorem add_bad {A:Abs} {n p:Int} {l:List R4} (h:goodFB p l=false):Fs.addA A n p l=A:=by
 have hg:¬ goodF p l:=fun g=>by
  have:=decide_eq_true g;unfold goodFB at h;rw [this] at h
  cases h
 unfold Fs.addA Fs.addE
 by_cases hn:0≤n∧n≤63
 ·rw [if_pos hn,if_neg hg,if_neg (by decide)]
 ·rw [if_neg hn,if_neg (by decide)]
def RstIs (w:World) (F:Nat→Prop) (A:Abs) (e:Ending) (w':World):Prop:=e = .returned (ptr w.heap.size)∧Rs w' w.heap.size F A 0∧Below w.heap.size w w'
set_option maxHeartbeats 1000000 in
theorem rstore_is {w:World} {v:Value} {L:List Ent} {B:Nat} (H:Fls w v L B) (hB:B≤w.heap.size):Calls Tryz.prog 77 #[v] w (RstIs w (fun k=>B≤k∧k < w.heap.size) (stL L)):=by
 have I0:=Lib.hid (rsi_new w (fun k=>B≤k∧k < w.heap.size) (fun k h=>h.2));have HH:=Lib.hid H;obtain ⟨a,cap,rfl,_,hm,hA⟩:=H.rd;have HA:=Lib.hid hA;unfold maxLen at hm;clear hA H;have SN:=Lib.hid (fun k=>stA_next (L:=L) (k:=k));have SE:Hid (∀ k,k=L.length∨k=8→k≤L.length→k≤8→stA (L.take k)=stL L):=Lib.hid fun k h h1 h2=>by
  unfold stL
  rcases h with h | h
  ·rw [List.take_of_length_le (by omega),List.take_of_length_le (by omega)]
  ·rw [h]
 generalize hn:L.length=n at *;have HN:=Lib.hid hn;clear hn
 go_enter Tryz.func77,Tryz.ntmps77
 go_wp2;generalize (w.alloc (.cells #[.slice none 0 0,.int .i64 0] 50))=W0 at *
 go_loopw [4] (fun i wr=>∃ k:Nat,k≤n∧k≤8∧i = .int .i64 k∧Hid (RSI w w.heap.size (fun k=>B≤k∧k < w.heap.size) (stA (L.take k)) wr)) (fun i _=>n - (intOf i).toNat)
 case atStart=>exact ⟨0,Nat.zero_le _,Nat.zero_le _,rfl,I0⟩
 case round =>
  obtain ⟨k,hk,hk8,rfl,I⟩:=hrel;clear I0;have hrl:w.heap.size < wr.heap.size:=by obtain ⟨_,_,h,_⟩:=I.out.rs;exact lt_of_block h.row
  have FIN:Hid (k=n∨k=8→RstIs w (fun k=>B≤k∧k < w.heap.size) (stL L) (.returned (ptr w.heap.size)) wr):=Lib.hid fun h=>⟨rfl,by rw [← SE.out k h hk hk8];exact I.out.rs,I.out.bel⟩;have NX:=Lib.hid (SN.out k);generalize hAk:stA (L.take k)=A at *;clear hAk
  by_cases hlt:k < n
  ·by_cases h8:k < 8
   ·obtain ⟨b,off,rfl,A1⟩:=HA.out (by omega)
    obtain ⟨c0,c1,c2⟩:=at3 (A1.below I.out.bel) (i:=k) (c:=eatF L k) (by rw [List.getElem?_eq_getElem (by have:=HN.out;omega)];unfold eatF;rw [List.getD_eq_getElem?_getD,List.getElem?_eq_getElem (by have:=HN.out;omega)];rfl);have L0:=Lib.hid (at3 A1 (i:=k) (c:=eatF L k) (by rw [List.getElem?_eq_getElem (by have:=HN.out;omega)];unfold eatF;rw [List.getD_eq_getElem?_getD,List.getElem?_eq_getElem (by have:=HN.out;omega)];rfl)).1;obtain ⟨rd,okl⟩:=HH.out.file k (by have:=HN.out;omega);have LOW:=Lib.hid (HH.out.low k (by have:=HN.out;omega));have RD:=Lib.hid rd;have OKL:=Lib.hid okl;have NY:=Lib.hid (NX.out hlt);clear A1 rd okl FIN NX SN SE;generalize eatF L k=c at *;obtain ⟨cn,cp,ca,cc,cl⟩:=c;unfold Ent.sl at c2 RD LOW;simp only at c0 c1 c2 RD LOW OKL NY;generalize hcl:cl.length=q at *;have I1:=Lib.hid (I.out.below ((Below.refl wr.heap.size wr).alloc (Nat.le_refl _) (.cells #[.int .i64 cp,.slice ca q cc] 70)));have GD:=Lib.hid (rgood_any (wr.alloc (.cells #[.int .i64 cp,.slice ca q cc] 70)) cp (.slice ca q cc) cl (RD.out.below I1.out.bel));unfold file at GD;clear I
    cases hg:goodFB cp cl with
    | false =>
      rw [hg] at GD;have NZ:=Lib.hid (NY.out.trans (add_bad hg));go_wp2_with fail;refine GD.out.mono ?_;rintro e w2 ⟨rfl,b2⟩;have I2:=Lib.hid (I1.out.below b2);clear b2 GD I1;go_wp2
      go_roundw
      case rel=>exact ⟨k+1,by omega,by omega,by go_num,Lib.hid (by rw [NZ.out];exact I2.out)⟩
      case measure=>simp [intOf];omega
    | true =>
      rw [hg] at GD;have FB:Hid ((wr.alloc (.cells #[.int .i64 cp,.slice ca q cc] 70)).heap[wr.heap.size]? = some (.cells #[.int .i64 cp,.slice ca q cc] 70 (0,0))):=Lib.hid (heap_alloc_new wr _);have lc:b < w.heap.size:=World.block_lt_of_cell? _ _ L0.out;have C00:=Lib.hid c0;go_wp2_with fail;generalize (wr.alloc (.cells #[.int .i64 cp,.slice ca q cc] 70))=W2 at *;refine GD.out.mono ?_;rintro e w2 ⟨rfl,b2⟩;have I2:=Lib.hid (I1.out.below b2);have F2:=Lib.hid ((b2.block _ (lt_of_block FB.out)).trans FB.out);clear b2 GD I1 FB;go_upto_region 7 with fail;have N2:=Lib.hid ((I2.out.bel.cell lc).trans L0.out);have C0:RsC b (off+k * 3) cn wr.heap.size cp (.slice ca q cc) w2.drew:=⟨N2.out,F2.out⟩;have x0:=Sc.cell_in (C:=RsC b (off+k * 3) cn wr.heap.size cp (.slice ca q cc)) (a:=⟨b,off+k * 3,none⟩) (fun W' h=>h.n);have x1:=Sc.cell_in (C:=RsC b (off+k * 3) cn wr.heap.size cp (.slice ca q cc)) (a:=⟨wr.heap.size,0,none⟩) (fun W' h=>row_cell h.box 0);have x2:=Sc.cell_in (C:=RsC b (off+k * 3) cn wr.heap.size cp (.slice ca q cc)) (a:=⟨wr.heap.size,1,none⟩) (fun W' h=>row_cell h.box 1);have ne:Nonempty (Sc.In (RsC b (off+k * 3) cn wr.heap.size cp (.slice ca q cc))):=⟨⟨_,C0⟩⟩;have I3:Hid (RSI w w.heap.size (fun k=>B≤k∧k < w.heap.size) A w2.drew):=Lib.hid (I2.out.below ((Below.refl _ _).drew));have RD3:=Lib.hid (RD.out.below I3.out.bel)
      have RA:=Lib.hid (radd_any I3.out.rs (fun k h=>by have:=I3.out.bel.size;omega) cn cp (.slice ca q cc) cl RD3.out (fun h0 j hj hh=>by
       have:=LOW.out (by omega) j hj
       rcases hh with hh | hh
       ·omega
       ·omega) OKL.out)
      unfold file RAPost at RA;refine Sc.start (RsC b (off+k * 3) cn wr.heap.size cp (.slice ca q cc)) [(false,0),(false,1),(false,2),(false,3),(false,4),(false,5),(false,6),(true,7)] (by kernel_rfl) (by kernel_rfl) (by kernel_rfl) C0 ?_;dsimp only [Sd.picks,List.getElem?_cons_succ,List.getElem?_cons_zero]
      repeat (refine Sd.lit ?_;quiet_step (fail);refine wpQuiet_nil ?_)
      clear x0 x1 x2;generalize w2.drew=Wd at *;refine Sd.call (by rfl) (fun K hK=>?_);go_simp;refine RA.out.mono ?_;rintro e w5 ⟨rfl,rs5,o5⟩;have hgr:wr.heap.size≠w.heap.size:=by omega
      refine hK _ _ (Sc.Cl.of ⟨o5.cell C0.n (by show ¬ b=w.heap.size;omega),(o5.block _ (lt_of_block C0.box) hgr).trans C0.box⟩) ?_;have I5:=Lib.hid (I3.out.step (Nat.le_refl _) rs5 o5);clear hK K rs5 o5 RA C0 I2 I3;refine Sd.done ?_;go_wp2
      go_roundw
      case rel=>exact ⟨k+1,by omega,by omega,by go_num,Lib.hid (by rw [NY.out];exact I5.out)⟩
      case measure=>simp [intOf];omega
   ·have E:=Lib.hid (FIN.out (.inr (by omega)))
    clear FIN;go_wp2
    go_ret
    exact E.out
  ·have E:=Lib.hid (FIN.out (.inl (by omega)))
   clear FIN;go_wp2
   go_ret
   exact E.out
theorem rstore_any {w:World} {v:Value} {L:List Ent} {B:Nat} (H:Fls w v L B) (hB:B≤w.heap.size):Calls Tryz.prog 77 #[v] w (RstPost w (fun k=>B≤k∧k < w.heap.size)) :=
 (rstore_is H hB).mono fun _ _ ⟨e,rs,b⟩=>⟨_,_,e,rs,Nat.le_refl _,b⟩
end Go.Proofs.YtljnkaodhfnbbaaGreatDoor.Pa
namespace Go.Proofs.YtljnkaodhfnbbaaGreatDoor.Ck
open Go.RowKit
open Ro (E5 z5 eat ent K5 at5 eat_mem)
open Rw (Rd Ow At)
open Fl (ret_bool at_bool row_cell row_frozen)
attribute [local irreducible] Sd.wpSd wpQuiet
def sto5 (w:World) (g:Nat) (x:E5):World:=((((w.setCell ⟨g,0,none⟩ (.int .i64 x.1)).setCell ⟨g,1,none⟩ (.int .i64 x.2.1)).setCell ⟨g,2,none⟩ (.int .i64 x.2.2.1)).setCell ⟨g,3,none⟩ (.int .i64 x.2.2.2.1)).setCell ⟨g,4,none⟩ (.int .i64 x.2.2.2.2)
theorem sto5_row {w:World} {g:Nat} {y:E5} (h:RowE w g y) (x:E5):RowE (sto5 w g x) g x :=
 Rw.heap_setCell_same (Rw.heap_setCell_same (Rw.heap_setCell_same (Rw.heap_setCell_same (Rw.heap_setCell_same h _) _) _) _) _
theorem sto5_other {w:World} {g k:Nat} {x:E5} {o:Option Obj} (h:w.heap[k]? = o) (hne:k≠g):(sto5 w g x).heap[k]? = o :=
 (Below.heap_setCell _ _ _ _ hne).trans ((Below.heap_setCell _ _ _ _ hne).trans ((Below.heap_setCell _ _ _ _ hne).trans ((Below.heap_setCell _ _ _ _ hne).trans ((Below.heap_setCell _ _ _ _ hne).trans h))))
theorem sto5_below {w W:World} {B g:Nat} {x:E5} (h:Below B w W) (hb:B≤g):Below B w (sto5 W g x) :=
 ((((h.setCell (p:=⟨g,0,none⟩) hb _).setCell (p:=⟨g,1,none⟩) hb _).setCell (p:=⟨g,2,none⟩) hb _).setCell (p:=⟨g,3,none⟩) hb _).setCell (p:=⟨g,4,none⟩) hb _
def PredS (g:Nat) (lb:Array Value) (p:Nat→E5→Bool) (L:LL) (w:World):Prop :=
 ∀ (W:World) (n:Nat) (x:E5),n < L.length→x∈lat L n→Below w.heap.size w W→Calls Tryz.prog g (#[.int .i64 n,.agg #[.int .i64 x.1,.int .i64 x.2.1,.int .i64 x.2.2.1,.int .i64 x.2.2.2.1,.int .i64 x.2.2.2.2]] ++ lb) W fun e w'=>e = .returned (.bool (p n x))∧Below W.heap.size W w'
def WhoPost (w:World) (n:Int) (x:E5) (e:Ending) (w':World):Prop:=e = .returned (.tuple #[.int .i64 n,ent x])∧Below w.heap.size w w'
set_option maxHeartbeats 2000000 in
theorem find_any (w:World) (v:Value) (L:LL) (g:Nat) (lb:Array Value) (p:Nat→E5→Bool) (eg:∀ args w,(callFunc g args).run Tryz.prog w = .ok (.enter g args) w) (R:RdL w v L) (hp:PredS g lb p L w) :
 Calls Tryz.prog 219 #[v,.func (.func g) #[] lb] w (WhoPost w (whoN p L) (whoE p L)):=by
 obtain ⟨a,cap,rfl,_,hm,hA⟩:=R;have HA:=Lib.hid hA;have HP:=Lib.hid hp;have HH:Hid (∀ k i w',Within p L k i→k < L.length→i < (lat L k).length→p k (eat (lat L k) i)=true→Below w.heap.size w w'→WhoPost w (whoN p L) (whoE p L) (.returned (.tuple #[.int .i64 (k:Int),ent (eat (lat L k) i)])) w'):=fun k i w' h hk hi hq b=>by
  obtain ⟨e1,e2⟩:=within_hit h hk hi hq;rw [e1,e2];exact ⟨rfl,b⟩
 have HM:Hid (∀ w',Ahead p L L.length→Below w.heap.size w w'→WhoPost w (whoN p L) (whoE p L) (.returned (.tuple #[.int .i64 (-1),ent z5])) w'):=fun w' h b=>by
  obtain ⟨e1,e2⟩:=ahead_end h;rw [e1,e2];exact ⟨rfl,b⟩
 clear hA hp;generalize whoN p L=rn at *;generalize whoE p L=re at *;unfold maxLen at hm;generalize hn:L.length=n at *;have HN:=Lib.hid hn;clear hn;have R0:Hid (RowE (w.alloc (.cells #[.int .i64 0,.int .i64 0,.int .i64 0,.int .i64 0,.int .i64 0] 87)) w.heap.size z5):=heap_alloc_new w _;have B0:=Lib.hid ((Below.refl w.heap.size w).alloc (Nat.le_refl _) (.cells #[.int .i64 0,.int .i64 0,.int .i64 0,.int .i64 0,.int .i64 0] 87))
 go_enter Tryz.func219,Tryz.ntmps219
 go_wp2;generalize w.alloc (.cells #[.int .i64 0,.int .i64 0,.int .i64 0,.int .i64 0,.int .i64 0] 87)=w0 at *
 go_loopw [12] (fun i wr=>∃ k:Nat,k≤n∧i = .int .i64 k∧Hid (RowE wr w.heap.size z5)∧Hid (Below w.heap.size w wr)∧Hid (Ahead p L k)) (fun i _=>n - (intOf i).toNat)
 case atStart=>exact ⟨0,Nat.zero_le _,rfl,R0,B0,ahead_zero⟩
 case round =>
  obtain ⟨k,hk,rfl,rr,bw,hs⟩:=hrel
  by_cases hlt:k < n
  ·obtain ⟨b,off,rfl,A⟩:=HA.out (by omega)
   obtain ⟨u,c,a',cap',rfl,_,hm',hA'⟩:=A k hlt;have c':=(bw.out.cell (World.block_lt_of_cell? _ _ c)).trans c;have HA':=Lib.hid hA';have HX:=Lib.hid (fun i (h:i < (lat L k).length)=>eat_mem h);have HAA:=Lib.hid A;have HK:=Lib.hid (show k < L.length by rw [HN.out];exact hlt);clear hA' c A;unfold maxLen at hm';generalize hl:(lat L k).length=m at *;have HL:=Lib.hid hl;clear hl;have W0:=Lib.hid (within_zero hs.out);clear hs;go_wp2
   go_loopw [19] (fun i wr=>∃ j:Nat,j≤m∧i = .int .i64 j∧Hid (RowE wr w.heap.size z5)∧Hid (Below w.heap.size w wr)∧Hid (Within p L k j)) (fun i _=>m - (intOf i).toNat)
   case atStart=>exact ⟨0,Nat.zero_le _,rfl,rr,bw,W0⟩
   case round =>
    clear c' rr bw W0;obtain ⟨j,hj,rfl,rr,bw,hs⟩:=hrel
    by_cases hjt:j < m
    ·obtain ⟨b',off',rfl,A'⟩:=HA'.out (by omega)
     obtain ⟨c0,c1,c2,c3,c4⟩:=at5 (A'.below bw.out) j (by rw [HL.out];exact hjt);rw [show (lat L k).getD j z5=eat (lat L k) j from rfl] at c0 c1 c2 c3 c4;have hc:=fun W hb=>HP.out W k (eat (lat L k) j) HK.out (HX.out j hjt) hb;have YES:=Lib.hid (fun w' h hb=>HH.out k j w' hs.out (by have:=HK.out;rw [HN.out] at this;exact this) (by rw [HL.out];exact hjt) h hb);have NO:=Lib.hid (fun h=>within_next hs.out (by rw [HL.out];exact hjt) h);clear A' hs;generalize eat (lat L k) j=x at *;have bx:=(Below.refl wr.heap.size wr).alloc (Nat.le_refl _) (.cells #[.int .i64 x.1,.int .i64 x.2.1,.int .i64 x.2.2.1,.int .i64 x.2.2.2.1,.int .i64 x.2.2.2.2] 87);have gr:=rr.out.lt;have B1:=Lib.hid (bw.out.trans (bx.mono bw.out.size));have R1:=Lib.hid (rr.out.below bx gr);have X1:RowE (wr.alloc (.cells #[.int .i64 x.1,.int .i64 x.2.1,.int .i64 x.2.2.1,.int .i64 x.2.2.2.1,.int .i64 x.2.2.2.2] 87)) wr.heap.size x:=heap_alloc_new wr _;clear bx;go_upto_region 7 with fail;clear c0 c1 c2 c3 c4;generalize wr.alloc (.cells #[.int .i64 x.1,.int .i64 x.2.1,.int .i64 x.2.2.1,.int .i64 x.2.2.2.1,.int .i64 x.2.2.2.2] 87)=V at *;generalize wr.heap.size=gx at *;have x0:V.cell? ⟨gx,0,none⟩=some (.int .i64 x.1):=row_cell X1 0;have x1:V.cell? ⟨gx,1,none⟩=some (.int .i64 x.2.1):=row_cell X1 1;have x2:V.cell? ⟨gx,2,none⟩=some (.int .i64 x.2.2.1):=row_cell X1 2;have x3:V.cell? ⟨gx,3,none⟩=some (.int .i64 x.2.2.2.1):=row_cell X1 3;have x4:V.cell? ⟨gx,4,none⟩=some (.int .i64 x.2.2.2.2):=row_cell X1 4;have C:=Lib.hid (hc V B1.out);have XX:=Lib.hid X1;clear hc X1;generalize hq:p k x=q at *
     cases q with
     | true =>
       have Y:=Lib.hid (fun w' hb=>YES.out w' rfl hb);clear hq YES NO;go_wp2_with fail;refine C.out.mono ?_;rintro e w1 ⟨rfl,b1⟩;have B2:=Lib.hid (B1.out.trans (b1.mono B1.out.size));have X2:=XX.out.below b1 XX.out.lt;have R2:=Lib.hid (R1.out.below b1 R1.out.lt);clear b1 x0 x1 x2 x3 x4 C XX B1 R1;go_upto_region 8 with fail;have C0:RowE w1.drew gx x:=X2;have ne:Nonempty (Sc.In (fun W=>RowE W gx x)):=⟨⟨_,C0⟩⟩;have x0:=Sc.cell_in (C:=fun W=>RowE W gx x) (a:=⟨gx,0,none⟩) (v:=.int .i64 x.1) (fun W h=>row_cell h 0);have x1:=Sc.cell_in (C:=fun W=>RowE W gx x) (a:=⟨gx,1,none⟩) (v:=.int .i64 x.2.1) (fun W h=>row_cell h 1);have x2:=Sc.cell_in (C:=fun W=>RowE W gx x) (a:=⟨gx,2,none⟩) (v:=.int .i64 x.2.2.1) (fun W h=>row_cell h 2);have x3:=Sc.cell_in (C:=fun W=>RowE W gx x) (a:=⟨gx,3,none⟩) (v:=.int .i64 x.2.2.2.1) (fun W h=>row_cell h 3);have x4:=Sc.cell_in (C:=fun W=>RowE W gx x) (a:=⟨gx,4,none⟩) (v:=.int .i64 x.2.2.2.2) (fun W h=>row_cell h 4);refine Sc.start (fun W=>RowE W gx x) [(false,0),(false,1),(false,2),(true,3)] (by kernel_rfl) (by kernel_rfl) (by kernel_rfl) C0 ?_;dsimp only [Sd.picks,List.getElem?_cons_succ,List.getElem?_cons_zero]
       iterate 3 (refine Sd.lit ?_;quiet_step (fail);refine wpQuiet_nil ?_)
       refine Sd.call (by rfl) (fun K hK=>?_);clear x0 x1 x2 x3 x4 ne;have R2d:Hid (RowE w1.drew w.heap.size z5):=Lib.hid R2.out;have B2d:=Lib.hid (B2.out.drew);clear R2 B2 X2;generalize w1.drew=W2 at *;have d0:W2.cell? ⟨w.heap.size,0,none⟩=some (.int .i64 0):=row_cell R2d.out 0;have d1:W2.cell? ⟨w.heap.size,1,none⟩=some (.int .i64 0):=row_cell R2d.out 1;have d2:W2.cell? ⟨w.heap.size,2,none⟩=some (.int .i64 0):=row_cell R2d.out 2;have d3:W2.cell? ⟨w.heap.size,3,none⟩=some (.int .i64 0):=row_cell R2d.out 3;have d4:W2.cell? ⟨w.heap.size,4,none⟩=some (.int .i64 0):=row_cell R2d.out 4;have f0:W2.frozen? ⟨w.heap.size,0,none⟩=false:=row_frozen R2d.out 0;have f1:W2.frozen? ⟨w.heap.size,1,none⟩=false:=row_frozen R2d.out 1;have f2:W2.frozen? ⟨w.heap.size,2,none⟩=false:=row_frozen R2d.out 2;have f3:W2.frozen? ⟨w.heap.size,3,none⟩=false:=row_frozen R2d.out 3;have f4:W2.frozen? ⟨w.heap.size,4,none⟩=false:=row_frozen R2d.out 4;have hne:gx≠w.heap.size:=by have:=gr;omega
       have X3:RowE (sto5 W2 w.heap.size x) gx x:=sto5_other C0 hne;have R3:Hid (RowE (sto5 W2 w.heap.size x) w.heap.size x):=Lib.hid (sto5_row (y:=z5) R2d.out x);have B3:=Lib.hid (sto5_below (g:=w.heap.size) (x:=x) B2d.out (Nat.le_refl _));go_simp;refine hK _ _ (Sc.Cl.of X3) ?_;clear hK K d0 d1 d2 d3 d4 f0 f1 f2 f3 f4;refine Sd.done ?_
       show Exit.then _ _ _ _ (sto5 W2 w.heap.size x)
       generalize sto5 W2 w.heap.size x=wS at *;go_wp2
       (try simp only [Exit.inBlock,Exit.then])
       exact bodyPost_ret (v:=.tuple #[.int .i64 (k:Int),ent x]) (results_who (p:=5) (r:=4) rfl _ _ w.heap.size k x rfl rfl R3.out) rfl (Y.out _ B3.out)
     | false =>
       have ST:=Lib.hid (NO.out rfl);clear hq YES NO;go_wp2_with fail;refine C.out.mono ?_;rintro e w1 ⟨rfl,b1⟩;have B2:=Lib.hid (B1.out.trans (b1.mono B1.out.size));have R2:=Lib.hid (R1.out.below b1 R1.out.lt);clear b1 x0 x1 x2 x3 x4 C XX B1 R1;go_wp2
       go_roundw
       case rel=>exact ⟨j+1,by omega,by go_num,R2,B2,ST⟩
       case measure=>simp [intOf];omega
    ·obtain rfl:j=m:=by omega
     have ST:=Lib.hid (within_end (by rw [HL.out];exact hs.out) HK.out);clear hs;go_wp2
     go_roundw
     case rel=>exact ⟨k+1,by omega,by go_num,rr,bw,ST⟩
     case measure=>simp [intOf];omega
  ·obtain rfl:k=n:=by omega
   have d0:wr.cell? ⟨w.heap.size,0,none⟩=some (.int .i64 0):=row_cell rr.out 0;have d1:wr.cell? ⟨w.heap.size,1,none⟩=some (.int .i64 0):=row_cell rr.out 1;have d2:wr.cell? ⟨w.heap.size,2,none⟩=some (.int .i64 0):=row_cell rr.out 2;have d3:wr.cell? ⟨w.heap.size,3,none⟩=some (.int .i64 0):=row_cell rr.out 3;have d4:wr.cell? ⟨w.heap.size,4,none⟩=some (.int .i64 0):=row_cell rr.out 4;have f0:wr.frozen? ⟨w.heap.size,0,none⟩=false:=row_frozen rr.out 0;have f1:wr.frozen? ⟨w.heap.size,1,none⟩=false:=row_frozen rr.out 1;have f2:wr.frozen? ⟨w.heap.size,2,none⟩=false:=row_frozen rr.out 2;have f3:wr.frozen? ⟨w.heap.size,3,none⟩=false:=row_frozen rr.out 3;have f4:wr.frozen? ⟨w.heap.size,4,none⟩=false:=row_frozen rr.out 4;have R3:Hid (RowE (sto5 wr w.heap.size z5) w.heap.size z5):=Lib.hid (sto5_row (y:=z5) rr.out z5);have B3:=Lib.hid (sto5_below (g:=w.heap.size) (x:=z5) bw.out (Nat.le_refl _));have E:=Lib.hid (HM.out _ hs.out B3.out);go_wp2
   (try simp only [Exit.inBlock,Exit.then])
   exact bodyPost_ret (v:=.tuple #[.int .i64 (-1),ent z5]) (results_who (p:=5) (r:=4) rfl _ _ w.heap.size (-1) z5 rfl rfl R3.out) rfl E.out
theorem makeF (fn:Fn) (first cap:Array Value) (w:World):(Instr.makeFunc fn first cap).run Tryz.prog w = .ok (.func fn first cap) w:=rfl
theorem sclos_any (w:World) (B:Nat) (s:Int) (L:LL) (hc:w.cell? ⟨B,0,none⟩=some (.int .i64 s)):PredS 254 #[.pointer (some ⟨B,0,none⟩)] (snd s) L w:=fun W n x _ _ hb=>by
 have hlt:=World.block_lt_of_cell? _ _ hc;have d:=(hb.cell hlt).trans hc;have hBW:B < W.heap.size:=Nat.lt_of_lt_of_le hlt hb.size;clear hc hlt hb
 show Calls Tryz.prog 254 #[.int .i64 n,.agg #[.int .i64 x.1,.int .i64 x.2.1,.int .i64 x.2.2.1,.int .i64 x.2.2.2.1,.int .i64 x.2.2.2.2],.pointer (some ⟨B,0,none⟩)] W _
 have HB:=Lib.hid (fun o=>(Below.refl W.heap.size W).alloc (Nat.le_refl _) o);obtain ⟨x1,x2,x3,x4,x5⟩:=x;have Y:=fun h1 h2=>snd_yes (s:=s) (n:=n) (x:=(x1,x2,x3,x4,x5)) h1 h2;have N:=fun h=>snd_no (s:=s) (n:=n) (x:=(x1,x2,x3,x4,x5)) h;simp only at Y N ⊢
 by_cases h1:x1=1
 ·by_cases h2:x2=s
  ·rw [Y h1 h2]
   clear Y N
   go_enter Tryz.func254,Tryz.ntmps254
   go_wp2
   go_ret
   exact ⟨ret_bool (by first | rfl | simpa using h2),HB.out _⟩
  ·rw [N (fun h=>h2 h.2)]
   clear Y N
   go_enter Tryz.func254,Tryz.ntmps254
   go_wp2
   go_ret
   exact ⟨ret_bool (by first | rfl | simpa using h2),HB.out _⟩
 ·rw [N (fun h=>h1 h.1)]
  clear Y N
  go_enter Tryz.func254,Tryz.ntmps254
  go_wp2
  go_ret
  exact ⟨ret_bool (by first | rfl | simpa using h2),HB.out _⟩
def InSlots (L:LL):Prop:=∀ n,n < L.length→∀ x∈lat L n,0≤x.2.1∧x.2.1≤16
theorem cclos_any (w:World) (B:Nat) (F:Nat→Int) (L:LL) (hi:InSlots L) (hr:RowI w B F):PredS 252 #[.pointer (some ⟨B,0,none⟩)] (qc F) L w:=fun W n x hn hx hb=>by
 have R:=hr.below hb hr.lt;have hBW:=R.lt;obtain ⟨g1,g2⟩:=hi n hn x hx;clear hr hb hi hn hx
 show Calls Tryz.prog 252 #[.int .i64 n,.agg #[.int .i64 x.1,.int .i64 x.2.1,.int .i64 x.2.2.1,.int .i64 x.2.2.2.1,.int .i64 x.2.2.2.2],.pointer (some ⟨B,0,none⟩)] W _
 have HB:=Lib.hid (fun o=>(Below.refl W.heap.size W).alloc (Nat.le_refl _) o);obtain ⟨x1,x2,x3,x4,x5⟩:=x;simp only at g1 g2 ⊢;obtain ⟨k,rfl⟩:∃ k:Nat,x2=k:=⟨x2.toNat,by omega⟩;have hk:k < 17:=by omega
 have d:=R.cell k hk;have Y:=fun h=>show qc F n (x1,(k:Int),x3,x4,x5)=true from decide_eq_true h;have N:=fun h=>show qc F n (x1,(k:Int),x3,x4,x5)=false from decide_eq_false h;simp only [Int.toNat_natCast] at Y N;clear R g1 g2;generalize F k=z at *
 by_cases h1:x1=1
 ·by_cases h2:z=n
  ·rw [N (fun h=>h.2 h2)]
   clear Y N
   go_enter Tryz.func252,Tryz.ntmps252
   go_wp2
   go_ret
   exact ⟨ret_bool (by first | rfl | simpa using h2),HB.out _⟩
  ·rw [Y ⟨h1,h2⟩]
   clear Y N
   go_enter Tryz.func252,Tryz.ntmps252
   go_wp2
   go_ret
   exact ⟨ret_bool (by first | rfl | simpa using h2),HB.out _⟩
 ·rw [N (fun h=>h1 h.1)]
  clear Y N
  go_enter Tryz.func252,Tryz.ntmps252
  go_wp2
  go_ret
  exact ⟨ret_bool (by first | rfl | simpa using h2),HB.out _⟩
theorem gclos_any (w:World) (B:Nat) (F:Nat→Int) (L:LL) (hi:InSlots L) (hr:RowI w B F):PredS 253 #[.pointer (some ⟨B,0,none⟩)] (qg F) L w:=fun W n x hn hx hb=>by
 have R:=hr.below hb hr.lt;have hBW:=R.lt;obtain ⟨g1,g2⟩:=hi n hn x hx;clear hr hb hi hn hx
 show Calls Tryz.prog 253 #[.int .i64 n,.agg #[.int .i64 x.1,.int .i64 x.2.1,.int .i64 x.2.2.1,.int .i64 x.2.2.2.1,.int .i64 x.2.2.2.2],.pointer (some ⟨B,0,none⟩)] W _
 have HB:=Lib.hid (fun o=>(Below.refl W.heap.size W).alloc (Nat.le_refl _) o);obtain ⟨x1,x2,x3,x4,x5⟩:=x;simp only at g1 g2 ⊢;obtain ⟨k,rfl⟩:∃ k:Nat,x2=k:=⟨x2.toNat,by omega⟩;have hk:k < 17:=by omega
 have d:=R.cell k hk;have Y:=fun h=>show qg F n (x1,(k:Int),x3,x4,x5)=true from decide_eq_true h;have N:=fun h=>show qg F n (x1,(k:Int),x3,x4,x5)=false from decide_eq_false h;simp only [Int.toNat_natCast] at Y N;clear R g1 g2;generalize F k=z at *
 by_cases h1:x1=2
 ·by_cases h2:z < 0
  ·rw [Y ⟨h1,h2⟩]
   clear Y N
   go_enter Tryz.func253,Tryz.ntmps253
   go_wp2
   go_ret
   exact ⟨ret_bool (by first | rfl | simpa using h2),HB.out _⟩
  ·rw [N (fun h=>h2 h.2)]
   clear Y N
   go_enter Tryz.func253,Tryz.ntmps253
   go_wp2
   go_ret
   exact ⟨ret_bool (by first | rfl | simpa using h2),HB.out _⟩
 ·rw [N (fun h=>h1 h.1)]
  clear Y N
  go_enter Tryz.func253,Tryz.ntmps253
  go_wp2
  go_ret
  exact ⟨ret_bool (by first | rfl | simpa using h2),HB.out _⟩
theorem sending_any (w:World) (s:Int):Calls Tryz.prog 224 #[.int .i64 s] w fun e w'=>e = .returned (.func (.func 254) #[] #[.pointer (some ⟨w.heap.size,0,none⟩)])∧w'=w.alloc (.cells #[.int .i64 s] 3):=by
 have hmf:=makeF
 go_enter Tryz.func224,Tryz.ntmps224
 go_wp2
 go_ret
 exact ⟨rfl,rfl⟩
theorem clash_any (w:World) (F:Nat→Int):Calls Tryz.prog 220 #[.agg (ar F)] w fun e w'=>e = .returned (.func (.func 252) #[] #[.pointer (some ⟨w.heap.size,0,none⟩)])∧w'=w.alloc (.cells (ar F) 348):=by
 have hmf:=makeF
 go_enter Tryz.func220,Tryz.ntmps220
 go_wp2
 go_ret
 exact ⟨rfl,rfl⟩
theorem gap_any (w:World) (F:Nat→Int):Calls Tryz.prog 221 #[.agg (ar F)] w fun e w'=>e = .returned (.func (.func 253) #[] #[.pointer (some ⟨w.heap.size,0,none⟩)])∧w'=w.alloc (.cells (ar F) 348):=by
 have hmf:=makeF
 go_enter Tryz.func221,Tryz.ntmps221
 go_wp2
 go_ret
 exact ⟨rfl,rfl⟩
end Go.Proofs.YtljnkaodhfnbbaaGreatDoor.Ck
namespace Go.Proofs.YtljnkaodhfnbbaaGreatDoor.Ro
open Go.RowKit
open Rw (Rd Ow At)
open Fl (R4 z4 rec4 K4 okR hdr rat goodF ret_bool at_bool)
attribute [local irreducible] wpQuiet
def row5 (x:E5):Array Value:=#[.int .i64 x.1,.int .i64 x.2.1,.int .i64 x.2.2.1,.int .i64 x.2.2.2.1,.int .i64 x.2.2.2.2]
set_option maxHeartbeats 400000 in
theorem end_any (w:World):Calls Tryz.prog 223 #[] w fun e w'=>e = .returned (ent endE)∧Below w.heap.size w w':=by
 go_enter Tryz.func223,Tryz.ntmps223
 go_wp2
 (try simp only [Exit.inBlock,Exit.then])
 refine bodyPost_ret (v:=ent endE) ?_ rfl ⟨rfl,?_⟩
 ·exact results_cell_row (p:=0) rfl _ _ w.heap.size 87 _ (0,0) _ rfl (heap_alloc_new w _) Tryz.underlying87 rfl (by show _=some 5;kernel_rfl)
 ·exact (Below.refl w.heap.size w).alloc (Nat.le_refl _) _
set_option maxHeartbeats 1000000 in
theorem place_any (w:World) (k s f r b:Int):Calls Tryz.prog 222 #[.agg #[.int .i64 k,.int .i64 s,.int .i64 f,.int .i64 r,.int .i64 b]] w fun e w'=>e = .returned (.bool (placeB s f r))∧Below w.heap.size w w':=by
 have B0:=Lib.hid ((Below.refl w.heap.size w).alloc (Nat.le_refl _) (.cells #[.int .i64 k,.int .i64 s,.int .i64 f,.int .i64 r,.int .i64 b] 87))
 by_cases h1:1≤s
 ·by_cases h2:s≤16
  ·by_cases h3:0≤f
   ·by_cases h4:f < 64
    ·by_cases h5:1≤r
     ·by_cases h6:r < 256
      ·have E:Hid (true=placeB s f r):=Lib.hid (decide_eq_true (show place s f r by unfold place;omega)).symm
       go_enter Tryz.func222,Tryz.ntmps222
       go_wp2
       go_ret
       exact ⟨ret_bool E.out,B0.out⟩
      ·have E:Hid (false=placeB s f r):=Lib.hid (decide_eq_false (show ¬ place s f r by unfold place;omega)).symm
       go_enter Tryz.func222,Tryz.ntmps222
       go_wp2
       go_ret
       exact ⟨ret_bool E.out,B0.out⟩
     ·have E:Hid (false=placeB s f r):=Lib.hid (decide_eq_false (show ¬ place s f r by unfold place;omega)).symm
      go_enter Tryz.func222,Tryz.ntmps222
      go_wp2
      go_ret
      exact ⟨ret_bool E.out,B0.out⟩
    ·have E:Hid (false=placeB s f r):=Lib.hid (decide_eq_false (show ¬ place s f r by unfold place;omega)).symm
     go_enter Tryz.func222,Tryz.ntmps222
     go_wp2
     go_ret
     exact ⟨ret_bool E.out,B0.out⟩
   ·have E:Hid (false=placeB s f r):=Lib.hid (decide_eq_false (show ¬ place s f r by unfold place;omega)).symm
    go_enter Tryz.func222,Tryz.ntmps222
    go_wp2
    go_ret
    exact ⟨ret_bool E.out,B0.out⟩
  ·have E:Hid (false=placeB s f r):=Lib.hid (decide_eq_false (show ¬ place s f r by unfold place;omega)).symm
   go_enter Tryz.func222,Tryz.ntmps222
   go_wp2
   go_ret
   exact ⟨ret_bool E.out,B0.out⟩
 ·have E:Hid (false=placeB s f r):=Lib.hid (decide_eq_false (show ¬ place s f r by unfold place;omega)).symm
  go_enter Tryz.func222,Tryz.ntmps222
  go_wp2
  go_ret
  exact ⟨ret_bool E.out,B0.out⟩
set_option maxHeartbeats 1000000 in
theorem good_act (w:World) (k s f r b L:Int) (hk:(k=1∨k=2)∧L=3∨k=3∧L=0):Calls Tryz.prog 187 #[.agg #[.int .i64 k,.int .i64 s,.int .i64 f,.int .i64 r,.int .i64 b]] w fun e w'=>e = .returned (.bool (okB (k,s,f,r,b)))∧Below w.heap.size w w':=by
 have B0:=Lib.hid ((Below.refl w.heap.size w).alloc (Nat.le_refl _) (.cells #[.int .i64 k,.int .i64 s,.int .i64 f,.int .i64 r,.int .i64 b] 87))
 have EQ:Hid (okE (k,s,f,r,b)↔place s f r∧0≤b∧b≤L):=Lib.hid (by
  unfold okE place;simp only
  omega)
 have PA:=Lib.hid (fun w=>place_any w k s f r b)
 by_cases hp:place s f r
 ·have PP:=Lib.hid (decide_eq_true hp)
  unfold placeB at PA;rw [PP.out] at PA;have HP:=Lib.hid hp;clear hp PP
  by_cases h1:0≤b
  ·have E:Hid (decide (b≤L)=okB (k,s,f,r,b)):=Lib.hid (decide_eq_decide.2 ⟨fun h=>EQ.out.2 ⟨HP.out,h1,h⟩,fun h=>(EQ.out.1 h).2.2⟩)
   clear EQ HP
   rcases hk with ⟨rfl | rfl,rfl⟩ | ⟨rfl,rfl⟩
   all_goals
    go_enter Tryz.func187,Tryz.ntmps187
    go_wp2_with fail;refine (PA.out _).mono ?_;rintro e w1 ⟨rfl,b1⟩;have c4:w1.cell? ⟨w.heap.size,4,none⟩=some (.int .i64 b):=(b1.cell (by simp)).trans (by go_simp);have B1:=Lib.hid (B0.out.trans (b1.mono B0.out.size));clear b1;go_wp2
    go_ret
    exact ⟨ret_bool E.out,B1.out⟩
  ·have E:Hid (false=okB (k,s,f,r,b)):=Lib.hid (decide_eq_false (fun h=>h1 (EQ.out.1 h).2.1)).symm
   clear EQ HP
   rcases hk with ⟨rfl | rfl,rfl⟩ | ⟨rfl,rfl⟩
   all_goals
    go_enter Tryz.func187,Tryz.ntmps187
    go_wp2_with fail;refine (PA.out _).mono ?_;rintro e w1 ⟨rfl,b1⟩;have c4:w1.cell? ⟨w.heap.size,4,none⟩=some (.int .i64 b):=(b1.cell (by simp)).trans (by go_simp);have B1:=Lib.hid (B0.out.trans (b1.mono B0.out.size));clear b1;go_wp2
    go_ret
    exact ⟨ret_bool E.out,B1.out⟩
 ·have E:Hid (false=okB (k,s,f,r,b)):=Lib.hid (decide_eq_false (fun h=>hp (EQ.out.1 h).1)).symm
  have PP:=Lib.hid (decide_eq_false hp);unfold placeB at PA;rw [PP.out] at PA;clear hp PP EQ
  rcases hk with ⟨rfl | rfl,rfl⟩ | ⟨rfl,rfl⟩
  all_goals
   go_enter Tryz.func187,Tryz.ntmps187
   go_wp2_with fail;refine (PA.out _).mono ?_;rintro e w1 ⟨rfl,b1⟩;have c4:w1.cell? ⟨w.heap.size,4,none⟩=some (.int .i64 b):=(b1.cell (by simp)).trans (by go_simp);have B1:=Lib.hid (B0.out.trans (b1.mono B0.out.size));clear b1;go_wp2
   go_ret
   exact ⟨ret_bool E.out,B1.out⟩
set_option maxHeartbeats 1000000 in
theorem good_end (w:World) (s f r b:Int):Calls Tryz.prog 187 #[.agg #[.int .i64 4,.int .i64 s,.int .i64 f,.int .i64 r,.int .i64 b]] w fun e w'=>e = .returned (.bool (okB (4,s,f,r,b)))∧Below w.heap.size w w':=by
 have B0:=Lib.hid ((Below.refl w.heap.size w).alloc (Nat.le_refl _) (.cells #[.int .i64 4,.int .i64 s,.int .i64 f,.int .i64 r,.int .i64 b] 87))
 have EQ:okE (4,s,f,r,b)↔(s=0∧f=0∧r=0∧b=0):=⟨fun h=>by
  rcases h with h | h
  ·exact absurd h.2.1 (show ¬ (4:Int)≤3 by decide)
  ·exact h.2,fun h=>.inr ⟨rfl,h⟩⟩
 have E:Hid ((decide (s=0) && (decide (f=0) && (decide (r=0) && decide (b=0))))=okB (4,s,f,r,b)):=Lib.hid (by
  rw [show okB (4,s,f,r,b)=decide (s=0∧f=0∧r=0∧b=0) from decide_eq_decide.2 EQ]
  simp only [Bool.decide_and])
 clear EQ;have es:=eq_ent ((4:Int),s,f,r,b) endE;simp only [endE] at es;have EE:=Lib.hid (fun w=>end_any w);unfold ent at EE;simp only [endE] at EE;have k0:=Qb.cell_by (show (w.alloc (.cells #[.int .i64 4,.int .i64 s,.int .i64 f,.int .i64 r,.int .i64 b] 87)).cell? ⟨w.heap.size,0,none⟩=some (.int .i64 4) by go_simp);have k1:=Qb.cell_by (show (w.alloc (.cells #[.int .i64 4,.int .i64 s,.int .i64 f,.int .i64 r,.int .i64 b] 87)).cell? ⟨w.heap.size,1,none⟩=some (.int .i64 s) by go_simp);have k2:=Qb.cell_by (show (w.alloc (.cells #[.int .i64 4,.int .i64 s,.int .i64 f,.int .i64 r,.int .i64 b] 87)).cell? ⟨w.heap.size,2,none⟩=some (.int .i64 f) by go_simp);have k3:=Qb.cell_by (show (w.alloc (.cells #[.int .i64 4,.int .i64 s,.int .i64 f,.int .i64 r,.int .i64 b] 87)).cell? ⟨w.heap.size,3,none⟩=some (.int .i64 r) by go_simp);have k4:=Qb.cell_by (show (w.alloc (.cells #[.int .i64 4,.int .i64 s,.int .i64 f,.int .i64 r,.int .i64 b] 87)).cell? ⟨w.heap.size,4,none⟩=some (.int .i64 b) by go_simp)
 go_enter Tryz.func187,Tryz.ntmps187
 go_wp2_with fail;refine Qb.wp_region_by (by kernel_rfl) (by kernel_rfl) ?_
 repeat (quiet_step ((go_at_call 223;with_reducible exact Qb.of_below (EE.out _))))
 refine wpQuiet_nil ?_
 intro _ hw'
 obtain ⟨pp,rfl⟩:=hw';go_wp2
 go_ret
 exact ⟨ret_bool E.out,B0.out.trans (pp.below.mono B0.out.size)⟩
set_option maxHeartbeats 400000 in
theorem good_else (w:World) (k s f r b:Int) (h1:k≠1) (h2:k≠2) (h3:k≠3) (h4:k≠4):Calls Tryz.prog 187 #[.agg #[.int .i64 k,.int .i64 s,.int .i64 f,.int .i64 r,.int .i64 b]] w fun e w'=>e = .returned (.bool (okB (k,s,f,r,b)))∧Below w.heap.size w w':=by
 have B0:=Lib.hid ((Below.refl w.heap.size w).alloc (Nat.le_refl _) (.cells #[.int .i64 k,.int .i64 s,.int .i64 f,.int .i64 r,.int .i64 b] 87));have E:Hid (false=okB (k,s,f,r,b)):=Lib.hid (decide_eq_false (show ¬ okE (k,s,f,r,b) by unfold okE;simp only;omega)).symm
 go_enter Tryz.func187,Tryz.ntmps187
 go_wp2
 go_ret
 exact ⟨ret_bool E.out,B0.out⟩
theorem good_any (w:World) (x:E5):Calls Tryz.prog 187 #[ent x] w fun e w'=>e = .returned (.bool (okB x))∧Below w.heap.size w w':=by
 obtain ⟨k,s,f,r,b⟩:=x
 show Calls Tryz.prog 187 #[.agg #[.int .i64 k,.int .i64 s,.int .i64 f,.int .i64 r,.int .i64 b]] w _
 by_cases h1:k=1
 ·exact good_act w k s f r b 3 (.inl ⟨.inl h1,rfl⟩)
 ·by_cases h2:k=2
  ·exact good_act w k s f r b 3 (.inl ⟨.inr h2,rfl⟩)
  ·by_cases h3:k=3
   ·exact good_act w k s f r b 0 (.inr ⟨h3,rfl⟩)
   ·by_cases h4:k=4
    ·subst h4;exact good_end w s f r b
    ·exact good_else w k s f r b h1 h2 h3 h4
end Go.Proofs.YtljnkaodhfnbbaaGreatDoor.Ro
namespace Go.Proofs.YtljnkaodhfnbbaaGreatDoor.Ro
open Go.RowKit
open Rw (Rd Ow At)
open Fl (R4 z4 rec4 K4 okR hdr rat goodF ret_bool at_bool)
attribute [local irreducible] wpQuiet
set_option maxHeartbeats 1000000 in
theorem istable_any (w:World) (v:Value) (l:List E5) (R:Rd K5 w v l):Calls Tryz.prog 234 #[v] w fun e w'=>e = .returned (.bool (mayB l))∧Below w.heap.size w w':=by
 have HNO:Hid (∀ k,k < l.length→¬ okAt l k→false=mayB l):=fun k hk h=>(decide_eq_false (fun g=>h (g k hk))).symm;have HYES:Hid ((∀ i,i < l.length→okAt l i)→true=mayB l):=fun h=>(decide_eq_true h).symm;obtain ⟨a,cap,rfl,_,hm,hA⟩:=R;have HA:=Lib.hid hA;unfold maxLen at hm;clear hA;generalize hn:l.length=n at *;have HN:=Lib.hid hn;clear hn
 go_enter Tryz.func234,Tryz.ntmps234
 go_wp2
 go_loopw [8,3] (fun i s wr=>∃ k:Nat,k≤n∧i = .int .i64 k∧s = .int .i64 (prevS l k)∧Hid (Below w.heap.size w wr)∧Hid (∀ i,i < k→okAt l i)) (fun i _ _=>n - (intOf i).toNat)
 case atStart=>exact ⟨0,Nat.zero_le _,rfl,rfl,Below.refl _ _,fun i hi=>by omega⟩
 case round =>
  obtain ⟨k,hk,rfl,rfl,bw,hs⟩:=hrel
  by_cases hlt:k < n
  ·obtain ⟨b,off,rfl,A⟩:=HA.out (by omega)
   obtain ⟨c0,c1,c2,c3,c4⟩:=at5 (A.below bw.out) k (by have:=HN.out;omega);have HAA:=Lib.hid A;have GA:=Lib.hid (fun w=>good_any w (eat l k));have hno:=HNO.out k hlt;have hok:okAt l k↔okE (eat l k)∧prevS l k < (eat l k).2.1:=Iff.rfl;have hst:okAt l k→∀ i,i < k+1→okAt l i:=fun g i hi=>by
    by_cases e:i=k
    ·rw [e];exact g
    ·exact hs.out i (by omega)
   have hpn:=prev_next l k;rw [show l.getD k z5=eat l k from rfl] at c0 c1 c2 c3 c4;clear A;unfold ent at GA;have P1:=Lib.hid hno;have P2:=Lib.hid hok;have P3:=Lib.hid hst;have P4:=Lib.hid hpn;clear hno hok hst hpn
   by_cases h1:okE (eat l k)
   ·rw [ok_yes h1] at GA
    have H1:=Lib.hid h1;clear h1
    by_cases h2:(eat l k).2.1≤prevS l k
    ·have E:=Lib.hid (P1.out (fun g=>by have:=(P2.out.1 g).2;omega))
     clear P1 P2 P3 P4;generalize prevS l k=ps at *;generalize eat l k=x at *;go_wp2_with fail;refine (GA.out _).mono ?_;rintro e w1 ⟨rfl,b1⟩;have e1:w1.cell? ⟨wr.heap.size,1,none⟩=some (.int .i64 x.2.1):=(b1.cell (by simp)).trans (by go_simp);have B1:=Lib.hid ((bw.out.alloc bw.out.size _).trans (b1.mono (Nat.le_trans bw.out.size (by simp))));clear b1;go_wp2
     go_ret
     exact ⟨ret_bool E.out,B1.out⟩
    ·have ST:=Lib.hid (P3.out (P2.out.2 ⟨H1.out,by omega⟩))
     have PN:=Lib.hid P4.out;clear P1 P2 P3 P4;generalize prevS l k=ps at *;generalize eat l k=x at *;have h3:ps < x.2.1:=by omega
     go_wp2_with fail;refine (GA.out _).mono ?_;rintro e w1 ⟨rfl,b1⟩;have e1:w1.cell? ⟨wr.heap.size,1,none⟩=some (.int .i64 x.2.1):=(b1.cell (by simp)).trans (by go_simp);have B1:=Lib.hid ((bw.out.alloc bw.out.size _).trans (b1.mono (Nat.le_trans bw.out.size (by simp))));clear b1;go_wp2
     go_roundw
     case rel=>exact ⟨k+1,by omega,by go_num,by rw [PN.out],B1,ST⟩
     case measure=>simp [intOf];omega
   ·have E:=Lib.hid (P1.out (fun g=>h1 (P2.out.1 g).1))
    rw [ok_no h1] at GA;clear P1 P2 P3 P4 h1;generalize prevS l k=ps at *;generalize eat l k=x at *;go_wp2_with fail;refine (GA.out _).mono ?_;rintro e w1 ⟨rfl,b1⟩;have B1:=Lib.hid ((bw.out.alloc bw.out.size _).trans (b1.mono (Nat.le_trans bw.out.size (by simp))));clear b1;go_wp2
    go_ret
    exact ⟨ret_bool E.out,B1.out⟩
  ·obtain rfl:k=n:=by omega
   have E:=Lib.hid (HYES.out (fun i hi=>hs.out i hi));generalize prevS l k=ps at *;go_wp2
   go_ret
   exact ⟨ret_bool E.out,bw.out⟩
end Go.Proofs.YtljnkaodhfnbbaaGreatDoor.Ro
namespace Go.Proofs.YtljnkaodhfnbbaaGreatDoor.Ro
open Go.RowKit
open Rw (Rd Ow At)
open Fl (R4 z4 rec4 K4 okR hdr rat goodF ret_bool at_bool)
set_option maxHeartbeats 1000000 in
theorem put_any (w:World) (x:E5):Calls Tryz.prog 269 #[ent x] w fun e w'=>e = .returned (.tuple #[rec4 (putR x),.int .i64 (putN x)])∧Below w.heap.size w w':=by
 obtain ⟨k,s,f,r,b⟩:=x;have B0:=Lib.hid (((Below.refl w.heap.size w).alloc (Nat.le_refl _) (.cells #[.int .i64 k,.int .i64 s,.int .i64 f,.int .i64 r,.int .i64 b] 87)).alloc (by simp) (.cells #[.int .u8 0,.int .u8 0,.int .u8 0,.int .u8 0] 42));have GA:=Lib.hid (good_any ((w.alloc (.cells #[.int .i64 k,.int .i64 s,.int .i64 f,.int .i64 r,.int .i64 b] 87)).alloc (.cells #[.int .u8 0,.int .u8 0,.int .u8 0,.int .u8 0] 42)) (k,s,f,r,b));unfold ent at GA
 by_cases hg:okE (k,s,f,r,b)
 ·rw [ok_yes hg] at GA
  have EP:Hid (putR (k,s,f,r,b)=(64 * b+k,s,f,r)):=Lib.hid (if_pos hg);have EN:Hid (putN (k,s,f,r,b)=0):=Lib.hid (if_pos hg);obtain ⟨⟨g1,g2⟩,⟨g3,g4⟩,⟨g5,g6⟩,⟨g7,g8⟩,g9,g10⟩:=okE_bounds hg;clear hg;simp only at g1 g2 g3 g4 g5 g6 g7 g8 g9 g10 GA;unfold ent
  go_enter Tryz.func269,Tryz.ntmps269
  go_wp2_with fail;refine GA.out.mono ?_;rintro e w1 ⟨rfl,b1⟩;have B1:=Lib.hid (B0.out.trans (b1.mono B0.out.size));have c0:w1.cell? ⟨w.heap.size,0,none⟩=some (.int .i64 k):=(b1.cell (by simp;omega)).trans (by go_simp);have c1:w1.cell? ⟨w.heap.size,1,none⟩=some (.int .i64 s):=(b1.cell (by simp;omega)).trans (by go_simp);have c2:w1.cell? ⟨w.heap.size,2,none⟩=some (.int .i64 f):=(b1.cell (by simp;omega)).trans (by go_simp);have c3:w1.cell? ⟨w.heap.size,3,none⟩=some (.int .i64 r):=(b1.cell (by simp;omega)).trans (by go_simp);have c4:w1.cell? ⟨w.heap.size,4,none⟩=some (.int .i64 b):=(b1.cell (by simp;omega)).trans (by go_simp);have k0:w1.cell? ⟨w.heap.size+1,0,none⟩=some (.int .u8 0):=(b1.cell (by simp)).trans (by go_simp);have k1:w1.cell? ⟨w.heap.size+1,1,none⟩=some (.int .u8 0):=(b1.cell (by simp)).trans (by go_simp);have k2:w1.cell? ⟨w.heap.size+1,2,none⟩=some (.int .u8 0):=(b1.cell (by simp)).trans (by go_simp);have k3:w1.cell? ⟨w.heap.size+1,3,none⟩=some (.int .u8 0):=(b1.cell (by simp)).trans (by go_simp);have m0:w1.frozen? ⟨w.heap.size+1,0,none⟩=false:=(b1.frozen (by simp)).trans (by go_simp);have m1:w1.frozen? ⟨w.heap.size+1,1,none⟩=false:=(b1.frozen (by simp)).trans (by go_simp);have m2:w1.frozen? ⟨w.heap.size+1,2,none⟩=false:=(b1.frozen (by simp)).trans (by go_simp);have m3:w1.frozen? ⟨w.heap.size+1,3,none⟩=false:=(b1.frozen (by simp)).trans (by go_simp);have hz:w.heap.size+2≤w1.heap.size:=by have:=b1.size;simp at this;omega
  clear b1 GA B0;go_wp2
  (try simp only [Exit.inBlock,Exit.then])
  refine bodyPost_ret (v:=.tuple #[rec4 (64 * b+k,s,f,r),.int .i64 0]) ?_ rfl ⟨by rw [EP.out,EN.out],?_⟩
  ·rw [results_cell_tmp rfl];go_simp;rfl
  ·exact (((B1.out.setCell (by simp) _).setCell (by simp) _).setCell (by simp) _).setCell (by simp) _
 ·rw [ok_no hg] at GA
  have EP:Hid (putR (k,s,f,r,b)=z4):=Lib.hid (if_neg hg);have EN:Hid (putN (k,s,f,r,b)=1):=Lib.hid (if_neg hg);clear hg;simp only at GA;unfold ent
  go_enter Tryz.func269,Tryz.ntmps269
  go_wp2_with fail;refine GA.out.mono ?_;rintro e w1 ⟨rfl,b1⟩;have B1:=Lib.hid (B0.out.trans (b1.mono B0.out.size));have k0:w1.cell? ⟨w.heap.size+1,0,none⟩=some (.int .u8 0):=(b1.cell (by simp)).trans (by go_simp);have k1:w1.cell? ⟨w.heap.size+1,1,none⟩=some (.int .u8 0):=(b1.cell (by simp)).trans (by go_simp);have k2:w1.cell? ⟨w.heap.size+1,2,none⟩=some (.int .u8 0):=(b1.cell (by simp)).trans (by go_simp);have k3:w1.cell? ⟨w.heap.size+1,3,none⟩=some (.int .u8 0):=(b1.cell (by simp)).trans (by go_simp);have m0:w1.frozen? ⟨w.heap.size+1,0,none⟩=false:=(b1.frozen (by simp)).trans (by go_simp);have m1:w1.frozen? ⟨w.heap.size+1,1,none⟩=false:=(b1.frozen (by simp)).trans (by go_simp);have m2:w1.frozen? ⟨w.heap.size+1,2,none⟩=false:=(b1.frozen (by simp)).trans (by go_simp);have m3:w1.frozen? ⟨w.heap.size+1,3,none⟩=false:=(b1.frozen (by simp)).trans (by go_simp);have hz:w.heap.size+2≤w1.heap.size:=by have:=b1.size;simp at this;omega
  clear b1 GA B0;go_wp2
  (try simp only [Exit.inBlock,Exit.then])
  refine bodyPost_ret (v:=.tuple #[rec4 z4,.int .i64 1]) ?_ rfl ⟨by rw [EP.out,EN.out],?_⟩
  ·rw [results_cell_tmp rfl];go_simp;rfl
  ·exact (((B1.out.setCell (by simp) _).setCell (by simp) _).setCell (by simp) _).setCell (by simp) _
set_option maxHeartbeats 1000000 in
theorem take_any (w:World) (v:R4) (hv:okR v):Calls Tryz.prog 233 #[rec4 v] w fun e w'=>e = .returned (.tuple #[ent (takeE v),.int .i64 (takeN v)])∧Below w.heap.size w w':=by
 obtain ⟨a,s,f,r⟩:=v;obtain ⟨⟨a0,a1⟩,⟨s0,s1⟩,⟨f0,f1⟩,r0,r1⟩:=hv;simp only at a0 a1 s0 s1 f0 f1 r0 r1;have q1:a.tdiv 64=a / 64:=Int.tdiv_eq_ediv_of_nonneg a0;have q2:a.tmod 64=a % 64:=Int.tmod_eq_emod_of_nonneg a0;have B0:=Lib.hid ((((Below.refl w.heap.size w).alloc (Nat.le_refl _) (.cells #[.int .u8 a,.int .u8 s,.int .u8 f,.int .u8 r] 42)).alloc (by simp) (.cells #[.int .i64 0,.int .i64 0,.int .i64 0,.int .i64 0,.int .i64 0] 87)).alloc (by simp;omega) (.cells #[.int .i64 (a % 64),.int .i64 s,.int .i64 f,.int .i64 r,.int .i64 (a / 64)] 87));have GA:=Lib.hid (good_any (((w.alloc (.cells #[.int .u8 a,.int .u8 s,.int .u8 f,.int .u8 r] 42)).alloc (.cells #[.int .i64 0,.int .i64 0,.int .i64 0,.int .i64 0,.int .i64 0] 87)).alloc (.cells #[.int .i64 (a % 64),.int .i64 s,.int .i64 f,.int .i64 r,.int .i64 (a / 64)] 87)) (takeX (a,s,f,r)));have g0:0≤a / 64:=by omega
 have g1:a / 64≤3:=by omega
 have g2:0≤a % 64:=by omega
 have g3:a % 64≤63:=by omega
 unfold ent at GA
 by_cases hg:okE (takeX (a,s,f,r))
 ·rw [ok_yes hg] at GA
  have EP:Hid (takeE (a,s,f,r)=(a % 64,s,f,r,a / 64)):=Lib.hid (if_pos hg);have EN:Hid (takeN (a,s,f,r)=0):=Lib.hid (if_pos hg);clear hg;simp only [takeX] at GA;generalize a / 64=y1 at *;generalize a % 64=y2 at *;unfold rec4
  go_enter Tryz.func233,Tryz.ntmps233
  go_wp2_with fail;refine GA.out.mono ?_;rintro e w1 ⟨rfl,b1⟩;have B1:=Lib.hid (B0.out.trans (b1.mono B0.out.size));have c0:w1.cell? ⟨w.heap.size+2,0,none⟩=some (.int .i64 y2):=(b1.cell (by simp)).trans (by go_simp);have c1:w1.cell? ⟨w.heap.size+2,1,none⟩=some (.int .i64 s):=(b1.cell (by simp)).trans (by go_simp);have c2:w1.cell? ⟨w.heap.size+2,2,none⟩=some (.int .i64 f):=(b1.cell (by simp)).trans (by go_simp);have c3:w1.cell? ⟨w.heap.size+2,3,none⟩=some (.int .i64 r):=(b1.cell (by simp)).trans (by go_simp);have c4:w1.cell? ⟨w.heap.size+2,4,none⟩=some (.int .i64 y1):=(b1.cell (by simp)).trans (by go_simp);have k0:w1.cell? ⟨w.heap.size+1,0,none⟩=some (.int .i64 0):=(b1.cell (by simp)).trans (by go_simp);have k1:w1.cell? ⟨w.heap.size+1,1,none⟩=some (.int .i64 0):=(b1.cell (by simp)).trans (by go_simp);have k2:w1.cell? ⟨w.heap.size+1,2,none⟩=some (.int .i64 0):=(b1.cell (by simp)).trans (by go_simp);have k3:w1.cell? ⟨w.heap.size+1,3,none⟩=some (.int .i64 0):=(b1.cell (by simp)).trans (by go_simp);have k4:w1.cell? ⟨w.heap.size+1,4,none⟩=some (.int .i64 0):=(b1.cell (by simp)).trans (by go_simp);have m0:w1.frozen? ⟨w.heap.size+1,0,none⟩=false:=(b1.frozen (by simp)).trans (by go_simp);have m1:w1.frozen? ⟨w.heap.size+1,1,none⟩=false:=(b1.frozen (by simp)).trans (by go_simp);have m2:w1.frozen? ⟨w.heap.size+1,2,none⟩=false:=(b1.frozen (by simp)).trans (by go_simp);have m3:w1.frozen? ⟨w.heap.size+1,3,none⟩=false:=(b1.frozen (by simp)).trans (by go_simp);have m4:w1.frozen? ⟨w.heap.size+1,4,none⟩=false:=(b1.frozen (by simp)).trans (by go_simp);clear b1 GA B0;go_wp2
  (try simp only [Exit.inBlock,Exit.then])
  refine bodyPost_ret (v:=.tuple #[.agg #[.int .i64 y2,.int .i64 s,.int .i64 f,.int .i64 r,.int .i64 y1],.int .i64 0]) ?_ rfl ⟨by rw [EP.out,EN.out];rfl,?_⟩
  ·rw [results_cell_tmp rfl];go_simp;try rfl
  ·exact ((((B1.out.setCell (by simp) _).setCell (by simp) _).setCell (by simp) _).setCell (by simp) _).setCell (by simp) _
 ·rw [ok_no hg] at GA
  have EP:Hid (takeE (a,s,f,r)=z5):=Lib.hid (if_neg hg);have EN:Hid (takeN (a,s,f,r)=2):=Lib.hid (if_neg hg);clear hg;simp only [takeX] at GA;generalize a / 64=y1 at *;generalize a % 64=y2 at *;unfold rec4
  go_enter Tryz.func233,Tryz.ntmps233
  go_wp2_with fail;refine GA.out.mono ?_;rintro e w1 ⟨rfl,b1⟩;have B1:=Lib.hid (B0.out.trans (b1.mono B0.out.size));have k0:w1.cell? ⟨w.heap.size+1,0,none⟩=some (.int .i64 0):=(b1.cell (by simp)).trans (by go_simp);have k1:w1.cell? ⟨w.heap.size+1,1,none⟩=some (.int .i64 0):=(b1.cell (by simp)).trans (by go_simp);have k2:w1.cell? ⟨w.heap.size+1,2,none⟩=some (.int .i64 0):=(b1.cell (by simp)).trans (by go_simp);have k3:w1.cell? ⟨w.heap.size+1,3,none⟩=some (.int .i64 0):=(b1.cell (by simp)).trans (by go_simp);have k4:w1.cell? ⟨w.heap.size+1,4,none⟩=some (.int .i64 0):=(b1.cell (by simp)).trans (by go_simp);have m0:w1.frozen? ⟨w.heap.size+1,0,none⟩=false:=(b1.frozen (by simp)).trans (by go_simp);have m1:w1.frozen? ⟨w.heap.size+1,1,none⟩=false:=(b1.frozen (by simp)).trans (by go_simp);have m2:w1.frozen? ⟨w.heap.size+1,2,none⟩=false:=(b1.frozen (by simp)).trans (by go_simp);have m3:w1.frozen? ⟨w.heap.size+1,3,none⟩=false:=(b1.frozen (by simp)).trans (by go_simp);have m4:w1.frozen? ⟨w.heap.size+1,4,none⟩=false:=(b1.frozen (by simp)).trans (by go_simp);clear b1 GA B0;go_wp2
  (try simp only [Exit.inBlock,Exit.then])
  refine bodyPost_ret (v:=.tuple #[.agg #[.int .i64 0,.int .i64 0,.int .i64 0,.int .i64 0,.int .i64 0],.int .i64 2]) ?_ rfl ⟨by rw [EP.out,EN.out];rfl,?_⟩
  ·rw [results_cell_tmp rfl];go_simp;try rfl
  ·exact ((((B1.out.setCell (by simp) _).setCell (by simp) _).setCell (by simp) _).setCell (by simp) _).setCell (by simp) _
end Go.Proofs.YtljnkaodhfnbbaaGreatDoor.Ro
namespace Go.Proofs.YtljnkaodhfnbbaaGreatDoor.Ro
open Go.RowKit
open Rw (Rd Ow At)
open Fl (R4 z4 rec4 K4 okR hdr rat file ret_bool at_bool at4 row_cell row_frozen newP newL NewOwn new_own sto4 sto4_own sto4_other sto4_below sto2 sto2_row sto2_below sto2_off results_new)
attribute [local irreducible] Sd.wpSd wpQuiet
def FilePost (w:World) (l:List E5) (e:Ending) (w':World):Prop:=∃ u,e = .returned (.tuple #[file (fP l) u,.int .i64 (fN l)])∧Rd K4 w' u (fL l)∧Below w.heap.size w w'
theorem file_no {w:World} {l:List E5} (h:¬ mayP l) (w':World) (hb:Below w.heap.size w w'):FilePost w l (.returned (.tuple #[file 0 (.slice none 0 0),.int .i64 1])) w' :=
 ⟨_,by unfold fP fN;rw [if_neg h,if_neg h],by unfold fL;rw [if_neg h];exact Rw.Rd.nil _,hb⟩
theorem file_yes {w:World} {l:List E5} (h:mayP l) (u:Value) (w':World) (hr:Rd K4 w' u (fileL l)) (hb:Below w.heap.size w w'):FilePost w l (.returned (.tuple #[file 3 u,.int .i64 0])) w' :=
 ⟨u,by unfold fP fN;rw [if_pos h,if_pos h],by unfold fL;rw [if_pos h];exact hr,hb⟩
structure FRel (w:World) (h:R4) (l:List E5) (g gF N cap k:Nat) (wr:World):Prop where
 row:wr.heap[gF]? = some (.cells #[.int .i64 3,.slice (some ⟨g,0,none⟩) N cap] 70 (0,0))
 res:wr.heap[w.heap.size]? = some (.cells #[.int .i64 0,.slice none 0 0] 70 (0,0))
 own:Ow K4 wr (w.heap.size+1) 42 (.slice (some ⟨g,0,none⟩) N cap) (part h l k)
 bel:Below w.heap.size w wr
def FC (g gF N cap gX:Nat) (x:E5) (W:World):Prop:=W.heap[gF]? = some (.cells #[.int .i64 3,.slice (some ⟨g,0,none⟩) N cap] 70 (0,0))∧W.heap[gX]? = some (.cells (row5 x) 87 (0,0))
set_option maxHeartbeats 2000000 in
theorem file_any (w:World) (v:Value) (l:List E5) (R:Rd K5 w v l):Calls Tryz.prog 251 #[v] w (FilePost w l):=by
 have B0:=Lib.hid ((Below.refl w.heap.size w).alloc (Nat.le_refl _) (.cells #[.int .i64 0,.slice none 0 0] 70));have R0:=Lib.hid (R.below B0.out)
 by_cases hm:mayP l
 ·have GA:=Lib.hid (at_bool (show mayB l=true from decide_eq_true hm) (istable_any _ v l R0.out))
  have HE:=Lib.hid (fun u w'=>file_yes (w:=w) hm u w');have hl:=may_len hm;clear hm R0;obtain ⟨a,cap0,rfl,_,hm,hA⟩:=R;have HA:=Lib.hid hA;unfold maxLen at hm;clear hA;have HF:Hid (fileL l=hdr 3 ((l.length:Int)+1) :: (l.map putR ++ [endR])):=rfl;have PS:=Lib.hid (fun h k=>part_set (k:=k) h (l:=l));have PE:=Lib.hid (fun h=>part_end h l);have PL:=Lib.hid (fun h k=>part_len h l k);have NL:Hid (newL 3 ((l.length:Int)+1)=part (hdr 3 ((l.length:Int)+1)) l 0):=Lib.hid (by rw [part_start];rfl);have NO:=Lib.hid (fun w=>new_own w 3 ((l.length:Int)+1) ⟨by omega,by omega,by omega,by omega⟩);unfold NewOwn at NO;rw [NL.out] at NO;clear NL;generalize hdr 3 ((l.length:Int)+1)=h at *;generalize hn:l.length=n at *;have HN:=Lib.hid hn;clear hn;have W0:IntKind.i64.wrap ((n:Int)+1)=(n:Int)+1:=IntWalk.i64_in _ (by omega);unfold file at NO
  go_enter Tryz.func251,Tryz.ntmps251
  go_wp2_with fail;refine GA.out.mono ?_;rintro e w1 ⟨rfl,b1⟩;have z1:w.heap.size+1≤w1.heap.size:=by have:=b1.size;simp at this;omega
  have B1:=Lib.hid (B0.out.trans (b1.mono B0.out.size));have r1:w1.heap[w.heap.size]? = some (.cells #[.int .i64 0,.slice none 0 0] 70 (0,0)):=(b1.block _ (by simp)).trans (heap_alloc_new w _);have S1:=Lib.hid r1;clear b1 GA B0 r1;go_wp2_with fail;refine (NO.out _).mono ?_;rintro e w2 ⟨u,rfl,o2,b2⟩;obtain ⟨g,cap,rfl,hg1,hg2,hcc,hcm,_,_⟩:=o2.form (by rw [PL.out _ _ (Nat.zero_le _)];omega);rw [PL.out _ _ (Nat.zero_le _)] at o2 hcc ⊢;have hz:∀ o,(w2.alloc o).heap.size=w2.heap.size+1:=fun o=>by simp
  have F0:Hid (FRel w h l g w2.heap.size (n+2) cap 0 (w2.alloc (.cells #[.int .i64 3,.slice (some ⟨g,0,none⟩) (n+2) cap] 70))):=Lib.hid
   ⟨heap_alloc_new w2 _,(Below.heap_alloc _ _ _ (by have:=b2.size;omega)).trans ((b2.block _ (by omega)).trans S1.out),(o2.alloc _).low (by omega),(B1.out.trans (b2.mono (by omega))).alloc (by have:=b2.size;omega) _⟩
  have hgF:w.heap.size < w2.heap.size:=by have:=b2.size;omega
  have hg0:w.heap.size < g:=by omega
  clear b2 o2 S1 B1 NO hz;go_wp2;generalize w2.alloc (.cells #[.int .i64 3,.slice (some ⟨g,0,none⟩) (n+2) cap] 70)=W at *;generalize w2.heap.size=gF at *;generalize hN2:n+2=N at *;have HN2:=Lib.hid hN2;clear hN2
  go_loopw [21] (fun i wr=>∃ k:Nat,k≤n∧i = .int .i64 k∧Hid (FRel w h l g gF N cap k wr)) (fun i _=>n - (intOf i).toNat)
  case atStart=>exact ⟨0,Nat.zero_le _,rfl,F0⟩
  case round =>
   obtain ⟨k,hk,rfl,RR⟩:=hrel
   by_cases hlt:k < n
   ·obtain ⟨b,off,rfl,A⟩:=HA.out (by omega)
    obtain ⟨c0,c1,c2,c3,c4⟩:=at5 (A.below RR.out.bel) k (by rw [HN.out];exact hlt);rw [show l.getD k z5=eat l k from rfl] at c0 c1 c2 c3 c4;have PT:=Lib.hid (fun w=>put_any w (eat l k));have PK:=Lib.hid (PS.out h k hlt);have PLK:=Lib.hid (PL.out h k hk);have AA:=Lib.hid A;clear A;unfold ent rec4 at PT;generalize putR (eat l k)=q at *;generalize putN (eat l k)=qn at *;generalize eat l k=x at *;obtain ⟨K1,hK1⟩:∃ K1,K1=k+1:=⟨_,rfl⟩;have W1:IntKind.i64.wrap (1+(k:Int))=(K1:Int):=by rw [IntWalk.i64_in _ (by omega)];omega
    have hkN:K1 < N:=by have:=HN2.out;omega
    have HK:=Lib.hid hK1;clear hK1;go_upto_region 7 with fail;have gx:gF < wr.heap.size:=lt_of_block RR.out.row;have zx:(wr.alloc (.cells (row5 x) 87)).heap.size=wr.heap.size+1:=by simp
    have BX:=Lib.hid ((Below.refl wr.heap.size wr).alloc (Nat.le_refl _) (.cells (row5 x) 87));have rowV:=(BX.out.block _ gx).trans RR.out.row;have resV:=Lib.hid ((BX.out.block _ (by omega)).trans RR.out.res);have rowX:=heap_alloc_new wr (.cells (row5 x) 87);have ownV:=Lib.hid (RR.out.own.alloc (.cells (row5 x) 87));have belV:=Lib.hid (RR.out.bel.trans (BX.out.mono RR.out.bel.size));clear BX RR c0 c1 c2 c3 c4;unfold row5 at zx rowV resV rowX ownV belV;generalize wr.alloc (.cells #[.int .i64 x.1,.int .i64 x.2.1,.int .i64 x.2.2.1,.int .i64 x.2.2.2.1,.int .i64 x.2.2.2.2] 87)=V at *;have C0:FC g gF N cap wr.heap.size x V.drew:=⟨rowV,rowX⟩;have ne:Nonempty (Sc.In (FC g gF N cap wr.heap.size x)):=⟨⟨_,C0⟩⟩;have k1:=Sc.cell_in (C:=FC g gF N cap wr.heap.size x) (a:=⟨gF,1,none⟩) (v:=.slice (some ⟨g,0,none⟩) N cap) (fun W' h=>row_cell h.1 1);have x0:=Sc.cell_in (C:=FC g gF N cap wr.heap.size x) (a:=⟨wr.heap.size,0,none⟩) (v:=.int .i64 x.1) (fun W' h=>row_cell h.2 0);have x1:=Sc.cell_in (C:=FC g gF N cap wr.heap.size x) (a:=⟨wr.heap.size,1,none⟩) (v:=.int .i64 x.2.1) (fun W' h=>row_cell h.2 1);have x2:=Sc.cell_in (C:=FC g gF N cap wr.heap.size x) (a:=⟨wr.heap.size,2,none⟩) (v:=.int .i64 x.2.2.1) (fun W' h=>row_cell h.2 2);have x3:=Sc.cell_in (C:=FC g gF N cap wr.heap.size x) (a:=⟨wr.heap.size,3,none⟩) (v:=.int .i64 x.2.2.2.1) (fun W' h=>row_cell h.2 3);have x4:=Sc.cell_in (C:=FC g gF N cap wr.heap.size x) (a:=⟨wr.heap.size,4,none⟩) (v:=.int .i64 x.2.2.2.2) (fun W' h=>row_cell h.2 4);refine Sc.start (FC g gF N cap wr.heap.size x) [(false,0),(false,1),(false,2),(false,3),(false,4),(true,5),(false,6),(false,7),(false,8),(false,9),(true,10)] (by kernel_rfl) (by kernel_rfl) (by kernel_rfl) C0 ?_;dsimp only [Sd.picks,List.getElem?_cons_succ,List.getElem?_cons_zero]
    iterate 5 (refine Sd.lit ?_;quiet_step (fail);refine wpQuiet_nil ?_)
    refine Sd.call (by rfl) (fun K hK=>?_);go_simp;refine (PT.out _).mono ?_;rintro e w4 ⟨rfl,b4⟩;have b4':Below V.heap.size V w4:=Below.trans ((Below.refl V.heap.size V).drew) b4;have B4:=Lib.hid (belV.out.trans (b4'.mono belV.out.size));have row4:=(b4'.block _ (by omega)).trans rowV;have rowX4:=(b4'.block _ (by omega)).trans rowX;have r4:=(b4'.block _ (by omega)).trans resV.out;have O4:=Lib.hid (ownV.out.keep b4');refine hK _ _ (Sc.Cl.of ⟨row4,rowX4⟩) ?_;clear hK K b4 b4' belV ownV resV rowV rowX PT
    iterate 4 (refine Sd.lit ?_;quiet_step (fail);refine wpQuiet_nil ?_)
    refine Sd.call (by rfl) (fun K hK=>?_);obtain ⟨g',cap',eg,_,_,_,_,hfr,hat⟩:=O4.out.form (by rw [PLK.out];omega);have eg':g'=g:=by
     injection eg with e1;injection e1 with e1;injection e1 with e1 _ _;exact e1.symm
    subst eg';have hKL:K1 < (part h l k).length:=by rw [PLK.out];have:=HN2.out;omega
    have eK:K1=1+k:=by rw [HK.out];omega
    have O5:=Lib.hid (sto4_own (i:=K1) O4.out (by rw [PLK.out]) hKL q);rw [show (part h l k).set K1 q=part h l (k+1) by rw [eK];exact PK.out] at O5;clear eK;obtain ⟨d0,d1,d2,d3⟩:=at4 hat K1 hKL;rw [Nat.zero_add] at d0 d1 d2 d3;have f0:=hfr (K1 * 4);have f1:=hfr (K1 * 4+1);have f2:=hfr (K1 * 4+2);have f3:=hfr (K1 * 4+3);have row5:=sto4_other (g:=g') (o:=K1 * 4) (r:=q) row4 (by omega);have rowX5:=sto4_other (g:=g') (o:=K1 * 4) (r:=q) rowX4 (by omega);have r5:=sto4_other (g:=g') (o:=K1 * 4) (r:=q) r4 (by omega);have B5:=Lib.hid (sto4_below (o:=K1 * 4) (r:=q) B4.out (show w.heap.size≤g' by omega));have N5:Hid (FRel w h l g' gF N cap (k+1) (sto4 w4 g' (K1 * 4) q)):=Lib.hid ⟨row5,r5,O5.out,B5.out⟩;clear hfr hat O4 B4 eg O5 B5;go_simp;refine hK _ _ (Sc.Cl.of ⟨row5,rowX5⟩) ?_;clear hK K d0 d1 d2 d3 f0 f1 f2 f3 row4 r4 rowX4 k1 ne C0 x0 x1 x2 x3 x4;refine Sd.done ?_
    show Exit.inBlock _ _ _ _ (sto4 w4 g' (K1 * 4) q)
    generalize sto4 w4 g' (K1 * 4) q=wS at *;go_wp2
    go_roundw
    case rel=>exact ⟨k+1,by omega,by go_num,N5⟩
    case measure=>simp [intOf];omega
   ·obtain rfl:k=n:=by omega
    have PK:=Lib.hid (PE.out h);have PLK:=Lib.hid (PL.out h k (Nat.le_refl _));have e1:putR endE=endR:=by decide
    have e2:putN endE=0:=by decide
    have PT:=Lib.hid (fun w=>put_any w endE);have EE:=Lib.hid (fun w=>end_any w);rw [e1,e2] at PT;clear e1 e2;unfold ent at PT EE;unfold rec4 at PT;simp only [endE,endR] at PT EE;obtain ⟨K1,hK1⟩:∃ K1,K1=k+1:=⟨_,rfl⟩;have W1:IntKind.i64.wrap (1+(k:Int))=(K1:Int):=by rw [IntWalk.i64_in _ (by omega)];omega
    have hkN:K1 < N:=by have:=HN2.out;omega
    have HK:=Lib.hid hK1;clear hK1 PS PE PL;go_upto_region 9 with fail;have gx:gF < wr.heap.size:=lt_of_block RR.out.row;have rowV:=RR.out.row;have resV:=Lib.hid RR.out.res;have ownV:=Lib.hid RR.out.own;have belV:=Lib.hid RR.out.bel;clear RR;have C0:(fun W':World=>W'.heap[gF]? = some (.cells #[.int .i64 3,.slice (some ⟨g,0,none⟩) N cap] 70 (0,0))) wr.drew:=rowV;have ne:Nonempty (Sc.In (fun W':World=>W'.heap[gF]? = some (.cells #[.int .i64 3,.slice (some ⟨g,0,none⟩) N cap] 70 (0,0)))):=⟨⟨_,C0⟩⟩;have k1:=Sc.cell_in (C:=fun W':World=>W'.heap[gF]? = some (.cells #[.int .i64 3,.slice (some ⟨g,0,none⟩) N cap] 70 (0,0))) (a:=⟨gF,1,none⟩) (v:=.slice (some ⟨g,0,none⟩) N cap) (fun W' h=>row_cell h 1);refine Sc.start (fun W':World=>W'.heap[gF]? = some (.cells #[.int .i64 3,.slice (some ⟨g,0,none⟩) N cap] 70 (0,0))) [(false,0),(false,1),(false,2),(false,3),(false,4),(true,5),(true,6),(false,7),(false,8),(false,9),(false,10),(true,11)] (by kernel_rfl) (by kernel_rfl) (by kernel_rfl) C0 ?_;dsimp only [Sd.picks,List.getElem?_cons_succ,List.getElem?_cons_zero]
    iterate 5 (refine Sd.lit ?_;quiet_step (fail);refine wpQuiet_nil ?_)
    refine Sd.call (by rfl) (fun K hK=>?_);go_simp;refine (EE.out _).mono ?_;rintro e w3 ⟨rfl,b3⟩;have b3':Below wr.heap.size wr w3:=Below.trans ((Below.refl wr.heap.size wr).drew) b3;have row3:=(b3'.block _ (by omega)).trans rowV;refine hK _ _ (Sc.Cl.of row3) ?_;clear hK K b3;refine Sd.call (by rfl) (fun K hK=>?_);go_simp;refine (PT.out _).mono ?_;rintro e w4 ⟨rfl,b4⟩;have b4':Below wr.heap.size wr w4:=b3'.trans (b4.mono b3'.size);have B4:=Lib.hid (belV.out.trans (b4'.mono belV.out.size));have row4:=(b4'.block _ (by omega)).trans rowV;have r4:=(b4'.block _ (by omega)).trans resV.out;have O4:=Lib.hid (ownV.out.keep b4');refine hK _ _ (Sc.Cl.of row4) ?_;clear hK K b4 b3' b4' belV ownV resV rowV row3 PT EE
    iterate 4 (refine Sd.lit ?_;quiet_step (fail);refine wpQuiet_nil ?_)
    refine Sd.call (by rfl) (fun K hK=>?_);obtain ⟨g',cap',eg,_,_,_,_,hfr,hat⟩:=O4.out.form (by rw [PLK.out];omega);have eg':g'=g:=by
     injection eg with e1;injection e1 with e1;injection e1 with e1 _ _;exact e1.symm
    subst eg';have hKL:K1 < (part h l k).length:=by rw [PLK.out];have:=HN2.out;omega
    have eK:K1=1+k:=by rw [HK.out];omega
    have O5:=Lib.hid (sto4_own (i:=K1) O4.out (by rw [PLK.out]) hKL endR);rw [show (part h l k).set K1 endR=fileL l by rw [eK,HF.out];exact PK.out] at O5;clear eK;obtain ⟨d0,d1,d2,d3⟩:=at4 hat K1 hKL;rw [Nat.zero_add] at d0 d1 d2 d3;have f0:=hfr (K1 * 4);have f1:=hfr (K1 * 4+1);have f2:=hfr (K1 * 4+2);have f3:=hfr (K1 * 4+3);have row5:=sto4_other (g:=g') (o:=K1 * 4) (r:=endR) row4 (by omega);have r5:=sto4_other (g:=g') (o:=K1 * 4) (r:=endR) r4 (by omega);have B5:=Lib.hid (sto4_below (o:=K1 * 4) (r:=endR) B4.out (show w.heap.size≤g' by omega));clear hfr hat O4 B4 eg;go_simp;refine hK _ _ (Sc.Cl.of row5) ?_;clear hK K d0 d1 d2 d3 f0 f1 f2 f3 row4 r4 k1 ne C0;refine Sd.done ?_;have d0:(sto4 w4 g' (K1 * 4) endR).cell? ⟨gF,0,none⟩=some (.int .i64 3):=row_cell row5 0;have d1:(sto4 w4 g' (K1 * 4) endR).cell? ⟨gF,1,none⟩=some (.slice (some ⟨g',0,none⟩) N cap):=row_cell row5 1;have e0:(sto4 w4 g' (K1 * 4) endR).cell? ⟨w.heap.size,0,none⟩=some (.int .i64 0):=row_cell r5 0;have e1:(sto4 w4 g' (K1 * 4) endR).cell? ⟨w.heap.size,1,none⟩=some (.slice none 0 0):=row_cell r5 1;have f0:=row_frozen r5 0;have f1:=row_frozen r5 1;have hne:(Value.slice (some ⟨g',0,none⟩) N cap).ownBlock≠some w.heap.size:=O5.out.range (.inl (by omega));have RR:=Lib.hid (sto2_row r5 3 (.slice (some ⟨g',0,none⟩) N cap));have O6:=Lib.hid (sto2_off (u:=.slice (some ⟨g',0,none⟩) N cap) O5.out hne 3);have B6:=Lib.hid (sto2_below (p:=3) (v:=.slice (some ⟨g',0,none⟩) N cap) B5.out (Nat.le_refl _));clear row5 r5 O5 B5 hne
    show Exit.then _ _ _ _ (sto4 w4 g' (K1 * 4) endR)
    generalize sto4 w4 g' (K1 * 4) endR=wS at *;go_wp2
    (try simp only [Exit.inBlock,Exit.then])
    exact bodyPost_ret (v:=.tuple #[file 3 _,.int .i64 0]) (results_new (p:=2) (r:=3) rfl _ _ w.heap.size 3 _ 0 rfl rfl RR.out) rfl (HE.out _ _ O6.out.rd B6.out)
 ·have GA:=Lib.hid (at_bool (show mayB l=false from decide_eq_false hm) (istable_any _ v l R0.out))
  have E:=Lib.hid (file_no (w:=w) hm);clear hm;obtain ⟨a,cap,rfl,_,hm,_⟩:=R;clear R0;generalize l.length=n at *
  go_enter Tryz.func251,Tryz.ntmps251
  go_wp2_with fail;refine GA.out.mono ?_;rintro e w1 ⟨rfl,b1⟩;have z1:w.heap.size < w1.heap.size:=by have:=b1.size;simp at this;omega
  have B1:=Lib.hid (B0.out.trans (b1.mono B0.out.size));have r0:w1.heap[w.heap.size]? = some (.cells #[.int .i64 0,.slice none 0 0] 70 (0,0)):=(b1.block _ (by simp)).trans (heap_alloc_new w _);have c0:w1.cell? ⟨w.heap.size,0,none⟩=some (.int .i64 0):=row_cell r0 0;have c1:w1.cell? ⟨w.heap.size,1,none⟩=some (.slice none 0 0):=row_cell r0 1;have f0:=row_frozen r0 0;have f1:=row_frozen r0 1;have RR:=Lib.hid (sto2_row r0 0 (.slice none 0 0));clear b1 B0 r0 GA;go_wp2
  (try simp only [Exit.inBlock,Exit.then])
  exact bodyPost_ret (v:=.tuple #[file 0 (.slice none 0 0),.int .i64 1]) (results_new (p:=2) (r:=3) rfl _ _ w.heap.size 0 _ 1 rfl rfl RR.out) rfl (E.out _ (sto2_below B1.out (Nat.le_refl _)))
end Go.Proofs.YtljnkaodhfnbbaaGreatDoor.Ro
namespace Go.Proofs.YtljnkaodhfnbbaaGreatDoor.Ck
open Go.RowKit
open Ro (E5 z5 eat ent K5 at5 eat_mem mayB mayP)
open Rw (Rd Ow At)
open Fl (ret_bool at_bool row_cell row_frozen file)
attribute [local irreducible] Sd.wpSd wpQuiet
set_option maxHeartbeats 1000000 in
theorem sender_any (w:World) (v:Value) (L:LL) (s:Int) (R:RdL w v L):Calls Tryz.prog 189 #[v,.int .i64 s] w (WhoPost w (sN s L) (sE s L)):=by
 have eg:∀ args w,(callFunc 254 args).run Tryz.prog w = .ok (.enter 254 args) w:=enters_of Tryz.func254 (by kernel_rfl) rfl;have R0:RowE (w.alloc (.cells #[.int .i64 0,.int .i64 0,.int .i64 0,.int .i64 0,.int .i64 0] 87)) w.heap.size z5:=heap_alloc_new w _;have b0:=(Below.refl w.heap.size w).alloc (Nat.le_refl _) (.cells #[.int .i64 0,.int .i64 0,.int .i64 0,.int .i64 0,.int .i64 0] 87);have RV:=R.below b0;obtain ⟨a,cap,rfl,_⟩:=R.slice;clear R;have FA:=Lib.hid (fun (W:World) (B:Nat) (hr:RdL W (.slice a L.length cap) L) (hc:W.cell? ⟨B,0,none⟩=some (.int .i64 s))=>find_any W _ L 254 #[.pointer (some ⟨B,0,none⟩)] (snd s) eg hr (sclos_any W B s L hc));clear eg;have RR:=Lib.hid R0;have BB:=Lib.hid b0;have RL:=Lib.hid RV;clear R0 b0 RV;have E:Hid (∀ w',Below w.heap.size w w'→WhoPost w (sN s L) (sE s L) (.returned (.tuple #[.int .i64 (sN s L),ent (sE s L)])) w'):=fun w' b=>⟨rfl,b⟩;rw [show whoN (snd s) L=sN s L from rfl,show whoE (snd s) L=sE s L from rfl] at FA;generalize sN s L=rn at *;generalize sE s L=re at *;generalize L.length=n at *
 go_enter Tryz.func189,Tryz.ntmps189
 go_upto_region 1 with fail;generalize w.alloc (.cells #[.int .i64 0,.int .i64 0,.int .i64 0,.int .i64 0,.int .i64 0] 87)=w0 at *;go_wp2_with fail;refine (sending_any w0 s).mono ?_;rintro e w1 ⟨rfl,rfl⟩;have b1:=(Below.refl w0.heap.size w0).alloc (Nat.le_refl _) (.cells #[.int .i64 s] 3);have F:=FA.out (w0.alloc (.cells #[.int .i64 s] 3)) w0.heap.size (RL.out.below b1) (by go_simp);have FB:=Lib.hid F;have R1:=Lib.hid (RR.out.below b1 RR.out.lt);have B1:=Lib.hid (BB.out.trans (b1.mono BB.out.size));clear FA RL RR BB b1 F;generalize w0.heap.size=g0 at *;generalize w0.alloc (.cells #[.int .i64 s] 3)=V at *;go_wp2_with fail;refine FB.out.mono ?_;rintro e w2 ⟨rfl,b2⟩;have R2:=Lib.hid (R1.out.below b2 R1.out.lt);have B2:=Lib.hid (B1.out.trans (b2.mono B1.out.size));clear FB R1 B1 b2;have d0:w2.cell? ⟨w.heap.size,0,none⟩=some (.int .i64 0):=row_cell R2.out 0;have d1:w2.cell? ⟨w.heap.size,1,none⟩=some (.int .i64 0):=row_cell R2.out 1;have d2:w2.cell? ⟨w.heap.size,2,none⟩=some (.int .i64 0):=row_cell R2.out 2;have d3:w2.cell? ⟨w.heap.size,3,none⟩=some (.int .i64 0):=row_cell R2.out 3;have d4:w2.cell? ⟨w.heap.size,4,none⟩=some (.int .i64 0):=row_cell R2.out 4;have f0:w2.frozen? ⟨w.heap.size,0,none⟩=false:=row_frozen R2.out 0;have f1:w2.frozen? ⟨w.heap.size,1,none⟩=false:=row_frozen R2.out 1;have f2:w2.frozen? ⟨w.heap.size,2,none⟩=false:=row_frozen R2.out 2;have f3:w2.frozen? ⟨w.heap.size,3,none⟩=false:=row_frozen R2.out 3;have f4:w2.frozen? ⟨w.heap.size,4,none⟩=false:=row_frozen R2.out 4;have R3:Hid (RowE (sto5 w2 w.heap.size re) w.heap.size re):=Lib.hid (sto5_row (y:=z5) R2.out re);have B3:=Lib.hid (sto5_below (g:=w.heap.size) (x:=re) B2.out (Nat.le_refl _));unfold ent;go_wp2
 (try simp only [Exit.inBlock,Exit.then])
 exact bodyPost_ret (v:=.tuple #[.int .i64 rn,ent re]) (results_who (p:=5) (r:=4) rfl _ _ w.heap.size rn re rfl rfl R3.out) rfl (E.out _ B3.out)
def no (_:Nat):Int:=0
def upto (L:LL) (k:Nat) (i:Nat):Int:=if i < k then sF L i else 0
theorem upto_zero (L:LL) (i:Nat):no i=upto L 0 i:=by unfold upto;rw [if_neg (Nat.not_lt_zero _)];rfl
theorem upto_step (L:LL) (k i:Nat):upI (upto L k) k (sN k L) i=upto L (k+1) i:=by
 unfold upI upto
 by_cases e:i=k
 ·subst e;rw [if_pos rfl,if_pos (by omega)];rfl
 ·rw [if_neg e]
  by_cases c:i < k
  ·rw [if_pos c,if_pos (by omega)]
  ·rw [if_neg c,if_neg (by omega)]
structure TwoI (w wr:World) (F:Nat→Int):Prop where
 res:RowI wr w.heap.size no
 out_:RowI wr (w.heap.size+1) F
 bel:Below w.heap.size w wr
theorem twoI_new (w:World) (F:Nat→Int) (h:∀ i,i < 17→no i=F i):TwoI w ((w.alloc (.cells (ar no) 348)).alloc (.cells (ar no) 348)) F:=by
 have e:(w.alloc (.cells (ar no) 348)).heap.size=w.heap.size+1:=by simp
 have n2:=RowI.new (w.alloc (.cells (ar no) 348)) no;rw [e] at n2;exact ⟨(Below.heap_alloc _ _ _ (by simp)).trans (RowI.new w no),n2.to h,((Below.refl _ _).alloc (Nat.le_refl _) _).alloc (by simp) _⟩
theorem TwoI.set_ {w wr:World} {F:Nat→Int} (h:TwoI w wr F) (k:Nat) (hk:k < 17) (x:Int):TwoI w (wr.setCell ⟨w.heap.size+1,k,none⟩ (.int .i64 x)) (upI F k x) :=
 ⟨h.1.far (by simp) _,h.2.set_ k hk x,h.3.setCell (by simp) _⟩
theorem TwoI.below {w wr w1:World} {F:Nat→Int} (h:TwoI w wr F) (hb:Below wr.heap.size wr w1):TwoI w w1 F :=
 ⟨h.1.below hb h.1.lt,h.2.below hb h.2.lt,h.3.trans (hb.mono h.3.size)⟩
theorem TwoI.to {w wr:World} {F G:Nat→Int} (h:TwoI w wr F) (e:∀ i,i < 17→F i=G i):TwoI w wr G:=⟨h.1,h.2.to e,h.3⟩
theorem below_setRow {B:Nat} {a w:World} (h:Below B a w) (g:Nat) (cs:Array Value) (hg:B≤g):Below B a (w.setRow g cs) :=
 ⟨h.os,h.tape,h.output,by rw [size_setRow];exact h.size,fun k hk=>(setRow_other w g k cs (by omega)).trans (h.block k hk)⟩
set_option maxHeartbeats 1000000 in
theorem senders_any (w:World) (v:Value) (L:LL) (R:RdL w v L):Calls Tryz.prog 218 #[v] w fun e w'=>e = .returned (.agg (ar (sF L)))∧Below w.heap.size w w':=by
 have T0:=Lib.hid (twoI_new w (upto L 0) (fun i _=>upto_zero L i));have SA:=Lib.hid (fun (W:World) (s:Int) (hb:Below w.heap.size w W)=>sender_any W v L s (R.below hb));have E:Hid (ar (upto L 17)=ar (sF L)):=Lib.hid (ar_congr fun i hi=>if_pos hi);have ST:=Lib.hid (upto_step L);obtain ⟨a,cap,rfl,_⟩:=R.slice;clear R;generalize L.length=n at *
 go_enter Tryz.func218,Tryz.ntmps218
 go_wp2
 go_loopw [5] (fun i wr=>∃ k:Nat,k≤17∧i = .int .i64 k∧Hid (TwoI w wr (upto L k))) (fun i _=>17 - (intOf i).toNat)
 case atStart=>exact ⟨0,Nat.zero_le _,rfl,T0⟩
 case round =>
  obtain ⟨k,hk,rfl,T⟩:=hrel
  by_cases hlt:k < 17
  ·have C:=Lib.hid (SA.out wr k T.out.bel)
   have UP:=Lib.hid (ST.out k);generalize sN (k:Int) L=sn at *;generalize sE (k:Int) L=se at *;unfold WhoPost ent at C;go_wp2_with fail;refine C.out.mono ?_;rintro e w1 ⟨rfl,b1⟩;have T1:=Lib.hid (T.out.below b1);have c:=T1.out.out_.cell k hlt;have f:=T1.out.out_.frozen k;have T2:=Lib.hid ((T1.out.set_ k hlt sn).to (fun i _=>UP.out i));clear b1 T1 C;go_wp2
   go_roundw
   case rel=>exact ⟨k+1,by omega,by go_num,T2⟩
   case measure=>simp [intOf];omega
  ·obtain rfl:k=17:=by omega
   go_wp2_with (first
    | (refine wpList_load_row rfl 348 _ rfl _ rfl _ _ _ _ T.out.out_ Tryz.underlying348 rfl (infoI _) ?_)
    | (refine wpList_store_row rfl 348 _ _ rfl _ _ rfl rfl _ _ T.out.res (infoI _) rfl (ar_one _) ?_))
   refine bodyPost_ret (results_ar rfl _ _ _ _ rfl (T.out.res.row _)) rfl ⟨by rw [E.out],?_⟩;exact below_setRow T.out.bel _ _ (Nat.le_refl _)
theorem isno_any (w:World) (v:Value) (l:List E5) (R:Rd K5 w v l):Calls Tryz.prog 217 #[v] w fun e w'=>e = .returned (.bool (bad l))∧Below w.heap.size w w':=by
 have FA:=Lib.hid (Ro.file_any w v l R);have hb:bad l = !mayB l:=rfl;obtain ⟨a,cap,rfl,_⟩:=R;unfold Ro.FilePost file at FA
 by_cases h:mayP l
 ·have e1:Ro.fN l=0:=if_pos h
  have e2:bad l=false:=by rw [hb,show mayB l=true from decide_eq_true h];rfl
  rw [e1] at FA;rw [e2];generalize Ro.fP l=p at *;generalize Ro.fL l=fl at *;clear e1 e2 hb h;generalize l.length=n at *
  go_enter Tryz.func217,Tryz.ntmps217
  go_wp2_with fail;refine FA.out.mono ?_;rintro e w1 ⟨u,rfl,r1,b1⟩;obtain ⟨a1,c1,rfl,_⟩:=r1;have HB:=Lib.hid (fun o=>b1.alloc b1.size o);clear b1;go_wp2
  go_ret
  exact ⟨rfl,HB.out _⟩
 ·have e1:Ro.fN l=1:=if_neg h
  have e2:bad l=true:=by rw [hb,show mayB l=false from decide_eq_false h];rfl
  rw [e1] at FA;rw [e2];generalize Ro.fP l=p at *;generalize Ro.fL l=fl at *;clear e1 e2 hb h;generalize l.length=n at *
  go_enter Tryz.func217,Tryz.ntmps217
  go_wp2_with fail;refine FA.out.mono ?_;rintro e w1 ⟨u,rfl,r1,b1⟩;obtain ⟨a1,c1,rfl,_⟩:=r1;have HB:=Lib.hid (fun o=>b1.alloc b1.size o);clear b1;go_wp2
  go_ret
  exact ⟨rfl,HB.out _⟩
set_option maxHeartbeats 1000000 in
theorem index_any (w:World) (v:Value) (L:LL) (g:Nat) (q:List E5→Bool) (eg:∀ args w,(callFunc g args).run Tryz.prog w = .ok (.enter g args) w) (R:RdL w v L)
 (hp:∀ (W:World) (u:Value) (l:List E5),Rd K5 W u l→Calls Tryz.prog g #[u] W fun e w'=>e = .returned (.bool (q l))∧Below W.heap.size W w') :
 Calls Tryz.prog 216 #[v,.func (.func g) #[] #[]] w fun e w'=>e = .returned (.int .i64 (idx q 0 L))∧Below w.heap.size w w':=by
 obtain ⟨a,cap,rfl,_,hm,hA⟩:=R;have HA:=Lib.hid hA;have HP:=Lib.hid hp;have HH:Hid (∀ k,IAhead q L k→k < L.length→q (lat L k)=true→idx q 0 L=k):=fun k=>iahead_hit;have HE:Hid (IAhead q L L.length→idx q 0 L = -1):=iahead_end;have HX:Hid (∀ k,IAhead q L k→k < L.length→q (lat L k)=false→IAhead q L (k+1)):=fun k=>iahead_next;clear hA hp;generalize hr:idx q 0 L=r at *;clear hr;unfold maxLen at hm;generalize hn:L.length=n at *;have HN:=Lib.hid hn;clear hn
 go_enter Tryz.func216,Tryz.ntmps216
 go_wp2
 go_loopw [8] (fun i wr=>∃ k:Nat,k≤n∧i = .int .i64 k∧Hid (IAhead q L k)∧Hid (Below w.heap.size w wr)) (fun i _=>n - (intOf i).toNat)
 case atStart=>exact ⟨0,Nat.zero_le _,rfl,iahead_zero,Below.refl _ _⟩
 case round =>
  obtain ⟨k,hk,rfl,hs,bw⟩:=hrel
  by_cases hlt:k < n
  ·obtain ⟨b,off,rfl,A⟩:=HA.out (by omega)
   obtain ⟨u,c,ru⟩:=A k hlt;have ru':=ru.below bw.out;have c':=(bw.out.cell (World.block_lt_of_cell? _ _ c)).trans c;have AA:=Lib.hid A;clear A;have hc:=HP.out wr u (lat L k) (ru.below bw.out);obtain ⟨a',cap',rfl,_⟩:=ru;have C:=Lib.hid hc;have YES:=fun h=>HH.out k hs.out hlt h;have NO:=fun h=>HX.out k hs.out hlt h;clear hc ru' c;generalize q (lat L k)=qq at *;generalize (lat L k).length=m at *
   cases qq with
   | true =>
     have Y:=Lib.hid (YES rfl);clear YES NO;go_wp2_with fail;refine C.out.mono ?_;rintro e w1 ⟨rfl,b1⟩;have B1:=Lib.hid (bw.out.trans (b1.mono bw.out.size));clear b1;go_wp2
     go_ret
     exact ⟨Ua.ret_int Y.out.symm,B1.out⟩
   | false =>
     have N:=Lib.hid (NO rfl);clear YES NO;go_wp2_with fail;refine C.out.mono ?_;rintro e w1 ⟨rfl,b1⟩;have B1:=Lib.hid (bw.out.trans (b1.mono bw.out.size));clear b1;go_wp2
     go_roundw
     case rel=>exact ⟨k+1,by omega,by go_num,N,B1⟩
     case measure=>simp [intOf];omega
  ·obtain rfl:k=n:=by omega
   have E:=Lib.hid (HE.out hs.out);go_wp2
   go_ret
   exact ⟨Ua.ret_int E.out.symm,bw.out⟩
end Go.Proofs.YtljnkaodhfnbbaaGreatDoor.Ck
namespace Go.Proofs.YtljnkaodhfnbbaaGreatDoor.Ck
open Go.RowKit
open Ro (E5 z5 eat ent K5 at5 eat_mem mayB mayP)
open Rw (Rd Ow At)
open Fl (ret_bool at_bool row_cell row_frozen file)
attribute [local irreducible] Sd.wpSd wpQuiet
def TabPost (w:World) (L:LL) (e:Ending) (w':World):Prop:=e = .returned (.tuple #[.int .i64 (tN L),.int .i64 (tE L)])∧Below w.heap.size w w'
set_option maxHeartbeats 2000000 in
theorem tables_any (w:World) (v:Value) (L:LL) (R:RdL w v L):Calls Tryz.prog 184 #[v] w (TabPost w L):=by
 have en:∀ args w,(callFunc 217 args).run Tryz.prog w = .ok (.enter 217 args) w:=enters_of Tryz.func217 (by kernel_rfl) rfl;have IA:=Lib.hid (index_any w v L 217 bad en R (fun W u l r=>isno_any W u l r));rw [show idx bad 0 L=bI L from rfl] at IA;have SA:=Lib.hid (fun (W:World) (hb:Below w.heap.size w W)=>senders_any W v L (R.below hb));have TF:=Lib.hid (fun h=>t_form (L:=L) h);have TC:=Lib.hid (fun h h2=>t_clash (L:=L) h h2);have TG:=Lib.hid (fun h h2 h3=>t_gap (L:=L) h h2 h3);have TO:=Lib.hid (fun h h2 h3=>t_ok (L:=L) h h2 h3);have IS:Hid (¬ 0≤bI L→InSlots L):=fun h k hk x hx=>may_slot (may_all h k hk) hx;have CS:=Lib.hid (fun h=>clash_same (L:=L) h);have GS:=Lib.hid (fun h=>gap_same (L:=L) h);have RL:=Lib.hid R;obtain ⟨a,cap,rfl,_⟩:=R.slice;clear R en;unfold TabPost
 by_cases h1:0≤bI L
 ·obtain ⟨e1,e2⟩:=TF.out h1
  rw [e1,e2];clear TF TC TG TO IS CS GS e1 e2;generalize bI L=r at *;generalize L.length=n at *
  go_enter Tryz.func184,Tryz.ntmps184
  go_wp2_with fail;refine IA.out.mono ?_;rintro e w1 ⟨rfl,b1⟩;go_wp2
  go_ret2
  exact ⟨rfl,b1⟩
 ·have is_:=IS.out h1
  have cs:=CS.out h1;have gs:=GS.out h1;have ec:∀ args w,(callFunc 252 args).run Tryz.prog w = .ok (.enter 252 args) w:=enters_of Tryz.func252 (by kernel_rfl) rfl;have eg:∀ args w,(callFunc 253 args).run Tryz.prog w = .ok (.enter 253 args) w:=enters_of Tryz.func253 (by kernel_rfl) rfl;have FC:Hid (∀ W B,Below w.heap.size w W→RowI W B (sF L)→∃ x,Calls Tryz.prog 219 #[.slice a L.length cap,.func (.func 252) #[] #[.pointer (some ⟨B,0,none⟩)]] W (WhoPost W (clN L) x)):=fun W B hb hr=>by
   have:=find_any W _ L 252 #[.pointer (some ⟨B,0,none⟩)] (qc (sF L)) ec (RL.out.below hb) (cclos_any W B (sF L) L is_ hr);rw [cs] at this;exact ⟨_,this⟩
  have FG:Hid (∀ W B,Below w.heap.size w W→RowI W B (sF L)→∃ x,Calls Tryz.prog 219 #[.slice a L.length cap,.func (.func 253) #[] #[.pointer (some ⟨B,0,none⟩)]] W (WhoPost W (gaN L) x)):=fun W B hb hr=>by
   have:=find_any W _ L 253 #[.pointer (some ⟨B,0,none⟩)] (qg (sF L)) eg (RL.out.below hb) (gclos_any W B (sF L) L is_ hr);rw [gs] at this;exact ⟨_,this⟩
  have TC':=Lib.hid (TC.out h1);have TG':=Lib.hid (TG.out h1);have TO':=Lib.hid (TO.out h1);clear is_ cs gs ec eg TF IS CS GS TC TG TO RL;generalize sF L=F at *;generalize bI L=r at *;generalize clN L=rc at *;generalize gaN L=rg at *;generalize tN L=rn at *;generalize tE L=re at *;generalize L.length=n at *
  go_enter Tryz.func184,Tryz.ntmps184
  go_wp2_with fail;refine IA.out.mono ?_;rintro e w1 ⟨rfl,b1⟩;have SB:=Lib.hid (SA.out w1 b1);have B1:=Lib.hid b1;clear b1 SA IA;go_wp2_with fail;refine SB.out.mono ?_;rintro e w2 ⟨rfl,b2⟩;have B2:=Lib.hid (B1.out.trans (b2.mono B1.out.size));clear b2 B1 SB
  go_upto_region 5 with (with_reducible refine store_ar_new rfl (.tmp 4) (.tmp 11) rfl F rfl rfl ?_)
  have R3:=Lib.hid (RowI.new w2 F);have B3:=Lib.hid (B2.out.alloc B2.out.size (.cells (ar F) 348));generalize w2.alloc (.cells (ar F) 348)=V at *;generalize w2.heap.size=g at *;clear B2
  go_wp2_with (with_reducible refine load_ar rfl (.tmp 4) rfl g F rfl R3.out ?_)
  refine (clash_any V F).mono ?_;rintro e w4 ⟨rfl,rfl⟩;have b4:=(Below.refl V.heap.size V).alloc (Nat.le_refl _) (.cells (ar F) 348);have R4:=Lib.hid (R3.out.below b4 R3.out.lt);have B4:=Lib.hid (B3.out.trans (b4.mono B3.out.size));obtain ⟨xc,fc⟩:=FC.out (V.alloc (.cells (ar F) 348)) V.heap.size B4.out (RowI.new V F);have CC:=Lib.hid fc;clear b4 R3 B3 fc FC;generalize V.heap.size=gv at *;generalize V.alloc (.cells (ar F) 348)=V4 at *;unfold WhoPost ent at CC;go_wp2_with fail;refine CC.out.mono ?_;rintro e w5 ⟨rfl,b5⟩;have R5:=Lib.hid (R4.out.below b5 R4.out.lt);have B5:=Lib.hid (B4.out.trans (b5.mono B4.out.size));clear b5 R4 B4 CC
  by_cases h2:0≤rc
  ·obtain ⟨rfl,rfl⟩:=TC'.out h2
   clear TC' TG' TO';go_wp2
   go_ret2
   exact ⟨rfl,B5.out⟩
  ·have TG2:=Lib.hid (TG'.out (by omega))
   have TO2:=Lib.hid (TO'.out (by omega));clear TC' TG' TO';go_upto_region 8 with fail
   go_wp2_with (with_reducible refine load_ar rfl (.tmp 4) rfl g F rfl R5.out ?_)
   refine (gap_any w5 F).mono ?_;rintro e w6 ⟨rfl,rfl⟩;have b6:=(Below.refl w5.heap.size w5).alloc (Nat.le_refl _) (.cells (ar F) 348);have B6:=Lib.hid (B5.out.trans (b6.mono B5.out.size));obtain ⟨xg,fg⟩:=FG.out (w5.alloc (.cells (ar F) 348)) w5.heap.size B6.out (RowI.new w5 F);have CC:=Lib.hid fg;clear b6 R5 B5 fg FG;generalize w5.heap.size=g5 at *;generalize w5.alloc (.cells (ar F) 348)=V6 at *;unfold WhoPost ent at CC;go_wp2_with fail;refine CC.out.mono ?_;rintro e w7 ⟨rfl,b7⟩;have B7:=Lib.hid (B6.out.trans (b7.mono B6.out.size));clear b7 B6 CC
   by_cases h3:0≤rg
   ·obtain ⟨rfl,rfl⟩:=TG2.out h3
    clear TG2 TO2;go_wp2
    go_ret2
    exact ⟨rfl,B7.out⟩
   ·obtain ⟨rfl,rfl⟩:=TO2.out (by omega)
    clear TG2 TO2;go_wp2
    go_ret2
    exact ⟨rfl,B7.out⟩
end Go.Proofs.YtljnkaodhfnbbaaGreatDoor.Ck
namespace Go.Proofs.YtljnkaodhfnbbaaGreatDoor.Ck
open Go.RowKit
open Ro (E5 z5 eat ent K5 at5 eat_mem eq_ent)
open Rw (Rd Ow At)
open Fl (ret_bool at_bool row_cell row_frozen)
theorem rd_cut {w:World} {v:Value} {l:List E5} {a:Option Addr} {n cap k:Nat} (R:Rd K5 w v l) (e:v = .slice a n cap) (hk:k≤l.length) (h0:0 < k):Rd K5 w (.slice a k cap) (l.take k):=by
 obtain ⟨a',cap',e',⟨h1,h2⟩,h3,h4⟩:=R;rw [e] at e';injection e' with e1 e2 e3;subst e1 e3;have hl:(l.take k).length=k:=by rw [List.length_take];omega
 refine ⟨a,cap,by rw [hl],⟨by rw [hl];omega,h2⟩,h3,fun _=>?_⟩;obtain ⟨b,off,rfl,hA⟩:=h4 (by omega);refine ⟨b,off,rfl,fun i hi j u hu=>?_⟩;rw [hl] at hi;refine hA i (by omega) j u ?_;rw [← hu,List.getD,List.getD,List.getElem?_take,if_pos hi]
theorem addr_zero (a:Addr):a.add 0=a:=by cases a;simp [Addr.add]
theorem infoS:(Tryz.prog.info? 85).map (fun i=>(i.zero,i.size,i.bytes))=some (some (.slice none 0 0),1,24):=by kernel_rfl
end Go.Proofs.YtljnkaodhfnbbaaGreatDoor.Ck
