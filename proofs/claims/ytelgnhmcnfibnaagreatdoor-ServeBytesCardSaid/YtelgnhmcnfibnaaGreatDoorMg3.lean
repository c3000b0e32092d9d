import Derived.Test.YtelgnhmcnfibnaaGreatDoorMg2
import Derived.Test.YtelgnhmcnfibnaaGreatDoorMg1
import Derived.LoopTactic
import Derived.Outline
import Derived.Maps.OwnOps
import Derived.Deep.Cut
import Derived.WalkSpells
set_option maxRecDepth 100000
namespace Go.Proofs.YtelgnhmcnfibnaaGreatDoor.Fs
open Go.RowKit Go.Maps
open Fl (R4 z4 K4 rec4 rat goodF goodFB okR okL doE newR file)
open Rw (Rd Ow At)
structure Ent where
 n:Int
 p:Int
 a:Option Addr
 cap:Nat
 l:List R4
def Ent.sl (c:Ent):Value:=.slice c.a c.l.length c.cap
def Ent.file (c:Ent):Value:=Fl.file c.p c.sl
def Ent.abs (c:Ent):Fil:=(c.n,c.p,c.l)
def E3:Rw.Kind Ent:=⟨fun c=>[.int .i64 c.n,.int .i64 c.p,c.sl],3,by decide,fun _=>rfl,fun _ u h=>by simp [Ent.sl] at h;rcases h with rfl | rfl | rfl <;> rfl,⟨0,0,none,0,[]⟩⟩
theorem abs_key (c:Ent):key c.abs=c.n:=rfl
structure Only (G:Nat→Prop) (w w':World):Prop where
 os:w'.os=w.os
 tape:w'.tape=w.tape
 output:w'.output=w.output
 size:w.heap.size≤w'.heap.size
 block:∀ k,k < w.heap.size→¬ G k→w'.heap[k]? = w.heap[k]?
def Fx (G:Nat→Prop) (w w':World) (k:Nat):Prop:=G k∨(w.heap.size≤k∧k < w'.heap.size)
section
variable {G:Nat→Prop} {w w' w'':World}
theorem Only.refl (G:Nat→Prop) (w:World):Only G w w:=⟨rfl,rfl,rfl,Nat.le_refl _,fun _ _ _=>rfl⟩
theorem Only.of_below (h:Below w.heap.size w w'):Only G w w':=⟨h.os,h.tape,h.output,h.size,fun k hk _=>h.block k hk⟩
theorem Only.mono {G':Nat→Prop} (h:Only G w w') (hg:∀ k,k < w.heap.size→G k→G' k):Only G' w w':=⟨h.os,h.tape,h.output,h.size,fun k hk hn=>h.block k hk fun g=>hn (hg k hk g)⟩
theorem Only.trans {G':Nat→Prop} (h:Only G w w') (k:Only G' w' w'') (hg:∀ k,k < w.heap.size→G' k→G k):Only G w w'' :=
 ⟨k.os.trans h.os,k.tape.trans h.tape,k.output.trans h.output,Nat.le_trans h.size k.size,fun i hi hn=>(k.block i (Nat.lt_of_lt_of_le hi h.size) fun g=>hn (hg i hi g)).trans (h.block i hi hn)⟩
theorem Only.then (h:Only G w w') (b:Below w'.heap.size w' w''):Only G w w'':=h.trans (Only.of_below (G:=fun _=>False) b) fun _ _ g=>g.elim
theorem Only.set (G:Nat→Prop) (w:World) {a:Addr} (ha:G a.block) (u:Value):Only G w (w.setCell a u) :=
 ⟨rfl,rfl,rfl,by simp [World.setCell],fun k _ hn=>Below.heap_setCell w a u k fun e=>hn (e ▸ ha)⟩
theorem Only.grown {b:Nat} (hb:G b) (h:w.grownBy w' (some b)):Only G w w':=⟨h.os,h.tape,h.output,h.size,fun k hk hn=>h.block k hk fun e=>hn (by injection e with e;exact e ▸ hb)⟩
theorem Only.below {B:Nat} (h:Only G w w') (hB:B≤w.heap.size) (hG:∀ k,G k→B≤k):Below B w w' :=
 ⟨h.os,h.tape,h.output,h.size,fun k hk=>h.block k (by omega) fun g=>by have:=hG k g;omega⟩
theorem Only.cell (h:Only G w w') {a:Addr} {v:Value} (hc:w.cell? a=some v) (hn:¬ G a.block):w'.cell? a=some v :=
 (World.cell?_of_block (h.block a.block (World.block_lt_of_cell? _ _ hc) hn)).trans hc
theorem Fx.of {k:Nat} (h:G k):Fx G w w' k:=.inl h
theorem Fx.not {k:Nat} (h:¬ G k) (hk:k < w.heap.size):¬ Fx G w w' k:=by rintro (g | ⟨g,_⟩);exact h g;omega
theorem Fx.low (h:∀ k,G k→k < w.heap.size) (hs:w.heap.size≤w'.heap.size):∀ k,Fx G w w' k→k < w'.heap.size:=by
 rintro k (g | ⟨_,g⟩)
 ·have:=h k g;omega
 ·exact g
end
section
variable {α:Type} {K:Rw.Kind α} {G:Nat→Prop} {w w':World} {v:Value} {l:List α}
theorem rd_only (h:Rd K w v l) (hn:0 < l.length→∀ k,v.ownBlock=some k→¬ G k) (ho:Only G w w'):Rd K w' v l:=by
 obtain ⟨a,cap,rfl,h1,h2,h3⟩:=h;refine ⟨a,cap,rfl,h1,h2,fun h0=>?_⟩;obtain ⟨b,off,rfl,hA⟩:=h3 h0;exact ⟨b,off,rfl,fun i hi j u hu=>ho.cell (hA i hi j u hu) (hn h0 b rfl)⟩
theorem rd_low (h:Rd K w v l) (h0:0 < l.length):∀ k,v.ownBlock=some k→k < w.heap.size:=by
 obtain ⟨a,cap,rfl,h1,h2,h3⟩:=h;obtain ⟨b,off,rfl,hA⟩:=h3 h0
 intro k hk
 obtain rfl:b=k:=by simpa [Value.ownBlock] using hk
 obtain ⟨j,hj⟩:∃ u,(K.enc (l.getD 0 K.dft))[0]? = some u:=⟨_,List.getElem?_eq_getElem (by rw [K.len];exact K.pos)⟩;exact World.block_lt_of_cell? _ _ (hA 0 h0 0 _ hj)
theorem rd_fx (h:Rd K w v l) (hn:0 < l.length→∀ k,v.ownBlock=some k→¬ G k):0 < l.length→∀ k,v.ownBlock=some k→¬ Fx G w w' k :=
 fun h0 k hk=>Fx.not (hn h0 k hk) (rd_low h h0 k hk)
theorem ow_only {B E:Nat} (h:Ow K w B E v l) (hn:∀ k,v.ownBlock=some k→¬ G k) (ho:Only G w w'):Ow K w' B E v l:=by
 obtain ⟨h1,h2⟩:=h;refine ⟨h1,?_⟩
 rcases h2 with h2 | ⟨g,cap,cur,rfl,hB,hh,r⟩
 ·exact .inl h2
 ·exact .inr ⟨g,cap,cur,rfl,hB,(ho.block g (lt_of_block hh) (hn g rfl)).trans hh,r⟩
theorem ow_new {B E:Nat} (h:Ow K w B E v l):∀ k,v.ownBlock=some k→B≤k∧k < w.heap.size:=fun k hk=>World.ownsRow.lt h k hk
end
def Rh (v:Value):Option (DataW Value×List MemPlace):=some (.held v,[])
def ent (c:Ent):Lit×DataW Value:=(.int .i64 c.n,.held c.file)
def dat (C:List Ent):DataW Value:=.map (C.map ent)
theorem law:Keyed Tryz.prog 3:=int_keyed Tryz.underlying3
theorem zeroF (w:World):(zeroValue 71).run Tryz.prog w = .ok (file 0 (.slice none 0 0)) w:=by kernel_rfl
def Wf (n:Int):Prop:=(Lit.int .i64 n).wf=true
theorem keyI {n:Int} (h:Wf n):keyOf Tryz.prog 3 (.int .i64 n)=some (.int .i64 n):=keyOf_int_mk Tryz.underlying3 h
theorem insert_ent (c:Ent):∀ l:List Ent,DataW.insert (ent c) (l.map ent)=(ins Ent.n c l).map ent
 | []=>rfl
 | y :: r=>by
   simp only [List.map_cons,DataW.insert,ins,ent,Lit.before,decide_eq_true_eq]
   split
   ·rfl
   ·have:=insert_ent c r
    simp only [ent] at this;rw [this]
    rfl
theorem filter_ent (c:Ent) (l:List Ent):(l.map ent).filter (fun p=>!p.1.sameKey (ent c).1)=(l.filter fun y=>decide (¬ y.n=c.n)).map ent:=by
 rw [List.filter_map]
 congr 1
 exact congrArg (fun q=>List.filter q l) (funext fun x=>by simp [ent,Lit.sameKey])
theorem dat_put (c:Ent) (l:List Ent):(dat l).put (.int .i64 c.n) (.held c.file)=dat (put Ent.n c l):=by
 unfold dat DataW.put put;simp only;rw [← insert_ent,← filter_ent]
 rfl
theorem find_ent (n:Int):∀ l:List Ent,(l.map ent).find? (fun p=>p.1.sameKey (.int .i64 n))=(look Ent.n n l).map ent:=fun l=>by
 unfold look;rw [List.find?_map]
 congr 1
 exact congrArg (fun q=>List.find? q l) (funext fun x=>by simp [ent,Lit.sameKey])
def lv (C:List Ent) (n:Int):Value:=match look Ent.n n C with | none=>file 0 (.slice none 0 0) | some c=>c.file
def lb (C:List Ent) (n:Int):Bool:=(look Ent.n n C).isSome
theorem dat_at (n:Int) (l:List Ent):(dat l).atKey (.int .i64 n) (.held (file 0 (.slice none 0 0))) = .held (lv l n):=by
 unfold dat DataW.atKey lv;simp only [find_ent]
 cases look Ent.n n l <;> rfl
theorem dat_has (n:Int) (l:List Ent):Maps.has (dat l) (.int .i64 n)=lb l n:=by
 have e:∀ q:Lit×DataW Value→Bool,(l.map ent).any q=((l.map ent).find? q).isSome:=fun q=>by
  rw [Bool.eq_iff_iff,List.any_eq_true,List.find?_isSome]
 show (l.map ent).any (fun p=>p.1.sameKey (.int .i64 n))=_
 rw [e,find_ent,Option.isSome_map]
 rfl
theorem tight {w:World} {b n:Nat} {C:List Ent} (h:w.ownsMap Tryz.prog 3 Rh b n (dat C)):w.ownsMap Tryz.prog 3 Rh b C.length (dat C):=by
 obtain ⟨es,clock,hb,F,hs,hD⟩:=h;refine ⟨es,clock,hb,F,?_,hD⟩;have e:C.map ent=(es.toList.map (Go.WideElems.rg Tryz.prog 3 Rh)).foldr DataW.insert []:=by unfold dat at hD;injection hD
 have:=congrArg List.length e;rw [length_read,List.length_map] at this
 omega
def Mp (w:World) (F:Nat→Prop) (m:Value) (C:List Ent):Prop:=(m = .map none∧C = [])∨∃ b,m = .map (some b)∧F b∧w.ownsMap Tryz.prog 3 Rh b C.length (dat C)
theorem run_look {w:World} {F:Nat→Prop} {m:Value} {C:List Ent} (M:Mp w F m C) {n:Int} (hn:Wf n) (c:Bool) :
 (Instr.lookup 91 m (.int .i64 n) c).run Tryz.prog w = .ok (if c then .tuple #[lv C n,.bool (lb C n)] else lv C n) w:=by
 rcases M with ⟨rfl,rfl⟩ | ⟨b,rfl,_,h⟩
 ·exact Maps.look_nil c law Tryz.underlying91 (zeroF w) (keyI hn)
 ·cases c with
  | false =>
    obtain ⟨v,ps,hr,hv⟩:=h.lookup law Tryz.underlying91 (zeroF w) (zd:=.held (file 0 (.slice none 0 0))) (zp:=[]) rfl (keyI hn);rw [dat_at] at hv;have:v=lv C n:=by simp [Rh] at hv;exact hv.1
    rw [hr,this]
    rfl
  | true =>
    obtain ⟨v,ps,hr,hv⟩:=h.look_ok law Tryz.underlying91 (zeroF w) (zd:=.held (file 0 (.slice none 0 0))) (zp:=[]) rfl (keyI hn);rw [dat_at] at hv;have:v=lv C n:=by simp [Rh] at hv;exact hv.1
    rw [hr,this,dat_has]
    rfl
theorem run_put {w:World} {F:Nat→Prop} {b:Nat} {C:List Ent} (M:Mp w F (.map (some b)) C) (c:Ent) (hn:Wf c.n) (hl:C.length < maxLen) :
 ∃ w',(Instr.mapUpdate 91 (.map (some b)) (.int .i64 c.n) c.file).run Tryz.prog w = .ok () w'∧Mp w' F (.map (some b)) (put Ent.n c C)∧w.grownBy w' (some b):=by
 rcases M with ⟨h,_⟩ | ⟨b',e,hF,h⟩
 ·cases h
 ·obtain rfl:b=b':=by injection e with e;injection e
  obtain ⟨w',hr,h',hg⟩:=h.update law Tryz.underlying91 hl (keyI hn) (d:=.held c.file) (ps:=[]) rfl;rw [dat_put] at h';exact ⟨w',hr,.inr ⟨b,rfl,hF,tight h'⟩,hg⟩
section
variable {ops:Array Oper} {rest:List Oper} {o:Oper} {a:Act} {Q:Exit→Act→World→Prop} {K:Act→World→Prop} {w:World} {F:Nat→Prop}
theorem at_look {m:Value} {C:List Ent} (hgd:Region.wanted o (yielded ops a.tmps)=true) (p x:Operand) (c:Bool) (hop:o.op = .lookup 91 p x c) (hm:a.eval p=m) (M:Mp w F m C) (n:Int) (hx:a.eval x = .int .i64 n) (hn:Wf n)
 (h:wpList Tryz.prog ops Q rest (a.put o.dst (if c then .tuple #[lv C n,.bool (lb C n)] else lv C n)) w):wpList Tryz.prog ops Q (o :: rest) a w:=by
 refine BigFrame.wpList_want hgd fun K' hK=>?_;have hr:=run_look M hn c;unfold Oper.wp
 simp [execOp,hop,hm,hx,hr,Result.andThen]
 exact hK _ _ (by simpa using h)
theorem wp_put {b:Nat} {C:List Ent} (p x v:Operand) (hop:o.op = .mapUpdate 91 p x v) (hm:a.eval p = .map (some b)) (M:Mp w F (.map (some b)) C) (c:Ent) (hx:a.eval x = .int .i64 c.n) (hv:a.eval v=c.file) (hn:Wf c.n) (hl:C.length < maxLen)
 (h:∀ w',Mp w' F (.map (some b)) (put Ent.n c C)→w.grownBy w' (some b)→K (a.put o.dst undef) w'):o.wp Tryz.prog a w K Q:=by
 obtain ⟨w',hr,h1,h2⟩:=run_put M c hn hl;unfold Oper.wp
 simp [execOp,hop,hm,hx,hv,hr,Result.andThen]
 exact h w' h1 h2
end
section
variable {w w':World} {F G:Nat→Prop} {m:Value} {C:List Ent}
theorem Mp.only (h:Mp w F m C) (hn:∀ k,F k→¬ G k) (ho:Only G w w'):Mp w' F m C:=by
 rcases h with h | ⟨b,rfl,hF,h⟩
 ·exact .inl h
 ·have hlt:=h.lt
  obtain ⟨es,clock,hb,Ft,hs,hD⟩:=h;exact .inr ⟨b,rfl,hF,es,clock,(ho.block b hlt (hn b hF)).trans hb,Ft,hs,hD⟩
theorem Mp.wide (h:Mp w F m C) (hF:∀ k,F k→G k):Mp w G m C:=by
 rcases h with h | ⟨b,rfl,hb,h⟩
 ·exact .inl h
 ·exact .inr ⟨b,rfl,hF b hb,h⟩
theorem Mp.kept (h:Mp w F m C) (hb:∀ b,m = .map (some b)→w'.heap[b]? = w.heap[b]?):Mp w' F m C:=by
 rcases h with h | ⟨b,rfl,hF,h⟩
 ·exact .inl h
 ·obtain ⟨es,clock,h1,Ft,hs,hD⟩:=h
  exact .inr ⟨b,rfl,hF,es,clock,(hb b rfl).trans h1,Ft,hs,hD⟩
theorem Mp.isMap {b:Nat} (h:Mp w F (.map (some b)) C):F b∧∃ es clock,w.heap[b]? = some (.map es clock):=by
 rcases h with ⟨h,_⟩ | ⟨b',e,hF,h⟩
 ·cases h
 ·obtain rfl:b=b':=by injection e with e;injection e
  obtain ⟨es,clock,hb,_⟩:=h;exact ⟨hF,es,clock,hb⟩
end
def apart (c c':Ent):Prop:=∀ k,c.sl.ownBlock=some k→c'.sl.ownBlock≠some k
structure Sto (w:World) (s:Nat) (F:Nat→Prop) (m:Value) (C:List Ent) (d:Int):Prop where
 row:w.heap[s]? = some (.cells #[m,.int .i64 d] 93 (0,0))
 foot:F s
 mp:Mp w F m C
 own:∀ c∈C,Ow K4 w 0 26 c.sl c.l
 mine:∀ c∈C,∀ k,c.sl.ownBlock=some k→F k
 apart:C.Pairwise apart
 ok:OkA (C.map Ent.abs)
 low:∀ k,F k→k < w.heap.size
def St (w:World) (s:Nat) (F:Nat→Prop) (A:Abs) (d:Int):Prop:=∃ m C,Sto w s F m C d∧C.map Ent.abs=A
section
variable {w w':World} {s:Nat} {F G:Nat→Prop} {m:Value} {C:List Ent} {A:Abs} {d:Int}
theorem Sto.only (h:Sto w s F m C d) (hn:∀ k,F k→¬ G k) (ho:Only G w w'):Sto w' s F m C d :=
 ⟨(ho.block s (lt_of_block h.row) (hn s h.foot)).trans h.row,h.foot,h.mp.only hn ho,fun c hc=>ow_only (h.own c hc) (fun k hk=>hn k (h.mine c hc k hk)) ho,h.mine,h.apart,h.ok,fun k hk=>Nat.lt_of_lt_of_le (h.low k hk) ho.size⟩
theorem Sto.wide (h:Sto w s F m C d) (hF:∀ k,F k→G k) (hl:∀ k,G k→k < w.heap.size):Sto w s G m C d :=
 ⟨h.row,hF s h.foot,h.mp.wide hF,h.own,fun c hc k hk=>hF k (h.mine c hc k hk),h.apart,h.ok,hl⟩
theorem Sto.below (h:Sto w s F m C d) (hb:Below w.heap.size w w'):Sto w' s F m C d:=h.only (G:=fun _=>False) (fun _ _ g=>g) (Only.of_below hb)
theorem St.only (h:St w s F A d) (hn:∀ k,F k→¬ G k) (ho:Only G w w'):St w' s F A d:=by
 obtain ⟨m,C,h,e⟩:=h;exact ⟨m,C,h.only hn ho,e⟩
theorem St.wide (h:St w s F A d) (hF:∀ k,F k→G k) (hl:∀ k,G k→k < w.heap.size):St w s G A d:=by
 obtain ⟨m,C,h,e⟩:=h;exact ⟨m,C,h.wide hF hl,e⟩
theorem St.below (h:St w s F A d) (hb:Below w.heap.size w w'):St w' s F A d:=by
 obtain ⟨m,C,h,e⟩:=h;exact ⟨m,C,h.below hb,e⟩
theorem St.fx (h:St w s F A d) (hb:Below w.heap.size w w'):St w' s (Fx F w w') A d:=by
 have hl:∀ k,F k→k < w.heap.size:=by obtain ⟨m,C,h,_⟩:=h;exact h.low
 exact (h.below hb).wide (fun k hk=>.inl hk) (Fx.low hl hb.size)
theorem St.low (h:St w s F A d):∀ k,F k→k < w.heap.size:=by obtain ⟨m,C,h,_⟩:=h;exact h.low
theorem St.foot (h:St w s F A d):F s:=by obtain ⟨m,C,h,_⟩:=h;exact h.foot
theorem St.okA (h:St w s F A d):OkA A:=by obtain ⟨m,C,h,e⟩:=h;rw [← e];exact h.ok
theorem Sto.len (h:Sto w s F m C d):C.length≤64:=by have:=h.ok.len;rwa [List.length_map] at this
theorem abs_look (n:Int) (C:List Ent):look key n (C.map Ent.abs)=(look Ent.n n C).map Ent.abs:=map_look (κ:=Ent.n) (κ':=key) abs_key n C
theorem abs_put (c:Ent) (C:List Ent):(put Ent.n c C).map Ent.abs=put key c.abs (C.map Ent.abs):=map_put (κ:=Ent.n) (κ':=key) abs_key c C
theorem Sto.find (h:Sto w s F m C d) {n:Int} {c:Ent} (hc:look Ent.n n C=some c):Ow K4 w 0 26 c.sl c.l∧goodF c.p c.l∧okL c.l∧c.n=n∧(0≤n∧n≤63)∧c∈C:=by
 obtain ⟨hm,hk⟩:=look_some hc;have hma:c.abs∈C.map Ent.abs:=List.mem_map_of_mem hm;have:=h.ok.nm _ hma;exact ⟨h.own c hm,h.ok.good _ hma,h.ok.ok _ hma,hk,hk ▸ this,hm⟩
theorem Sto.off (h:Sto w s F m C d) {c:Ent} (hc:c∈C):c.sl.ownBlock≠some s∧∀ b,m = .map (some b)→c.sl.ownBlock≠some b:=by
 refine ⟨(h.own c hc).apart h.row (by decide),fun b hb e=>?_⟩;subst hb;obtain ⟨_,es,clock,hm⟩:=h.mp.isMap;obtain ⟨_,h2⟩:=h.own c hc
 rcases h2 with ⟨e2,_⟩ | ⟨g,cap,cur,e2,_,hh,_⟩
 ·rw [e2] at e;cases e
 ·rw [e2] at e
  obtain rfl:g=b:=by simpa [Value.ownBlock] using e
  rw [hh] at hm
  cases hm
theorem Sto.map_ne {b:Nat} (h:Sto w s F (.map (some b)) C d):b≠s:=fun e=>by
 subst e;obtain ⟨_,es,clock,hm⟩:=h.mp.isMap;rw [h.row] at hm
 cases hm
end
structure Lst (F:Nat→Prop) (w:World) (v:Value) (L:List Ent):Prop where
 rd:Rd E3 w v L
 off:0 < L.length→∀ k,v.ownBlock=some k→¬ F k
 file:∀ c∈L,Rd K4 w c.sl c.l
 foff:∀ c∈L,0 < c.l.length→∀ k,c.sl.ownBlock=some k→¬ F k
def Ls (F:Nat→Prop) (w:World) (v:Value) (A:Abs):Prop:=∃ L,Lst F w v L∧L.map Ent.abs=A
section
variable {w w':World} {F G:Nat→Prop} {v:Value} {L:List Ent} {A:Abs}
theorem Lst.only (h:Lst F w v L) (ho:Only F w w'):Lst (Fx F w w') w' v L :=
 ⟨rd_only h.rd h.off ho,rd_fx h.rd h.off,fun c hc=>rd_only (h.file c hc) (h.foff c hc) ho,fun c hc=>rd_fx (h.file c hc) (h.foff c hc)⟩
theorem Lst.mono (h:Lst F w v L) (hg:∀ k,k < w.heap.size→G k→F k):Lst G w v L :=
 ⟨h.rd,fun h0 k hk g=>h.off h0 k hk (hg k (rd_low h.rd h0 k hk) g),h.file,fun c hc h0 k hk g=>h.foff c hc h0 k hk (hg k (rd_low (h.file c hc) h0 k hk) g)⟩
theorem Lst.below (h:Lst F w v L) (hb:Below w.heap.size w w'):Lst F w' v L :=
 ⟨h.rd.below hb,h.off,fun c hc=>(h.file c hc).below hb,h.foff⟩
theorem Ls.only (h:Ls F w v A) (ho:Only F w w'):Ls (Fx F w w') w' v A:=by obtain ⟨L,h,e⟩:=h;exact ⟨L,h.only ho,e⟩
theorem Ls.mono (h:Ls F w v A) (hg:∀ k,k < w.heap.size→G k→F k):Ls G w v A:=by obtain ⟨L,h,e⟩:=h;exact ⟨L,h.mono hg,e⟩
theorem Ls.below (h:Ls F w v A) (hb:Below w.heap.size w w'):Ls F w' v A:=by obtain ⟨L,h,e⟩:=h;exact ⟨L,h.below hb,e⟩
end
structure Rst (w:World) (r:Nat) (F:Nat→Prop) (v:Value) (L:List Ent) (d:Int):Prop where
 row:w.heap[r]? = some (.cells #[v,.int .i64 d] 49 (0,0))
 off:¬ F r
 list:Lst (fun k=>F k∨k=r) w v L
 ok:OkA (L.map Ent.abs)
def Rs (w:World) (r:Nat) (F:Nat→Prop) (A:Abs) (d:Int):Prop:=∃ v L,Rst w r F v L d∧L.map Ent.abs=A
section
variable {w w':World} {r:Nat} {F G:Nat→Prop} {v:Value} {L:List Ent} {A:Abs} {d:Int}
theorem Rst.only (h:Rst w r F v L d) (ho:Only F w w'):Rst w' r (Fx F w w') v L d :=
 ⟨(ho.block r (lt_of_block h.row) h.off).trans h.row,Fx.not h.off (lt_of_block h.row),
   (h.list.only (ho.mono fun _ _ g=>.inl g)).mono fun k _ g=>by
     rcases g with (g | g) | g
     ·exact .inl (.inl g)
     ·exact .inr g
     ·exact .inl (.inr g),h.ok⟩
theorem Rst.below (h:Rst w r F v L d) (hb:Below w.heap.size w w'):Rst w' r F v L d:=⟨(hb.block r (lt_of_block h.row)).trans h.row,h.off,h.list.below hb,h.ok⟩
theorem Rs.only (h:Rs w r F A d) (ho:Only F w w'):Rs w' r (Fx F w w') A d:=by obtain ⟨v,L,h,e⟩:=h;exact ⟨v,L,h.only ho,e⟩
theorem Rs.below (h:Rs w r F A d) (hb:Below w.heap.size w w'):Rs w' r F A d:=by obtain ⟨v,L,h,e⟩:=h;exact ⟨v,L,h.below hb,e⟩
theorem Rst.len (h:Rst w r F v L d):L.length≤64:=by have:=h.ok.len;rwa [List.length_map] at this
end
end Go.Proofs.YtelgnhmcnfibnaaGreatDoor.Fs
namespace Go.Proofs.YtelgnhmcnfibnaaGreatDoor.Fs
open Go.RowKit Go.Maps
open Fl (R4 z4 K4 rec4 rat goodF goodFB okR okL doE newR file arr4 sto2 sto4 sto2_row sto2_other sto2_below sto2_size sto2_off sto4_row sto4_other sto4_below sto4_size row_cell row_frozen clone_any own_form ret_bool at4)
open Rw (Rd Ow At)
theorem results_rec {fn:Func} {p r:Tmp} (h:fn.results=#[.cell p 26,.tmp r]) (tmps:Array Value) (w:World) (g:Nat) (y:R4) (v:Value)
 (hp:tmps.getD p undef = .pointer (some ⟨g,0,none⟩)) (hr:tmps.getD r undef=v) (h1:w.heap[g]? = some (.cells (arr4 y) 26 (0,0))) :
 (results fn tmps).run Tryz.prog w = .ok (.tuple #[rec4 y,v]) w:=by
 have e2:=run_loadVar_row (P:=Tryz.prog) w g 26 26 (arr4 y) (0,0) _ h1 Tryz.underlying26 rfl (by show _=some 4;kernel_rfl);have hp':tmps[p]?.getD undef = .pointer (some ⟨g,0,none⟩):=by simpa using hp
 have hr':tmps[r]?.getD undef=v:=by simpa using hr
 simp only [results,h]
 simp [Result.andThen,hp',hr',asAddr,e2,rec4,arr4]
section
variable {ops:Array Oper} {rest:List Oper} {o:Oper} {a:Act} {Q:Exit→Act→World→Prop} {w:World} {F:Nat→Prop} {m:Value} {C:List Ent}
theorem at_look0 (hgd:Region.wanted o (yielded ops a.tmps)=true) (p x:Operand) (hop:o.op = .lookup 91 p x false) (M:Mp w F m C) (hm:a.eval p=m) (n:Int) (hx:a.eval x = .int .i64 n) (hn:Wf n) (v:Value) (hv:lv C n=v)
 (h:wpList Tryz.prog ops Q rest (a.put o.dst v) w):wpList Tryz.prog ops Q (o :: rest) a w:=at_look hgd p x false hop hm M n hx hn (by rw [hv];exact h)
theorem at_look1 (hgd:Region.wanted o (yielded ops a.tmps)=true) (p x:Operand) (hop:o.op = .lookup 91 p x true) (M:Mp w F m C) (hm:a.eval p=m) (n:Int) (hx:a.eval x = .int .i64 n) (hn:Wf n) (v:Value) (hv:lv C n=v) (b:Bool) (hb:lb C n=b)
 (h:wpList Tryz.prog ops Q rest (a.put o.dst (.tuple #[v,.bool b])) w):wpList Tryz.prog ops Q (o :: rest) a w:=at_look hgd p x true hop hm M n hx hn (by rw [hv,hb];exact h)
end
theorem lv_none {C:List Ent} {n:Int} (h:look Ent.n n C=none):lv C n = .agg #[.int .i64 0,.slice none 0 0]:=by unfold lv;rw [h];rfl
theorem lv_some {C:List Ent} {n:Int} {c:Ent} (h:look Ent.n n C=some c):lv C n = .agg #[.int .i64 c.p,.slice c.a c.l.length c.cap]:=by unfold lv;rw [h];rfl
theorem lb_none {C:List Ent} {n:Int} (h:look Ent.n n C=none):lb C n=false:=by unfold lb;rw [h];rfl
theorem lb_some {C:List Ent} {n:Int} {c:Ent} (h:look Ent.n n C=some c):lb C n=true:=by unfold lb;rw [h];rfl
theorem run_fieldF (p:Int) (a:Option Addr) (n cap:Nat) (w:World):(Instr.field 71 (.agg #[.int .i64 p,.slice a n cap]) 1).run Tryz.prog w = .ok (.slice a n cap) w:=by kernel_rfl
def CopyPost (w:World) (p:Int) (l:List R4) (e:Ending) (w':World):Prop:=∃ u,e = .returned (file p u)∧Ow K4 w' w.heap.size 26 u l∧Below w.heap.size w w'
theorem two_files (w:World) (p:Int) (v:Value) (q:Int) (u:Value):((w.alloc (.cells #[.int .i64 p,v] 71)).alloc (.cells #[.int .i64 q,u] 71)).heap[w.heap.size]? = some (.cells #[.int .i64 p,v] 71 (0,0))∧((w.alloc (.cells #[.int .i64 p,v] 71)).alloc (.cells #[.int .i64 q,u] 71)).heap[w.heap.size+1]? = some (.cells #[.int .i64 q,u] 71 (0,0))∧Below w.heap.size w ((w.alloc (.cells #[.int .i64 p,v] 71)).alloc (.cells #[.int .i64 q,u] 71))∧((w.alloc (.cells #[.int .i64 p,v] 71)).alloc (.cells #[.int .i64 q,u] 71)).heap.size=w.heap.size+2:=by
 refine ⟨(Below.heap_alloc _ _ _ (by simp)).trans (heap_alloc_new w _),?_,((Below.refl w.heap.size w).alloc (Nat.le_refl _) _).alloc (by simp) _,by simp⟩;have:=heap_alloc_new (w.alloc (.cells #[.int .i64 p,v] 71)) (.cells #[.int .i64 q,u] 71)
 simpa using this
def Bx (g:Nat) (p:Int) (v:Value) (W:World):Prop:=W.heap[g]? = some (.cells #[.int .i64 p,v] 71 (0,0))
set_option maxHeartbeats 1000000 in
theorem copied_any (w:World) (p:Int) (v:Value) (l:List R4) (R:Rd K4 w v l) (hl:l.length≤260):Calls Tryz.prog 36 #[file p v] w (CopyPost w p l):=by
 obtain ⟨h1,h2,hB,hz⟩:=two_files w p v 0 (.slice none 0 0);have H1:=Lib.hid h1;have H2:=Lib.hid h2;have HB:=Lib.hid hB;have HZ:=Lib.hid hz;have RR:=Lib.hid R;have HL:=Lib.hid hl;obtain ⟨a,cap,rfl,_⟩:=R.slice;clear h1 h2 hB hz R hl;generalize hn:l.length=n at *;have HN:=Lib.hid hn;clear hn;unfold file at *
 go_enter Tryz.func36,Tryz.ntmps36
 go_wp2_with fail;generalize ((w.alloc (.cells #[.int .i64 p,.slice a n cap] 71)).alloc (.cells #[.int .i64 0,.slice none 0 0] 71))=W at *;have r0:=Sc.cell_in (C:=Bx w.heap.size p (.slice a n cap)) (a:=⟨w.heap.size,0,none⟩) (fun W' h=>row_cell h 0);have r1:=Sc.cell_in (C:=Bx w.heap.size p (.slice a n cap)) (a:=⟨w.heap.size,1,none⟩) (fun W' h=>row_cell h 1);have C0:Bx w.heap.size p (.slice a n cap) W.drew:=H1.out;have ne:Nonempty (Sc.In (Bx w.heap.size p (.slice a n cap))):=⟨⟨_,C0⟩⟩;refine Sc.start (Bx w.heap.size p (.slice a n cap)) [(false,0),(false,1),(false,2),(false,3),(true,4),(false,5),(true,6)] (by kernel_rfl) (by kernel_rfl) (by kernel_rfl) C0 ?_;dsimp only [Sd.picks,List.getElem?_cons_succ,List.getElem?_cons_zero]
 repeat (refine Sd.lit ?_;quiet_step (fail);refine wpQuiet_nil ?_)
 refine Sd.call (by rfl) (fun K hK=>?_);go_simp;have B0:=Lib.hid (HB.out.trans (((Below.refl W.heap.size W).drew).mono HB.out.size));refine (clone_any _ _ l (RR.out.below B0.out) (by rw [HN.out];exact HL.out)).mono ?_;rintro e w2 ⟨u,rfl,o2,b2⟩;have hzz:=HZ.out;have O2:=Lib.hid o2;have B2:=Lib.hid (B0.out.trans (b2.mono (by show w.heap.size≤W.heap.size;omega)));have G1:w2.heap[w.heap.size]? = _:=(b2.block _ (by show w.heap.size < W.heap.size;omega)).trans C0;have G2:=(b2.block (w.heap.size+1) (by show w.heap.size+1 < W.heap.size;omega)).trans H2.out;have N2:u.ownBlock≠some (w.heap.size+1):=o2.range (.inl (by show _ < W.heap.size;omega));have hWz:w.heap.size+2≤W.drew.heap.size:=by show _≤W.heap.size;omega
 obtain ⟨au,cu,rfl,_⟩:=o2.slice;refine hK _ _ (Sc.Cl.of G1) ?_;clear hK K b2 o2 B0 C0 HB H1 H2 r0 r1 RR
 repeat (refine Sd.lit ?_;quiet_step (fail);refine wpQuiet_nil ?_)
 refine Sd.call (by rfl) (fun K hK=>?_);have c0:w2.cell? ⟨w.heap.size+1,0,none⟩=some (.int .i64 0):=row_cell G2 0;have c1:w2.cell? ⟨w.heap.size+1,1,none⟩=some (.slice none 0 0):=row_cell G2 1;have f0:=row_frozen G2 0;have f1:=row_frozen G2 1;have RA:=Lib.hid (sto2_row G2 p (.slice au l.length cu));have OA:=Lib.hid (sto2_off (u:=.slice au l.length cu) O2.out N2 p);have BA:=Lib.hid (sto2_below (p:=p) (v:=.slice au l.length cu) B2.out (show w.heap.size≤w.heap.size+1 by omega));have L1:Bx w.heap.size p (.slice a n cap) (sto2 w2 (w.heap.size+1) p (.slice au l.length cu)):=sto2_other G1 (by omega);have hWy:=Lib.hid hWz;clear G1 G2 O2 B2 N2 hWz hzz HZ;go_simp;refine hK _ _ (Sc.Cl.of L1) ?_;clear hK K c0 c1 f0 f1
 show Sd.wpSd _ _ _ _ _ _ (sto2 w2 (w.heap.size+1) p (.slice au l.length cu))
 generalize sto2 w2 (w.heap.size+1) p (.slice au l.length cu)=w3 at *;refine Sd.done ?_;go_wp2
 (try simp only [Exit.inBlock,Exit.then])
 refine bodyPost_ret (v:=file p (.slice au l.length cu)) ?_ rfl ⟨_,rfl,OA.out.low (by have:=hWy.out;omega),BA.out⟩;exact results_cell_row (p:=2) rfl _ _ (w.heap.size+1) 71 _ (0,0) _ rfl RA.out Tryz.underlying71 rfl (by show _=some 2;kernel_rfl)
theorem new_any (w:World):Calls Tryz.prog 25 #[] w fun e w'=>e = .returned (.pointer (some ⟨w.heap.size,0,none⟩))∧w'=w.alloc (.cells #[.map none,.int .i64 0] 93):=by
 go_enter Tryz.func25,Tryz.ntmps25
 go_wp2
 go_ret
 exact ⟨rfl,rfl⟩
theorem denied_any {w:World} {s:Nat} {F:Nat→Prop} {m:Value} {C:List Ent} {d:Int} (S:Sto w s F m C d) :
 Calls Tryz.prog 17 #[.pointer (some ⟨s,0,none⟩)] w fun e w'=>e = .returned (.int .i64 d)∧Below w.heap.size w w':=by
 have c1:w.cell? ⟨s,1,none⟩=some (.int .i64 d):=row_cell S.row 1;clear S
 go_enter Tryz.func17,Tryz.ntmps17
 go_wp2
 go_ret
 exact ⟨rfl,Below.refl _ _⟩
end Go.Proofs.YtelgnhmcnfibnaaGreatDoor.Fs
namespace Go.Proofs.YtelgnhmcnfibnaaGreatDoor.Ad
open Go.RowKit
def Lead (o n:Int) (k:Bool):Prop:=o=0∧n=0∧k=true∨o=1∧n=64∧k=true∨o=2∧n=128∧k=true∨(o < 0∨2 < o)∧n=0∧k=false
set_option maxHeartbeats 400000 in
theorem lead_any (w:World) (o n:Int) (k:Bool) (h:Lead o n k):Calls Tryz.prog 40 #[.int .i64 o] w fun e w'=>e = .returned (.tuple #[.int .i64 n,.bool k])∧Below w.heap.size w w':=by
 rcases h with ⟨rfl,rfl,rfl⟩ | ⟨rfl,rfl,rfl⟩ | ⟨rfl,rfl,rfl⟩ | ⟨h | h,rfl,rfl⟩
 all_goals
  go_enter Tryz.func40,Tryz.ntmps40
  go_wp2
  go_ret2
  exact ⟨rfl,Below.refl _ _⟩
theorem lead_good {o:Int} (h1:0≤o) (h2:o≤2):Lead o (64 * o) true:=by
 unfold Lead
 rcases (by omega:o=0∨o=1∨o=2) with rfl | rfl | rfl
 ·exact .inl ⟨rfl,rfl,rfl⟩
 ·exact .inr (.inl ⟨rfl,rfl,rfl⟩)
 ·exact .inr (.inr (.inl ⟨rfl,rfl,rfl⟩))
theorem lead_bad {o:Int} (h:¬ (0≤o∧o≤2)):Lead o 0 false:=.inr (.inr (.inr ⟨by omega,rfl,rfl⟩))
set_option maxHeartbeats 1000000 in
theorem good_any (w:World) (o f r:Int):Calls Tryz.prog 39 #[addr o f r] w fun e w'=>e = .returned (.bool (goodB o f r))∧Below w.heap.size w w':=by
 have B0:=Lib.hid ((Below.refl w.heap.size w).alloc (Nat.le_refl _) (.cells #[.int .i64 o,.int .i64 f,.int .i64 r] 24));unfold addr
 by_cases h0:0≤o∧o≤2
 ·have L:=Lib.hid (lead_good h0.1 h0.2)
  obtain ⟨h1,h2⟩:=h0
  go_enter Tryz.func39,Tryz.ntmps39
  go_wp2_with fail;refine (lead_any _ o _ _ L.out).mono ?_;rintro e w1 ⟨rfl,b1⟩;have B1:=Lib.hid (B0.out.trans (b1.mono B0.out.size));have c1:w1.cell? ⟨w.heap.size,1,none⟩=some (.int .i64 f):=(b1.cell (by simp)).trans (by go_simp);have c2:w1.cell? ⟨w.heap.size,2,none⟩=some (.int .i64 r):=(b1.cell (by simp)).trans (by go_simp);clear b1 B0 L
  by_cases k0:0≤f
  ·by_cases k1:f < 64
   ·by_cases k2:0≤r
    ·by_cases k3:r < 256
     ·go_wp2
      go_ret
      exact ⟨ret_bool (by first | exact (decide_eq_true (show good o f r from ⟨by omega,by omega,by omega,by omega,by omega,by omega⟩)).symm | exact (decide_eq_false (show ¬ good o f r from fun g=>by obtain ⟨_,_,_,_,_,_⟩:=g;omega)).symm | exact decide_eq_decide.2 ⟨fun h=>absurd h (by omega),fun g=>absurd g.2.2.2.2.2 (by omega)⟩),B1.out⟩
     ·go_wp2
      go_ret
      exact ⟨ret_bool (by first | exact (decide_eq_true (show good o f r from ⟨by omega,by omega,by omega,by omega,by omega,by omega⟩)).symm | exact (decide_eq_false (show ¬ good o f r from fun g=>by obtain ⟨_,_,_,_,_,_⟩:=g;omega)).symm | exact decide_eq_decide.2 ⟨fun h=>absurd h (by omega),fun g=>absurd g.2.2.2.2.2 (by omega)⟩),B1.out⟩
    ·go_wp2
     go_ret
     exact ⟨ret_bool (by first | exact (decide_eq_true (show good o f r from ⟨by omega,by omega,by omega,by omega,by omega,by omega⟩)).symm | exact (decide_eq_false (show ¬ good o f r from fun g=>by obtain ⟨_,_,_,_,_,_⟩:=g;omega)).symm | exact decide_eq_decide.2 ⟨fun h=>absurd h (by omega),fun g=>absurd g.2.2.2.2.2 (by omega)⟩),B1.out⟩
   ·go_wp2
    go_ret
    exact ⟨ret_bool (by first | exact (decide_eq_true (show good o f r from ⟨by omega,by omega,by omega,by omega,by omega,by omega⟩)).symm | exact (decide_eq_false (show ¬ good o f r from fun g=>by obtain ⟨_,_,_,_,_,_⟩:=g;omega)).symm | exact decide_eq_decide.2 ⟨fun h=>absurd h (by omega),fun g=>absurd g.2.2.2.2.2 (by omega)⟩),B1.out⟩
  ·go_wp2
   go_ret
   exact ⟨ret_bool (by first | exact (decide_eq_true (show good o f r from ⟨by omega,by omega,by omega,by omega,by omega,by omega⟩)).symm | exact (decide_eq_false (show ¬ good o f r from fun g=>by obtain ⟨_,_,_,_,_,_⟩:=g;omega)).symm | exact decide_eq_decide.2 ⟨fun h=>absurd h (by omega),fun g=>absurd g.2.2.2.2.2 (by omega)⟩),B1.out⟩
 ·have L:=Lib.hid (lead_bad h0)
  go_enter Tryz.func39,Tryz.ntmps39
  go_wp2_with fail;refine (lead_any _ o _ _ L.out).mono ?_;rintro e w1 ⟨rfl,b1⟩;have B1:=Lib.hid (B0.out.trans (b1.mono B0.out.size));have c1:w1.cell? ⟨w.heap.size,1,none⟩=some (.int .i64 f):=(b1.cell (by simp)).trans (by go_simp);have c2:w1.cell? ⟨w.heap.size,2,none⟩=some (.int .i64 r):=(b1.cell (by simp)).trans (by go_simp);clear b1 B0 L;go_wp2
  go_ret
  exact ⟨ret_bool (by first | exact (decide_eq_true (show good o f r from ⟨by omega,by omega,by omega,by omega,by omega,by omega⟩)).symm | exact (decide_eq_false (show ¬ good o f r from fun g=>by obtain ⟨_,_,_,_,_,_⟩:=g;omega)).symm | exact decide_eq_decide.2 ⟨fun h=>absurd h (by omega),fun g=>absurd g.2.2.2.2.2 (by omega)⟩),B1.out⟩
set_option maxHeartbeats 400000 in
theorem put_any (w:World) (o f r:Int):Calls Tryz.prog 20 #[addr o f r] w (PutPost w o f r):=by
 have B0:=Lib.hid (((Below.refl w.heap.size w).alloc (Nat.le_refl _) (.cells #[.int .i64 o,.int .i64 f,.int .i64 r] 24)).alloc (by simp) (.cells #[.int .u8 0,.int .u8 0] 57))
 by_cases hg:good o f r
 ·have GA:=Lib.hid (at_bool (show goodB o f r=true from decide_eq_true hg) (good_any ((w.alloc (.cells #[.int .i64 o,.int .i64 f,.int .i64 r] 24)).alloc (.cells #[.int .u8 0,.int .u8 0] 57)) o f r))
  have HG:=Lib.hid hg;obtain ⟨g1,g2,g3,g4,g5,g6⟩:=hg;have L:=Lib.hid (lead_good g1 g2);unfold addr at *
  go_enter Tryz.func20,Tryz.ntmps20
  go_wp2_with fail;refine GA.out.mono ?_;rintro e w1 ⟨rfl,b1⟩;have B1:=Lib.hid (B0.out.trans (b1.mono B0.out.size));have c0:w1.cell? ⟨w.heap.size,0,none⟩=some (.int .i64 o):=(b1.cell (by simp;omega)).trans (by go_simp);have c1:w1.cell? ⟨w.heap.size,1,none⟩=some (.int .i64 f):=(b1.cell (by simp;omega)).trans (by go_simp);have c2:w1.cell? ⟨w.heap.size,2,none⟩=some (.int .i64 r):=(b1.cell (by simp;omega)).trans (by go_simp);have k0:w1.cell? ⟨w.heap.size+1,0,none⟩=some (.int .u8 0):=(b1.cell (by simp)).trans (by go_simp);have k1:w1.cell? ⟨w.heap.size+1,1,none⟩=some (.int .u8 0):=(b1.cell (by simp)).trans (by go_simp);have m0:w1.frozen? ⟨w.heap.size+1,0,none⟩=false:=(b1.frozen (by simp)).trans (by go_simp);have m1:w1.frozen? ⟨w.heap.size+1,1,none⟩=false:=(b1.frozen (by simp)).trans (by go_simp);have hz:w.heap.size+2≤w1.heap.size:=by have:=b1.size;simp at this;omega
  clear b1 GA B0;go_wp2_with fail;refine (lead_any _ o _ _ L.out).mono ?_;rintro e w2 ⟨rfl,b2⟩;have B2:=Lib.hid (B1.out.trans (b2.mono B1.out.size));have c1':w2.cell? ⟨w.heap.size,1,none⟩=some (.int .i64 f):=(b2.cell (by simp;omega)).trans c1;have c2':w2.cell? ⟨w.heap.size,2,none⟩=some (.int .i64 r):=(b2.cell (by simp;omega)).trans c2;have k0':w2.cell? ⟨w.heap.size+1,0,none⟩=some (.int .u8 0):=(b2.cell (by simp;omega)).trans k0;have k1':w2.cell? ⟨w.heap.size+1,1,none⟩=some (.int .u8 0):=(b2.cell (by simp;omega)).trans k1;have m0':w2.frozen? ⟨w.heap.size+1,0,none⟩=false:=(b2.frozen (by simp;omega)).trans m0;have m1':w2.frozen? ⟨w.heap.size+1,1,none⟩=false:=(b2.frozen (by simp;omega)).trans m1;clear b2 B1 L c0 c1 c2 k0 k1 m0 m1;go_wp2
  (try simp only [Exit.inBlock,Exit.then])
  refine bodyPost_ret (v:=.tuple #[pair (64 * o+f) r,.int .i64 0]) ?_ rfl ⟨.inl ⟨HG.out,rfl⟩,?_⟩
  ·rw [results_cell_tmp rfl];go_simp;rfl
  ·exact (B2.out.setCell (by simp) _).setCell (by simp) _
 ·have GA:=Lib.hid (at_bool (show goodB o f r=false from decide_eq_false hg) (good_any ((w.alloc (.cells #[.int .i64 o,.int .i64 f,.int .i64 r] 24)).alloc (.cells #[.int .u8 0,.int .u8 0] 57)) o f r))
  have HG:=Lib.hid hg;clear hg;unfold addr at *
  go_enter Tryz.func20,Tryz.ntmps20
  go_wp2_with fail;refine GA.out.mono ?_;rintro e w1 ⟨rfl,b1⟩;have B1:=Lib.hid (B0.out.trans (b1.mono B0.out.size));have k0:w1.cell? ⟨w.heap.size+1,0,none⟩=some (.int .u8 0):=(b1.cell (by simp)).trans (by go_simp);have k1:w1.cell? ⟨w.heap.size+1,1,none⟩=some (.int .u8 0):=(b1.cell (by simp)).trans (by go_simp);have m0:w1.frozen? ⟨w.heap.size+1,0,none⟩=false:=(b1.frozen (by simp)).trans (by go_simp);have m1:w1.frozen? ⟨w.heap.size+1,1,none⟩=false:=(b1.frozen (by simp)).trans (by go_simp);clear b1 GA B0;go_wp2
  (try simp only [Exit.inBlock,Exit.then])
  refine bodyPost_ret (v:=.tuple #[pair 0 0,.int .i64 1]) ?_ rfl ⟨.inr ⟨HG.out,rfl⟩,?_⟩
  ·rw [results_cell_tmp rfl];go_simp;rfl
  ·exact (B1.out.setCell (by simp) _).setCell (by simp) _
set_option maxHeartbeats 1000000 in
theorem take_any (w:World) (a b:Int) (a0:0≤a) (a1:a≤255) (b0:0≤b) (b1:b≤255):Calls Tryz.prog 59 #[pair a b] w (TakePost w a b):=by
 have q1:a.tdiv 64=a / 64:=Int.tdiv_eq_ediv_of_nonneg a0;have q2:a.tmod 64=a % 64:=Int.tmod_eq_emod_of_nonneg a0;have B0:=Lib.hid ((((Below.refl w.heap.size w).alloc (Nat.le_refl _) (.cells #[.int .u8 a,.int .u8 b] 57)).alloc (by simp) (.cells #[.int .i64 0,.int .i64 0,.int .i64 0] 24)).alloc (by simp;omega) (.cells #[.int .i64 (a / 64),.int .i64 (a % 64),.int .i64 b] 24));have GA:=Lib.hid (good_any (((w.alloc (.cells #[.int .u8 a,.int .u8 b] 57)).alloc (.cells #[.int .i64 0,.int .i64 0,.int .i64 0] 24)).alloc (.cells #[.int .i64 (a / 64),.int .i64 (a % 64),.int .i64 b] 24)) (a / 64) (a % 64) b);have g0:0≤a / 64:=by omega
 have g1:a / 64≤3:=by omega
 have g2:0≤a % 64:=by omega
 have g3:a % 64≤63:=by omega
 have HV:Hid (192≤a↔3≤a / 64):=⟨fun h=>by omega,fun h=>by omega⟩
 by_cases h:192≤a
 ·have e:goodB (a / 64) (a % 64) b=false:=decide_eq_false (fun g=>by obtain ⟨_,z,_⟩:=g;omega)
  rw [e] at GA;have HH:=Lib.hid h;clear e h HV;generalize hy1:a / 64=y1 at *;generalize hy2:a % 64=y2 at *;have Y1:=Lib.hid hy1;have Y2:=Lib.hid hy2;clear hy1 hy2;unfold pair addr at *
  go_enter Tryz.func59,Tryz.ntmps59
  go_wp2_with fail;refine GA.out.mono ?_;rintro e w1 ⟨rfl,b1⟩;have B1:=Lib.hid (B0.out.trans (b1.mono B0.out.size));have c0:w1.cell? ⟨w.heap.size+2,0,none⟩=some (.int .i64 y1):=(b1.cell (by simp)).trans (by go_simp);have c1:w1.cell? ⟨w.heap.size+2,1,none⟩=some (.int .i64 y2):=(b1.cell (by simp)).trans (by go_simp);have c2:w1.cell? ⟨w.heap.size+2,2,none⟩=some (.int .i64 b):=(b1.cell (by simp)).trans (by go_simp);have k0:w1.cell? ⟨w.heap.size+1,0,none⟩=some (.int .i64 0):=(b1.cell (by simp)).trans (by go_simp);have k1:w1.cell? ⟨w.heap.size+1,1,none⟩=some (.int .i64 0):=(b1.cell (by simp)).trans (by go_simp);have k2:w1.cell? ⟨w.heap.size+1,2,none⟩=some (.int .i64 0):=(b1.cell (by simp)).trans (by go_simp);have m0:w1.frozen? ⟨w.heap.size+1,0,none⟩=false:=(b1.frozen (by simp)).trans (by go_simp);have m1:w1.frozen? ⟨w.heap.size+1,1,none⟩=false:=(b1.frozen (by simp)).trans (by go_simp);have m2:w1.frozen? ⟨w.heap.size+1,2,none⟩=false:=(b1.frozen (by simp)).trans (by go_simp);clear b1 GA B0;go_wp2
  (try simp only [Exit.inBlock,Exit.then])
  refine bodyPost_ret (v:=.tuple #[.agg #[.int .i64 0,.int .i64 0,.int .i64 0],.int .i64 2]) ?_ rfl ⟨.inr ⟨HH.out,rfl⟩,?_⟩
  ·rw [results_cell_tmp rfl];go_simp;try rfl
  ·exact ((B1.out.setCell (by simp) _).setCell (by simp) _).setCell (by simp) _
 ·have e:goodB (a / 64) (a % 64) b=true:=decide_eq_true (show good (a / 64) (a % 64) b from ⟨g0,by omega,g2,g3,b0,b1⟩)
  rw [e] at GA;have HH:=Lib.hid h;clear e h HV;generalize hy1:a / 64=y1 at *;generalize hy2:a % 64=y2 at *;have Y1:=Lib.hid hy1;have Y2:=Lib.hid hy2;clear hy1 hy2;unfold pair addr at *
  go_enter Tryz.func59,Tryz.ntmps59
  go_wp2_with fail;refine GA.out.mono ?_;rintro e w1 ⟨rfl,b1⟩;have B1:=Lib.hid (B0.out.trans (b1.mono B0.out.size));have c0:w1.cell? ⟨w.heap.size+2,0,none⟩=some (.int .i64 y1):=(b1.cell (by simp)).trans (by go_simp);have c1:w1.cell? ⟨w.heap.size+2,1,none⟩=some (.int .i64 y2):=(b1.cell (by simp)).trans (by go_simp);have c2:w1.cell? ⟨w.heap.size+2,2,none⟩=some (.int .i64 b):=(b1.cell (by simp)).trans (by go_simp);have k0:w1.cell? ⟨w.heap.size+1,0,none⟩=some (.int .i64 0):=(b1.cell (by simp)).trans (by go_simp);have k1:w1.cell? ⟨w.heap.size+1,1,none⟩=some (.int .i64 0):=(b1.cell (by simp)).trans (by go_simp);have k2:w1.cell? ⟨w.heap.size+1,2,none⟩=some (.int .i64 0):=(b1.cell (by simp)).trans (by go_simp);have m0:w1.frozen? ⟨w.heap.size+1,0,none⟩=false:=(b1.frozen (by simp)).trans (by go_simp);have m1:w1.frozen? ⟨w.heap.size+1,1,none⟩=false:=(b1.frozen (by simp)).trans (by go_simp);have m2:w1.frozen? ⟨w.heap.size+1,2,none⟩=false:=(b1.frozen (by simp)).trans (by go_simp);clear b1 GA B0;go_wp2
  (try simp only [Exit.inBlock,Exit.then])
  refine bodyPost_ret (v:=.tuple #[.agg #[.int .i64 y1,.int .i64 y2,.int .i64 b],.int .i64 0]) ?_ rfl ⟨.inl ⟨by have:=HH.out;omega,by rw [Y1.out,Y2.out];rfl⟩,?_⟩
  ·rw [results_cell_tmp rfl];go_simp;try rfl
  ·exact ((B1.out.setCell (by simp) _).setCell (by simp) _).setCell (by simp) _
end Go.Proofs.YtelgnhmcnfibnaaGreatDoor.Ad
namespace Go.Proofs.YtelgnhmcnfibnaaGreatDoor.Sv
open Go.RowKit Go.Maps
open Fl (R4 z4 rec4 arr4 okR row_cell row_frozen sto4)
def arr5 (b:B5):Array Value:=#[.int .u8 b.1,.int .u8 b.2.1,.int .u8 b.2.2.1,.int .u8 b.2.2.2.1,.int .u8 b.2.2.2.2]
theorem st4_row {w:World} {g:Nat} {T:TypeId} {q:R4} (h:w.heap[g]? = some (.cells (arr4 q) T (0,0))) (r:R4):(sto4 w g 0 r).heap[g]? = some (.cells (arr4 r) T (0,0)) :=
 Rw.heap_setCell_same (Rw.heap_setCell_same (Rw.heap_setCell_same (Rw.heap_setCell_same h _) _) _) _
def sto5 (w:World) (g:Nat) (b:B5):World:=((((w.setCell ⟨g,0,none⟩ (.int .u8 b.1)).setCell ⟨g,1,none⟩ (.int .u8 b.2.1)).setCell ⟨g,2,none⟩ (.int .u8 b.2.2.1)).setCell ⟨g,3,none⟩ (.int .u8 b.2.2.2.1)).setCell ⟨g,4,none⟩ (.int .u8 b.2.2.2.2)
theorem st5_row {w:World} {g:Nat} {T:TypeId} {q:B5} (h:w.heap[g]? = some (.cells (arr5 q) T (0,0))) (r:B5):(sto5 w g r).heap[g]? = some (.cells (arr5 r) T (0,0)) :=
 Rw.heap_setCell_same (Rw.heap_setCell_same (Rw.heap_setCell_same (Rw.heap_setCell_same (Rw.heap_setCell_same h _) _) _) _) _
theorem st5_other {w:World} {g k:Nat} {r:B5} {x:Option Obj} (h:w.heap[k]? = x) (hne:k≠g):(sto5 w g r).heap[k]? = x :=
 (Below.heap_setCell _ _ _ _ hne).trans ((Below.heap_setCell _ _ _ _ hne).trans ((Below.heap_setCell _ _ _ _ hne).trans ((Below.heap_setCell _ _ _ _ hne).trans ((Below.heap_setCell _ _ _ _ hne).trans h))))
theorem st5_below {w W:World} {B g:Nat} {r:B5} (h:Below B w W) (hb:B≤g):Below B w (sto5 W g r) :=
 ((((h.setCell (p:=⟨g,0,none⟩) hb _).setCell (p:=⟨g,1,none⟩) hb _).setCell (p:=⟨g,2,none⟩) hb _).setCell (p:=⟨g,3,none⟩) hb _).setCell (p:=⟨g,4,none⟩) hb _
theorem st5_only (W:World) (g:Nat) (r:B5):Fs.Only (fun j=>j=g) W (sto5 W g r) :=
 ((((Fs.Only.set (fun j=>j=g) W (a:=⟨g,0,none⟩) rfl _).trans (Fs.Only.set (fun j=>j=g) _ (a:=⟨g,1,none⟩) rfl _) fun _ _ h=>h).trans (Fs.Only.set (fun j=>j=g) _ (a:=⟨g,2,none⟩) rfl _) fun _ _ h=>h).trans (Fs.Only.set (fun j=>j=g) _ (a:=⟨g,3,none⟩) rfl _) fun _ _ h=>h).trans (Fs.Only.set (fun j=>j=g) _ (a:=⟨g,4,none⟩) rfl _) fun _ _ h=>h
theorem st4_only (W:World) (g:Nat) (x:R4):Fs.Only (fun j=>j=g) W (sto4 W g 0 x) :=
 (((Fs.Only.set (fun j=>j=g) W (a:=⟨g,0,none⟩) rfl _).trans (Fs.Only.set (fun j=>j=g) _ (a:=⟨g,0+1,none⟩) rfl _) fun _ _ h=>h).trans (Fs.Only.set (fun j=>j=g) _ (a:=⟨g,0+2,none⟩) rfl _) fun _ _ h=>h).trans (Fs.Only.set (fun j=>j=g) _ (a:=⟨g,0+3,none⟩) rfl _) fun _ _ h=>h
theorem results_two {fn:Func} {p r:Tmp} {T S:TypeId} (h:fn.results=#[.cell p T,.tmp r]) (tmps:Array Value) (w:World) (g:Nat) (cs:Array Value) (v:Value) (n:Nat) (E:TypeId)
 (hp:tmps.getD p undef = .pointer (some ⟨g,0,none⟩)) (hr:tmps.getD r undef=v) (h1:w.heap[g]? = some (.cells cs S (0,0)))
 (hu:Tryz.prog.underlying T=some (.array n E)) (hi:(Tryz.prog.info? T).map (·.size)=some cs.size) :
 (results fn tmps).run Tryz.prog w = .ok (.tuple #[.agg cs,v]) w:=by
 have e2:=run_loadVar_row (P:=Tryz.prog) w g S T cs (0,0) _ h1 hu rfl hi;have hp':tmps[p]?.getD undef = .pointer (some ⟨g,0,none⟩):=by simpa using hp
 have hr':tmps[r]?.getD undef=v:=by simpa using hr
 simp only [results,h]
 simp [Result.andThen,hp',hr',asAddr,e2]
theorem info4 (q:R4):(Tryz.prog.info? 25).map (·.size)=some (arr4 q).size:=by show _=some 4;kernel_rfl
theorem info5 (q:B5):(Tryz.prog.info? 27).map (·.size)=some (arr5 q).size:=by show _=some 5;kernel_rfl
section
variable {fn:Func} {p r:Tmp}
theorem results_a4 (h:fn.results=#[.cell p 25,.tmp r]) (tmps:Array Value) (w:World) (g:Nat) (q:R4) (v:Value) (hp:tmps.getD p undef = .pointer (some ⟨g,0,none⟩)) (hr:tmps.getD r undef=v) (h1:w.heap[g]? = some (.cells (arr4 q) 25 (0,0))) :
 (results fn tmps).run Tryz.prog w = .ok (.tuple #[rec4 q,v]) w:=results_two h tmps w g _ v _ _ hp hr h1 Tryz.underlying25 (info4 q)
theorem results_b5 (h:fn.results=#[.cell p 27,.tmp r]) (tmps:Array Value) (w:World) (g:Nat) (q:B5) (v:Value) (hp:tmps.getD p undef = .pointer (some ⟨g,0,none⟩)) (hr:tmps.getD r undef=v) (h1:w.heap[g]? = some (.cells (arr5 q) 27 (0,0))) :
 (results fn tmps).run Tryz.prog w = .ok (.tuple #[val5 q,v]) w:=results_two h tmps w g _ v _ _ hp hr h1 Tryz.underlying27 (info5 q)
theorem result_a4 (h:fn.results=#[.cell p 25]) (tmps:Array Value) (w:World) (g:Nat) (q:R4) (hp:tmps.getD p undef = .pointer (some ⟨g,0,none⟩)) (h1:w.heap[g]? = some (.cells (arr4 q) 25 (0,0))) :
 (results fn tmps).run Tryz.prog w = .ok (rec4 q) w:=results_cell_row h tmps w g _ _ _ _ hp h1 Tryz.underlying25 rfl (info4 q)
theorem result_b5 (h:fn.results=#[.cell p 27]) (tmps:Array Value) (w:World) (g:Nat) (q:B5) (hp:tmps.getD p undef = .pointer (some ⟨g,0,none⟩)) (h1:w.heap[g]? = some (.cells (arr5 q) 27 (0,0))) :
 (results fn tmps).run Tryz.prog w = .ok (val5 q) w:=results_cell_row h tmps w g _ _ _ _ hp h1 Tryz.underlying27 rfl (info5 q)
end
theorem eq_a4 (r s:R4) (w:World):(Op.equalIn 10000 25 (.agg #[.int .u8 r.1,.int .u8 r.2.1,.int .u8 r.2.2.1,.int .u8 r.2.2.2]) (.agg #[.int .u8 s.1,.int .u8 s.2.1,.int .u8 s.2.2.1,.int .u8 s.2.2.2])).run Tryz.prog w = .ok (decide (r=s)) w:=by
 obtain ⟨j,hj⟩:∃ i,Tryz.prog.info? 5=some i:=Option.isSome_iff_exists.1 (by kernel_rfl);have hc:Tryz.prog.cellsOf 5=1:=by kernel_rfl
 obtain ⟨r1,r2,r3,r4⟩:=r;obtain ⟨s1,s2,s3,s4⟩:=s;rw [run_equalIn_array w 9999 _ _ Tryz.underlying25 hj,hc]
 by_cases h1:r1=s1 <;> by_cases h2:r2=s2 <;> by_cases h3:r3=s3 <;> by_cases h4:r4=s4 <;> simp [Op.eqItems,List.range,List.range.loop,part,go_sem,h1,h2,h3,h4]
set_option maxHeartbeats 1000000 in
theorem eq_b5 (r s:B5) (w:World):(Op.equalIn 10000 27 (.agg #[.int .u8 r.1,.int .u8 r.2.1,.int .u8 r.2.2.1,.int .u8 r.2.2.2.1,.int .u8 r.2.2.2.2]) (.agg #[.int .u8 s.1,.int .u8 s.2.1,.int .u8 s.2.2.1,.int .u8 s.2.2.2.1,.int .u8 s.2.2.2.2])).run Tryz.prog w = .ok (decide (r=s)) w:=by
 obtain ⟨j,hj⟩:∃ i,Tryz.prog.info? 5=some i:=Option.isSome_iff_exists.1 (by kernel_rfl);have hc:Tryz.prog.cellsOf 5=1:=by kernel_rfl
 obtain ⟨r1,r2,r3,r4,r5⟩:=r;obtain ⟨s1,s2,s3,s4,s5⟩:=s;rw [run_equalIn_array w 9999 _ _ Tryz.underlying27 hj,hc]
 by_cases h1:r1=s1 <;> by_cases h2:r2=s2 <;> by_cases h3:r3=s3 <;> by_cases h4:r4=s4 <;> by_cases h5:r5=s5 <;> simp [Op.eqItems,List.range,List.range.loop,part,go_sem,h1,h2,h3,h4,h5]
def bs (m:Nat) (F:Nat→Int):Array Value:=((List.range m).map fun i=>Value.int .u8 (F i)).toArray
def up (F:Nat→Int) (k:Nat) (x:Int):Nat→Int:=fun i=>if i=k then x else F i
theorem bs_size (m:Nat) (F:Nat→Int):(bs m F).size=m:=by simp [bs]
theorem bs_get {m:Nat} (F:Nat→Int) {k:Nat} (h:k < m):(bs m F)[k]? = some (.int .u8 (F k)):=by simp [bs,h]
theorem bs_congr {m:Nat} {F G:Nat→Int} (h:∀ i,i < m→F i=G i):bs m F=bs m G:=by
 unfold bs
 congr 1
 exact List.map_congr_left fun i hi=>by rw [h i (List.mem_range.1 hi)]
theorem bs_set {m:Nat} (F:Nat→Int) {k:Nat} (x:Int):(bs m F).setIfInBounds k (.int .u8 x)=bs m (up F k x):=by
 apply Array.ext_getElem?
 intro i
 by_cases hi:i < m
 ·rw [bs_get _ hi,Array.getElem?_setIfInBounds]
  unfold up
  by_cases e:k=i
  ·subst e
   rw [if_pos rfl,if_pos rfl,if_pos (by rw [bs_size];exact hi)]
  ·rw [if_neg e,if_neg (fun h=>e h.symm),bs_get _ hi]
 ·rw [Array.getElem?_eq_none (by simp [bs_size];omega),Array.getElem?_eq_none (by simp [bs_size];omega)]
def RowF (w:World) (g:Nat) (T:TypeId) (m:Nat) (F:Nat→Int):Prop:=w.heap[g]? = some (.cells (bs m F) T (0,0))
section
variable {w w':World} {g m:Nat} {T:TypeId} {F:Nat→Int}
theorem RowF.lt (h:RowF w g T m F):g < w.heap.size:=lt_of_block h
theorem RowF.cell (h:RowF w g T m F) {k:Nat} (hk:k < m):w.cell? ⟨g,k,none⟩=some (.int .u8 (F k)):=by rw [cell_of_row w g k _ _ (0,0) h,bs_get F hk]
theorem RowF.frozen (h:RowF w g T m F) (k:Nat):w.frozen? ⟨g,k,none⟩=false:=frozen_of_row w g k _ _ h
theorem RowF.set_ (h:RowF w g T m F) (k:Nat) (x:Int):RowF (w.setCell ⟨g,k,none⟩ (.int .u8 x)) g T m (up F k x):=by
 unfold RowF at h ⊢;rw [heap_setCell_same w g k _ _ _ h,bs_set]
theorem RowF.to {G:Nat→Int} (h:RowF w g T m F) (e:∀ i,i < m→F i=G i):RowF w g T m G:=by unfold RowF at *;rw [h,bs_congr e]
theorem RowF.kept (h:RowF w g T m F) (e:w'.heap[g]? = w.heap[g]?):RowF w' g T m F:=e.trans h
end
def f4 (q:R4):Nat→Int
 | 0=>q.1 | 1=>q.2.1 | 2=>q.2.2.1 | _=>q.2.2.2
def f5 (q:B5):Nat→Int
 | 0=>q.1 | 1=>q.2.1 | 2=>q.2.2.1 | 3=>q.2.2.2.1 | _=>q.2.2.2.2
def tF (F:Nat→Int) (t:Nat→Int) (j k:Nat):Nat→Int:=fun i=>if i < k then bx (F i) (t (j+i)) else F i
theorem tF_next (F:Nat→Int) (t:Nat→Int) (j k i:Nat):up (tF F t j k) k (bx (F k) (t (j+k))) i=tF F t j (k+1) i:=by
 unfold up tF
 by_cases e:i=k
 ·subst e
  rw [if_pos rfl,if_pos (by omega)]
 ·rw [if_neg e]
  by_cases h:i < k
  ·rw [if_pos h,if_pos (by omega)]
  ·rw [if_neg h,if_neg (by omega)]
theorem tF_at (F:Nat→Int) (t:Nat→Int) (j k:Nat):tF F t j k k=F k:=by unfold tF;rw [if_neg (by omega)]
theorem tF_4 (q:R4) (t:Nat→Int) (i:Nat) (h:i < 4):tF (f4 q) t 0 4 i=f4 (tn4 q t) i:=by
 unfold tF;rw [if_pos h,Nat.zero_add]
 match i,h with
 | 0,_=>rfl
 | 1,_=>rfl
 | 2,_=>rfl
 | 3,_=>rfl
theorem tF_5 (q:B5) (t:Nat→Int) (j i:Nat) (h:i < 5):tF (f5 q) t j 5 i=f5 (tn5 q t j) i:=by
 unfold tF;rw [if_pos h]
 match i,h with
 | 0,_=>rfl
 | 1,_=>rfl
 | 2,_=>rfl
 | 3,_=>rfl
 | 4,_=>rfl
end Go.Proofs.YtelgnhmcnfibnaaGreatDoor.Sv
namespace Go.Proofs.YtelgnhmcnfibnaaGreatDoor.Sv
open Go.RowKit Go.Maps
open Fl (R4 z4 rec4 arr4 okR row_cell row_frozen sto4 sto4_below)
open Fs (results_rec)
open Ad (PutPost put_any pair addr good goodB)
theorem two_new (w:World) (o p:Obj):((w.alloc o).alloc p).heap[w.heap.size+1]? = some p∧Below w.heap.size w ((w.alloc o).alloc p):=by
 have hz:(w.alloc o).heap.size=w.heap.size+1:=by simp
 have R0:=heap_alloc_new (w.alloc o) p;rw [hz] at R0;exact ⟨R0,((Below.refl w.heap.size w).alloc (Nat.le_refl _) o).alloc (by omega) p⟩
set_option maxHeartbeats 400000 in
theorem checked_any (w:World) (n a b:Int):Calls Tryz.prog 21 #[.int .u8 n,pair a b] w fun e w'=>e = .returned (rec4 (n,a,b,ck3 n a b))∧Below w.heap.size w w':=by
 have R3:=Lib.hid (two_new w (.cells #[.int .u8 a,.int .u8 b] 57) (.cells (arr4 (n,a,b,ck3 n a b)) 25));unfold pair
 go_enter Tryz.func21,Tryz.ntmps21
 go_wp2
 (try simp only [Exit.inBlock,Exit.then])
 exact bodyPost_ret (result_a4 (p:=4) rfl _ _ (w.heap.size+1) (n,a,b,ck3 n a b) rfl R3.out.1) rfl ⟨rfl,R3.out.2⟩
set_option maxHeartbeats 400000 in
theorem data_any (w:World) (v:R4):Calls Tryz.prog 13 #[rec4 v] w fun e w'=>e = .returned (val5 (datB v))∧Below w.heap.size w w':=by
 have R3:=Lib.hid (two_new w (.cells (arr4 v) 26) (.cells (arr5 (datB v)) 27));unfold rec4
 go_enter Tryz.func13,Tryz.ntmps13
 go_wp2
 (try simp only [Exit.inBlock,Exit.then])
 exact bodyPost_ret (result_b5 (p:=2) rfl _ _ (w.heap.size+1) (datB v) rfl R3.out.1) rfl ⟨rfl,R3.out.2⟩
def OpnPost (w:World) (b:B5) (e:Ending) (w':World):Prop:=e = .returned (.tuple #[rec4 (opnV b),.int .i64 (opnE b)])∧Below w.heap.size w w'
theorem dat_opn (b:B5):datB (b.1,b.2.1,b.2.2.1,b.2.2.2.1)=b↔ck4 b.1 b.2.1 b.2.2.1 b.2.2.2.1=b.2.2.2.2:=by
 obtain ⟨b0,b1,b2,b3,b4⟩:=b;unfold datB
 simp
structure Op0 (w:World) (b:B5) (W:World):Prop where
 arg:W.heap[w.heap.size]? = some (.cells (arr5 b) 27 (0,0))
 res:W.heap[w.heap.size+1]? = some (.cells (arr4 z4) 26 (0,0))
 v:W.heap[w.heap.size+2]? = some (.cells (arr4 (b.1,b.2.1,b.2.2.1,b.2.2.2.1)) 26 (0,0))
 bel:Below w.heap.size w W
 siz:w.heap.size+3≤W.heap.size
theorem Op0.mono {w W W':World} {b:B5} (h:Op0 w b W) (k:Below W.heap.size W W'):Op0 w b W' :=
 have s:=h.siz
 ⟨(k.block _ (by omega)).trans h.arg,(k.block _ (by omega)).trans h.res,(k.block _ (by omega)).trans h.v,h.bel.trans (k.mono h.bel.size),Nat.le_trans h.siz k.size⟩
theorem op0_of (w:World) (b:B5):Op0 w b (((w.alloc (.cells (arr5 b) 27)).alloc (.cells (arr4 z4) 26)).alloc (.cells (arr4 (b.1,b.2.1,b.2.2.1,b.2.2.2.1)) 26)):=by
 have h1:(w.alloc (.cells (arr5 b) 27)).heap.size=w.heap.size+1:=by simp
 have h2:((w.alloc (.cells (arr5 b) 27)).alloc (.cells (arr4 z4) 26)).heap.size=w.heap.size+2:=by simp
 have r1:=heap_alloc_new w (.cells (arr5 b) 27);have r2:=heap_alloc_new (w.alloc (.cells (arr5 b) 27)) (.cells (arr4 z4) 26);have r3:=heap_alloc_new ((w.alloc (.cells (arr5 b) 27)).alloc (.cells (arr4 z4) 26)) (.cells (arr4 (b.1,b.2.1,b.2.2.1,b.2.2.2.1)) 26);rw [h1] at r2;rw [h2] at r3
 exact ⟨(Below.heap_alloc _ _ _ (by omega)).trans ((Below.heap_alloc _ _ _ (by omega)).trans r1),(Below.heap_alloc _ _ _ (by omega)).trans r2,r3,
  (((Below.refl w.heap.size w).alloc (Nat.le_refl _) _).alloc (by omega) _).alloc (by omega) _,by simp⟩
set_option maxHeartbeats 1000000 in
theorem open_any (w:World) (b:B5):Calls Tryz.prog 7 #[val5 b] w (OpnPost w b):=by
 have S0':=op0_of w b;have D0:∀ W,Calls Tryz.prog 13 #[.agg #[.int .u8 b.1,.int .u8 b.2.1,.int .u8 b.2.2.1,.int .u8 b.2.2.2.1]] W fun e w'=>e = .returned (val5 (datB (b.1,b.2.1,b.2.2.1,b.2.2.2.1)))∧Below W.heap.size W w':=fun W=>data_any W (b.1,b.2.1,b.2.2.1,b.2.2.2.1);have E0:∀ W,(Op.equalIn 10000 27 (val5 (datB (b.1,b.2.1,b.2.2.1,b.2.2.2.1))) (val5 b)).run Tryz.prog W = .ok (decide (datB (b.1,b.2.1,b.2.2.1,b.2.2.2.1)=b)) W:=fun W=>eq_b5 _ b W;have HB:=Lib.hid (dat_opn b);generalize datB (b.1,b.2.1,b.2.2.1,b.2.2.2.1)=D at *;unfold val5 at *;have DA:=Lib.hid D0;have S0:Hid (Op0 w b (((w.alloc (.cells #[.int .u8 b.1,.int .u8 b.2.1,.int .u8 b.2.2.1,.int .u8 b.2.2.2.1,.int .u8 b.2.2.2.2] 27)).alloc (.cells #[.int .u8 0,.int .u8 0,.int .u8 0,.int .u8 0] 26)).alloc (.cells #[.int .u8 b.1,.int .u8 b.2.1,.int .u8 b.2.2.1,.int .u8 b.2.2.2.1] 26))):=S0';have FIN:Hid (∀ e v w',e=opnE b→v=opnV b→Below w.heap.size w w'→OpnPost w b (.returned (.tuple #[rec4 v,.int .i64 e])) w'):=Lib.hid fun e v w' h1 h2 h3=>by subst h1 h2;exact ⟨rfl,h3⟩
 clear D0 S0'
 by_cases h:D=b
 ·have OV:Hid (opnE b=0∧opnV b=(b.1,b.2.1,b.2.2.1,b.2.2.2.1)):=Lib.hid (by
   have e0:opnE b=0:=if_pos (HB.out.1 h)
   exact ⟨e0,by unfold opnV;rw [if_pos e0]⟩)
  rw [decide_eq_true h] at E0;have EQ:=Lib.hid E0;clear h E0 HB
  go_enter Tryz.func7,Tryz.ntmps7
  go_upto_region 2 with fail;generalize (((w.alloc (.cells #[.int .u8 b.1,.int .u8 b.2.1,.int .u8 b.2.2.1,.int .u8 b.2.2.2.1,.int .u8 b.2.2.2.2] 27)).alloc (.cells #[.int .u8 0,.int .u8 0,.int .u8 0,.int .u8 0] 26)).alloc (.cells #[.int .u8 b.1,.int .u8 b.2.1,.int .u8 b.2.2.1,.int .u8 b.2.2.2.1] 26))=W at *;have x0:=Qb.cell_by (show W.cell? ⟨w.heap.size+2,0,none⟩=some (.int .u8 b.1) from row_cell S0.out.v 0);have x1:=Qb.cell_by (show W.cell? ⟨w.heap.size+2,1,none⟩=some (.int .u8 b.2.1) from row_cell S0.out.v 1);have x2:=Qb.cell_by (show W.cell? ⟨w.heap.size+2,2,none⟩=some (.int .u8 b.2.2.1) from row_cell S0.out.v 2);have x3:=Qb.cell_by (show W.cell? ⟨w.heap.size+2,3,none⟩=some (.int .u8 b.2.2.2.1) from row_cell S0.out.v 3);have y0:=Qb.cell_by (show W.cell? ⟨w.heap.size,0,none⟩=some (.int .u8 b.1) from row_cell S0.out.arg 0);have y1:=Qb.cell_by (show W.cell? ⟨w.heap.size,1,none⟩=some (.int .u8 b.2.1) from row_cell S0.out.arg 1);have y2:=Qb.cell_by (show W.cell? ⟨w.heap.size,2,none⟩=some (.int .u8 b.2.2.1) from row_cell S0.out.arg 2);have y3:=Qb.cell_by (show W.cell? ⟨w.heap.size,3,none⟩=some (.int .u8 b.2.2.2.1) from row_cell S0.out.arg 3);have y4:=Qb.cell_by (show W.cell? ⟨w.heap.size,4,none⟩=some (.int .u8 b.2.2.2.2) from row_cell S0.out.arg 4);have eq:=EQ.out;refine Qb.wp_region_by (by kernel_rfl) (by kernel_rfl) ?_
  repeat (quiet_step ((first | (go_at_call 13;with_reducible exact Qb.of_below (DA.out _)))))
  refine wpQuiet_nil ?_;clear x0 x1 x2 x3 y0 y1 y2 y3 y4 eq
  intro _ hw'
  obtain ⟨p,rfl⟩:=hw';obtain ⟨W2,b2⟩:=p;simp only;have S2:=Lib.hid (S0.out.mono b2);clear b2 S0;have d0:W2.cell? ⟨w.heap.size+1,0,none⟩=some (.int .u8 0):=row_cell S2.out.res 0;have d1:W2.cell? ⟨w.heap.size+1,1,none⟩=some (.int .u8 0):=row_cell S2.out.res 1;have d2:W2.cell? ⟨w.heap.size+1,2,none⟩=some (.int .u8 0):=row_cell S2.out.res 2;have d3:W2.cell? ⟨w.heap.size+1,3,none⟩=some (.int .u8 0):=row_cell S2.out.res 3;have k0:=row_frozen S2.out.res 0;have k1:=row_frozen S2.out.res 1;have k2:=row_frozen S2.out.res 2;have k3:=row_frozen S2.out.res 3;have x0:W2.cell? ⟨w.heap.size+2,0,none⟩=some (.int .u8 b.1):=row_cell S2.out.v 0;have x1:W2.cell? ⟨w.heap.size+2,1,none⟩=some (.int .u8 b.2.1):=row_cell S2.out.v 1;have x2:W2.cell? ⟨w.heap.size+2,2,none⟩=some (.int .u8 b.2.2.1):=row_cell S2.out.v 2;have x3:W2.cell? ⟨w.heap.size+2,3,none⟩=some (.int .u8 b.2.2.2.1):=row_cell S2.out.v 3;have R3:=Lib.hid (Fl.sto4_row S2.out.res (b.1,b.2.1,b.2.2.1,b.2.2.2.1));have B3:=Lib.hid (sto4_below (o:=0) (r:=(b.1,b.2.1,b.2.2.1,b.2.2.2.1)) S2.out.bel (show w.heap.size≤w.heap.size+1 by omega));clear S2;go_wp2
  (try simp only [Exit.inBlock,Exit.then])
  exact bodyPost_ret (results_rec (p:=2) (r:=3) rfl _ _ (w.heap.size+1) (b.1,b.2.1,b.2.2.1,b.2.2.2.1) (.int .i64 0) rfl rfl R3.out) rfl (FIN.out _ _ _ OV.out.1.symm OV.out.2.symm B3.out)
 ·have OV:Hid (opnE b=14∧opnV b=z4):=Lib.hid (by
   have e0:opnE b=14:=if_neg (fun g=>h (HB.out.2 g))
   exact ⟨e0,by unfold opnV;rw [if_neg (by rw [e0];decide)]⟩)
  rw [decide_eq_false h] at E0;have EQ:=Lib.hid E0;clear h E0 HB
  go_enter Tryz.func7,Tryz.ntmps7
  go_upto_region 2 with fail;generalize (((w.alloc (.cells #[.int .u8 b.1,.int .u8 b.2.1,.int .u8 b.2.2.1,.int .u8 b.2.2.2.1,.int .u8 b.2.2.2.2] 27)).alloc (.cells #[.int .u8 0,.int .u8 0,.int .u8 0,.int .u8 0] 26)).alloc (.cells #[.int .u8 b.1,.int .u8 b.2.1,.int .u8 b.2.2.1,.int .u8 b.2.2.2.1] 26))=W at *;have x0:=Qb.cell_by (show W.cell? ⟨w.heap.size+2,0,none⟩=some (.int .u8 b.1) from row_cell S0.out.v 0);have x1:=Qb.cell_by (show W.cell? ⟨w.heap.size+2,1,none⟩=some (.int .u8 b.2.1) from row_cell S0.out.v 1);have x2:=Qb.cell_by (show W.cell? ⟨w.heap.size+2,2,none⟩=some (.int .u8 b.2.2.1) from row_cell S0.out.v 2);have x3:=Qb.cell_by (show W.cell? ⟨w.heap.size+2,3,none⟩=some (.int .u8 b.2.2.2.1) from row_cell S0.out.v 3);have y0:=Qb.cell_by (show W.cell? ⟨w.heap.size,0,none⟩=some (.int .u8 b.1) from row_cell S0.out.arg 0);have y1:=Qb.cell_by (show W.cell? ⟨w.heap.size,1,none⟩=some (.int .u8 b.2.1) from row_cell S0.out.arg 1);have y2:=Qb.cell_by (show W.cell? ⟨w.heap.size,2,none⟩=some (.int .u8 b.2.2.1) from row_cell S0.out.arg 2);have y3:=Qb.cell_by (show W.cell? ⟨w.heap.size,3,none⟩=some (.int .u8 b.2.2.2.1) from row_cell S0.out.arg 3);have y4:=Qb.cell_by (show W.cell? ⟨w.heap.size,4,none⟩=some (.int .u8 b.2.2.2.2) from row_cell S0.out.arg 4);have eq:=EQ.out;refine Qb.wp_region_by (by kernel_rfl) (by kernel_rfl) ?_
  repeat (quiet_step ((first | (go_at_call 13;with_reducible exact Qb.of_below (DA.out _)))))
  refine wpQuiet_nil ?_;clear x0 x1 x2 x3 y0 y1 y2 y3 y4 eq
  intro _ hw'
  obtain ⟨p,rfl⟩:=hw';obtain ⟨W2,b2⟩:=p;simp only;have S2:=Lib.hid (S0.out.mono b2);clear b2 S0;have d0:W2.cell? ⟨w.heap.size+1,0,none⟩=some (.int .u8 0):=row_cell S2.out.res 0;have d1:W2.cell? ⟨w.heap.size+1,1,none⟩=some (.int .u8 0):=row_cell S2.out.res 1;have d2:W2.cell? ⟨w.heap.size+1,2,none⟩=some (.int .u8 0):=row_cell S2.out.res 2;have d3:W2.cell? ⟨w.heap.size+1,3,none⟩=some (.int .u8 0):=row_cell S2.out.res 3;have k0:=row_frozen S2.out.res 0;have k1:=row_frozen S2.out.res 1;have k2:=row_frozen S2.out.res 2;have k3:=row_frozen S2.out.res 3;have x0:W2.cell? ⟨w.heap.size+2,0,none⟩=some (.int .u8 b.1):=row_cell S2.out.v 0;have x1:W2.cell? ⟨w.heap.size+2,1,none⟩=some (.int .u8 b.2.1):=row_cell S2.out.v 1;have x2:W2.cell? ⟨w.heap.size+2,2,none⟩=some (.int .u8 b.2.2.1):=row_cell S2.out.v 2;have x3:W2.cell? ⟨w.heap.size+2,3,none⟩=some (.int .u8 b.2.2.2.1):=row_cell S2.out.v 3;have R3:=Lib.hid (Fl.sto4_row S2.out.res z4);have B3:=Lib.hid (sto4_below (o:=0) (r:=z4) S2.out.bel (show w.heap.size≤w.heap.size+1 by omega));clear S2;go_wp2
  (try simp only [Exit.inBlock,Exit.then])
  exact bodyPost_ret (results_rec (p:=2) (r:=3) rfl _ _ (w.heap.size+1) z4 (.int .i64 14) rfl rfl R3.out) rfl (FIN.out _ _ _ OV.out.1.symm OV.out.2.symm B3.out)
def AskPost (w:World) (n o f r:Int) (e:Ending) (w':World):Prop:=e = .returned (.tuple #[rec4 (askB n o f r),.int .i64 (askE n o f r)])∧Below w.heap.size w w'
theorem ask_err {n o f r:Int} (h:¬ (1≤n∧n≤254∧goodB o f r=true)):askE n o f r=1∧askB n o f r=z4:=by
 have e:askE n o f r=1:=if_neg h;exact ⟨e,by unfold askB;rw [if_neg (by rw [e];decide)]⟩
theorem ask_ok {n o f r:Int} (h:1≤n∧n≤254∧goodB o f r=true):askE n o f r=0∧askB n o f r=(n,64 * o+f,r,ck3 n (64 * o+f) r):=by
 have e:askE n o f r=0:=if_pos h;exact ⟨e,by unfold askB;rw [if_pos e]⟩
structure As0 (w:World) (W:World):Prop where
 res:W.heap[w.heap.size+1]? = some (.cells (arr4 z4) 25 (0,0))
 bel:Below w.heap.size w W
 siz:w.heap.size+2≤W.heap.size
theorem As0.mono {w W W':World} (h:As0 w W) (k:Below W.heap.size W W'):As0 w W' :=
 have s:=h.siz
 ⟨(k.block _ (by omega)).trans h.res,h.bel.trans (k.mono h.bel.size),Nat.le_trans h.siz k.size⟩
theorem as0_of (w:World) (o:Obj):As0 w ((w.alloc o).alloc (.cells (arr4 z4) 25)):=⟨(two_new w o _).1,(two_new w o _).2,by simp⟩
set_option maxHeartbeats 1000000 in
theorem sask_any (w:World) (n o f r:Int):Calls Tryz.prog 5 #[.int .i64 n,addr o f r] w (AskPost w n o f r):=by
 have S0:Hid (As0 w ((w.alloc (.cells #[.int .i64 o,.int .i64 f,.int .i64 r] 24)).alloc (.cells #[.int .u8 0,.int .u8 0,.int .u8 0,.int .u8 0] 25))):=Lib.hid (as0_of w _);have PU:=Lib.hid (fun W=>put_any W o f r);have FIN:Hid (∀ e v w',askE n o f r=e∧askB n o f r=v→Below w.heap.size w w'→AskPost w n o f r (.returned (.tuple #[rec4 v,.int .i64 e])) w'):=Lib.hid fun e v w' h1 h3=>by rw [← h1.1,← h1.2];exact ⟨rfl,h3⟩
 unfold addr PutPost at *
 by_cases hg:good o f r
 case' pos =>
  have GB:Hid (goodB o f r=true):=Lib.hid (decide_eq_true hg);have PG:Hid (∀ W,Calls Tryz.prog 20 #[.agg #[.int .i64 o,.int .i64 f,.int .i64 r]] W fun e w'=>e = .returned (.tuple #[pair (64 * o+f) r,.int .i64 0])∧Below W.heap.size W w'):=Lib.hid fun W=>(PU.out W).mono fun e w' ⟨h1,h2⟩=>⟨by rcases h1 with ⟨_,h1⟩ | ⟨h1,_⟩;exact h1;exact absurd hg h1,h2⟩;have C1:Hid (¬ (1≤n)→askE n o f r=1∧askB n o f r=z4):=Lib.hid fun h=>ask_err fun g=>h g.1;have C2:Hid (¬ (n≤254)→askE n o f r=1∧askB n o f r=z4):=Lib.hid fun h=>ask_err fun g=>h g.2.1;have C3:Hid (1≤n→n≤254→askE n o f r=0∧askB n o f r=(n,64 * o+f,r,ck3 n (64 * o+f) r)):=Lib.hid fun h1 h2=>ask_ok ⟨h1,h2,GB.out⟩;have C4:=Lib.hid (fun W=>checked_any W n (64 * o+f) r)
 case' neg =>
  have PB:Hid (∀ W,Calls Tryz.prog 20 #[.agg #[.int .i64 o,.int .i64 f,.int .i64 r]] W fun e w'=>e = .returned (.tuple #[pair 0 0,.int .i64 1])∧Below W.heap.size W w'):=Lib.hid fun W=>(PU.out W).mono fun e w' ⟨h1,h2⟩=>⟨by rcases h1 with ⟨h1,_⟩ | ⟨_,h1⟩;exact absurd h1 hg;exact h1,h2⟩;have C1:Hid (askE n o f r=1∧askB n o f r=z4):=Lib.hid (ask_err fun g=>hg (of_decide_eq_true g.2.2))
 case' pos =>
  unfold pair at *;clear GB PU hg
  go_enter Tryz.func5,Tryz.ntmps5
  go_wp2_with fail;generalize (w.alloc (.cells #[.int .i64 o,.int .i64 f,.int .i64 r] 24)).alloc (.cells #[.int .u8 0,.int .u8 0,.int .u8 0,.int .u8 0] 25)=W at *;refine (PG.out _).mono ?_;rintro e w1 ⟨rfl,b1⟩;have S1:=Lib.hid ((S0.out.mono b1).mono ((Below.refl w1.heap.size w1).alloc (Nat.le_refl _) (.cells #[.int .u8 (64 * o+f),.int .u8 r] 57)));have RP:=Lib.hid (heap_alloc_new w1 (.cells #[.int .u8 (64 * o+f),.int .u8 r] 57));clear b1 S0 PG;go_upto_region 2 with fail;generalize w1.alloc (.cells #[.int .u8 (64 * o+f),.int .u8 r] 57)=W1 at *;generalize w1.heap.size=g1 at *;have d0:W1.cell? ⟨w.heap.size+1,0,none⟩=some (.int .u8 0):=row_cell S1.out.res 0;have d1:W1.cell? ⟨w.heap.size+1,1,none⟩=some (.int .u8 0):=row_cell S1.out.res 1;have d2:W1.cell? ⟨w.heap.size+1,2,none⟩=some (.int .u8 0):=row_cell S1.out.res 2;have d3:W1.cell? ⟨w.heap.size+1,3,none⟩=some (.int .u8 0):=row_cell S1.out.res 3;have k0:=row_frozen S1.out.res 0;have k1:=row_frozen S1.out.res 1;have k2:=row_frozen S1.out.res 2;have k3:=row_frozen S1.out.res 3;have p0:W1.cell? ⟨g1,0,none⟩=some (.int .u8 (64 * o+f)):=row_cell RP.out 0;have p1:W1.cell? ⟨g1,1,none⟩=some (.int .u8 r):=row_cell RP.out 1
  by_cases h1:1≤n
  ·by_cases h2:n≤254
   ·have HC:=Lib.hid (C3.out h1 h2)
    have wn:IntKind.u8.wrap n=n:=by simp [IntKind.wrap,IntKind.bits,IntKind.signed];omega
    clear C1 C2 C3 RP;go_wp2_with fail;clear d0 d1 d2 d3 k0 k1 k2 k3 p0 p1;refine (C4.out W1).mono ?_;rintro e w2 ⟨rfl,b2⟩;have S2:=Lib.hid (S1.out.mono b2);clear b2 S1 C4;generalize ck3 n (64 * o+f) r=c at *;unfold rec4;have d0:w2.cell? ⟨w.heap.size+1,0,none⟩=some (.int .u8 0):=row_cell S2.out.res 0;have d1:w2.cell? ⟨w.heap.size+1,1,none⟩=some (.int .u8 0):=row_cell S2.out.res 1;have d2:w2.cell? ⟨w.heap.size+1,2,none⟩=some (.int .u8 0):=row_cell S2.out.res 2;have d3:w2.cell? ⟨w.heap.size+1,3,none⟩=some (.int .u8 0):=row_cell S2.out.res 3;have k0:=row_frozen S2.out.res 0;have k1:=row_frozen S2.out.res 1;have k2:=row_frozen S2.out.res 2;have k3:=row_frozen S2.out.res 3;have R3:=Lib.hid (st4_row S2.out.res (n,64 * o+f,r,c));have B3:=Lib.hid (sto4_below (o:=0) (r:=(n,64 * o+f,r,c)) S2.out.bel (show w.heap.size≤w.heap.size+1 by omega));clear S2;go_wp2
    (try simp only [Exit.inBlock,Exit.then])
    exact bodyPost_ret (results_a4 (p:=4) (r:=5) rfl _ _ (w.heap.size+1) (n,64 * o+f,r,c) (.int .i64 0) rfl rfl R3.out) rfl (FIN.out _ _ _ HC.out B3.out)
   ·have HC:=Lib.hid (C2.out (by omega))
    have R3:=Lib.hid (st4_row S1.out.res z4);have B3:=Lib.hid (sto4_below (o:=0) (r:=z4) S1.out.bel (show w.heap.size≤w.heap.size+1 by omega));clear C1 C2 C3 C4 RP S1;go_wp2
    (try simp only [Exit.inBlock,Exit.then])
    exact bodyPost_ret (results_a4 (p:=4) (r:=5) rfl _ _ (w.heap.size+1) z4 (.int .i64 1) rfl rfl R3.out) rfl (FIN.out _ _ _ HC.out B3.out)
  ·have HC:=Lib.hid (C1.out (by omega))
   have R3:=Lib.hid (st4_row S1.out.res z4);have B3:=Lib.hid (sto4_below (o:=0) (r:=z4) S1.out.bel (show w.heap.size≤w.heap.size+1 by omega));clear C1 C2 C3 C4 RP S1;go_wp2
   (try simp only [Exit.inBlock,Exit.then])
   exact bodyPost_ret (results_a4 (p:=4) (r:=5) rfl _ _ (w.heap.size+1) z4 (.int .i64 1) rfl rfl R3.out) rfl (FIN.out _ _ _ HC.out B3.out)
 case' neg =>
  unfold pair at *;clear PU hg
  go_enter Tryz.func5,Tryz.ntmps5
  go_wp2_with fail;generalize (w.alloc (.cells #[.int .i64 o,.int .i64 f,.int .i64 r] 24)).alloc (.cells #[.int .u8 0,.int .u8 0,.int .u8 0,.int .u8 0] 25)=W at *;refine (PB.out _).mono ?_;rintro e w1 ⟨rfl,b1⟩;have S1:=Lib.hid ((S0.out.mono b1).mono ((Below.refl w1.heap.size w1).alloc (Nat.le_refl _) (.cells #[.int .u8 0,.int .u8 0] 57)));clear b1 S0 PB;go_upto_region 2 with fail;generalize w1.alloc (.cells #[.int .u8 0,.int .u8 0] 57)=W1 at *;generalize w1.heap.size=g1 at *;have d0:W1.cell? ⟨w.heap.size+1,0,none⟩=some (.int .u8 0):=row_cell S1.out.res 0;have d1:W1.cell? ⟨w.heap.size+1,1,none⟩=some (.int .u8 0):=row_cell S1.out.res 1;have d2:W1.cell? ⟨w.heap.size+1,2,none⟩=some (.int .u8 0):=row_cell S1.out.res 2;have d3:W1.cell? ⟨w.heap.size+1,3,none⟩=some (.int .u8 0):=row_cell S1.out.res 3;have k0:=row_frozen S1.out.res 0;have k1:=row_frozen S1.out.res 1;have k2:=row_frozen S1.out.res 2;have k3:=row_frozen S1.out.res 3;have R3:=Lib.hid (st4_row S1.out.res z4);have B3:=Lib.hid (sto4_below (o:=0) (r:=z4) S1.out.bel (show w.heap.size≤w.heap.size+1 by omega));clear S1;go_wp2
  (try simp only [Exit.inBlock,Exit.then])
  exact bodyPost_ret (results_a4 (p:=4) (r:=5) rfl _ _ (w.heap.size+1) z4 (.int .i64 1) rfl rfl R3.out) rfl (FIN.out _ _ _ C1.out B3.out)
end Go.Proofs.YtelgnhmcnfibnaaGreatDoor.Sv
namespace Go.Proofs.YtelgnhmcnfibnaaGreatDoor.Sv
open Go.RowKit Go.Maps
open Fl (R4 z4 rec4 arr4 okR row_cell row_frozen sto4 sto4_below)
open Fs (results_rec)
open Rw (Rd At)
open Ad (PutPost rput_any rgood_any pair addr good goodB)
attribute [local irreducible] Sd.wpSd wpQuiet
def ckl (l:List Int):Int:=l.foldl bx 90
theorem ckl_next {l:List Int} {k:Nat} (h:k < l.length):ckl (l.take (k+1))=bx (ckl (l.take k)) (l.getD k 0):=by
 unfold ckl;rw [List.take_add_one,List.getElem?_eq_getElem h,List.foldl_append]
 simp [List.getD,h]
theorem at_byte {w:World} {b off:Nat} {l:List Int} (h:At (Rw.int .u8) w b off l) (i:Nat) (hi:i < l.length):w.cell? ⟨b,off+i,none⟩=some (.int .u8 (l.getD i 0)):=by
 have c:=h i hi 0 _ rfl;simp only [Rw.int,Nat.mul_one,Nat.add_zero] at c;exact c
set_option maxHeartbeats 400000 in
theorem rcheck_any {w:World} {v:Value} {l:List Int} (R:Rd (Rw.int .u8) w v l) (hl:l.length≤10):Calls Tryz.prog 24 #[v] w fun e w'=>e = .returned (.int .u8 (ckl l))∧Below w.heap.size w w':=by
 obtain ⟨a,cap,rfl,_,hm,hA⟩:=R;have HA:=Lib.hid hA;have NX:=Lib.hid (fun k=>ckl_next (l:=l) (k:=k));have FI:Hid (ckl (l.take l.length)=ckl l):=Lib.hid (by rw [List.take_length]);clear hA;unfold maxLen at hm;generalize hn:l.length=n at *;have HN:=Lib.hid hn;clear hn
 go_enter Tryz.func24,Tryz.ntmps24
 go_wp2
 go_loopw [3,4] (fun c i wr=>∃ k:Nat,k≤n∧i = .int .i64 k∧c = .int .u8 (ckl (l.take k))∧wr=w) (fun _ i _=>n - (intOf i).toNat)
 case atStart=>exact ⟨0,Nat.zero_le _,rfl,rfl,rfl⟩
 case round =>
  obtain ⟨k,hk,rfl,rfl,rfl⟩:=hrel
  by_cases hlt:k < n
  ·obtain ⟨b,off,rfl,A⟩:=HA.out (by omega)
   have c0:=at_byte A k (by have:=HN.out;omega);have NK:=Lib.hid (NX.out k hlt);clear A NX;generalize l.getD k 0=x at *;unfold bx at NK;go_wp2
   go_roundw
   case rel=>exact ⟨k+1,by omega,by go_num,by rw [NK.out],trivial⟩
   case measure=>simp [intOf];omega
  ·obtain rfl:k=n:=by omega
   have FI':=FI.out;rw [FI'];go_wp2
   go_ret
   exact ⟨rfl,Below.refl _ _⟩
def Bx (g:Nat) (cs:Array Value) (T:TypeId) (W:World):Prop:=W.heap[g]? = some (.cells cs T (0,0))
theorem Bx.below {g:Nat} {cs:Array Value} {T:TypeId} {w w':World} (h:Bx g cs T w) (b:Below w.heap.size w w'):Bx g cs T w':=(b.block g (lt_of_block h)).trans h
set_option maxHeartbeats 1000000 in
theorem rdata_any (w:World) (v:R4):Calls Tryz.prog 14 #[rec4 v] w fun e w'=>e = .returned (val5 (datB v))∧Below w.heap.size w w':=by
 have T0:=two_new w (.cells #[.int .u8 v.1,.int .u8 v.2.1,.int .u8 v.2.2.1,.int .u8 v.2.2.2] 26) (.cells #[.int .u8 0,.int .u8 0,.int .u8 0,.int .u8 0,.int .u8 0] 27);have T1:Bx w.heap.size (arr4 v) 26 ((w.alloc (.cells #[.int .u8 v.1,.int .u8 v.2.1,.int .u8 v.2.2.1,.int .u8 v.2.2.2] 26)).alloc (.cells #[.int .u8 0,.int .u8 0,.int .u8 0,.int .u8 0,.int .u8 0] 27)):=(Below.heap_alloc _ _ _ (by simp)).trans (heap_alloc_new w _);have BX:=Lib.hid T1;have BR:Hid (Bx (w.heap.size+1) (arr5 z5) 27 ((w.alloc (.cells #[.int .u8 v.1,.int .u8 v.2.1,.int .u8 v.2.2.1,.int .u8 v.2.2.2] 26)).alloc (.cells #[.int .u8 0,.int .u8 0,.int .u8 0,.int .u8 0,.int .u8 0] 27))):=Lib.hid T0.1;have BL:=Lib.hid T0.2;have DV:Hid (datB v=(v.1,v.2.1,v.2.2.1,v.2.2.2,ck4 v.1 v.2.1 v.2.2.1 v.2.2.2)):=Lib.hid rfl;have CK:Hid (∀ W s,Rd (Rw.int .u8) W s [v.1,v.2.1,v.2.2.1,v.2.2.2]→Calls Tryz.prog 24 #[s] W fun e w'=>e = .returned (.int .u8 (ck4 v.1 v.2.1 v.2.2.1 v.2.2.2))∧Below W.heap.size W w'):=Lib.hid fun W s h=>rcheck_any h (by simp);generalize ck4 v.1 v.2.1 v.2.2.1 v.2.2.2=c at *;clear T0 T1;unfold rec4
 go_enter Tryz.func14,Tryz.ntmps14
 go_upto_region 1 with fail;generalize (w.alloc (.cells #[.int .u8 v.1,.int .u8 v.2.1,.int .u8 v.2.2.1,.int .u8 v.2.2.2] 26)).alloc (.cells #[.int .u8 0,.int .u8 0,.int .u8 0,.int .u8 0,.int .u8 0] 27)=W at *;have x0:=Sc.cell_in (C:=Bx w.heap.size (arr4 v) 26) (a:=⟨w.heap.size,0,none⟩) (v:=.int .u8 v.1) (fun W' h=>row_cell h 0);have x1:=Sc.cell_in (C:=Bx w.heap.size (arr4 v) 26) (a:=⟨w.heap.size,1,none⟩) (v:=.int .u8 v.2.1) (fun W' h=>row_cell h 1);have x2:=Sc.cell_in (C:=Bx w.heap.size (arr4 v) 26) (a:=⟨w.heap.size,2,none⟩) (v:=.int .u8 v.2.2.1) (fun W' h=>row_cell h 2);have x3:=Sc.cell_in (C:=Bx w.heap.size (arr4 v) 26) (a:=⟨w.heap.size,3,none⟩) (v:=.int .u8 v.2.2.2) (fun W' h=>row_cell h 3);have ne:Nonempty (Sc.In (Bx w.heap.size (arr4 v) 26)):=⟨⟨W,BX.out⟩⟩;refine Sc.start (Bx w.heap.size (arr4 v) 26) [(false,0),(false,1),(false,2),(false,3),(false,4),(false,5),(false,6),(false,7),(false,8),(false,9),(false,10),(false,11),(false,12),(false,13),(false,14),(false,15),(true,16),(true,17),(false,18),(true,19)] (by kernel_rfl) (by kernel_rfl) (by kernel_rfl) BX.out ?_;dsimp only [Sd.picks,List.getElem?_cons_succ,List.getElem?_cons_zero]
 repeat (refine Sd.lit ?_;quiet_step (fail);refine wpQuiet_nil ?_)
 have BX1:Hid (Bx w.heap.size (arr4 v) 26 W.drew):=BX;have BR1:Hid (Bx (w.heap.size+1) (arr5 z5) 27 W.drew):=BR;have BL1:Hid (Below w.heap.size w W.drew):=Lib.hid BL.out.drew;clear BX BR BL;generalize W.drew=W1 at *;refine Sd.call (by rfl) (fun K hK=>?_);go_simp;have b2:Below W1.heap.size W1 (W1.alloc (.cells #[.int .u8 v.1,.int .u8 v.2.1,.int .u8 v.2.2.1,.int .u8 v.2.2.2] 5)):=(Below.refl _ _).alloc (Nat.le_refl _) _;have RD:Hid (Rd (Rw.int .u8) (W1.alloc (.cells #[.int .u8 v.1,.int .u8 v.2.1,.int .u8 v.2.2.1,.int .u8 v.2.2.2] 5)) (.slice (some ⟨W1.heap.size,0,none⟩) 4 4) [v.1,v.2.1,v.2.2.1,v.2.2.2]):=Lib.hid (Rw.Ow.lit (K:=Rw.int .u8) W1 0 5 [v.1,v.2.1,v.2.2.1,v.2.2.2] (Nat.zero_le _) (by unfold maxLen;simp)).rd;have BX2:=Lib.hid (BX1.out.below b2);have BR2:=Lib.hid (BR1.out.below b2);have BL2:=Lib.hid (BL1.out.trans (b2.mono BL1.out.size));refine hK _ _ (Sc.Cl.of BX2.out) ?_;clear hK K b2 BX1 BR1 BL1;generalize W1.alloc (.cells #[.int .u8 v.1,.int .u8 v.2.1,.int .u8 v.2.2.1,.int .u8 v.2.2.2] 5)=W2 at *;generalize W1.heap.size=g2 at *;refine Sd.call (by rfl) (fun K hK=>?_);go_simp;refine (CK.out _ _ RD.out).mono ?_;rintro e w3 ⟨rfl,b3⟩;have BX3:=Lib.hid (BX2.out.below b3);have BR3:=BR2.out.below b3;have BL3:=Lib.hid (BL2.out.trans (b3.mono BL2.out.size));refine hK _ _ (Sc.Cl.of BX3.out) ?_;clear hK K b3 BX2 BR2 BL2 RD
 repeat (refine Sd.lit ?_;quiet_step (fail);refine wpQuiet_nil ?_)
 clear x0 x1 x2 x3;have d0:w3.cell? ⟨w.heap.size+1,0,none⟩=some (.int .u8 0):=row_cell BR3 0;have d1:w3.cell? ⟨w.heap.size+1,1,none⟩=some (.int .u8 0):=row_cell BR3 1;have d2:w3.cell? ⟨w.heap.size+1,2,none⟩=some (.int .u8 0):=row_cell BR3 2;have d3:w3.cell? ⟨w.heap.size+1,3,none⟩=some (.int .u8 0):=row_cell BR3 3;have d4:w3.cell? ⟨w.heap.size+1,4,none⟩=some (.int .u8 0):=row_cell BR3 4;have k0:=row_frozen BR3 0;have k1:=row_frozen BR3 1;have k2:=row_frozen BR3 2;have k3:=row_frozen BR3 3;have k4:=row_frozen BR3 4;have R3:=Lib.hid (st5_row BR3 (v.1,v.2.1,v.2.2.1,v.2.2.2,c));have BX4:Hid (Bx w.heap.size (arr4 v) 26 (sto5 w3 (w.heap.size+1) (v.1,v.2.1,v.2.2.1,v.2.2.2,c))):=Lib.hid (st5_other BX3.out (by omega));have BL4:=Lib.hid (st5_below (r:=(v.1,v.2.1,v.2.2.1,v.2.2.2,c)) BL3.out (show w.heap.size≤w.heap.size+1 by omega));clear BR3 BX3 BL3;refine Sd.call (by rfl) (fun K hK=>?_);go_simp;refine hK _ _ (Sc.Cl.of BX4.out) ?_;clear hK K d0 d1 d2 d3 d4 k0 k1 k2 k3 k4
 show Sd.wpSd _ _ _ _ _ _ (sto5 w3 (w.heap.size+1) (v.1,v.2.1,v.2.2.1,v.2.2.2,c))
 generalize sto5 w3 (w.heap.size+1) (v.1,v.2.1,v.2.2.1,v.2.2.2,c)=W5 at *;refine Sd.done ?_;go_wp2
 (try simp only [Exit.inBlock,Exit.then])
 refine bodyPost_ret (result_b5 (p:=2) rfl _ _ (w.heap.size+1) (v.1,v.2.1,v.2.2.1,v.2.2.2,c) rfl R3.out) rfl ⟨?_,BL4.out⟩;rw [DV.out]
theorem ix5 (x0 x1 x2 x3 x4:Int) (w:World):(Instr.index 27 (.agg #[.int .u8 x0,.int .u8 x1,.int .u8 x2,.int .u8 x3,.int .u8 x4]) (.int .i64 4)).run Tryz.prog w = .ok (.int .u8 x4) w:=by
 simp [Instr.index,asIntOf,run_underlying Tryz.underlying27,go_sem,part]
set_option maxHeartbeats 1000000 in
theorem ropen_any (w:World) (b:B5):Calls Tryz.prog 8 #[val5 b] w (OpnPost w b):=by
 have S0:Hid (Op0 w b (((w.alloc (.cells #[.int .u8 b.1,.int .u8 b.2.1,.int .u8 b.2.2.1,.int .u8 b.2.2.2.1,.int .u8 b.2.2.2.2] 27)).alloc (.cells #[.int .u8 0,.int .u8 0,.int .u8 0,.int .u8 0] 26)).alloc (.cells #[.int .u8 b.1,.int .u8 b.2.1,.int .u8 b.2.2.1,.int .u8 b.2.2.2.1] 26))):=Lib.hid (op0_of w b);have DA:Hid (∀ W,Calls Tryz.prog 14 #[.agg #[.int .u8 b.1,.int .u8 b.2.1,.int .u8 b.2.2.1,.int .u8 b.2.2.2.1]] W fun e w'=>e = .returned (.agg #[.int .u8 b.1,.int .u8 b.2.1,.int .u8 b.2.2.1,.int .u8 b.2.2.2.1,.int .u8 (ck4 b.1 b.2.1 b.2.2.1 b.2.2.2.1)])∧Below W.heap.size W w'):=Lib.hid fun W=>rdata_any W (b.1,b.2.1,b.2.2.1,b.2.2.2.1);have FIN:Hid (∀ e v w',e=opnE b→v=opnV b→Below w.heap.size w w'→OpnPost w b (.returned (.tuple #[rec4 v,.int .i64 e])) w'):=Lib.hid fun e v w' h1 h2 h3=>by subst h1 h2;exact ⟨rfl,h3⟩
 unfold val5
 by_cases h:ck4 b.1 b.2.1 b.2.2.1 b.2.2.2.1=b.2.2.2.2
 ·have OV:Hid (opnE b=0∧opnV b=(b.1,b.2.1,b.2.2.1,b.2.2.2.1)):=Lib.hid (by
   have e0:opnE b=0:=if_pos h
   exact ⟨e0,by unfold opnV;rw [if_pos e0]⟩)
  rw [h] at DA;have TST:(b.2.2.2.2 != b.2.2.2.2)=false:=by simp
  clear h
  go_enter Tryz.func8,Tryz.ntmps8
  go_upto_region 2 with fail;generalize (((w.alloc (.cells #[.int .u8 b.1,.int .u8 b.2.1,.int .u8 b.2.2.1,.int .u8 b.2.2.2.1,.int .u8 b.2.2.2.2] 27)).alloc (.cells #[.int .u8 0,.int .u8 0,.int .u8 0,.int .u8 0] 26)).alloc (.cells #[.int .u8 b.1,.int .u8 b.2.1,.int .u8 b.2.2.1,.int .u8 b.2.2.2.1] 26))=W at *;have x0:=Qb.cell_by (show W.cell? ⟨w.heap.size+2,0,none⟩=some (.int .u8 b.1) from row_cell S0.out.v 0);have x1:=Qb.cell_by (show W.cell? ⟨w.heap.size+2,1,none⟩=some (.int .u8 b.2.1) from row_cell S0.out.v 1);have x2:=Qb.cell_by (show W.cell? ⟨w.heap.size+2,2,none⟩=some (.int .u8 b.2.2.1) from row_cell S0.out.v 2);have x3:=Qb.cell_by (show W.cell? ⟨w.heap.size+2,3,none⟩=some (.int .u8 b.2.2.2.1) from row_cell S0.out.v 3);have y4:=Qb.cell_by (show W.cell? ⟨w.heap.size,4,none⟩=some (.int .u8 b.2.2.2.2) from row_cell S0.out.arg 4);have ix:=ix5;refine Qb.wp_region_by (by kernel_rfl) (by kernel_rfl) ?_
  repeat (quiet_step ((first | (go_at_call 14;with_reducible exact Qb.of_below (DA.out _)))))
  refine wpQuiet_nil ?_;clear x0 x1 x2 x3 y4 ix
  intro _ hw'
  obtain ⟨p,rfl⟩:=hw';obtain ⟨W2,b2⟩:=p;simp only;have S2:=Lib.hid (S0.out.mono b2);clear b2 S0;have d0:W2.cell? ⟨w.heap.size+1,0,none⟩=some (.int .u8 0):=row_cell S2.out.res 0;have d1:W2.cell? ⟨w.heap.size+1,1,none⟩=some (.int .u8 0):=row_cell S2.out.res 1;have d2:W2.cell? ⟨w.heap.size+1,2,none⟩=some (.int .u8 0):=row_cell S2.out.res 2;have d3:W2.cell? ⟨w.heap.size+1,3,none⟩=some (.int .u8 0):=row_cell S2.out.res 3;have k0:=row_frozen S2.out.res 0;have k1:=row_frozen S2.out.res 1;have k2:=row_frozen S2.out.res 2;have k3:=row_frozen S2.out.res 3;have x0:W2.cell? ⟨w.heap.size+2,0,none⟩=some (.int .u8 b.1):=row_cell S2.out.v 0;have x1:W2.cell? ⟨w.heap.size+2,1,none⟩=some (.int .u8 b.2.1):=row_cell S2.out.v 1;have x2:W2.cell? ⟨w.heap.size+2,2,none⟩=some (.int .u8 b.2.2.1):=row_cell S2.out.v 2;have x3:W2.cell? ⟨w.heap.size+2,3,none⟩=some (.int .u8 b.2.2.2.1):=row_cell S2.out.v 3;have R3:=Lib.hid (Fl.sto4_row S2.out.res (b.1,b.2.1,b.2.2.1,b.2.2.2.1));have B3:=Lib.hid (sto4_below (o:=0) (r:=(b.1,b.2.1,b.2.2.1,b.2.2.2.1)) S2.out.bel (show w.heap.size≤w.heap.size+1 by omega));clear S2;go_wp2
  (try simp only [Exit.inBlock,Exit.then])
  exact bodyPost_ret (results_rec (p:=2) (r:=3) rfl _ _ (w.heap.size+1) (b.1,b.2.1,b.2.2.1,b.2.2.2.1) (.int .i64 0) rfl rfl R3.out) rfl (FIN.out _ _ _ OV.out.1.symm OV.out.2.symm B3.out)
 ·have OV:Hid (opnE b=14∧opnV b=z4):=Lib.hid (by
   have e0:opnE b=14:=if_neg h
   exact ⟨e0,by unfold opnV;rw [if_neg (by rw [e0];decide)]⟩)
  generalize ck4 b.1 b.2.1 b.2.2.1 b.2.2.2.1=c at *;have TST:(c != b.2.2.2.2)=true:=by simpa using h
  clear h
  go_enter Tryz.func8,Tryz.ntmps8
  go_upto_region 2 with fail;generalize (((w.alloc (.cells #[.int .u8 b.1,.int .u8 b.2.1,.int .u8 b.2.2.1,.int .u8 b.2.2.2.1,.int .u8 b.2.2.2.2] 27)).alloc (.cells #[.int .u8 0,.int .u8 0,.int .u8 0,.int .u8 0] 26)).alloc (.cells #[.int .u8 b.1,.int .u8 b.2.1,.int .u8 b.2.2.1,.int .u8 b.2.2.2.1] 26))=W at *;have x0:=Qb.cell_by (show W.cell? ⟨w.heap.size+2,0,none⟩=some (.int .u8 b.1) from row_cell S0.out.v 0);have x1:=Qb.cell_by (show W.cell? ⟨w.heap.size+2,1,none⟩=some (.int .u8 b.2.1) from row_cell S0.out.v 1);have x2:=Qb.cell_by (show W.cell? ⟨w.heap.size+2,2,none⟩=some (.int .u8 b.2.2.1) from row_cell S0.out.v 2);have x3:=Qb.cell_by (show W.cell? ⟨w.heap.size+2,3,none⟩=some (.int .u8 b.2.2.2.1) from row_cell S0.out.v 3);have y4:=Qb.cell_by (show W.cell? ⟨w.heap.size,4,none⟩=some (.int .u8 b.2.2.2.2) from row_cell S0.out.arg 4);have ix:=ix5;refine Qb.wp_region_by (by kernel_rfl) (by kernel_rfl) ?_
  repeat (quiet_step ((first | (go_at_call 14;with_reducible exact Qb.of_below (DA.out _)))))
  refine wpQuiet_nil ?_;clear x0 x1 x2 x3 y4 ix
  intro _ hw'
  obtain ⟨p,rfl⟩:=hw';obtain ⟨W2,b2⟩:=p;simp only;have S2:=Lib.hid (S0.out.mono b2);clear b2 S0;have d0:W2.cell? ⟨w.heap.size+1,0,none⟩=some (.int .u8 0):=row_cell S2.out.res 0;have d1:W2.cell? ⟨w.heap.size+1,1,none⟩=some (.int .u8 0):=row_cell S2.out.res 1;have d2:W2.cell? ⟨w.heap.size+1,2,none⟩=some (.int .u8 0):=row_cell S2.out.res 2;have d3:W2.cell? ⟨w.heap.size+1,3,none⟩=some (.int .u8 0):=row_cell S2.out.res 3;have k0:=row_frozen S2.out.res 0;have k1:=row_frozen S2.out.res 1;have k2:=row_frozen S2.out.res 2;have k3:=row_frozen S2.out.res 3;have x0:W2.cell? ⟨w.heap.size+2,0,none⟩=some (.int .u8 b.1):=row_cell S2.out.v 0;have x1:W2.cell? ⟨w.heap.size+2,1,none⟩=some (.int .u8 b.2.1):=row_cell S2.out.v 1;have x2:W2.cell? ⟨w.heap.size+2,2,none⟩=some (.int .u8 b.2.2.1):=row_cell S2.out.v 2;have x3:W2.cell? ⟨w.heap.size+2,3,none⟩=some (.int .u8 b.2.2.2.1):=row_cell S2.out.v 3;have R3:=Lib.hid (Fl.sto4_row S2.out.res z4);have B3:=Lib.hid (sto4_below (o:=0) (r:=z4) S2.out.bel (show w.heap.size≤w.heap.size+1 by omega));clear S2;go_wp2
  (try simp only [Exit.inBlock,Exit.then])
  exact bodyPost_ret (results_rec (p:=2) (r:=3) rfl _ _ (w.heap.size+1) z4 (.int .i64 14) rfl rfl R3.out) rfl (FIN.out _ _ _ OV.out.1.symm OV.out.2.symm B3.out)
set_option maxHeartbeats 2000000 in
theorem rask_any (w:World) (n o f r:Int):Calls Tryz.prog 6 #[.int .i64 n,addr o f r] w (AskPost w n o f r):=by
 have S0:Hid (As0 w ((w.alloc (.cells #[.int .i64 o,.int .i64 f,.int .i64 r] 24)).alloc (.cells #[.int .u8 0,.int .u8 0,.int .u8 0,.int .u8 0] 25))):=Lib.hid (as0_of w _);have PU:=Lib.hid (fun W=>rput_any W o f r);have GO:=Lib.hid (fun W=>rgood_any W o f r);have FIN:Hid (∀ e v w',askE n o f r=e∧askB n o f r=v→Below w.heap.size w w'→AskPost w n o f r (.returned (.tuple #[rec4 v,.int .i64 e])) w'):=Lib.hid fun e v w' h1 h3=>by rw [← h1.1,← h1.2];exact ⟨rfl,h3⟩
 have R0:=Lib.hid (two_new w (.cells #[.int .i64 o,.int .i64 f,.int .i64 r] 24) (.cells (arr4 z4) 25));have A0:Hid (Bx w.heap.size #[.int .i64 o,.int .i64 f,.int .i64 r] 24 ((w.alloc (.cells #[.int .i64 o,.int .i64 f,.int .i64 r] 24)).alloc (.cells #[.int .u8 0,.int .u8 0,.int .u8 0,.int .u8 0] 25))):=Lib.hid ((Below.heap_alloc _ _ _ (by simp)).trans (heap_alloc_new w _));unfold addr PutPost at *
 by_cases h1:n < 1
 ·have HC:=Lib.hid (ask_err (n:=n) (o:=o) (f:=f) (r:=r) fun g=>by have:=g.1;omega)
  clear PU GO S0
  go_enter Tryz.func6,Tryz.ntmps6
  go_wp2
  (try simp only [Exit.inBlock,Exit.then])
  exact bodyPost_ret (results_a4 (p:=4) (r:=5) rfl _ _ (w.heap.size+1) z4 (.int .i64 1) rfl rfl R0.out.1) rfl (FIN.out _ _ _ HC.out R0.out.2)
 by_cases h2:254 < n
 ·have HC:=Lib.hid (ask_err (n:=n) (o:=o) (f:=f) (r:=r) fun g=>by have:=g.2.1;omega)
  clear PU GO S0
  go_enter Tryz.func6,Tryz.ntmps6
  go_wp2
  (try simp only [Exit.inBlock,Exit.then])
  exact bodyPost_ret (results_a4 (p:=4) (r:=5) rfl _ _ (w.heap.size+1) z4 (.int .i64 1) rfl rfl R0.out.1) rfl (FIN.out _ _ _ HC.out R0.out.2)
 clear R0
 by_cases hg:good o f r
 ·have GB:goodB o f r=true:=decide_eq_true hg
  have HC:=Lib.hid (ask_ok (n:=n) (o:=o) (f:=f) (r:=r) ⟨by omega,by omega,GB⟩);have PG:Hid (∀ W,Calls Tryz.prog 23 #[.agg #[.int .i64 o,.int .i64 f,.int .i64 r]] W fun e w'=>e = .returned (.tuple #[.agg #[.int .u8 (64 * o+f),.int .u8 r],.int .i64 0])∧Below W.heap.size W w'):=Lib.hid fun W=>(PU.out W).mono fun e w' ⟨h1,h2⟩=>⟨by rcases h1 with ⟨_,h1⟩ | ⟨h1,_⟩;exact h1;exact absurd hg h1,h2⟩;have CK:Hid (∀ W s,Rd (Rw.int .u8) W s [n,64 * o+f,r]→Calls Tryz.prog 24 #[s] W fun e w'=>e = .returned (.int .u8 (ck3 n (64 * o+f) r))∧Below W.heap.size W w'):=Lib.hid fun W s h=>rcheck_any h (by simp);have wn:IntKind.u8.wrap n=n:=by simp [IntKind.wrap,IntKind.bits,IntKind.signed];omega
  rw [GB] at GO;generalize ck3 n (64 * o+f) r=c at *;generalize 64 * o+f=a at *;clear PU hg GB
  go_enter Tryz.func6,Tryz.ntmps6
  go_wp2_with fail;generalize (w.alloc (.cells #[.int .i64 o,.int .i64 f,.int .i64 r] 24)).alloc (.cells #[.int .u8 0,.int .u8 0,.int .u8 0,.int .u8 0] 25)=W at *;refine (GO.out W).mono ?_;rintro e w1 ⟨rfl,b1⟩;have S1:=Lib.hid (S0.out.mono b1);have A1:=Lib.hid (A0.out.below b1);clear b1 S0 A0 GO;have a0:w1.cell? ⟨w.heap.size,0,none⟩=some (.int .i64 o):=row_cell A1.out 0;have a1:w1.cell? ⟨w.heap.size,1,none⟩=some (.int .i64 f):=row_cell A1.out 1;have a2:w1.cell? ⟨w.heap.size,2,none⟩=some (.int .i64 r):=row_cell A1.out 2;go_wp2_with fail;clear a0 a1 a2 A1;refine (PG.out w1).mono ?_;rintro e w2 ⟨rfl,b2⟩;have S2:=Lib.hid ((S1.out.mono b2).mono ((Below.refl w2.heap.size w2).alloc (Nat.le_refl _) (.cells #[.int .u8 a,.int .u8 r] 57)));have P2:Hid (Bx w2.heap.size #[.int .u8 a,.int .u8 r] 57 (w2.alloc (.cells #[.int .u8 a,.int .u8 r] 57))):=Lib.hid (heap_alloc_new w2 _);have NE:Hid (w2.heap.size≠w.heap.size+1):=Lib.hid (by have:=(S1.out.mono b2).siz;omega);clear b2 S1 PG;go_upto_region 4 with fail;generalize w2.alloc (.cells #[.int .u8 a,.int .u8 r] 57)=W2 at *;generalize w2.heap.size=g2 at *;have x0:=Sc.cell_in (C:=Bx g2 #[.int .u8 a,.int .u8 r] 57) (a:=⟨g2,0,none⟩) (v:=.int .u8 a) (fun W' h=>row_cell h 0);have x1:=Sc.cell_in (C:=Bx g2 #[.int .u8 a,.int .u8 r] 57) (a:=⟨g2,1,none⟩) (v:=.int .u8 r) (fun W' h=>row_cell h 1);have ne:Nonempty (Sc.In (Bx g2 #[.int .u8 a,.int .u8 r] 57)):=⟨⟨W2,P2.out⟩⟩;refine Sc.start (Bx g2 #[.int .u8 a,.int .u8 r] 57) [(false,0),(false,1),(false,2),(false,3),(false,4),(false,5),(false,6),(false,7),(false,8),(false,9),(false,10),(false,11),(true,12),(true,13),(false,14),(true,15),(false,16)] (by kernel_rfl) (by kernel_rfl) (by kernel_rfl) P2.out ?_;dsimp only [Sd.picks,List.getElem?_cons_succ,List.getElem?_cons_zero]
  repeat (refine Sd.lit ?_;quiet_step (fail);refine wpQuiet_nil ?_)
  have S3:=Lib.hid (S2.out.mono (Below.refl W2.heap.size W2).drew);have P3:Hid (Bx g2 #[.int .u8 a,.int .u8 r] 57 W2.drew):=P2;clear S2 P2;generalize W2.drew=W3 at *;refine Sd.call (by rfl) (fun K hK=>?_);go_simp;have b4:Below W3.heap.size W3 (W3.alloc (.cells #[.int .u8 n,.int .u8 a,.int .u8 r] 5)):=(Below.refl _ _).alloc (Nat.le_refl _) _;have RD:Hid (Rd (Rw.int .u8) (W3.alloc (.cells #[.int .u8 n,.int .u8 a,.int .u8 r] 5)) (.slice (some ⟨W3.heap.size,0,none⟩) 3 3) [n,a,r]):=Lib.hid (Rw.Ow.lit (K:=Rw.int .u8) W3 0 5 [n,a,r] (Nat.zero_le _) (by unfold maxLen;simp)).rd;have S4:=Lib.hid (S3.out.mono b4);have P4:=Lib.hid (P3.out.below b4);refine hK _ _ (Sc.Cl.of P4.out) ?_;clear hK K b4 S3 P3;generalize W3.alloc (.cells #[.int .u8 n,.int .u8 a,.int .u8 r] 5)=W4 at *;generalize W3.heap.size=g4 at *;refine Sd.call (by rfl) (fun K hK=>?_);go_simp;refine (CK.out _ _ RD.out).mono ?_;rintro e w5 ⟨rfl,b5⟩;have S5:=Lib.hid (S4.out.mono b5);have P5:=Lib.hid (P4.out.below b5);refine hK _ _ (Sc.Cl.of P5.out) ?_;clear hK K b5 S4 P4 RD
  repeat (refine Sd.lit ?_;quiet_step (fail);refine wpQuiet_nil ?_)
  have d0:w5.cell? ⟨w.heap.size+1,0,none⟩=some (.int .u8 0):=row_cell S5.out.res 0;have d1:w5.cell? ⟨w.heap.size+1,1,none⟩=some (.int .u8 0):=row_cell S5.out.res 1;have d2:w5.cell? ⟨w.heap.size+1,2,none⟩=some (.int .u8 0):=row_cell S5.out.res 2;have d3:w5.cell? ⟨w.heap.size+1,3,none⟩=some (.int .u8 0):=row_cell S5.out.res 3;have k0:=row_frozen S5.out.res 0;have k1:=row_frozen S5.out.res 1;have k2:=row_frozen S5.out.res 2;have k3:=row_frozen S5.out.res 3;have R3:=Lib.hid (st4_row S5.out.res (n,a,r,c));have B3:=Lib.hid (sto4_below (o:=0) (r:=(n,a,r,c)) S5.out.bel (show w.heap.size≤w.heap.size+1 by omega));have P6:Hid (Bx g2 #[.int .u8 a,.int .u8 r] 57 (sto4 w5 (w.heap.size+1) 0 (n,a,r,c))):=Lib.hid (Fl.sto4_other P5.out NE.out);clear S5 P5;refine Sd.call (by rfl) (fun K hK=>?_);go_simp;refine hK _ _ (Sc.Cl.of P6.out) ?_;clear hK K d0 d1 d2 d3 k0 k1 k2 k3 P6
  show Sd.wpSd _ _ _ _ _ _ (sto4 w5 (w.heap.size+1) 0 (n,a,r,c))
  generalize sto4 w5 (w.heap.size+1) 0 (n,a,r,c)=W6 at *
  repeat (refine Sd.lit ?_;quiet_step (fail);refine wpQuiet_nil ?_)
  refine Sd.done ?_;go_wp2
  (try simp only [Exit.inBlock,Exit.then])
  exact bodyPost_ret (results_a4 (p:=4) (r:=5) rfl _ _ (w.heap.size+1) (n,a,r,c) (.int .i64 0) rfl rfl R3.out) rfl (FIN.out _ _ _ HC.out B3.out)
 ·have HC:=Lib.hid (ask_err (n:=n) (o:=o) (f:=f) (r:=r) fun g=>hg (of_decide_eq_true g.2.2))
  have GB:goodB o f r=false:=decide_eq_false hg;rw [GB] at GO;clear PU hg GB A0
  go_enter Tryz.func6,Tryz.ntmps6
  go_wp2_with fail;generalize (w.alloc (.cells #[.int .i64 o,.int .i64 f,.int .i64 r] 24)).alloc (.cells #[.int .u8 0,.int .u8 0,.int .u8 0,.int .u8 0] 25)=W at *;refine (GO.out W).mono ?_;rintro e w1 ⟨rfl,b1⟩;have S1:=Lib.hid (S0.out.mono b1);clear b1 S0 GO;have d0:w1.cell? ⟨w.heap.size+1,0,none⟩=some (.int .u8 0):=row_cell S1.out.res 0;have d1:w1.cell? ⟨w.heap.size+1,1,none⟩=some (.int .u8 0):=row_cell S1.out.res 1;have d2:w1.cell? ⟨w.heap.size+1,2,none⟩=some (.int .u8 0):=row_cell S1.out.res 2;have d3:w1.cell? ⟨w.heap.size+1,3,none⟩=some (.int .u8 0):=row_cell S1.out.res 3;have k0:=row_frozen S1.out.res 0;have k1:=row_frozen S1.out.res 1;have k2:=row_frozen S1.out.res 2;have k3:=row_frozen S1.out.res 3;have R3:=Lib.hid (st4_row S1.out.res z4);have B3:=Lib.hid (sto4_below (o:=0) (r:=z4) S1.out.bel (show w.heap.size≤w.heap.size+1 by omega));clear S1;go_wp2
  (try simp only [Exit.inBlock,Exit.then])
  exact bodyPost_ret (results_a4 (p:=4) (r:=5) rfl _ _ (w.heap.size+1) z4 (.int .i64 1) rfl rfl R3.out) rfl (FIN.out _ _ _ HC.out B3.out)
end Go.Proofs.YtelgnhmcnfibnaaGreatDoor.Sv
namespace Go.Proofs.YtelgnhmcnfibnaaGreatDoor.Fs
open Go.RowKit Go.Maps
open Fl (R4 z4 K4 rec4 rat goodF goodFB okR okL doE newR file arr4 sto2 sto4 sto2_row sto2_other sto2_below sto2_size sto2_off sto4_row sto4_other sto4_below sto4_size row_cell row_frozen own_form ret_bool at4)
open Rw (Rd Ow At)
theorem gB_none {C:List Ent} {n r:Int} (h:look Ent.n n C=none):gB (C.map Ent.abs) n r=false:=by unfold gB;rw [abs_look,h];rfl
theorem gB_some {C:List Ent} {n r:Int} {c:Ent} (h:look Ent.n n C=some c):gB (C.map Ent.abs) n r=decide (0≤r∧r < c.l.length):=by unfold gB;rw [abs_look,h];rfl
theorem gV_none {C:List Ent} {n r:Int} (h:look Ent.n n C=none):gV (C.map Ent.abs) n r=z4:=by unfold gV;rw [abs_look,h];rfl
theorem gV_some {C:List Ent} {n r:Int} {c:Ent} (h:look Ent.n n C=some c):gV (C.map Ent.abs) n r=if 0≤r∧r < c.l.length then rat c.l r.toNat else z4:=by unfold gV;rw [abs_look,h];rfl
set_option maxHeartbeats 400000 in
theorem has_any {w:World} {s:Nat} {F:Nat→Prop} {m:Value} {C:List Ent} {d:Int} (S:Sto w s F m C d) {n:Int} (hn:Wf n) (r:Int) :
 Calls Tryz.prog 48 #[.pointer (some ⟨s,0,none⟩),.int .i64 n,.int .i64 r] w fun e w'=>e = .returned (.bool (gB (C.map Ent.abs) n r))∧Below w.heap.size w w':=by
 have hF:=run_fieldF;have c0:w.cell? ⟨s,0,none⟩=some m:=row_cell S.row 0;have M:=Lib.hid S.mp;have HN:=Lib.hid hn;clear S hn
 cases hk:look Ent.n n C with
 | none =>
   have E:=Lib.hid (gB_none (r:=r) hk);have L:=Lib.hid (lv_none hk);clear hk
   by_cases hr:0≤r
   ·go_enter Tryz.func48,Tryz.ntmps48
    go_wp2_with (at_lookup;refine at_look0 rfl _ _ rfl M.out rfl _ rfl HN.out _ L.out ?_)
    go_ret
    exact ⟨ret_bool (by rw [E.out];exact decide_eq_false (by omega)),Below.refl _ _⟩
   ·go_enter Tryz.func48,Tryz.ntmps48
    go_wp2_with (at_lookup;refine at_look0 rfl _ _ rfl M.out rfl _ rfl HN.out _ L.out ?_)
    go_ret
    exact ⟨ret_bool E.out.symm,Below.refl _ _⟩
 | some c =>
   have E:=Lib.hid (gB_some (r:=r) hk);have L:=Lib.hid (lv_some hk);clear hk;generalize c.l.length=k at *
   by_cases hr:0≤r
   ·by_cases h2:r < (k:Int)
    ·go_enter Tryz.func48,Tryz.ntmps48
     go_wp2_with (at_lookup;refine at_look0 rfl _ _ rfl M.out rfl _ rfl HN.out _ L.out ?_)
     go_ret
     exact ⟨ret_bool (by rw [E.out,decide_eq_true ⟨hr,h2⟩]),Below.refl _ _⟩
    ·go_enter Tryz.func48,Tryz.ntmps48
     go_wp2_with (at_lookup;refine at_look0 rfl _ _ rfl M.out rfl _ rfl HN.out _ L.out ?_)
     go_ret
     exact ⟨ret_bool (by rw [E.out,decide_eq_false (fun h=>by omega)]),Below.refl _ _⟩
   ·go_enter Tryz.func48,Tryz.ntmps48
    go_wp2_with (at_lookup;refine at_look0 rfl _ _ rfl M.out rfl _ rfl HN.out _ L.out ?_)
    go_ret
    exact ⟨ret_bool (by rw [E.out,decide_eq_false (fun h=>by omega)]),Below.refl _ _⟩
def GetPost (w:World) (y:R4) (b:Bool) (e:Ending) (w':World):Prop:=e = .returned (.tuple #[rec4 y,.bool b])∧Below w.heap.size w w'
theorem one_rec (w:World):(w.alloc (.cells (arr4 z4) 26)).heap[w.heap.size]? = some (.cells (arr4 z4) 26 (0,0))∧Below w.heap.size w (w.alloc (.cells (arr4 z4) 26))∧(w.alloc (.cells (arr4 z4) 26)).heap.size=w.heap.size+1:=⟨heap_alloc_new w _,(Below.refl w.heap.size w).alloc (Nat.le_refl _) _,by simp⟩
set_option maxHeartbeats 400000 in
theorem get_no (w:World) (s:Value) (n r:Int) (hh:∀ W,Below w.heap.size w W→Calls Tryz.prog 48 #[s,.int .i64 n,.int .i64 r] W fun e w'=>e = .returned (.bool false)∧Below W.heap.size W w') :
 Calls Tryz.prog 32 #[s,.int .i64 n,.int .i64 r] w (GetPost w z4 false):=by
 obtain ⟨h1,hB,hz⟩:=one_rec w;have H1:=Lib.hid h1;have HB:=Lib.hid hB;have HH:=Lib.hid (hh _ hB);have HZ:=Lib.hid hz;clear h1 hB hz hh;unfold arr4 z4 at *
 go_enter Tryz.func32,Tryz.ntmps32
 go_wp2_with fail;generalize (w.alloc (.cells #[.int .u8 0,.int .u8 0,.int .u8 0,.int .u8 0] 26))=W at *;refine HH.out.mono ?_;rintro e w1 ⟨rfl,b1⟩;have hz:=HZ.out;have G:w1.heap[w.heap.size]? = some (.cells (arr4 z4) 26 (0,0)):=(b1.block _ (by omega)).trans H1.out;have B1:=Lib.hid (HB.out.trans (b1.mono HB.out.size));have d0:w1.cell? ⟨w.heap.size,0,none⟩=some (.int .u8 0):=row_cell G 0;have d1:w1.cell? ⟨w.heap.size,1,none⟩=some (.int .u8 0):=row_cell G 1;have d2:w1.cell? ⟨w.heap.size,2,none⟩=some (.int .u8 0):=row_cell G 2;have d3:w1.cell? ⟨w.heap.size,3,none⟩=some (.int .u8 0):=row_cell G 3;have k0:=row_frozen G 0;have k1:=row_frozen G 1;have k2:=row_frozen G 2;have k3:=row_frozen G 3;have R2:=Lib.hid (sto4_row G z4);have B2:=Lib.hid (sto4_below (o:=0) (r:=z4) B1.out (show w.heap.size≤w.heap.size by omega));clear b1 HH HB H1 HZ hz G B1;go_wp2
 (try simp only [Exit.inBlock,Exit.then])
 exact bodyPost_ret (results_rec (p:=6) (r:=7) rfl _ _ w.heap.size z4 (.bool false) rfl rfl R2.out) rfl ⟨rfl,B2.out⟩
set_option maxHeartbeats 400000 in
theorem get_yes {w:World} {s:Nat} {F:Nat→Prop} {m:Value} {C:List Ent} {d:Int} (S:Sto w s F m C d) {n:Int} (hn:Wf n) (k:Nat) {c:Ent} (hc:look Ent.n n C=some c) (hk:k < c.l.length) :
 Calls Tryz.prog 32 #[.pointer (some ⟨s,0,none⟩),.int .i64 n,.int .i64 (k:Int)] w (GetPost w (rat c.l k) true):=by
 obtain ⟨h1,hB,hz⟩:=one_rec w;have H1:=Lib.hid h1;have HB:=Lib.hid hB;have HZ:=Lib.hid hz;have hh:=has_any (S.below hB) hn (k:Int);rw [gB_some hc,decide_eq_true (⟨by omega,by omega⟩:0≤(k:Int)∧(k:Int) < c.l.length)] at hh;have HH:=Lib.hid hh;have SS:=Lib.hid S;have HN:=Lib.hid hn;have L:=Lib.hid (lv_some hc);obtain ⟨ho,_⟩:=S.find hc;obtain ⟨g,cap,e1,_,_,_,_,_,hA⟩:=ho.form (by omega);obtain ⟨cn,cp,ca,ccap,cl⟩:=c;obtain ⟨rfl,rfl⟩:ca=some ⟨g,0,none⟩∧ccap=cap:=by
  unfold Ent.sl at e1;injection e1 with e1 e2 e3;exact ⟨e1,e3⟩
 have A4':=at4 hA k hk;rw [Nat.zero_add] at A4';have A4:=Lib.hid A4';clear A4';have hk':k < cl.length:=hk;clear h1 hB hz hh ho e1 hA hc S hn hk;simp only at *;generalize rat cl k=y at *;generalize cl.length=q at *;have y4:Hid (arr4 y=#[.int .u8 y.1,.int .u8 y.2.1,.int .u8 y.2.2.1,.int .u8 y.2.2.2]):=rfl;unfold arr4 z4 at H1 HB HZ HH
 go_enter Tryz.func32,Tryz.ntmps32
 go_wp2_with fail;generalize (w.alloc (.cells #[.int .u8 0,.int .u8 0,.int .u8 0,.int .u8 0] 26))=W at *;refine HH.out.mono ?_;rintro e w1 ⟨rfl,b1⟩;have hz:=HZ.out;have G:w1.heap[w.heap.size]? = some (.cells (arr4 z4) 26 (0,0)):=(b1.block _ (by omega)).trans H1.out;have B1:=Lib.hid (HB.out.trans (b1.mono HB.out.size));have S1:=SS.out.below B1.out;have M1:=Lib.hid S1.mp;have c0:w1.cell? ⟨s,0,none⟩=some m:=row_cell S1.row 0;have hF:=run_fieldF;have q0:=(B1.out.cell (World.block_lt_of_cell? _ _ A4.out.1)).trans A4.out.1;have q1:=(B1.out.cell (World.block_lt_of_cell? _ _ A4.out.2.1)).trans A4.out.2.1;have q2:=(B1.out.cell (World.block_lt_of_cell? _ _ A4.out.2.2.1)).trans A4.out.2.2.1;have q3:=(B1.out.cell (World.block_lt_of_cell? _ _ A4.out.2.2.2)).trans A4.out.2.2.2;have d0:w1.cell? ⟨w.heap.size,0,none⟩=some (.int .u8 0):=row_cell G 0;have d1:w1.cell? ⟨w.heap.size,1,none⟩=some (.int .u8 0):=row_cell G 1;have d2:w1.cell? ⟨w.heap.size,2,none⟩=some (.int .u8 0):=row_cell G 2;have d3:w1.cell? ⟨w.heap.size,3,none⟩=some (.int .u8 0):=row_cell G 3;have k0:=row_frozen G 0;have k1:=row_frozen G 1;have k2:=row_frozen G 2;have k3:=row_frozen G 3;have R2:=Lib.hid (sto4_row G y);have B2:=Lib.hid (sto4_below (o:=0) (r:=y) B1.out (show w.heap.size≤w.heap.size by omega));clear b1 HH HB H1 HZ hz G B1 S1 SS A4
 go_wp2_with (at_lookup;refine at_look0 rfl _ _ rfl M1.out rfl _ rfl HN.out _ L.out ?_)
 (try simp only [Exit.inBlock,Exit.then])
 exact bodyPost_ret (results_rec (p:=6) (r:=7) rfl _ _ w.heap.size y (.bool true) rfl rfl R2.out) rfl ⟨rfl,B2.out⟩
theorem get_any {w:World} {s:Nat} {F:Nat→Prop} {m:Value} {C:List Ent} {d:Int} (S:Sto w s F m C d) {n:Int} (hn:Wf n) (r:Int) :
 Calls Tryz.prog 32 #[.pointer (some ⟨s,0,none⟩),.int .i64 n,.int .i64 r] w (GetPost w (gV (C.map Ent.abs) n r) (gB (C.map Ent.abs) n r)):=by
 cases hk:look Ent.n n C with
 | none =>
   rw [gV_none hk,gB_none hk];refine get_no w _ n r fun W hb=>?_;have:=has_any (S.below hb) hn r
   rwa [gB_none hk] at this
 | some c =>
   by_cases hr:0≤r∧r < c.l.length
   ·obtain ⟨k,rfl⟩:∃ k:Nat,r=k:=⟨r.toNat,by omega⟩
    rw [gV_some hk,gB_some hk,if_pos hr,decide_eq_true hr,Int.toNat_natCast];exact get_yes S hn k hk (by omega)
   ·rw [gV_some hk,gB_some hk,if_neg hr,decide_eq_false hr]
    refine get_no w _ n r fun W hb=>?_;have:=has_any (S.below hb) hn r
    rwa [gB_some hk,decide_eq_false hr] at this
end Go.Proofs.YtelgnhmcnfibnaaGreatDoor.Fs
namespace Go.Proofs.YtelgnhmcnfibnaaGreatDoor.Fs
open Go.RowKit Go.Maps
open Fl (R4 z4 K4 rec4 rat goodF goodFB okR okL doE newR file arr4 sto4 sto4_own sto4_other sto4_size sto4_below own4 row_cell)
open Rw (Rd Ow At)
theorem apart_symm {c e:Ent} (h:apart c e):apart e c:=fun k hk hc=>h k hc hk
theorem pw_ins {α:Type} {κ:α→Int} {R:α→α→Prop} (sy:∀ {x y},R x y→R y x) {c:α} : ∀ {l:List α},l.Pairwise R→(∀ x∈l,R c x)→(ins κ c l).Pairwise R
 | [],_,_=>by simp [ins]
 | y :: r,h,hc=>by
   obtain ⟨h1,h2⟩:=List.pairwise_cons.1 h;unfold ins
   split
   ·exact List.pairwise_cons.2 ⟨hc,h⟩
   ·refine List.pairwise_cons.2 ⟨fun z hz=>?_,pw_ins sy h2 fun x hx=>hc x (List.mem_cons_of_mem _ hx)⟩
    rcases mem_ins.1 hz with rfl | hz
    ·exact sy (hc y List.mem_cons_self)
    ·exact h1 z hz
theorem pw_put {c:Ent} {C:List Ent} (h:C.Pairwise apart) (hc:∀ e∈C,e.n≠c.n→apart c e):(put Ent.n c C).Pairwise apart:=by
 unfold put;refine pw_ins apart_symm (h.filter _) fun e he=>?_;obtain ⟨h1,h2⟩:=List.mem_filter.1 he;exact hc e h1 (by simpa using h2)
section
variable {w w':World} {s:Nat} {F F':Nat→Prop} {m m':Value} {C:List Ent} {d d':Int} {c:Ent}
theorem Sto.put (h:Sto w s F m C d) (row:w'.heap[s]? = some (.cells #[m',.int .i64 d'] 93 (0,0))) (hF:∀ k,F k→F' k) (mp:Mp w' F' m' (put Ent.n c C)) (old:∀ e∈C,e.n≠c.n→Ow K4 w' 0 26 e.sl e.l)
 (new:Ow K4 w' 0 26 c.sl c.l) (mine:∀ k,c.sl.ownBlock=some k→F' k) (far:∀ e∈C,e.n≠c.n→Fs.apart c e) (hn:0≤c.n∧c.n≤63) (hg:goodF c.p c.l) (hl:okL c.l) (low:∀ k,F' k→k < w'.heap.size):Sto w' s F' m' (Fs.put Ent.n c C) d':=by
 refine ⟨row,hF s h.foot,mp,fun e he=>?_,fun e he k hk=>?_,pw_put h.apart far,?_,low⟩
 ·rcases mem_put.1 he with rfl | ⟨he,hne⟩
  ·exact new
  ·exact old e he hne
 ·rcases mem_put.1 he with rfl | ⟨he,hne⟩
  ·exact mine k hk
  ·exact hF k (h.mine e he k hk)
 ·rw [abs_put]
  exact h.ok.put hn hg hl
end
end Go.Proofs.YtelgnhmcnfibnaaGreatDoor.Fs
namespace Go.Proofs.YtelgnhmcnfibnaaGreatDoor.Fs
open Go.RowKit Go.Maps
open Fl (R4 z4 K4 rec4 rat goodF goodFB okR okL doE newR file arr4 sto4 sto4_own sto4_other sto4_size sto4_below own4 row_cell row_frozen ret_bool)
open Rw (Rd Ow At)
attribute [local irreducible] Sd.wpSd wpQuiet Sf.wpSf
theorem box_rec (w:World) (x:R4):(w.alloc (.cells (arr4 x) 26)).heap[w.heap.size]? = some (.cells (arr4 x) 26 (0,0))∧Below w.heap.size w (w.alloc (.cells (arr4 x) 26))∧(w.alloc (.cells (arr4 x) 26)).heap.size=w.heap.size+1:=⟨heap_alloc_new w _,(Below.refl w.heap.size w).alloc (Nat.le_refl _) _,by simp⟩
end Go.Proofs.YtelgnhmcnfibnaaGreatDoor.Fs
namespace Go.Proofs.YtelgnhmcnfibnaaGreatDoor.Fs
open Go.RowKit Go.Maps
open Fl (R4 z4 K4 rec4 rat goodF goodFB okR okL doE newR file arr4 sto4 sto2 sto2_row sto2_other sto2_below sto2_size row_cell row_frozen good_any)
open Rw (Rd Ow At)
attribute [local irreducible] Sd.wpSd wpQuiet Sf.wpSf
section
variable {w W W':World} {s b:Nat} {F:Nat→Prop} {C:List Ent} {d:Int} {c:Ent}
theorem Sto.place (h:Sto w s F (.map (some b)) C d) (hb:Below w.heap.size w W) (hg:W.grownBy W' (some b)) (mp:Mp W' F (.map (some b)) (Fs.put Ent.n c C)) (ow:Ow K4 W w.heap.size 26 c.sl c.l) (hn:0≤c.n∧c.n≤63) (hgd:goodF c.p c.l) (hl:okL c.l) :
 St W' s (Fx F w W') ((Fs.put Ent.n c C).map Ent.abs) d∧Only F w W':=by
 have hne:=h.map_ne;have hFb:=h.mp.isMap.1;have hbl:=h.low b hFb;have hsl:=h.low s h.foot;have O:Only F w W':=(Only.of_below hb).trans (Only.grown (G:=fun k=>k=b) rfl hg) fun k _ e=>e ▸ hFb;have off:∀ k,c.sl.ownBlock=some k→w.heap.size≤k∧k < W.heap.size:=ow_new ow;refine ⟨⟨_,_,h.put (w':=W') (d':=d) (F':=Fx F w W') ?_ (fun k hk=>.inl hk) (mp.wide fun k hk=>.inl hk) (fun e he hne=>?_) ?_ (fun k hk=>.inr ⟨(off k hk).1,Nat.lt_of_lt_of_le (off k hk).2 hg.size⟩) (fun e he hne k hk hk'=>?_) hn hgd hl (Fx.low h.low O.size),rfl⟩,O⟩
 ·rw [hg.block s (Nat.lt_of_lt_of_le hsl hb.size) (by intro e;injection e with e;exact hne e.symm),hb.block s hsl]
  exact h.row
 ·exact ow_only (G:=fun k=>k=b) ((h.own e he).keep hb) (fun k hk e'=>(h.off he).2 b rfl (by rw [hk,e'])) (Only.grown rfl hg)
 ·exact ow_only (G:=fun k=>k=b) (ow.low (Nat.zero_le _)) (fun k hk e'=>by have:=(off k hk).1;omega) (Only.grown rfl hg)
 ·have:=(off k hk).1
  have:=h.low k (h.mine e he k hk')
  omega
theorem Sto.make (h:Sto w s F (.map none) C d) (hb:Below w.heap.size w W):Sto ((W.alloc (.map #[] 0)).setCell ⟨s,0,none⟩ (.map (some W.heap.size))) s (Fx F w ((W.alloc (.map #[] 0)).setCell ⟨s,0,none⟩ (.map (some W.heap.size)))) (.map (some W.heap.size)) C d∧Only F w ((W.alloc (.map #[] 0)).setCell ⟨s,0,none⟩ (.map (some W.heap.size))):=by
 have hC:C = []:=by
  rcases h.mp with ⟨_,e⟩ | ⟨b,e,_⟩
  ·exact e
  ·cases e
 subst hC;have hsl:=h.low s h.foot;have B2:Below w.heap.size w (W.alloc (.map #[] 0)):=hb.alloc hb.size _;have O:Only F w ((W.alloc (.map #[] 0)).setCell ⟨s,0,none⟩ (.map (some W.heap.size))):=(Only.of_below B2).trans (Only.set F _ (a:=⟨s,0,none⟩) h.foot _) fun _ _ g=>g;refine ⟨⟨?_,.inl h.foot,.inr ⟨W.heap.size,rfl,.inr ⟨hb.size,by simp [World.setCell]⟩,?_⟩,nofun,nofun,List.Pairwise.nil,h.ok,Fx.low h.low O.size⟩,O⟩
 ·have:=Rw.heap_setCell_same (w:=W.alloc (.map #[] 0)) (g:=s) (j:=0) ((B2.block s hsl).trans h.row) (.map (some W.heap.size))
  rw [this]
  simp
 ·have:=World.ownsMap_made (H:=Value) W Tryz.prog 3 Rh
  exact this.setCell (a:=⟨s,0,none⟩) (fun e=>by have:=hb.size;simp only at e;omega) _
theorem Fx.trans {w1 w2:World} (h1:Only F w w1) (h2:w1.heap.size≤w2.heap.size):∀ k,Fx (Fx F w w1) w1 w2 k→Fx F w w2 k:=by
 have:=h1.size;rintro k ((g | ⟨a,b⟩) | ⟨a,b⟩)
 ·exact .inl g
 ·exact .inr ⟨a,by omega⟩
 ·exact .inr ⟨by omega,b⟩
theorem Only.trans' {w1 w2:World} (h1:Only F w w1) (h2:Only (Fx F w w1) w1 w2):Only F w w2:=h1.trans h2 fun k hk g=>by
 rcases g with g | ⟨a,_⟩
 ·exact g
 ·omega
end
def AddPost (w:World) (s:Nat) (F:Nat→Prop) (d:Int) (z:Int) (A':Abs) (e:Ending) (w':World):Prop:=e = .returned (.int .i64 z)∧St w' s (Fx F w w') A' d∧Only F w w'
theorem box_file (w:World) (p:Int) (v:Value):(w.alloc (.cells #[.int .i64 p,v] 71)).heap[w.heap.size]? = some (.cells #[.int .i64 p,v] 71 (0,0))∧Below w.heap.size w (w.alloc (.cells #[.int .i64 p,v] 71))∧(w.alloc (.cells #[.int .i64 p,v] 71)).heap.size=w.heap.size+1:=⟨heap_alloc_new w _,(Below.refl w.heap.size w).alloc (Nat.le_refl _) _,by simp⟩
theorem add_1 (w:World) (s:Nat) (n p:Int) (a:Option Addr) (q cap:Nat) (hn:¬ (0≤n∧n≤63)):Calls Tryz.prog 27 #[.pointer (some ⟨s,0,none⟩),.int .i64 n,.agg #[.int .i64 p,.slice a q cap]] w fun e w'=>e = .returned (.int .i64 1)∧Below w.heap.size w w':=by
 by_cases h:n < 0
 ·go_enter Tryz.func27,Tryz.ntmps27
  go_wp2
  go_ret
  exact ⟨rfl,(Below.refl w.heap.size w).alloc (Nat.le_refl _) _⟩
 ·have h2:64≤n:=by omega
  go_enter Tryz.func27,Tryz.ntmps27
  go_wp2
  go_ret
  exact ⟨rfl,(Below.refl w.heap.size w).alloc (Nat.le_refl _) _⟩
theorem add_2 (w:World) (s:Nat) (n p:Int) (a:Option Addr) (q cap:Nat) (l:List R4) (R:Rd K4 w (.slice a q cap) l) (hn:0≤n∧n≤63) (hg:¬ goodF p l):Calls Tryz.prog 27 #[.pointer (some ⟨s,0,none⟩),.int .i64 n,.agg #[.int .i64 p,.slice a q cap]] w fun e w'=>e = .returned (.int .i64 2)∧Below w.heap.size w w':=by
 obtain ⟨h1,hB,hz⟩:=box_file w p (.slice a q cap);have HB:=Lib.hid hB;have GA:=good_any _ p (.slice a q cap) l (R.below hB);rw [show goodFB p l=false from decide_eq_false hg] at GA;have HG:=Lib.hid GA;have n1:0≤n:=hn.1;have n2:n < 64:=by omega
 clear h1 hB hz R GA hg hn;unfold file at HG
 go_enter Tryz.func27,Tryz.ntmps27
 go_wp2_with fail;refine HG.out.mono ?_;rintro e w1 ⟨rfl,b1⟩;have B1:=Lib.hid (HB.out.trans (b1.mono HB.out.size));clear b1 HG HB;go_wp2
 go_ret
 exact ⟨rfl,B1.out⟩
set_option maxHeartbeats 1000000 in
theorem add_10 {w:World} {s:Nat} {F:Nat→Prop} {m:Value} {C:List Ent} {d:Int} (S:Sto w s F m C d) (n p:Int) (a:Option Addr) (q cap:Nat) (l:List R4) (R:Rd K4 w (.slice a q cap) l) (hn:0≤n∧n≤63) (hg:goodF p l) {c:Ent} (hc:look Ent.n n C=some c) :
 Calls Tryz.prog 27 #[.pointer (some ⟨s,0,none⟩),.int .i64 n,.agg #[.int .i64 p,.slice a q cap]] w fun e w'=>e = .returned (.int .i64 10)∧Below w.heap.size w w':=by
 obtain ⟨h1,hB,hz⟩:=box_file w p (.slice a q cap);have HB:=Lib.hid hB;have GA:=good_any _ p (.slice a q cap) l (R.below hB);rw [show goodFB p l=true from decide_eq_true hg] at GA;have HG:=Lib.hid GA;have SS:=Lib.hid S;have n1:0≤n:=hn.1;have n2:n < 64:=by omega
 have HN:Hid (Wf n):=WalkArith.wf_i64 (by omega);have L:=Lib.hid (lv_some hc);have LB:=Lib.hid (lb_some hc);clear h1 hB hz R GA hg hn S hc;unfold file at HG
 go_enter Tryz.func27,Tryz.ntmps27
 go_wp2_with fail;refine HG.out.mono ?_;rintro e w1 ⟨rfl,b1⟩;have B1:=Lib.hid (HB.out.trans (b1.mono HB.out.size));have S1:=SS.out.below B1.out;have c0:w1.cell? ⟨s,0,none⟩=some m:=row_cell S1.row 0;have M:=Lib.hid S1.mp;clear b1 HG HB S1 SS
 go_wp2_with (at_lookup;refine at_look1 rfl _ _ rfl M.out rfl _ rfl HN.out _ L.out _ LB.out ?_)
 go_ret
 exact ⟨rfl,B1.out.alloc B1.out.size _⟩
end Go.Proofs.YtelgnhmcnfibnaaGreatDoor.Fs
