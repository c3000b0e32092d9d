import Derived.Test.YtpkipilggkbkeaaGreatDoorMg3
import Derived.Test.YtpkipilggkbkeaaGreatDoorMg1
import Derived.Test.YtpkipilggkbkeaaGreatDoorMg7
import Derived.Laws.Rows
import Derived.Deep.WholeRow
import Derived.Test.YtpkipilggkbkeaaGreatDoorMg4
import Derived.Test.YtpkipilggkbkeaaGreatDoorMg5
import Derived.Test.YtpkipilggkbkeaaGreatDoorMg2
import Derived.Deep.Cut
import Derived.Shelf.Abstract
namespace Go.Proofs.YtpkipilggkbkeaaGreatDoor.Ck
open Go.RowKit
open Ro (E5 z5 eat ent K5 at5)
open Rw (Rd Ow At)
abbrev Hd:=Option Addr×Nat×Nat
def zh:Hd:=(none,0,0)
def sl (h:Hd):Value:=.slice h.1 h.2.1 h.2.2
def KS:Rw.Kind Hd:=⟨fun h=>[sl h],1,by decide,fun _=>rfl,fun _ u h=>by simp at h;subst h;rfl,zh⟩
def RdL (w:World) (v:Value) (L:LL):Prop:=∃ a cap,v = .slice a L.length cap∧(L.length≤cap∧(a=none→cap=0))∧cap≤maxLen ∧
 (0 < L.length→∃ b off,a=some ⟨b,off,none⟩∧∀ i,i < L.length→∃ u,w.cell? ⟨b,off+i,none⟩=some u∧Rd K5 w u (lat L i))
section
variable {w w':World} {v:Value} {L:LL}
theorem RdL.below (h:RdL w v L) (hb:Below w.heap.size w w'):RdL w' v L:=by
 obtain ⟨a,cap,e,h1,h2,h3⟩:=h;refine ⟨a,cap,e,h1,h2,fun hp=>?_⟩;obtain ⟨b,off,ea,hA⟩:=h3 hp;refine ⟨b,off,ea,fun i hi=>?_⟩;obtain ⟨u,c,r⟩:=hA i hi;exact ⟨u,(hb.cell (World.block_lt_of_cell? _ _ c)).trans c,r.below hb⟩
theorem RdL.slice (h:RdL w v L):∃ a cap,v = .slice a L.length cap∧cap≤maxLen:=by
 obtain ⟨a,cap,e,_,h2,_⟩:=h;exact ⟨a,cap,e,h2⟩
theorem RdL.one (h:RdL w v L) {k:Nat} (hk:k < L.length):∃ b off cap a' cap',v = .slice (some ⟨b,off,none⟩) L.length cap∧w.cell? ⟨b,off+k,none⟩=some (.slice a' (lat L k).length cap')∧cap'≤maxLen ∧
 (0 < (lat L k).length→∃ b' off',a'=some ⟨b',off',none⟩∧At K5 w b' off' (lat L k)):=by
 obtain ⟨a,cap,e,h1,h2,h3⟩:=h;obtain ⟨b,off,rfl,hA⟩:=h3 (by omega);obtain ⟨u,c,a',cap',rfl,g1,g2,g3⟩:=hA k hk;exact ⟨b,off,cap,a',cap',e,c,g2,g3⟩
theorem RdL.rd (h:RdL w v L) {k:Nat} (hk:k < L.length) {b off cap:Nat} (e:v = .slice (some ⟨b,off,none⟩) L.length cap) {u:Value} (c:w.cell? ⟨b,off+k,none⟩=some u):Rd K5 w u (lat L k):=by
 obtain ⟨a,cap',e',h1,h2,h3⟩:=h;obtain ⟨b',off',rfl,hA⟩:=h3 (by omega);rw [e] at e';injection e' with e1 _ _;injection e1 with e1;injection e1 with e1 e2 _;subst e1 e2;obtain ⟨u',c',r⟩:=hA k hk;rw [c] at c';injection c' with c';subst c';exact r
theorem RdL.take {a:Option Addr} {n cap:Nat} (h:RdL w (.slice a n cap) L) {k:Nat} (hk:k≤L.length):RdL w (.slice a k cap) (L.take k):=by
 obtain ⟨a',cap',e,h1,h2,h3⟩:=h;injection e with e1 e2 e3;subst e1 e2 e3;have hl:(L.take k).length=k:=by rw [List.length_take];omega
 refine ⟨a,cap,by rw [hl],⟨by omega,h1.2⟩,h2,fun hp=>?_⟩;rw [hl] at hp;obtain ⟨b,off,rfl,hA⟩:=h3 (by omega);refine ⟨b,off,rfl,fun i hi=>?_⟩;rw [hl] at hi;rw [lat_take hi];exact hA i (by omega)
theorem rdl_of {hs:List Hd} (h:Rd KS w v hs) (hl:hs.length=L.length) (each:∀ i,i < L.length→Rd K5 w (sl (hs.getD i zh)) (lat L i)):RdL w v L:=by
 obtain ⟨a,cap,e,h1,h2,h3⟩:=h;rw [hl] at e h1 h3;refine ⟨a,cap,e,h1,h2,fun hp=>?_⟩;obtain ⟨b,off,ea,hA⟩:=h3 hp;refine ⟨b,off,ea,fun i hi=>⟨_,?_,each i hi⟩⟩;have c:=hA i (by rw [hl];exact hi) 0 _ rfl;simp only [KS,Nat.mul_one,Nat.add_zero] at c;exact c
end
def ar (F:Nat→Int):Array Value:=#[.int .i64 (F 0),.int .i64 (F 1),.int .i64 (F 2),.int .i64 (F 3),.int .i64 (F 4),.int .i64 (F 5),.int .i64 (F 6),.int .i64 (F 7),.int .i64 (F 8),.int .i64 (F 9),.int .i64 (F 10),.int .i64 (F 11),.int .i64 (F 12),.int .i64 (F 13),.int .i64 (F 14),.int .i64 (F 15),.int .i64 (F 16)]
def upI (F:Nat→Int) (k:Nat) (x:Int) (i:Nat):Int:=if i=k then x else F i
theorem ar_size (F:Nat→Int):(ar F).size=17:=rfl
theorem ar_one (F:Nat→Int):(ar F).all (·.oneCell')=true:=by simp [ar,Value.oneCell']
theorem lt17 {k:Nat} (h:k < 17):k=0∨k=1∨k=2∨k=3∨k=4∨k=5∨k=6∨k=7∨k=8∨k=9∨k=10∨k=11∨k=12∨k=13∨k=14∨k=15∨k=16:=by omega
theorem ar_get (F:Nat→Int) (k:Nat) (h:k < 17):(ar F)[k]? = some (.int .i64 (F k)):=by
 rcases lt17 h with rfl | rfl | rfl | rfl | rfl | rfl | rfl | rfl | rfl | rfl | rfl | rfl | rfl | rfl | rfl | rfl | rfl <;> rfl
theorem ar_set (F:Nat→Int) (k:Nat) (h:k < 17) (x:Int):(ar F).setIfInBounds k (.int .i64 x)=ar (upI F k x):=by
 rcases lt17 h with rfl | rfl | rfl | rfl | rfl | rfl | rfl | rfl | rfl | rfl | rfl | rfl | rfl | rfl | rfl | rfl | rfl <;> rfl
theorem ar_congr {F G:Nat→Int} (h:∀ i,i < 17→F i=G i):ar F=ar G:=by
 unfold ar;rw [h 0 (by omega),h 1 (by omega),h 2 (by omega),h 3 (by omega),h 4 (by omega),h 5 (by omega),h 6 (by omega),h 7 (by omega),h 8 (by omega),h 9 (by omega),h 10 (by omega),h 11 (by omega),h 12 (by omega),h 13 (by omega),h 14 (by omega),h 15 (by omega),h 16 (by omega)]
def RowI (w:World) (g:Nat) (F:Nat→Int):Prop:=w.heap[g]? = some (.cells (ar F) 193 (0,0))
section
variable {w w':World} {g:Nat} {F:Nat→Int}
theorem RowI.lt (h:RowI w g F):g < w.heap.size:=lt_of_block h
theorem RowI.cell (h:RowI w g F) (k:Nat) (hk:k < 17):w.cell? ⟨g,k,none⟩=some (.int .i64 (F k)):=by rw [cell_of_row w g k _ _ (0,0) h,ar_get F k hk]
theorem RowI.frozen (h:RowI w g F) (k:Nat):w.frozen? ⟨g,k,none⟩=false:=frozen_of_row w g k _ _ h
theorem RowI.new (w:World) (F:Nat→Int):RowI (w.alloc (.cells (ar F) 193)) w.heap.size F:=heap_alloc_new w _
theorem RowI.set_ (h:RowI w g F) (k:Nat) (hk:k < 17) (x:Int):RowI (w.setCell ⟨g,k,none⟩ (.int .i64 x)) g (upI F k x):=by
 unfold RowI at h ⊢;rw [heap_setCell_same w g k _ _ _ h,ar_set F k hk x]
theorem RowI.far (h:RowI w g F) {p:Addr} (hp:g≠p.block) (u:Value):RowI (w.setCell p u) g F:=(Below.heap_setCell w p u g hp).trans h
theorem RowI.row (h:RowI w g F) (G:Nat→Int):RowI (w.setRow g (ar G)) g G:=setRow_heap w g _ _ _ _ h
theorem RowI.below {B:Nat} (h:RowI w g F) (hb:Below B w w') (hg:g < B):RowI w' g F:=(hb.block g hg).trans h
theorem RowI.to {G:Nat→Int} (h:RowI w g F) (e:∀ i,i < 17→F i=G i):RowI w g G:=by unfold RowI at *;rw [h,ar_congr e]
end
theorem infoI (F:Nat→Int):(Tryz.prog.info? 193).map (·.size)=some (ar F).size:=by rw [ar_size];kernel_rfl
theorem load_ar {ops:Array Oper} {rest:List Oper} {o:Oper} {a:Act} {w:World} {Q:Exit→Act→World→Prop} (hgd:o.guard=none) (x:Operand) (ho:o.op = .load 193 x)
 (g:Nat) (F:Nat→Int) (hx:a.eval x = .pointer (some ⟨g,0,none⟩)) (hrow:RowI w g F) (h:wpList Tryz.prog ops Q rest (a.put o.dst (.agg (ar F))) w):wpList Tryz.prog ops Q (o :: rest) a w :=
 wpList_load_row hgd _ x ho g hx _ _ _ _ hrow Tryz.underlying193 rfl (infoI _) h
theorem store_ar {ops:Array Oper} {rest:List Oper} {o:Oper} {a:Act} {w:World} {Q:Exit→Act→World→Prop} (hgd:o.guard=none) (x y:Operand) (ho:o.op = .store 193 x y)
 (g:Nat) (F G:Nat→Int) (hx:a.eval x = .pointer (some ⟨g,0,none⟩)) (hy:a.eval y = .agg (ar F)) (hrow:RowI w g G) (h:wpList Tryz.prog ops Q rest (a.put o.dst undef) (w.setRow g (ar F))):wpList Tryz.prog ops Q (o :: rest) a w :=
 wpList_store_row hgd _ x y ho g _ hx hy _ _ hrow (infoI _) rfl (ar_one _) h
theorem store_ar_new {ops:Array Oper} {rest:List Oper} {o:Oper} {a:Act} {w:World} {Q:Exit→Act→World→Prop} (hgd:o.guard=none) (x y:Operand) (ho:o.op = .store 193 x y)
 (F:Nat→Int) (hx:a.eval x = .pointer (some ⟨w.heap.size,0,none⟩)) (hy:a.eval y = .agg (ar F)) (h:wpList Tryz.prog ops Q rest (a.put o.dst undef) (w.alloc (.cells (ar F) 193))) :
 wpList Tryz.prog ops Q (o :: rest) a (w.alloc (.cells #[.int .i64 0,.int .i64 0,.int .i64 0,.int .i64 0,.int .i64 0,.int .i64 0,.int .i64 0,.int .i64 0,.int .i64 0,.int .i64 0,.int .i64 0,.int .i64 0,.int .i64 0,.int .i64 0,.int .i64 0,.int .i64 0,.int .i64 0] 193)) :=
 store_ar hgd x y ho _ F (fun _=>0) hx hy (RowI.new w (fun _=>0)) (by rw [World.setRow_alloc_new];exact h)
theorem results_ar {fn:Func} {p:Tmp} (h:fn.results=#[.cell p 193]) (tmps:Array Value) (w:World) (g:Nat) (F:Nat→Int) (hp:tmps.getD p undef = .pointer (some ⟨g,0,none⟩)) (hrow:RowI w g F) :
 (results fn tmps).run Tryz.prog w = .ok (.agg (ar F)) w:=results_cell_row h tmps w g _ _ _ _ hp hrow Tryz.underlying193 rfl (infoI _)
def row5 (x:E5):Array Value:=#[.int .i64 x.1,.int .i64 x.2.1,.int .i64 x.2.2.1,.int .i64 x.2.2.2.1,.int .i64 x.2.2.2.2]
def RowE (w:World) (g:Nat) (x:E5):Prop:=w.heap[g]? = some (.cells (row5 x) 98 (0,0))
theorem RowE.lt {w:World} {g:Nat} {x:E5} (h:RowE w g x):g < w.heap.size:=lt_of_block h
theorem RowE.below {B:Nat} {w w':World} {g:Nat} {x:E5} (h:RowE w g x) (hb:Below B w w') (hg:g < B):RowE w' g x:=(hb.block g hg).trans h
theorem results_who {fn:Func} {p r:Tmp} (h:fn.results=#[.tmp r,.cell p 98]) (tmps:Array Value) (w:World) (g1:Nat) (n:Int) (x:E5)
 (hp:tmps.getD p undef = .pointer (some ⟨g1,0,none⟩)) (hr:tmps.getD r undef = .int .i64 n) (h1:RowE w g1 x) :
 (results fn tmps).run Tryz.prog w = .ok (.tuple #[.int .i64 n,ent x]) w:=by
 have e1:=run_loadVar_row (P:=Tryz.prog) w g1 98 98 (row5 x) (0,0) _ h1 Tryz.underlying98 rfl (by show _=some 5;kernel_rfl);have hp':tmps[p]?.getD undef = .pointer (some ⟨g1,0,none⟩):=by simpa using hp
 have hr':tmps[r]?.getD undef = .int .i64 n:=by simpa using hr
 simp only [results,h]
 simp [Result.andThen,hp',hr',asAddr,e1,ent,row5]
end Go.Proofs.YtpkipilggkbkeaaGreatDoor.Ck
namespace Go.Proofs.YtpkipilggkbkeaaGreatDoor.Pa
open Go.RowKit Go.Maps
open Fl (R4 z4 K4 rec4 rat okR okL arr4 row_cell row_frozen)
open Fs (Abs St Rs Only Fx gB gV sB sA dA dE dD Wf OkA law keyI Rh)
open Rw (Rd Ow At)
open Ro (E5 z5 okE eat K5 at5 ent may_each okE_bounds)
open Ck (LL lat sN sE tE bI RdL who_cases may_all)
set_option maxRecDepth 100000
def ptr (s:Nat):Value:=.pointer (some ⟨s,0,none⟩)
def KN:Rw.Kind Nat:=⟨fun s=>[ptr s],1,by decide,fun _=>rfl,fun _ u h=>by simp at h;subst h;rfl,0⟩
def pv (p:Option Nat):Value:=.pointer (p.map fun s=>⟨s,0,none⟩)
def KP:Rw.Kind (Option Nat):=⟨fun p=>[pv p],1,by decide,fun _=>rfl,fun p u h=>by simp at h;subst h;cases p <;> rfl,none⟩
def KB:Rw.Kind Bool:=⟨fun b=>[.bool b],1,by decide,fun _=>rfl,fun _ u h=>by simp at h;subst h;rfl,false⟩
def K2:Rw.Kind S2:=⟨fun x=>[.int .i64 x.1,.int .i64 x.2],2,by decide,fun _=>rfl,fun _ u h=>by simp at h;rcases h with rfl | rfl <;> rfl,z2⟩
section
variable {w:World} {b off:Nat}
theorem atN {l:List Nat} (h:At KN w b off l) {i:Nat} (hi:i < l.length):w.cell? ⟨b,off+i,none⟩=some (ptr (l.getD i 0)):=by
 have c:=h i hi 0 _ rfl
 simpa [KN] using c
theorem atP {l:List (Option Nat)} (h:At KP w b off l) {i:Nat} (hi:i < l.length):w.cell? ⟨b,off+i,none⟩=some (pv (l.getD i none)):=by
 have c:=h i hi 0 _ rfl
 simpa [KP] using c
theorem atB {l:List Bool} (h:At KB w b off l) {i:Nat} (hi:i < l.length):w.cell? ⟨b,off+i,none⟩=some (.bool (l.getD i false)):=by
 have c:=h i hi 0 _ rfl
 simpa [KB] using c
theorem at2 {l:List S2} (h:At K2 w b off l) {i:Nat} (hi:i < l.length):w.cell? ⟨b,off+i * 2,none⟩=some (.int .i64 (pat l i).1)∧w.cell? ⟨b,off+i * 2+1,none⟩=some (.int .i64 (pat l i).2) :=
 ⟨h i hi 0 _ rfl,h i hi 1 _ rfl⟩
theorem rd_some {v:Value} {l:List Nat} (h:Rd KN w v l):Rd KP w v (l.map some):=by
 obtain ⟨a,cap,e,h1,h2,h3⟩:=h;refine ⟨a,cap,by rw [List.length_map];exact e,by rw [List.length_map];exact h1,h2,fun h0=>?_⟩;rw [List.length_map] at h0;obtain ⟨b,off,ea,hA⟩:=h3 h0;refine ⟨b,off,ea,fun i hi j u hu=>?_⟩;rw [List.length_map] at hi;have:KP.enc ((l.map some).getD i KP.dft)=KN.enc (l.getD i KN.dft):=by
  rw [List.getD_eq_getElem?_getD,List.getElem?_map,List.getElem?_eq_getElem hi,List.getD_eq_getElem?_getD,List.getElem?_eq_getElem hi]
  rfl
 rw [this] at hu;exact hA i hi j u hu
end
def Has (w:World) (s:Nat) (x:Abs×Int):Prop:=∃ F,St w s F x.1 x.2
def Hrf (w:World) (r:Nat) (x:Abs×Int):Prop:=Rs w r (fun _=>False) x.1 x.2
def Stl (w:World) (v:Value) (S:Sts):Prop:=∃ ps:List Nat,Rd KN w v ps∧ps.length=S.length∧∀ i,i < S.length→Has w (ps.getD i 0) (sat S i)
def Rfl (w:World) (v:Value) (S:Sts):Prop:=∃ ps:List Nat,Rd KN w v ps∧ps.length=S.length∧∀ i,i < S.length→Hrf w (ps.getD i 0) (sat S i)
section
variable {w w':World} {s:Nat} {x:Abs×Int} {v:Value} {S:Sts}
theorem Has.below (h:Has w s x) (b:Below w.heap.size w w'):Has w' s x:=by obtain ⟨F,h⟩:=h;exact ⟨F,h.below b⟩
theorem Hrf.below (h:Hrf w s x) (b:Below w.heap.size w w'):Hrf w' s x:=Fs.Rs.below h b
theorem Has.okA (h:Has w s x):OkA x.1:=by obtain ⟨F,h⟩:=h;exact h.okA
theorem Hrf.okA (h:Hrf w s x):OkA x.1:=by obtain ⟨v,L,h,e⟩:=h;rw [← e];exact h.ok
theorem Stl.below (h:Stl w v S) (b:Below w.heap.size w w'):Stl w' v S:=by obtain ⟨ps,h1,h2,h3⟩:=h;exact ⟨ps,h1.below b,h2,fun i hi=>(h3 i hi).below b⟩
theorem Rfl.below (h:Rfl w v S) (b:Below w.heap.size w w'):Rfl w' v S:=by obtain ⟨ps,h1,h2,h3⟩:=h;exact ⟨ps,h1.below b,h2,fun i hi=>(h3 i hi).below b⟩
theorem Stl.slice (h:Stl w v S):∃ a cap,v = .slice a S.length cap∧cap≤maxLen:=by obtain ⟨ps,h1,h2,_⟩:=h;rw [← h2];exact h1.slice
theorem Rfl.slice (h:Rfl w v S):∃ a cap,v = .slice a S.length cap∧cap≤maxLen:=by obtain ⟨ps,h1,h2,_⟩:=h;rw [← h2];exact h1.slice
theorem Stl.one (h:Stl w v S) {k:Nat} (hk:k < S.length):∃ b off cap s,v = .slice (some ⟨b,off,none⟩) S.length cap∧w.cell? ⟨b,off+k,none⟩=some (ptr s)∧Has w s (sat S k):=by
 obtain ⟨ps,h1,h2,h3⟩:=h;obtain ⟨a,cap,e,_,_,g⟩:=h1;obtain ⟨b,off,rfl,hA⟩:=g (by omega);exact ⟨b,off,cap,_,by rw [← h2];exact e,atN hA (by omega),h3 k hk⟩
theorem Rfl.one (h:Rfl w v S) {k:Nat} (hk:k < S.length):∃ b off cap s,v = .slice (some ⟨b,off,none⟩) S.length cap∧w.cell? ⟨b,off+k,none⟩=some (ptr s)∧Hrf w s (sat S k):=by
 obtain ⟨ps,h1,h2,h3⟩:=h;obtain ⟨a,cap,e,_,_,g⟩:=h1;obtain ⟨b,off,rfl,hA⟩:=g (by omega);exact ⟨b,off,cap,_,by rw [← h2];exact e,atN hA (by omega),h3 k hk⟩
end
structure Ns (w:World) (vs vt vl:Value) (S:Sts) (T:LL) (V:List Bool):Prop where
 st:Stl w vs S
 tb:RdL w vt T
 lv:Rd KB w vl V
 lt:T.length=S.length
 ll:V.length=S.length
 ok:tE T=0
structure Nr (w:World) (vs vt vl:Value) (S:Sts) (T:LL) (V:List Bool):Prop where
 st:Rfl w vs S
 tb:RdL w vt T
 lv:Rd KB w vl V
 lt:T.length=S.length
 ll:V.length=S.length
 ok:tE T=0
section
variable {w w':World} {vs vt vl:Value} {S:Sts} {T:LL} {V:List Bool}
theorem Ns.below (h:Ns w vs vt vl S T V) (b:Below w.heap.size w w'):Ns w' vs vt vl S T V:=⟨h.st.below b,h.tb.below b,h.lv.below b,h.lt,h.ll,h.ok⟩
theorem Nr.below (h:Nr w vs vt vl S T V) (b:Below w.heap.size w w'):Nr w' vs vt vl S T V:=⟨h.st.below b,h.tb.below b,h.lv.below b,h.lt,h.ll,h.ok⟩
theorem wf_of {n:Int} (h:0≤n∧n≤1000):Wf n:=by
 have e1:IntKind.i64.min = -9223372036854775808:=rfl;have e2:IntKind.i64.max=9223372036854775807:=rfl
 show (decide (IntKind.i64.min≤n) && decide (n≤IntKind.i64.max))=true
 rw [e1,e2,Bool.and_eq_true,decide_eq_true_eq,decide_eq_true_eq]
 omega
theorem not_bad (h:tE T=0):¬ 0≤bI T:=fun g=>by
 have:=(Ck.t_form g).2
 omega
theorem tab_each (h:tE T=0) {k:Nat} (hk:k < T.length):∀ x∈lat T k,okE x∧x.1≠4:=may_each (may_all (not_bad h) k hk)
end
end Go.Proofs.YtpkipilggkbkeaaGreatDoor.Pa
namespace Go.Proofs.YtpkipilggkbkeaaGreatDoor.Ck
open Go.RowKit
open Ro (E5 z5 eat ent K5 at5 eat_mem)
open Rw (Rd Ow At)
open Fl (ret_bool at_bool row_cell row_frozen)
attribute [local irreducible] Sd.wpSd wpQuiet
def sto5 (w:World) (g:Nat) (x:E5):World:=((((w.setCell ⟨g,0,none⟩ (.int .i64 x.1)).setCell ⟨g,1,none⟩ (.int .i64 x.2.1)).setCell ⟨g,2,none⟩ (.int .i64 x.2.2.1)).setCell ⟨g,3,none⟩ (.int .i64 x.2.2.2.1)).setCell ⟨g,4,none⟩ (.int .i64 x.2.2.2.2)
theorem sto5_row {w:World} {g:Nat} {y:E5} (h:RowE w g y) (x:E5):RowE (sto5 w g x) g x :=
 Rw.heap_setCell_same (Rw.heap_setCell_same (Rw.heap_setCell_same (Rw.heap_setCell_same (Rw.heap_setCell_same h _) _) _) _) _
theorem sto5_other {w:World} {g k:Nat} {x:E5} {o:Option Obj} (h:w.heap[k]? = o) (hne:k≠g):(sto5 w g x).heap[k]? = o :=
 (Below.heap_setCell _ _ _ _ hne).trans ((Below.heap_setCell _ _ _ _ hne).trans ((Below.heap_setCell _ _ _ _ hne).trans ((Below.heap_setCell _ _ _ _ hne).trans ((Below.heap_setCell _ _ _ _ hne).trans h))))
theorem sto5_below {w W:World} {B g:Nat} {x:E5} (h:Below B w W) (hb:B≤g):Below B w (sto5 W g x) :=
 ((((h.setCell (p:=⟨g,0,none⟩) hb _).setCell (p:=⟨g,1,none⟩) hb _).setCell (p:=⟨g,2,none⟩) hb _).setCell (p:=⟨g,3,none⟩) hb _).setCell (p:=⟨g,4,none⟩) hb _
theorem sto5_size (w:World) (g:Nat) (x:E5):(sto5 w g x).heap.size=w.heap.size:=by simp [sto5]
def PredS (g:Nat) (lb:Array Value) (p:Nat→E5→Bool) (L:LL) (w:World):Prop :=
 ∀ (W:World) (n:Nat) (x:E5),n < L.length→x∈lat L n→Below w.heap.size w W→Calls Tryz.prog g (#[.int .i64 n,.agg #[.int .i64 x.1,.int .i64 x.2.1,.int .i64 x.2.2.1,.int .i64 x.2.2.2.1,.int .i64 x.2.2.2.2]] ++ lb) W fun e w'=>e = .returned (.bool (p n x))∧Below W.heap.size W w'
def WhoPost (w:World) (n:Int) (x:E5) (e:Ending) (w':World):Prop:=e = .returned (.tuple #[.int .i64 n,ent x])∧Below w.heap.size w w'
set_option maxHeartbeats 2000000 in
theorem find_any (w:World) (v:Value) (L:LL) (g:Nat) (lb:Array Value) (p:Nat→E5→Bool) (eg:∀ args w,(callFunc g args).run Tryz.prog w = .ok (.enter g args) w) (R:RdL w v L) (hp:PredS g lb p L w) :
 Calls Tryz.prog 126 #[v,.func (.func g) #[] lb] w (WhoPost w (whoN p L) (whoE p L)):=by
 obtain ⟨a,cap,rfl,_,hm,hA⟩:=R;have HA:=Lib.hid hA;have HP:=Lib.hid hp;have HH:Hid (∀ k i w',Within p L k i→k < L.length→i < (lat L k).length→p k (eat (lat L k) i)=true→Below w.heap.size w w'→WhoPost w (whoN p L) (whoE p L) (.returned (.tuple #[.int .i64 (k:Int),ent (eat (lat L k) i)])) w'):=fun k i w' h hk hi hq b=>by
  obtain ⟨e1,e2⟩:=within_hit h hk hi hq;rw [e1,e2];exact ⟨rfl,b⟩
 have HM:Hid (∀ w',Ahead p L L.length→Below w.heap.size w w'→WhoPost w (whoN p L) (whoE p L) (.returned (.tuple #[.int .i64 (-1),ent z5])) w'):=fun w' h b=>by
  obtain ⟨e1,e2⟩:=ahead_end h;rw [e1,e2];exact ⟨rfl,b⟩
 clear hA hp;generalize whoN p L=rn at *;generalize whoE p L=re at *;unfold maxLen at hm;generalize hn:L.length=n at *;have HN:=Lib.hid hn;clear hn;have R0:Hid (RowE (w.alloc (.cells #[.int .i64 0,.int .i64 0,.int .i64 0,.int .i64 0,.int .i64 0] 98)) w.heap.size z5):=heap_alloc_new w _;have B0:=Lib.hid ((Below.refl w.heap.size w).alloc (Nat.le_refl _) (.cells #[.int .i64 0,.int .i64 0,.int .i64 0,.int .i64 0,.int .i64 0] 98))
 go_enter Tryz.func126,Tryz.ntmps126
 go_wp2;generalize w.alloc (.cells #[.int .i64 0,.int .i64 0,.int .i64 0,.int .i64 0,.int .i64 0] 98)=w0 at *
 go_loopw [12] (fun i wr=>∃ k:Nat,k≤n∧i = .int .i64 k∧Hid (RowE wr w.heap.size z5)∧Hid (Below w.heap.size w wr)∧Hid (Ahead p L k)) (fun i _=>n - (intOf i).toNat)
 case atStart=>exact ⟨0,Nat.zero_le _,rfl,R0,B0,ahead_zero⟩
 case round =>
  obtain ⟨k,hk,rfl,rr,bw,hs⟩:=hrel
  by_cases hlt:k < n
  ·obtain ⟨b,off,rfl,A⟩:=HA.out (by omega)
   obtain ⟨u,c,a',cap',rfl,_,hm',hA'⟩:=A k hlt;have c':=(bw.out.cell (World.block_lt_of_cell? _ _ c)).trans c;have HA':=Lib.hid hA';have HX:=Lib.hid (fun i (h:i < (lat L k).length)=>eat_mem h);have HAA:=Lib.hid A;have HK:=Lib.hid (show k < L.length by rw [HN.out];exact hlt);clear hA' c A;unfold maxLen at hm';generalize hl:(lat L k).length=m at *;have HL:=Lib.hid hl;clear hl;have W0:=Lib.hid (within_zero hs.out);clear hs;go_wp2
   go_loopw [19] (fun i wr=>∃ j:Nat,j≤m∧i = .int .i64 j∧Hid (RowE wr w.heap.size z5)∧Hid (Below w.heap.size w wr)∧Hid (Within p L k j)) (fun i _=>m - (intOf i).toNat)
   case atStart=>exact ⟨0,Nat.zero_le _,rfl,rr,bw,W0⟩
   case round =>
    clear c' rr bw W0;obtain ⟨j,hj,rfl,rr,bw,hs⟩:=hrel
    by_cases hjt:j < m
    ·obtain ⟨b',off',rfl,A'⟩:=HA'.out (by omega)
     obtain ⟨c0,c1,c2,c3,c4⟩:=at5 (A'.below bw.out) j (by rw [HL.out];exact hjt);rw [show (lat L k).getD j z5=eat (lat L k) j from rfl] at c0 c1 c2 c3 c4;have hc:=fun W hb=>HP.out W k (eat (lat L k) j) HK.out (HX.out j hjt) hb;have YES:=Lib.hid (fun w' h hb=>HH.out k j w' hs.out (by have:=HK.out;rw [HN.out] at this;exact this) (by rw [HL.out];exact hjt) h hb);have NO:=Lib.hid (fun h=>within_next hs.out (by rw [HL.out];exact hjt) h);clear A' hs;generalize eat (lat L k) j=x at *;have bx:=(Below.refl wr.heap.size wr).alloc (Nat.le_refl _) (.cells #[.int .i64 x.1,.int .i64 x.2.1,.int .i64 x.2.2.1,.int .i64 x.2.2.2.1,.int .i64 x.2.2.2.2] 98);have gr:=rr.out.lt;have B1:=Lib.hid (bw.out.trans (bx.mono bw.out.size));have R1:=Lib.hid (rr.out.below bx gr);have X1:RowE (wr.alloc (.cells #[.int .i64 x.1,.int .i64 x.2.1,.int .i64 x.2.2.1,.int .i64 x.2.2.2.1,.int .i64 x.2.2.2.2] 98)) wr.heap.size x:=heap_alloc_new wr _;clear bx;go_upto_region 7 with fail;clear c0 c1 c2 c3 c4;generalize wr.alloc (.cells #[.int .i64 x.1,.int .i64 x.2.1,.int .i64 x.2.2.1,.int .i64 x.2.2.2.1,.int .i64 x.2.2.2.2] 98)=V at *;generalize wr.heap.size=gx at *;have x0:V.cell? ⟨gx,0,none⟩=some (.int .i64 x.1):=row_cell X1 0;have x1:V.cell? ⟨gx,1,none⟩=some (.int .i64 x.2.1):=row_cell X1 1;have x2:V.cell? ⟨gx,2,none⟩=some (.int .i64 x.2.2.1):=row_cell X1 2;have x3:V.cell? ⟨gx,3,none⟩=some (.int .i64 x.2.2.2.1):=row_cell X1 3;have x4:V.cell? ⟨gx,4,none⟩=some (.int .i64 x.2.2.2.2):=row_cell X1 4;have C:=Lib.hid (hc V B1.out);have XX:=Lib.hid X1;clear hc X1;generalize hq:p k x=q at *
     cases q with
     | true =>
       have Y:=Lib.hid (fun w' hb=>YES.out w' rfl hb);clear hq YES NO;go_wp2_with fail;refine C.out.mono ?_;rintro e w1 ⟨rfl,b1⟩;have B2:=Lib.hid (B1.out.trans (b1.mono B1.out.size));have X2:=XX.out.below b1 XX.out.lt;have R2:=Lib.hid (R1.out.below b1 R1.out.lt);clear b1 x0 x1 x2 x3 x4 C XX B1 R1;go_upto_region 8 with fail;have C0:RowE w1.drew gx x:=X2;have ne:Nonempty (Sc.In (fun W=>RowE W gx x)):=⟨⟨_,C0⟩⟩;have x0:=Sc.cell_in (C:=fun W=>RowE W gx x) (a:=⟨gx,0,none⟩) (v:=.int .i64 x.1) (fun W h=>row_cell h 0);have x1:=Sc.cell_in (C:=fun W=>RowE W gx x) (a:=⟨gx,1,none⟩) (v:=.int .i64 x.2.1) (fun W h=>row_cell h 1);have x2:=Sc.cell_in (C:=fun W=>RowE W gx x) (a:=⟨gx,2,none⟩) (v:=.int .i64 x.2.2.1) (fun W h=>row_cell h 2);have x3:=Sc.cell_in (C:=fun W=>RowE W gx x) (a:=⟨gx,3,none⟩) (v:=.int .i64 x.2.2.2.1) (fun W h=>row_cell h 3);have x4:=Sc.cell_in (C:=fun W=>RowE W gx x) (a:=⟨gx,4,none⟩) (v:=.int .i64 x.2.2.2.2) (fun W h=>row_cell h 4);refine Sc.start (fun W=>RowE W gx x) [(false,0),(false,1),(false,2),(true,3)] (by kernel_rfl) (by kernel_rfl) (by kernel_rfl) C0 ?_;dsimp only [Sd.picks,List.getElem?_cons_succ,List.getElem?_cons_zero]
       iterate 3 (refine Sd.lit ?_;quiet_step (fail);refine wpQuiet_nil ?_)
       refine Sd.call (by rfl) (fun K hK=>?_);clear x0 x1 x2 x3 x4 ne;have R2d:Hid (RowE w1.drew w.heap.size z5):=Lib.hid R2.out;have B2d:=Lib.hid (B2.out.drew);clear R2 B2 X2;generalize w1.drew=W2 at *;have d0:W2.cell? ⟨w.heap.size,0,none⟩=some (.int .i64 0):=row_cell R2d.out 0;have d1:W2.cell? ⟨w.heap.size,1,none⟩=some (.int .i64 0):=row_cell R2d.out 1;have d2:W2.cell? ⟨w.heap.size,2,none⟩=some (.int .i64 0):=row_cell R2d.out 2;have d3:W2.cell? ⟨w.heap.size,3,none⟩=some (.int .i64 0):=row_cell R2d.out 3;have d4:W2.cell? ⟨w.heap.size,4,none⟩=some (.int .i64 0):=row_cell R2d.out 4;have f0:W2.frozen? ⟨w.heap.size,0,none⟩=false:=row_frozen R2d.out 0;have f1:W2.frozen? ⟨w.heap.size,1,none⟩=false:=row_frozen R2d.out 1;have f2:W2.frozen? ⟨w.heap.size,2,none⟩=false:=row_frozen R2d.out 2;have f3:W2.frozen? ⟨w.heap.size,3,none⟩=false:=row_frozen R2d.out 3;have f4:W2.frozen? ⟨w.heap.size,4,none⟩=false:=row_frozen R2d.out 4;have hne:gx≠w.heap.size:=by have:=gr;omega
       have X3:RowE (sto5 W2 w.heap.size x) gx x:=sto5_other C0 hne;have R3:Hid (RowE (sto5 W2 w.heap.size x) w.heap.size x):=Lib.hid (sto5_row (y:=z5) R2d.out x);have B3:=Lib.hid (sto5_below (g:=w.heap.size) (x:=x) B2d.out (Nat.le_refl _));go_simp;refine hK _ _ (Sc.Cl.of X3) ?_;clear hK K d0 d1 d2 d3 d4 f0 f1 f2 f3 f4;refine Sd.done ?_
       show Exit.then _ _ _ _ (sto5 W2 w.heap.size x)
       generalize sto5 W2 w.heap.size x=wS at *;go_wp2
       (try simp only [Exit.inBlock,Exit.then])
       exact bodyPost_ret (v:=.tuple #[.int .i64 (k:Int),ent x]) (results_who (p:=5) (r:=4) rfl _ _ w.heap.size k x rfl rfl R3.out) rfl (Y.out _ B3.out)
     | false =>
       have ST:=Lib.hid (NO.out rfl);clear hq YES NO;go_wp2_with fail;refine C.out.mono ?_;rintro e w1 ⟨rfl,b1⟩;have B2:=Lib.hid (B1.out.trans (b1.mono B1.out.size));have R2:=Lib.hid (R1.out.below b1 R1.out.lt);clear b1 x0 x1 x2 x3 x4 C XX B1 R1;go_wp2
       go_roundw
       case rel=>exact ⟨j+1,by omega,by go_num,R2,B2,ST⟩
       case measure=>simp [intOf];omega
    ·obtain rfl:j=m:=by omega
     have ST:=Lib.hid (within_end (by rw [HL.out];exact hs.out) HK.out);clear hs;go_wp2
     go_roundw
     case rel=>exact ⟨k+1,by omega,by go_num,rr,bw,ST⟩
     case measure=>simp [intOf];omega
  ·obtain rfl:k=n:=by omega
   have d0:wr.cell? ⟨w.heap.size,0,none⟩=some (.int .i64 0):=row_cell rr.out 0;have d1:wr.cell? ⟨w.heap.size,1,none⟩=some (.int .i64 0):=row_cell rr.out 1;have d2:wr.cell? ⟨w.heap.size,2,none⟩=some (.int .i64 0):=row_cell rr.out 2;have d3:wr.cell? ⟨w.heap.size,3,none⟩=some (.int .i64 0):=row_cell rr.out 3;have d4:wr.cell? ⟨w.heap.size,4,none⟩=some (.int .i64 0):=row_cell rr.out 4;have f0:wr.frozen? ⟨w.heap.size,0,none⟩=false:=row_frozen rr.out 0;have f1:wr.frozen? ⟨w.heap.size,1,none⟩=false:=row_frozen rr.out 1;have f2:wr.frozen? ⟨w.heap.size,2,none⟩=false:=row_frozen rr.out 2;have f3:wr.frozen? ⟨w.heap.size,3,none⟩=false:=row_frozen rr.out 3;have f4:wr.frozen? ⟨w.heap.size,4,none⟩=false:=row_frozen rr.out 4;have R3:Hid (RowE (sto5 wr w.heap.size z5) w.heap.size z5):=Lib.hid (sto5_row (y:=z5) rr.out z5);have B3:=Lib.hid (sto5_below (g:=w.heap.size) (x:=z5) bw.out (Nat.le_refl _));have E:=Lib.hid (HM.out _ hs.out B3.out);go_wp2
   (try simp only [Exit.inBlock,Exit.then])
   exact bodyPost_ret (v:=.tuple #[.int .i64 (-1),ent z5]) (results_who (p:=5) (r:=4) rfl _ _ w.heap.size (-1) z5 rfl rfl R3.out) rfl E.out
theorem makeF (fn:Fn) (first cap:Array Value) (w:World):(Instr.makeFunc fn first cap).run Tryz.prog w = .ok (.func fn first cap) w:=rfl
theorem sclos_any (w:World) (B:Nat) (s:Int) (L:LL) (hc:w.cell? ⟨B,0,none⟩=some (.int .i64 s)):PredS 182 #[.pointer (some ⟨B,0,none⟩)] (snd s) L w:=fun W n x _ _ hb=>by
 have hlt:=World.block_lt_of_cell? _ _ hc;have d:=(hb.cell hlt).trans hc;have hBW:B < W.heap.size:=Nat.lt_of_lt_of_le hlt hb.size;clear hc hlt hb
 show Calls Tryz.prog 182 #[.int .i64 n,.agg #[.int .i64 x.1,.int .i64 x.2.1,.int .i64 x.2.2.1,.int .i64 x.2.2.2.1,.int .i64 x.2.2.2.2],.pointer (some ⟨B,0,none⟩)] W _
 have HB:=Lib.hid (fun o=>(Below.refl W.heap.size W).alloc (Nat.le_refl _) o);obtain ⟨x1,x2,x3,x4,x5⟩:=x;have Y:=fun h1 h2=>snd_yes (s:=s) (n:=n) (x:=(x1,x2,x3,x4,x5)) h1 h2;have N:=fun h=>snd_no (s:=s) (n:=n) (x:=(x1,x2,x3,x4,x5)) h;simp only at Y N ⊢
 by_cases h1:x1=1
 ·by_cases h2:x2=s
  ·rw [Y h1 h2]
   clear Y N
   go_enter Tryz.func182,Tryz.ntmps182
   go_wp2
   go_ret
   exact ⟨ret_bool (by first | rfl | simpa using h2),HB.out _⟩
  ·rw [N (fun h=>h2 h.2)]
   clear Y N
   go_enter Tryz.func182,Tryz.ntmps182
   go_wp2
   go_ret
   exact ⟨ret_bool (by first | rfl | simpa using h2),HB.out _⟩
 ·rw [N (fun h=>h1 h.1)]
  clear Y N
  go_enter Tryz.func182,Tryz.ntmps182
  go_wp2
  go_ret
  exact ⟨ret_bool (by first | rfl | simpa using h2),HB.out _⟩
def InSlots (L:LL):Prop:=∀ n,n < L.length→∀ x∈lat L n,0≤x.2.1∧x.2.1≤16
theorem cclos_any (w:World) (B:Nat) (F:Nat→Int) (L:LL) (hi:InSlots L) (hr:RowI w B F):PredS 157 #[.pointer (some ⟨B,0,none⟩)] (qc F) L w:=fun W n x hn hx hb=>by
 have R:=hr.below hb hr.lt;have hBW:=R.lt;obtain ⟨g1,g2⟩:=hi n hn x hx;clear hr hb hi hn hx
 show Calls Tryz.prog 157 #[.int .i64 n,.agg #[.int .i64 x.1,.int .i64 x.2.1,.int .i64 x.2.2.1,.int .i64 x.2.2.2.1,.int .i64 x.2.2.2.2],.pointer (some ⟨B,0,none⟩)] W _
 have HB:=Lib.hid (fun o=>(Below.refl W.heap.size W).alloc (Nat.le_refl _) o);obtain ⟨x1,x2,x3,x4,x5⟩:=x;simp only at g1 g2 ⊢;obtain ⟨k,rfl⟩:∃ k:Nat,x2=k:=⟨x2.toNat,by omega⟩;have hk:k < 17:=by omega
 have d:=R.cell k hk;have Y:=fun h=>show qc F n (x1,(k:Int),x3,x4,x5)=true from decide_eq_true h;have N:=fun h=>show qc F n (x1,(k:Int),x3,x4,x5)=false from decide_eq_false h;simp only [Int.toNat_natCast] at Y N;clear R g1 g2;generalize F k=z at *
 by_cases h1:x1=1
 ·by_cases h2:z=n
  ·rw [N (fun h=>h.2 h2)]
   clear Y N
   go_enter Tryz.func157,Tryz.ntmps157
   go_wp2
   go_ret
   exact ⟨ret_bool (by first | rfl | simpa using h2),HB.out _⟩
  ·rw [Y ⟨h1,h2⟩]
   clear Y N
   go_enter Tryz.func157,Tryz.ntmps157
   go_wp2
   go_ret
   exact ⟨ret_bool (by first | rfl | simpa using h2),HB.out _⟩
 ·rw [N (fun h=>h1 h.1)]
  clear Y N
  go_enter Tryz.func157,Tryz.ntmps157
  go_wp2
  go_ret
  exact ⟨ret_bool (by first | rfl | simpa using h2),HB.out _⟩
theorem gclos_any (w:World) (B:Nat) (F:Nat→Int) (L:LL) (hi:InSlots L) (hr:RowI w B F):PredS 158 #[.pointer (some ⟨B,0,none⟩)] (qg F) L w:=fun W n x hn hx hb=>by
 have R:=hr.below hb hr.lt;have hBW:=R.lt;obtain ⟨g1,g2⟩:=hi n hn x hx;clear hr hb hi hn hx
 show Calls Tryz.prog 158 #[.int .i64 n,.agg #[.int .i64 x.1,.int .i64 x.2.1,.int .i64 x.2.2.1,.int .i64 x.2.2.2.1,.int .i64 x.2.2.2.2],.pointer (some ⟨B,0,none⟩)] W _
 have HB:=Lib.hid (fun o=>(Below.refl W.heap.size W).alloc (Nat.le_refl _) o);obtain ⟨x1,x2,x3,x4,x5⟩:=x;simp only at g1 g2 ⊢;obtain ⟨k,rfl⟩:∃ k:Nat,x2=k:=⟨x2.toNat,by omega⟩;have hk:k < 17:=by omega
 have d:=R.cell k hk;have Y:=fun h=>show qg F n (x1,(k:Int),x3,x4,x5)=true from decide_eq_true h;have N:=fun h=>show qg F n (x1,(k:Int),x3,x4,x5)=false from decide_eq_false h;simp only [Int.toNat_natCast] at Y N;clear R g1 g2;generalize F k=z at *
 by_cases h1:x1=2
 ·by_cases h2:z < 0
  ·rw [Y ⟨h1,h2⟩]
   clear Y N
   go_enter Tryz.func158,Tryz.ntmps158
   go_wp2
   go_ret
   exact ⟨ret_bool (by first | rfl | simpa using h2),HB.out _⟩
  ·rw [N (fun h=>h2 h.2)]
   clear Y N
   go_enter Tryz.func158,Tryz.ntmps158
   go_wp2
   go_ret
   exact ⟨ret_bool (by first | rfl | simpa using h2),HB.out _⟩
 ·rw [N (fun h=>h1 h.1)]
  clear Y N
  go_enter Tryz.func158,Tryz.ntmps158
  go_wp2
  go_ret
  exact ⟨ret_bool (by first | rfl | simpa using h2),HB.out _⟩
theorem sending_any (w:World) (s:Int):Calls Tryz.prog 159 #[.int .i64 s] w fun e w'=>e = .returned (.func (.func 182) #[] #[.pointer (some ⟨w.heap.size,0,none⟩)])∧w'=w.alloc (.cells #[.int .i64 s] 3):=by
 have hmf:=makeF
 go_enter Tryz.func159,Tryz.ntmps159
 go_wp2
 go_ret
 exact ⟨rfl,rfl⟩
theorem clash_any (w:World) (F:Nat→Int):Calls Tryz.prog 127 #[.agg (ar F)] w fun e w'=>e = .returned (.func (.func 157) #[] #[.pointer (some ⟨w.heap.size,0,none⟩)])∧w'=w.alloc (.cells (ar F) 193):=by
 have hmf:=makeF
 go_enter Tryz.func127,Tryz.ntmps127
 go_wp2
 go_ret
 exact ⟨rfl,rfl⟩
theorem gap_any (w:World) (F:Nat→Int):Calls Tryz.prog 128 #[.agg (ar F)] w fun e w'=>e = .returned (.func (.func 158) #[] #[.pointer (some ⟨w.heap.size,0,none⟩)])∧w'=w.alloc (.cells (ar F) 193):=by
 have hmf:=makeF
 go_enter Tryz.func128,Tryz.ntmps128
 go_wp2
 go_ret
 exact ⟨rfl,rfl⟩
end Go.Proofs.YtpkipilggkbkeaaGreatDoor.Ck
namespace Go.Proofs.YtpkipilggkbkeaaGreatDoor.Ro
open Go.RowKit
open Rw (Rd Ow At)
open Fl (R4 z4 rec4 K4 okR hdr rat goodF ret_bool at_bool)
attribute [local irreducible] wpQuiet
theorem results_ent {fn:Func} {p:Tmp} (h:fn.results=#[.cell p 98]) (tmps:Array Value) (w:World) (g:Nat) (x:E5) (hp:tmps.getD p undef = .pointer (some ⟨g,0,none⟩)) (hrow:w.heap[g]? = some (.cells #[.int .i64 x.1,.int .i64 x.2.1,.int .i64 x.2.2.1,.int .i64 x.2.2.2.1,.int .i64 x.2.2.2.2] 98 (0,0))) :
 (results fn tmps).run Tryz.prog w = .ok (ent x) w:=results_cell_row h tmps w g _ #[.int .i64 x.1,.int .i64 x.2.1,.int .i64 x.2.2.1,.int .i64 x.2.2.2.1,.int .i64 x.2.2.2.2] _ _ hp hrow Tryz.underlying98 rfl (by show _=some 5;kernel_rfl)
def sto5 (w:World) (g:Nat) (x:E5):World:=((((w.setCell ⟨g,0,none⟩ (.int .i64 x.1)).setCell ⟨g,1,none⟩ (.int .i64 x.2.1)).setCell ⟨g,2,none⟩ (.int .i64 x.2.2.1)).setCell ⟨g,3,none⟩ (.int .i64 x.2.2.2.1)).setCell ⟨g,4,none⟩ (.int .i64 x.2.2.2.2)
def row5 (x:E5):Array Value:=#[.int .i64 x.1,.int .i64 x.2.1,.int .i64 x.2.2.1,.int .i64 x.2.2.2.1,.int .i64 x.2.2.2.2]
theorem sto5_row {w:World} {g:Nat} {q:E5} (h:w.heap[g]? = some (.cells (row5 q) 98 (0,0))) (x:E5):(sto5 w g x).heap[g]? = some (.cells (row5 x) 98 (0,0)) :=
 Rw.heap_setCell_same (Rw.heap_setCell_same (Rw.heap_setCell_same (Rw.heap_setCell_same (Rw.heap_setCell_same h _) _) _) _) _
theorem sto5_below {w W:World} {B g:Nat} {x:E5} (h:Below B w W) (hb:B≤g):Below B w (sto5 W g x) :=
 ((((h.setCell (p:=⟨g,0,none⟩) hb _).setCell (p:=⟨g,1,none⟩) hb _).setCell (p:=⟨g,2,none⟩) hb _).setCell (p:=⟨g,3,none⟩) hb _).setCell (p:=⟨g,4,none⟩) hb _
set_option maxHeartbeats 400000 in
theorem end_any (w:World):Calls Tryz.prog 133 #[] w fun e w'=>e = .returned (ent endE)∧Below w.heap.size w w':=by
 go_enter Tryz.func133,Tryz.ntmps133
 go_wp2
 (try simp only [Exit.inBlock,Exit.then])
 refine bodyPost_ret (v:=ent endE) ?_ rfl ⟨rfl,?_⟩
 ·exact results_cell_row (p:=0) rfl _ _ w.heap.size 98 _ (0,0) _ rfl (heap_alloc_new w _) Tryz.underlying98 rfl (by show _=some 5;kernel_rfl)
 ·exact (Below.refl w.heap.size w).alloc (Nat.le_refl _) _
set_option maxHeartbeats 1000000 in
theorem place_any (w:World) (k s f r b:Int):Calls Tryz.prog 132 #[.agg #[.int .i64 k,.int .i64 s,.int .i64 f,.int .i64 r,.int .i64 b]] w fun e w'=>e = .returned (.bool (placeB s f r))∧Below w.heap.size w w':=by
 have B0:=Lib.hid ((Below.refl w.heap.size w).alloc (Nat.le_refl _) (.cells #[.int .i64 k,.int .i64 s,.int .i64 f,.int .i64 r,.int .i64 b] 98))
 by_cases h1:1≤s
 ·by_cases h2:s≤16
  ·by_cases h3:0≤f
   ·by_cases h4:f < 64
    ·by_cases h5:1≤r
     ·by_cases h6:r < 256
      ·have E:Hid (true=placeB s f r):=Lib.hid (decide_eq_true (show place s f r by unfold place;omega)).symm
       go_enter Tryz.func132,Tryz.ntmps132
       go_wp2
       go_ret
       exact ⟨ret_bool E.out,B0.out⟩
      ·have E:Hid (false=placeB s f r):=Lib.hid (decide_eq_false (show ¬ place s f r by unfold place;omega)).symm
       go_enter Tryz.func132,Tryz.ntmps132
       go_wp2
       go_ret
       exact ⟨ret_bool E.out,B0.out⟩
     ·have E:Hid (false=placeB s f r):=Lib.hid (decide_eq_false (show ¬ place s f r by unfold place;omega)).symm
      go_enter Tryz.func132,Tryz.ntmps132
      go_wp2
      go_ret
      exact ⟨ret_bool E.out,B0.out⟩
    ·have E:Hid (false=placeB s f r):=Lib.hid (decide_eq_false (show ¬ place s f r by unfold place;omega)).symm
     go_enter Tryz.func132,Tryz.ntmps132
     go_wp2
     go_ret
     exact ⟨ret_bool E.out,B0.out⟩
   ·have E:Hid (false=placeB s f r):=Lib.hid (decide_eq_false (show ¬ place s f r by unfold place;omega)).symm
    go_enter Tryz.func132,Tryz.ntmps132
    go_wp2
    go_ret
    exact ⟨ret_bool E.out,B0.out⟩
  ·have E:Hid (false=placeB s f r):=Lib.hid (decide_eq_false (show ¬ place s f r by unfold place;omega)).symm
   go_enter Tryz.func132,Tryz.ntmps132
   go_wp2
   go_ret
   exact ⟨ret_bool E.out,B0.out⟩
 ·have E:Hid (false=placeB s f r):=Lib.hid (decide_eq_false (show ¬ place s f r by unfold place;omega)).symm
  go_enter Tryz.func132,Tryz.ntmps132
  go_wp2
  go_ret
  exact ⟨ret_bool E.out,B0.out⟩
set_option maxHeartbeats 1000000 in
theorem good_act (w:World) (k s f r b L:Int) (hk:(k=1∨k=2)∧L=3∨k=3∧L=0):Calls Tryz.prog 100 #[.agg #[.int .i64 k,.int .i64 s,.int .i64 f,.int .i64 r,.int .i64 b]] w fun e w'=>e = .returned (.bool (okB (k,s,f,r,b)))∧Below w.heap.size w w':=by
 have B0:=Lib.hid ((Below.refl w.heap.size w).alloc (Nat.le_refl _) (.cells #[.int .i64 k,.int .i64 s,.int .i64 f,.int .i64 r,.int .i64 b] 98))
 have EQ:Hid (okE (k,s,f,r,b)↔place s f r∧0≤b∧b≤L):=Lib.hid (by
  unfold okE place;simp only
  omega)
 have PA:=Lib.hid (fun w=>place_any w k s f r b)
 by_cases hp:place s f r
 ·have PP:=Lib.hid (decide_eq_true hp)
  unfold placeB at PA;rw [PP.out] at PA;have HP:=Lib.hid hp;clear hp PP
  by_cases h1:0≤b
  ·have E:Hid (decide (b≤L)=okB (k,s,f,r,b)):=Lib.hid (decide_eq_decide.2 ⟨fun h=>EQ.out.2 ⟨HP.out,h1,h⟩,fun h=>(EQ.out.1 h).2.2⟩)
   clear EQ HP
   rcases hk with ⟨rfl | rfl,rfl⟩ | ⟨rfl,rfl⟩
   all_goals
    go_enter Tryz.func100,Tryz.ntmps100
    go_wp2_with fail;refine (PA.out _).mono ?_;rintro e w1 ⟨rfl,b1⟩;have c4:w1.cell? ⟨w.heap.size,4,none⟩=some (.int .i64 b):=(b1.cell (by simp)).trans (by go_simp);have B1:=Lib.hid (B0.out.trans (b1.mono B0.out.size));clear b1;go_wp2
    go_ret
    exact ⟨ret_bool E.out,B1.out⟩
  ·have E:Hid (false=okB (k,s,f,r,b)):=Lib.hid (decide_eq_false (fun h=>h1 (EQ.out.1 h).2.1)).symm
   clear EQ HP
   rcases hk with ⟨rfl | rfl,rfl⟩ | ⟨rfl,rfl⟩
   all_goals
    go_enter Tryz.func100,Tryz.ntmps100
    go_wp2_with fail;refine (PA.out _).mono ?_;rintro e w1 ⟨rfl,b1⟩;have c4:w1.cell? ⟨w.heap.size,4,none⟩=some (.int .i64 b):=(b1.cell (by simp)).trans (by go_simp);have B1:=Lib.hid (B0.out.trans (b1.mono B0.out.size));clear b1;go_wp2
    go_ret
    exact ⟨ret_bool E.out,B1.out⟩
 ·have E:Hid (false=okB (k,s,f,r,b)):=Lib.hid (decide_eq_false (fun h=>hp (EQ.out.1 h).1)).symm
  have PP:=Lib.hid (decide_eq_false hp);unfold placeB at PA;rw [PP.out] at PA;clear hp PP EQ
  rcases hk with ⟨rfl | rfl,rfl⟩ | ⟨rfl,rfl⟩
  all_goals
   go_enter Tryz.func100,Tryz.ntmps100
   go_wp2_with fail;refine (PA.out _).mono ?_;rintro e w1 ⟨rfl,b1⟩;have c4:w1.cell? ⟨w.heap.size,4,none⟩=some (.int .i64 b):=(b1.cell (by simp)).trans (by go_simp);have B1:=Lib.hid (B0.out.trans (b1.mono B0.out.size));clear b1;go_wp2
   go_ret
   exact ⟨ret_bool E.out,B1.out⟩
set_option maxHeartbeats 1000000 in
theorem good_end (w:World) (s f r b:Int):Calls Tryz.prog 100 #[.agg #[.int .i64 4,.int .i64 s,.int .i64 f,.int .i64 r,.int .i64 b]] w fun e w'=>e = .returned (.bool (okB (4,s,f,r,b)))∧Below w.heap.size w w':=by
 have B0:=Lib.hid ((Below.refl w.heap.size w).alloc (Nat.le_refl _) (.cells #[.int .i64 4,.int .i64 s,.int .i64 f,.int .i64 r,.int .i64 b] 98))
 have EQ:okE (4,s,f,r,b)↔(s=0∧f=0∧r=0∧b=0):=⟨fun h=>by
  rcases h with h | h
  ·exact absurd h.2.1 (show ¬ (4:Int)≤3 by decide)
  ·exact h.2,fun h=>.inr ⟨rfl,h⟩⟩
 have E:Hid ((decide (s=0) && (decide (f=0) && (decide (r=0) && decide (b=0))))=okB (4,s,f,r,b)):=Lib.hid (by
  rw [show okB (4,s,f,r,b)=decide (s=0∧f=0∧r=0∧b=0) from decide_eq_decide.2 EQ]
  simp only [Bool.decide_and])
 clear EQ;have es:=eq_ent ((4:Int),s,f,r,b) endE;simp only [endE] at es;have EE:=Lib.hid (fun w=>end_any w);unfold ent at EE;simp only [endE] at EE;have k0:=Qb.cell_by (show (w.alloc (.cells #[.int .i64 4,.int .i64 s,.int .i64 f,.int .i64 r,.int .i64 b] 98)).cell? ⟨w.heap.size,0,none⟩=some (.int .i64 4) by go_simp);have k1:=Qb.cell_by (show (w.alloc (.cells #[.int .i64 4,.int .i64 s,.int .i64 f,.int .i64 r,.int .i64 b] 98)).cell? ⟨w.heap.size,1,none⟩=some (.int .i64 s) by go_simp);have k2:=Qb.cell_by (show (w.alloc (.cells #[.int .i64 4,.int .i64 s,.int .i64 f,.int .i64 r,.int .i64 b] 98)).cell? ⟨w.heap.size,2,none⟩=some (.int .i64 f) by go_simp);have k3:=Qb.cell_by (show (w.alloc (.cells #[.int .i64 4,.int .i64 s,.int .i64 f,.int .i64 r,.int .i64 b] 98)).cell? ⟨w.heap.size,3,none⟩=some (.int .i64 r) by go_simp);have k4:=Qb.cell_by (show (w.alloc (.cells #[.int .i64 4,.int .i64 s,.int .i64 f,.int .i64 r,.int .i64 b] 98)).cell? ⟨w.heap.size,4,none⟩=some (.int .i64 b) by go_simp)
 go_enter Tryz.func100,Tryz.ntmps100
 go_wp2_with fail;refine Qb.wp_region_by (by kernel_rfl) (by kernel_rfl) ?_
 repeat (quiet_step ((go_at_call 133;with_reducible exact Qb.of_below (EE.out _))))
 refine wpQuiet_nil ?_
 intro _ hw'
 obtain ⟨pp,rfl⟩:=hw';go_wp2
 go_ret
 exact ⟨ret_bool E.out,B0.out.trans (pp.below.mono B0.out.size)⟩
set_option maxHeartbeats 400000 in
theorem good_else (w:World) (k s f r b:Int) (h1:k≠1) (h2:k≠2) (h3:k≠3) (h4:k≠4):Calls Tryz.prog 100 #[.agg #[.int .i64 k,.int .i64 s,.int .i64 f,.int .i64 r,.int .i64 b]] w fun e w'=>e = .returned (.bool (okB (k,s,f,r,b)))∧Below w.heap.size w w':=by
 have B0:=Lib.hid ((Below.refl w.heap.size w).alloc (Nat.le_refl _) (.cells #[.int .i64 k,.int .i64 s,.int .i64 f,.int .i64 r,.int .i64 b] 98));have E:Hid (false=okB (k,s,f,r,b)):=Lib.hid (decide_eq_false (show ¬ okE (k,s,f,r,b) by unfold okE;simp only;omega)).symm
 go_enter Tryz.func100,Tryz.ntmps100
 go_wp2
 go_ret
 exact ⟨ret_bool E.out,B0.out⟩
theorem good_any (w:World) (x:E5):Calls Tryz.prog 100 #[ent x] w fun e w'=>e = .returned (.bool (okB x))∧Below w.heap.size w w':=by
 obtain ⟨k,s,f,r,b⟩:=x
 show Calls Tryz.prog 100 #[.agg #[.int .i64 k,.int .i64 s,.int .i64 f,.int .i64 r,.int .i64 b]] w _
 by_cases h1:k=1
 ·exact good_act w k s f r b 3 (.inl ⟨.inl h1,rfl⟩)
 ·by_cases h2:k=2
  ·exact good_act w k s f r b 3 (.inl ⟨.inr h2,rfl⟩)
  ·by_cases h3:k=3
   ·exact good_act w k s f r b 0 (.inr ⟨h3,rfl⟩)
   ·by_cases h4:k=4
    ·subst h4;exact good_end w s f r b
    ·exact good_else w k s f r b h1 h2 h3 h4
end Go.Proofs.YtpkipilggkbkeaaGreatDoor.Ro
namespace Go.Proofs.YtpkipilggkbkeaaGreatDoor.Ro
open Go.RowKit
open Rw (Rd Ow At)
open Fl (R4 z4 rec4 K4 okR hdr rat goodF ret_bool at_bool)
set_option maxHeartbeats 1000000 in
theorem rgood_end (w:World) (s f r b:Int):Calls Tryz.prog 142 #[.agg #[.int .i64 4,.int .i64 s,.int .i64 f,.int .i64 r,.int .i64 b]] w fun e w'=>e = .returned (.bool (okB (4,s,f,r,b)))∧Below w.heap.size w w':=by
 have B0:=Lib.hid ((Below.refl w.heap.size w).alloc (Nat.le_refl _) (.cells #[.int .i64 4,.int .i64 s,.int .i64 f,.int .i64 r,.int .i64 b] 98))
 have EQ:okE (4,s,f,r,b)↔(s=0∧f=0∧r=0∧b=0):=⟨fun h=>by
  rcases h with h | h
  ·exact absurd h.2.1 (show ¬ (4:Int)≤3 by decide)
  ·exact h.2,fun h=>.inr ⟨rfl,h⟩⟩
 have EB:Hid (okB (4,s,f,r,b)=decide (s=0∧f=0∧r=0∧b=0)):=Lib.hid (decide_eq_decide.2 EQ);clear EQ;rw [EB.out];clear EB
 by_cases h0:s=0
 ·by_cases h1:f=0
  ·by_cases h2:r=0
   ·have E:Hid (decide (b=0)=decide (s=0∧f=0∧r=0∧b=0)):=Lib.hid (decide_eq_decide.2 ⟨fun h=>⟨h0,h1,h2,h⟩,fun h=>h.2.2.2⟩)
    go_enter Tryz.func142,Tryz.ntmps142
    go_wp2
    go_ret
    exact ⟨ret_bool E.out,(Below.refl w.heap.size w).alloc (Nat.le_refl _) _⟩
   ·have E:Hid (false=decide (s=0∧f=0∧r=0∧b=0)):=Lib.hid (decide_eq_false (fun h=>h2 h.2.2.1)).symm
    go_enter Tryz.func142,Tryz.ntmps142
    go_wp2
    go_ret
    exact ⟨ret_bool E.out,(Below.refl w.heap.size w).alloc (Nat.le_refl _) _⟩
  ·have E:Hid (false=decide (s=0∧f=0∧r=0∧b=0)):=Lib.hid (decide_eq_false (fun h=>h1 h.2.1)).symm
   go_enter Tryz.func142,Tryz.ntmps142
   go_wp2
   go_ret
   exact ⟨ret_bool E.out,(Below.refl w.heap.size w).alloc (Nat.le_refl _) _⟩
 ·have E:Hid (false=decide (s=0∧f=0∧r=0∧b=0)):=Lib.hid (decide_eq_false (fun h=>h0 h.1)).symm
  go_enter Tryz.func142,Tryz.ntmps142
  go_wp2
  go_ret
  exact ⟨ret_bool E.out,(Below.refl w.heap.size w).alloc (Nat.le_refl _) _⟩
set_option maxHeartbeats 400000 in
theorem rgood_low (w:World) (k s f r b:Int) (h:k < 1):Calls Tryz.prog 142 #[.agg #[.int .i64 k,.int .i64 s,.int .i64 f,.int .i64 r,.int .i64 b]] w fun e w'=>e = .returned (.bool (okB (k,s,f,r,b)))∧Below w.heap.size w w':=by
 have B0:=Lib.hid ((Below.refl w.heap.size w).alloc (Nat.le_refl _) (.cells #[.int .i64 k,.int .i64 s,.int .i64 f,.int .i64 r,.int .i64 b] 98));have E:Hid (false=okB (k,s,f,r,b)):=Lib.hid (decide_eq_false (show ¬ okE (k,s,f,r,b) by unfold okE;simp only;omega)).symm;have hk1:¬ k=4:=by omega
 go_enter Tryz.func142,Tryz.ntmps142
 go_wp2
 go_ret
 exact ⟨ret_bool E.out,(Below.refl w.heap.size w).alloc (Nat.le_refl _) _⟩
set_option maxHeartbeats 400000 in
theorem rgood_high (w:World) (k s f r b:Int) (h:3 < k) (h4:k≠4):Calls Tryz.prog 142 #[.agg #[.int .i64 k,.int .i64 s,.int .i64 f,.int .i64 r,.int .i64 b]] w fun e w'=>e = .returned (.bool (okB (k,s,f,r,b)))∧Below w.heap.size w w':=by
 have B0:=Lib.hid ((Below.refl w.heap.size w).alloc (Nat.le_refl _) (.cells #[.int .i64 k,.int .i64 s,.int .i64 f,.int .i64 r,.int .i64 b] 98));have E:Hid (false=okB (k,s,f,r,b)):=Lib.hid (decide_eq_false (show ¬ okE (k,s,f,r,b) by unfold okE;simp only;omega)).symm;have hk1:¬ k=4:=by omega
 have hk2:¬ k < 1:=by omega
 go_enter Tryz.func142,Tryz.ntmps142
 go_wp2
 go_ret
 exact ⟨ret_bool E.out,(Below.refl w.heap.size w).alloc (Nat.le_refl _) _⟩
set_option maxHeartbeats 400000 in
theorem rgood_exec (w:World) (s f r b:Int) (h:b≠0):Calls Tryz.prog 142 #[.agg #[.int .i64 3,.int .i64 s,.int .i64 f,.int .i64 r,.int .i64 b]] w fun e w'=>e = .returned (.bool (okB (3,s,f,r,b)))∧Below w.heap.size w w':=by
 have B0:=Lib.hid ((Below.refl w.heap.size w).alloc (Nat.le_refl _) (.cells #[.int .i64 3,.int .i64 s,.int .i64 f,.int .i64 r,.int .i64 b] 98));have E:Hid (false=okB (3,s,f,r,b)):=Lib.hid (decide_eq_false (show ¬ okE (3,s,f,r,b) by unfold okE;simp only;omega)).symm
 go_enter Tryz.func142,Tryz.ntmps142
 go_wp2
 go_ret
 exact ⟨ret_bool E.out,(Below.refl w.heap.size w).alloc (Nat.le_refl _) _⟩
set_option maxHeartbeats 4000000 in
theorem rgood_act (w:World) (k s f r b:Int) (hk:(k=3∧b=0)∨(¬ k < 1∧¬ 3 < k∧¬ k=3∧¬ k=4)):Calls Tryz.prog 142 #[.agg #[.int .i64 k,.int .i64 s,.int .i64 f,.int .i64 r,.int .i64 b]] w fun e w'=>e = .returned (.bool (okB (k,s,f,r,b)))∧Below w.heap.size w w':=by
 have B0:=Lib.hid ((Below.refl w.heap.size w).alloc (Nat.le_refl _) (.cells #[.int .i64 k,.int .i64 s,.int .i64 f,.int .i64 r,.int .i64 b] 98))
 have EQ:Hid (okE (k,s,f,r,b)↔(1≤s∧s≤16∧0≤f∧f≤63∧1≤r∧r≤255∧0≤b∧b≤3)):=Lib.hid (by
  unfold okE place;simp only
  omega)
 by_cases h0:1≤s
 ·by_cases h1:s≤16
  ·by_cases h2:0≤f
   ·by_cases h3:f≤63
    ·by_cases h4:1≤r
     ·by_cases h5:r≤255
      ·by_cases h6:0≤b
       ·have E:Hid (decide (b≤3)=okB (k,s,f,r,b)):=Lib.hid (decide_eq_decide.2 ⟨fun h=>EQ.out.2 ⟨h0,h1,h2,h3,h4,h5,h6,h⟩,fun h=>(EQ.out.1 h).2.2.2.2.2.2.2⟩)
        clear EQ
        rcases hk with ⟨rfl,rfl⟩ | ⟨k1,k2,k3,k4⟩
        all_goals
         go_enter Tryz.func142,Tryz.ntmps142
         go_wp2
         go_ret
         exact ⟨ret_bool E.out,(Below.refl w.heap.size w).alloc (Nat.le_refl _) _⟩
       ·have E:Hid (false=okB (k,s,f,r,b)):=Lib.hid (decide_eq_false (fun h=>h6 (EQ.out.1 h).2.2.2.2.2.2.1)).symm
        clear EQ;have hk':=hk.resolve_left (fun h=>h6 (by omega));clear hk;obtain ⟨k1,k2,k3,k4⟩:=hk'
        all_goals
         go_enter Tryz.func142,Tryz.ntmps142
         go_wp2
         go_ret
         exact ⟨ret_bool E.out,(Below.refl w.heap.size w).alloc (Nat.le_refl _) _⟩
      ·have E:Hid (false=okB (k,s,f,r,b)):=Lib.hid (decide_eq_false (fun h=>h5 (EQ.out.1 h).2.2.2.2.2.1)).symm
       clear EQ
       rcases hk with ⟨rfl,rfl⟩ | ⟨k1,k2,k3,k4⟩
       all_goals
        go_enter Tryz.func142,Tryz.ntmps142
        go_wp2
        go_ret
        exact ⟨ret_bool E.out,(Below.refl w.heap.size w).alloc (Nat.le_refl _) _⟩
     ·have E:Hid (false=okB (k,s,f,r,b)):=Lib.hid (decide_eq_false (fun h=>h4 (EQ.out.1 h).2.2.2.2.1)).symm
      clear EQ
      rcases hk with ⟨rfl,rfl⟩ | ⟨k1,k2,k3,k4⟩
      all_goals
       go_enter Tryz.func142,Tryz.ntmps142
       go_wp2
       go_ret
       exact ⟨ret_bool E.out,(Below.refl w.heap.size w).alloc (Nat.le_refl _) _⟩
    ·have E:Hid (false=okB (k,s,f,r,b)):=Lib.hid (decide_eq_false (fun h=>h3 (EQ.out.1 h).2.2.2.1)).symm
     clear EQ
     rcases hk with ⟨rfl,rfl⟩ | ⟨k1,k2,k3,k4⟩
     all_goals
      go_enter Tryz.func142,Tryz.ntmps142
      go_wp2
      go_ret
      exact ⟨ret_bool E.out,(Below.refl w.heap.size w).alloc (Nat.le_refl _) _⟩
   ·have E:Hid (false=okB (k,s,f,r,b)):=Lib.hid (decide_eq_false (fun h=>h2 (EQ.out.1 h).2.2.1)).symm
    clear EQ
    rcases hk with ⟨rfl,rfl⟩ | ⟨k1,k2,k3,k4⟩
    all_goals
     go_enter Tryz.func142,Tryz.ntmps142
     go_wp2
     go_ret
     exact ⟨ret_bool E.out,(Below.refl w.heap.size w).alloc (Nat.le_refl _) _⟩
  ·have E:Hid (false=okB (k,s,f,r,b)):=Lib.hid (decide_eq_false (fun h=>h1 (EQ.out.1 h).2.1)).symm
   clear EQ
   rcases hk with ⟨rfl,rfl⟩ | ⟨k1,k2,k3,k4⟩
   all_goals
    go_enter Tryz.func142,Tryz.ntmps142
    go_wp2
    go_ret
    exact ⟨ret_bool E.out,(Below.refl w.heap.size w).alloc (Nat.le_refl _) _⟩
 ·have E:Hid (false=okB (k,s,f,r,b)):=Lib.hid (decide_eq_false (fun h=>h0 (EQ.out.1 h).1)).symm
  clear EQ
  rcases hk with ⟨rfl,rfl⟩ | ⟨k1,k2,k3,k4⟩
  all_goals
   go_enter Tryz.func142,Tryz.ntmps142
   go_wp2
   go_ret
   exact ⟨ret_bool E.out,(Below.refl w.heap.size w).alloc (Nat.le_refl _) _⟩
theorem rgood_any (w:World) (x:E5):Calls Tryz.prog 142 #[ent x] w fun e w'=>e = .returned (.bool (okB x))∧Below w.heap.size w w':=by
 obtain ⟨k,s,f,r,b⟩:=x
 show Calls Tryz.prog 142 #[.agg #[.int .i64 k,.int .i64 s,.int .i64 f,.int .i64 r,.int .i64 b]] w _
 by_cases h4:k=4
 ·subst h4;exact rgood_end w s f r b
 ·by_cases h1:k < 1
  ·exact rgood_low w k s f r b h1
  ·by_cases h2:3 < k
   ·exact rgood_high w k s f r b h2 h4
   ·by_cases h3:k=3
    ·by_cases h5:b=0
     ·exact rgood_act w k s f r b (.inl ⟨h3,h5⟩)
     ·subst h3;exact rgood_exec w s f r b h5
    ·exact rgood_act w k s f r b (.inr ⟨h1,h2,h3,h4⟩)
end Go.Proofs.YtpkipilggkbkeaaGreatDoor.Ro
namespace Go.Proofs.YtpkipilggkbkeaaGreatDoor.Ro
open Go.RowKit
open Rw (Rd Ow At)
open Fl (R4 z4 rec4 K4 okR hdr rat goodF ret_bool at_bool)
attribute [local irreducible] wpQuiet
set_option maxHeartbeats 1000000 in
theorem istable_any (w:World) (v:Value) (l:List E5) (R:Rd K5 w v l):Calls Tryz.prog 179 #[v] w fun e w'=>e = .returned (.bool (mayB l))∧Below w.heap.size w w':=by
 have HNO:Hid (∀ k,k < l.length→¬ okAt l k→false=mayB l):=fun k hk h=>(decide_eq_false (fun g=>h (g k hk))).symm;have HYES:Hid ((∀ i,i < l.length→okAt l i)→true=mayB l):=fun h=>(decide_eq_true h).symm;obtain ⟨a,cap,rfl,_,hm,hA⟩:=R;have HA:=Lib.hid hA;unfold maxLen at hm;clear hA;generalize hn:l.length=n at *;have HN:=Lib.hid hn;clear hn
 go_enter Tryz.func179,Tryz.ntmps179
 go_wp2
 go_loopw [8,3] (fun i s wr=>∃ k:Nat,k≤n∧i = .int .i64 k∧s = .int .i64 (prevS l k)∧Hid (Below w.heap.size w wr)∧Hid (∀ i,i < k→okAt l i)) (fun i _ _=>n - (intOf i).toNat)
 case atStart=>exact ⟨0,Nat.zero_le _,rfl,rfl,Below.refl _ _,fun i hi=>by omega⟩
 case round =>
  obtain ⟨k,hk,rfl,rfl,bw,hs⟩:=hrel
  by_cases hlt:k < n
  ·obtain ⟨b,off,rfl,A⟩:=HA.out (by omega)
   obtain ⟨c0,c1,c2,c3,c4⟩:=at5 (A.below bw.out) k (by have:=HN.out;omega);have HAA:=Lib.hid A;have GA:=Lib.hid (fun w=>good_any w (eat l k));have hno:=HNO.out k hlt;have hok:okAt l k↔okE (eat l k)∧prevS l k < (eat l k).2.1:=Iff.rfl;have hst:okAt l k→∀ i,i < k+1→okAt l i:=fun g i hi=>by
    by_cases e:i=k
    ·rw [e];exact g
    ·exact hs.out i (by omega)
   have hpn:=prev_next l k;rw [show l.getD k z5=eat l k from rfl] at c0 c1 c2 c3 c4;clear A;unfold ent at GA;have P1:=Lib.hid hno;have P2:=Lib.hid hok;have P3:=Lib.hid hst;have P4:=Lib.hid hpn;clear hno hok hst hpn
   by_cases h1:okE (eat l k)
   ·rw [ok_yes h1] at GA
    have H1:=Lib.hid h1;clear h1
    by_cases h2:(eat l k).2.1≤prevS l k
    ·have E:=Lib.hid (P1.out (fun g=>by have:=(P2.out.1 g).2;omega))
     clear P1 P2 P3 P4;generalize prevS l k=ps at *;generalize eat l k=x at *;go_wp2_with fail;refine (GA.out _).mono ?_;rintro e w1 ⟨rfl,b1⟩;have e1:w1.cell? ⟨wr.heap.size,1,none⟩=some (.int .i64 x.2.1):=(b1.cell (by simp)).trans (by go_simp);have B1:=Lib.hid ((bw.out.alloc bw.out.size _).trans (b1.mono (Nat.le_trans bw.out.size (by simp))));clear b1;go_wp2
     go_ret
     exact ⟨ret_bool E.out,B1.out⟩
    ·have ST:=Lib.hid (P3.out (P2.out.2 ⟨H1.out,by omega⟩))
     have PN:=Lib.hid P4.out;clear P1 P2 P3 P4;generalize prevS l k=ps at *;generalize eat l k=x at *;have h3:ps < x.2.1:=by omega
     go_wp2_with fail;refine (GA.out _).mono ?_;rintro e w1 ⟨rfl,b1⟩;have e1:w1.cell? ⟨wr.heap.size,1,none⟩=some (.int .i64 x.2.1):=(b1.cell (by simp)).trans (by go_simp);have B1:=Lib.hid ((bw.out.alloc bw.out.size _).trans (b1.mono (Nat.le_trans bw.out.size (by simp))));clear b1;go_wp2
     go_roundw
     case rel=>exact ⟨k+1,by omega,by go_num,by rw [PN.out],B1,ST⟩
     case measure=>simp [intOf];omega
   ·have E:=Lib.hid (P1.out (fun g=>h1 (P2.out.1 g).1))
    rw [ok_no h1] at GA;clear P1 P2 P3 P4 h1;generalize prevS l k=ps at *;generalize eat l k=x at *;go_wp2_with fail;refine (GA.out _).mono ?_;rintro e w1 ⟨rfl,b1⟩;have B1:=Lib.hid ((bw.out.alloc bw.out.size _).trans (b1.mono (Nat.le_trans bw.out.size (by simp))));clear b1;go_wp2
    go_ret
    exact ⟨ret_bool E.out,B1.out⟩
  ·obtain rfl:k=n:=by omega
   have E:=Lib.hid (HYES.out (fun i hi=>hs.out i hi));generalize prevS l k=ps at *;go_wp2
   go_ret
   exact ⟨ret_bool E.out,bw.out⟩
set_option maxHeartbeats 4000000 in
theorem rmay_any (w:World) (v:Value) (l:List E5) (R:Rd K5 w v l):Calls Tryz.prog 110 #[v] w fun e w'=>e = .returned (.bool (mayB l))∧Below w.heap.size w w':=by
 have HNO:Hid (∀ k,k < l.length→¬ okAt l k→false=mayB l):=fun k hk h=>(decide_eq_false (fun g=>h (g k hk))).symm;have HYES:Hid ((∀ i,i < l.length→okAt l i)→true=mayB l):=fun h=>(decide_eq_true h).symm;have HLEN:Hid ((∀ i,i < l.length→okAt l i)→l.length≤16):=fun h=>may_len h;obtain ⟨a,cap,rfl,_,hm,hA⟩:=R;have HA:=Lib.hid hA;unfold maxLen at hm;clear hA;generalize hn:l.length=n at *;have HN:=Lib.hid hn;clear hn
 go_enter Tryz.func110,Tryz.ntmps110
 go_wp2
 go_loopw [3] (fun i wr=>∃ k:Nat,k≤n∧i = .int .i64 k∧Hid (Below w.heap.size w wr)∧Hid (∀ i,i < k→okAt l i)) (fun i _=>n - (intOf i).toNat)
 case atStart=>exact ⟨0,Nat.zero_le _,rfl,Below.refl _ _,fun i hi=>by omega⟩
 case round =>
  obtain ⟨k,hk,rfl,bw,hs⟩:=hrel
  by_cases hlt:k < n
  ·obtain ⟨b,off,rfl,A⟩:=HA.out (by omega)
   obtain ⟨c0,c1,c2,c3,c4⟩:=at5 (A.below bw.out) k (by have:=HN.out;omega);have HAA:=Lib.hid A;have GA:=Lib.hid (fun w=>rgood_any w (eat l k));have hok:=okAt_iff hs.out;have P1:=Lib.hid (HNO.out k hlt);have P2:=Lib.hid hok;have P3:Hid (okAt l k→∀ i,i < k+1→okAt l i):=fun g i hi=>by
    by_cases e:i=k
    ·rw [e];exact g
    ·exact hs.out i (by omega)
   rw [show l.getD k z5=eat l k from rfl] at c0 c1 c2 c3 c4
   replace c0:=Qb.cell_by c0
   replace c1:=Qb.cell_by c1
   replace c2:=Qb.cell_by c2
   replace c3:=Qb.cell_by c3
   replace c4:=Qb.cell_by c4
   clear A hok HNO HYES HLEN;unfold ent at GA
   by_cases h1:okE (eat l k)
   ·rw [ok_yes h1] at GA
    have H1:=Lib.hid h1;clear h1
    by_cases h2:(eat l k).1=4
    ·have E:=Lib.hid (P1.out (fun g=>(P2.out.1 g).2.1 h2))
     clear P1 P2 P3 H1;generalize eat l k=x at *;obtain ⟨x1,x2,x3,x4,x5⟩:=x;simp only at *;subst h2;go_wp2;refine Qb.wp_region_by (by kernel_rfl) (by kernel_rfl) ?_
     repeat (first | (refine Qk.skip (by rfl) (by rfl) ?_) | (quiet_step ((go_at_call 142;with_reducible exact Qb.of_below (GA.out _)))))
     refine wpQuiet_nil ?_
     intro _ hw'
     obtain ⟨pp,rfl⟩:=hw';go_wp2
     go_ret
     exact ⟨ret_bool E.out,bw.out.trans (pp.below.mono bw.out.size)⟩
    ·by_cases hk0:k=0
     ·have ST:=Lib.hid (P3.out (P2.out.2 ⟨H1.out,h2,fun g=>by omega⟩))
      clear P1 P2 P3 H1;generalize eat l k=x at *;have h2':decide (x.1=4)=false:=decide_eq_false h2;have k0:decide (0 < k)=false:=decide_eq_false (by omega);clear hk0;go_wp2;refine Qb.wp_region_by (by kernel_rfl) (by kernel_rfl) ?_
      repeat (first | (refine Qk.skip (by rfl) (by rfl) ?_) | (quiet_step ((go_at_call 142;with_reducible exact Qb.of_below (GA.out _)))))
      refine wpQuiet_nil ?_
      intro _ hw'
      obtain ⟨pp,rfl⟩:=hw';have B1:=Lib.hid (bw.out.trans (pp.below.mono bw.out.size));go_wp2
      go_roundw
      case rel=>exact ⟨k+1,by omega,by go_num,B1,ST⟩
      case measure=>simp [intOf];omega
     ·obtain ⟨j,hj⟩:∃ j,k=j+1:=⟨k - 1,by omega⟩
      have hjn:j < n:=by omega
      obtain ⟨_,d1,_,_,_⟩:=at5 (HAA.out.below bw.out) j (by have:=HN.out;omega);rw [show l.getD j z5=eat l j from rfl] at d1
      replace d1:=Qb.cell_by d1
      have k0:decide (0 < k)=true:=decide_eq_true (by omega);have W0:IntKind.i64.wrap ((k:Int) - 1)=(j:Int):=by rw [IntWalk.i64_in _ (by omega)];omega
      have h2':decide ((eat l k).1=4)=false:=decide_eq_false h2;have HJ:=Lib.hid hj;rw [show prevS l k=(eat l j).2.1 by rw [hj,prev_next]] at P2;clear hj hk0
      by_cases h3:(eat l k).2.1≤(eat l j).2.1
      ·have E:=Lib.hid (P1.out (fun g=>(P2.out.1 g).2.2 ⟨by have:=HJ.out;omega,h3⟩))
       have h3':decide ((eat l k).2.1≤(eat l j).2.1)=true:=decide_eq_true h3;clear P1 P2 P3 H1;generalize eat l k=x at *;generalize eat l j=y at *;go_wp2;refine Qb.wp_region_by (by kernel_rfl) (by kernel_rfl) ?_
       repeat (first | (refine Qk.skip (by rfl) (by rfl) ?_) | (quiet_step ((go_at_call 142;with_reducible exact Qb.of_below (GA.out _)))))
       refine wpQuiet_nil ?_
       intro _ hw'
       obtain ⟨pp,rfl⟩:=hw';go_wp2
       go_ret
       exact ⟨ret_bool E.out,bw.out.trans (pp.below.mono bw.out.size)⟩
      ·have ST:=Lib.hid (P3.out (P2.out.2 ⟨H1.out,h2,fun g=>h3 g.2⟩))
       have h3':decide ((eat l k).2.1≤(eat l j).2.1)=false:=decide_eq_false h3;clear P1 P2 P3 H1;generalize eat l k=x at *;generalize eat l j=y at *;go_wp2;refine Qb.wp_region_by (by kernel_rfl) (by kernel_rfl) ?_
       repeat (first | (refine Qk.skip (by rfl) (by rfl) ?_) | (quiet_step ((go_at_call 142;with_reducible exact Qb.of_below (GA.out _)))))
       refine wpQuiet_nil ?_
       intro _ hw'
       obtain ⟨pp,rfl⟩:=hw';have B1:=Lib.hid (bw.out.trans (pp.below.mono bw.out.size));go_wp2
       go_roundw
       case rel=>exact ⟨k+1,by omega,by go_num,B1,ST⟩
       case measure=>simp [intOf];omega
   ·have E:=Lib.hid (P1.out (fun g=>h1 (P2.out.1 g).1))
    rw [ok_no h1] at GA;clear P1 P2 P3 h1;generalize eat l k=x at *;go_wp2;refine Qb.wp_region_by (by kernel_rfl) (by kernel_rfl) ?_
    repeat (first | (refine Qk.skip (by rfl) (by rfl) ?_) | (quiet_step ((go_at_call 142;with_reducible exact Qb.of_below (GA.out _)))))
    refine wpQuiet_nil ?_
    intro _ hw'
    obtain ⟨pp,rfl⟩:=hw';go_wp2
    go_ret
    exact ⟨ret_bool E.out,bw.out.trans (pp.below.mono bw.out.size)⟩
  ·obtain rfl:k=n:=by omega
   have E:=Lib.hid (HYES.out (fun i hi=>hs.out i hi));have h64:(k:Int)≤64:=by have:=HLEN.out (fun i hi=>hs.out i hi);omega
   have h64':decide ((k:Int)≤64)=true:=decide_eq_true h64;go_wp2
   go_ret
   exact ⟨ret_bool (by rw [← E.out]),bw.out⟩
end Go.Proofs.YtpkipilggkbkeaaGreatDoor.Ro
namespace Go.Proofs.YtpkipilggkbkeaaGreatDoor.Ro
open Go.RowKit
open Rw (Rd Ow At)
open Fl (R4 z4 rec4 K4 okR hdr rat goodF ret_bool at_bool)
set_option maxHeartbeats 1000000 in
theorem put_any (w:World) (x:E5):Calls Tryz.prog 181 #[ent x] w fun e w'=>e = .returned (.tuple #[rec4 (putR x),.int .i64 (putN x)])∧Below w.heap.size w w':=by
 obtain ⟨k,s,f,r,b⟩:=x;have B0:=Lib.hid (((Below.refl w.heap.size w).alloc (Nat.le_refl _) (.cells #[.int .i64 k,.int .i64 s,.int .i64 f,.int .i64 r,.int .i64 b] 98)).alloc (by simp) (.cells #[.int .u8 0,.int .u8 0,.int .u8 0,.int .u8 0] 96));have GA:=Lib.hid (good_any ((w.alloc (.cells #[.int .i64 k,.int .i64 s,.int .i64 f,.int .i64 r,.int .i64 b] 98)).alloc (.cells #[.int .u8 0,.int .u8 0,.int .u8 0,.int .u8 0] 96)) (k,s,f,r,b));unfold ent at GA
 by_cases hg:okE (k,s,f,r,b)
 ·rw [ok_yes hg] at GA
  have EP:Hid (putR (k,s,f,r,b)=(64 * b+k,s,f,r)):=Lib.hid (if_pos hg);have EN:Hid (putN (k,s,f,r,b)=0):=Lib.hid (if_pos hg);obtain ⟨⟨g1,g2⟩,⟨g3,g4⟩,⟨g5,g6⟩,⟨g7,g8⟩,g9,g10⟩:=okE_bounds hg;clear hg;simp only at g1 g2 g3 g4 g5 g6 g7 g8 g9 g10 GA;unfold ent
  go_enter Tryz.func181,Tryz.ntmps181
  go_wp2_with fail;refine GA.out.mono ?_;rintro e w1 ⟨rfl,b1⟩;have B1:=Lib.hid (B0.out.trans (b1.mono B0.out.size));have c0:w1.cell? ⟨w.heap.size,0,none⟩=some (.int .i64 k):=(b1.cell (by simp;omega)).trans (by go_simp);have c1:w1.cell? ⟨w.heap.size,1,none⟩=some (.int .i64 s):=(b1.cell (by simp;omega)).trans (by go_simp);have c2:w1.cell? ⟨w.heap.size,2,none⟩=some (.int .i64 f):=(b1.cell (by simp;omega)).trans (by go_simp);have c3:w1.cell? ⟨w.heap.size,3,none⟩=some (.int .i64 r):=(b1.cell (by simp;omega)).trans (by go_simp);have c4:w1.cell? ⟨w.heap.size,4,none⟩=some (.int .i64 b):=(b1.cell (by simp;omega)).trans (by go_simp);have k0:w1.cell? ⟨w.heap.size+1,0,none⟩=some (.int .u8 0):=(b1.cell (by simp)).trans (by go_simp);have k1:w1.cell? ⟨w.heap.size+1,1,none⟩=some (.int .u8 0):=(b1.cell (by simp)).trans (by go_simp);have k2:w1.cell? ⟨w.heap.size+1,2,none⟩=some (.int .u8 0):=(b1.cell (by simp)).trans (by go_simp);have k3:w1.cell? ⟨w.heap.size+1,3,none⟩=some (.int .u8 0):=(b1.cell (by simp)).trans (by go_simp);have m0:w1.frozen? ⟨w.heap.size+1,0,none⟩=false:=(b1.frozen (by simp)).trans (by go_simp);have m1:w1.frozen? ⟨w.heap.size+1,1,none⟩=false:=(b1.frozen (by simp)).trans (by go_simp);have m2:w1.frozen? ⟨w.heap.size+1,2,none⟩=false:=(b1.frozen (by simp)).trans (by go_simp);have m3:w1.frozen? ⟨w.heap.size+1,3,none⟩=false:=(b1.frozen (by simp)).trans (by go_simp);have hz:w.heap.size+2≤w1.heap.size:=by have:=b1.size;simp at this;omega
  clear b1 GA B0;go_wp2
  (try simp only [Exit.inBlock,Exit.then])
  refine bodyPost_ret (v:=.tuple #[rec4 (64 * b+k,s,f,r),.int .i64 0]) ?_ rfl ⟨by rw [EP.out,EN.out],?_⟩
  ·rw [results_cell_tmp rfl];go_simp;rfl
  ·exact (((B1.out.setCell (by simp) _).setCell (by simp) _).setCell (by simp) _).setCell (by simp) _
 ·rw [ok_no hg] at GA
  have EP:Hid (putR (k,s,f,r,b)=z4):=Lib.hid (if_neg hg);have EN:Hid (putN (k,s,f,r,b)=1):=Lib.hid (if_neg hg);clear hg;simp only at GA;unfold ent
  go_enter Tryz.func181,Tryz.ntmps181
  go_wp2_with fail;refine GA.out.mono ?_;rintro e w1 ⟨rfl,b1⟩;have B1:=Lib.hid (B0.out.trans (b1.mono B0.out.size));have k0:w1.cell? ⟨w.heap.size+1,0,none⟩=some (.int .u8 0):=(b1.cell (by simp)).trans (by go_simp);have k1:w1.cell? ⟨w.heap.size+1,1,none⟩=some (.int .u8 0):=(b1.cell (by simp)).trans (by go_simp);have k2:w1.cell? ⟨w.heap.size+1,2,none⟩=some (.int .u8 0):=(b1.cell (by simp)).trans (by go_simp);have k3:w1.cell? ⟨w.heap.size+1,3,none⟩=some (.int .u8 0):=(b1.cell (by simp)).trans (by go_simp);have m0:w1.frozen? ⟨w.heap.size+1,0,none⟩=false:=(b1.frozen (by simp)).trans (by go_simp);have m1:w1.frozen? ⟨w.heap.size+1,1,none⟩=false:=(b1.frozen (by simp)).trans (by go_simp);have m2:w1.frozen? ⟨w.heap.size+1,2,none⟩=false:=(b1.frozen (by simp)).trans (by go_simp);have m3:w1.frozen? ⟨w.heap.size+1,3,none⟩=false:=(b1.frozen (by simp)).trans (by go_simp);have hz:w.heap.size+2≤w1.heap.size:=by have:=b1.size;simp at this;omega
  clear b1 GA B0;go_wp2
  (try simp only [Exit.inBlock,Exit.then])
  refine bodyPost_ret (v:=.tuple #[rec4 z4,.int .i64 1]) ?_ rfl ⟨by rw [EP.out,EN.out],?_⟩
  ·rw [results_cell_tmp rfl];go_simp;rfl
  ·exact (((B1.out.setCell (by simp) _).setCell (by simp) _).setCell (by simp) _).setCell (by simp) _
end Go.Proofs.YtpkipilggkbkeaaGreatDoor.Ro
set_option maxRecDepth 100000
namespace Go.Proofs.YtpkipilggkbkeaaGreatDoor.Ro
open Go.RowKit
open Rw (Rd Ow At)
open Fl (R4 z4 rec4 K4 okR hdr rat file ret_bool at_bool at4 row_cell row_frozen newP newL NewOwn new_own sto4 sto4_own sto4_other sto4_below sto2 sto2_row sto2_below sto2_off results_new)
attribute [local irreducible] Sd.wpSd wpQuiet
def FilePost (w:World) (l:List E5) (e:Ending) (w':World):Prop:=∃ u,e = .returned (.tuple #[file (fP l) u,.int .i64 (fN l)])∧Rd K4 w' u (fL l)∧Below w.heap.size w w'
theorem file_no {w:World} {l:List E5} (h:¬ mayP l) (w':World) (hb:Below w.heap.size w w'):FilePost w l (.returned (.tuple #[file 0 (.slice none 0 0),.int .i64 1])) w' :=
 ⟨_,by unfold fP fN;rw [if_neg h,if_neg h],by unfold fL;rw [if_neg h];exact Rw.Rd.nil _,hb⟩
theorem file_yes {w:World} {l:List E5} (h:mayP l) (u:Value) (w':World) (hr:Rd K4 w' u (fileL l)) (hb:Below w.heap.size w w'):FilePost w l (.returned (.tuple #[file 3 u,.int .i64 0])) w' :=
 ⟨u,by unfold fP fN;rw [if_pos h,if_pos h],by unfold fL;rw [if_pos h];exact hr,hb⟩
structure FRel (w:World) (h:R4) (l:List E5) (g gF N cap k:Nat) (wr:World):Prop where
 row:wr.heap[gF]? = some (.cells #[.int .i64 3,.slice (some ⟨g,0,none⟩) N cap] 65 (0,0))
 res:wr.heap[w.heap.size]? = some (.cells #[.int .i64 0,.slice none 0 0] 65 (0,0))
 own:Ow K4 wr (w.heap.size+1) 96 (.slice (some ⟨g,0,none⟩) N cap) (part h l k)
 bel:Below w.heap.size w wr
def FC (g gF N cap gX:Nat) (x:E5) (W:World):Prop:=W.heap[gF]? = some (.cells #[.int .i64 3,.slice (some ⟨g,0,none⟩) N cap] 65 (0,0))∧W.heap[gX]? = some (.cells (row5 x) 98 (0,0))
set_option maxHeartbeats 2000000 in
theorem file_any (w:World) (v:Value) (l:List E5) (R:Rd K5 w v l):Calls Tryz.prog 156 #[v] w (FilePost w l):=by
 have B0:=Lib.hid ((Below.refl w.heap.size w).alloc (Nat.le_refl _) (.cells #[.int .i64 0,.slice none 0 0] 65));have R0:=Lib.hid (R.below B0.out)
 by_cases hm:mayP l
 ·have GA:=Lib.hid (at_bool (show mayB l=true from decide_eq_true hm) (istable_any _ v l R0.out))
  have HE:=Lib.hid (fun u w'=>file_yes (w:=w) hm u w');have hl:=may_len hm;clear hm R0;obtain ⟨a,cap0,rfl,_,hm,hA⟩:=R;have HA:=Lib.hid hA;unfold maxLen at hm;clear hA;have HF:Hid (fileL l=hdr 3 ((l.length:Int)+1) :: (l.map putR ++ [endR])):=rfl;have PS:=Lib.hid (fun h k=>part_set (k:=k) h (l:=l));have PE:=Lib.hid (fun h=>part_end h l);have PL:=Lib.hid (fun h k=>part_len h l k);have NL:Hid (newL 3 ((l.length:Int)+1)=part (hdr 3 ((l.length:Int)+1)) l 0):=Lib.hid (by rw [part_start];rfl);have NO:=Lib.hid (fun w=>new_own w 3 ((l.length:Int)+1) ⟨by omega,by omega,by omega,by omega⟩);unfold NewOwn at NO;rw [NL.out] at NO;clear NL;generalize hdr 3 ((l.length:Int)+1)=h at *;generalize hn:l.length=n at *;have HN:=Lib.hid hn;clear hn;have W0:IntKind.i64.wrap ((n:Int)+1)=(n:Int)+1:=IntWalk.i64_in _ (by omega);unfold file at NO
  go_enter Tryz.func156,Tryz.ntmps156
  go_wp2_with fail;refine GA.out.mono ?_;rintro e w1 ⟨rfl,b1⟩;have z1:w.heap.size+1≤w1.heap.size:=by have:=b1.size;simp at this;omega
  have B1:=Lib.hid (B0.out.trans (b1.mono B0.out.size));have r1:w1.heap[w.heap.size]? = some (.cells #[.int .i64 0,.slice none 0 0] 65 (0,0)):=(b1.block _ (by simp)).trans (heap_alloc_new w _);have S1:=Lib.hid r1;clear b1 GA B0 r1;go_wp2_with fail;refine (NO.out _).mono ?_;rintro e w2 ⟨u,rfl,o2,b2⟩;obtain ⟨g,cap,rfl,hg1,hg2,hcc,hcm,_,_⟩:=o2.form (by rw [PL.out _ _ (Nat.zero_le _)];omega);rw [PL.out _ _ (Nat.zero_le _)] at o2 hcc ⊢;have hz:∀ o,(w2.alloc o).heap.size=w2.heap.size+1:=fun o=>by simp
  have F0:Hid (FRel w h l g w2.heap.size (n+2) cap 0 (w2.alloc (.cells #[.int .i64 3,.slice (some ⟨g,0,none⟩) (n+2) cap] 65))):=Lib.hid
   ⟨heap_alloc_new w2 _,(Below.heap_alloc _ _ _ (by have:=b2.size;omega)).trans ((b2.block _ (by omega)).trans S1.out),(o2.alloc _).low (by omega),(B1.out.trans (b2.mono (by omega))).alloc (by have:=b2.size;omega) _⟩
  have hgF:w.heap.size < w2.heap.size:=by have:=b2.size;omega
  have hg0:w.heap.size < g:=by omega
  clear b2 o2 S1 B1 NO hz;go_wp2;generalize w2.alloc (.cells #[.int .i64 3,.slice (some ⟨g,0,none⟩) (n+2) cap] 65)=W at *;generalize w2.heap.size=gF at *;generalize hN2:n+2=N at *;have HN2:=Lib.hid hN2;clear hN2
  go_loopw [21] (fun i wr=>∃ k:Nat,k≤n∧i = .int .i64 k∧Hid (FRel w h l g gF N cap k wr)) (fun i _=>n - (intOf i).toNat)
  case atStart=>exact ⟨0,Nat.zero_le _,rfl,F0⟩
  case round =>
   obtain ⟨k,hk,rfl,RR⟩:=hrel
   by_cases hlt:k < n
   ·obtain ⟨b,off,rfl,A⟩:=HA.out (by omega)
    obtain ⟨c0,c1,c2,c3,c4⟩:=at5 (A.below RR.out.bel) k (by rw [HN.out];exact hlt);rw [show l.getD k z5=eat l k from rfl] at c0 c1 c2 c3 c4;have PT:=Lib.hid (fun w=>put_any w (eat l k));have PK:=Lib.hid (PS.out h k hlt);have PLK:=Lib.hid (PL.out h k hk);have AA:=Lib.hid A;clear A;unfold ent rec4 at PT;generalize putR (eat l k)=q at *;generalize putN (eat l k)=qn at *;generalize eat l k=x at *;obtain ⟨K1,hK1⟩:∃ K1,K1=k+1:=⟨_,rfl⟩;have W1:IntKind.i64.wrap (1+(k:Int))=(K1:Int):=by rw [IntWalk.i64_in _ (by omega)];omega
    have hkN:K1 < N:=by have:=HN2.out;omega
    have HK:=Lib.hid hK1;clear hK1;go_upto_region 7 with fail;have gx:gF < wr.heap.size:=lt_of_block RR.out.row;have zx:(wr.alloc (.cells (row5 x) 98)).heap.size=wr.heap.size+1:=by simp
    have BX:=Lib.hid ((Below.refl wr.heap.size wr).alloc (Nat.le_refl _) (.cells (row5 x) 98));have rowV:=(BX.out.block _ gx).trans RR.out.row;have resV:=Lib.hid ((BX.out.block _ (by omega)).trans RR.out.res);have rowX:=heap_alloc_new wr (.cells (row5 x) 98);have ownV:=Lib.hid (RR.out.own.alloc (.cells (row5 x) 98));have belV:=Lib.hid (RR.out.bel.trans (BX.out.mono RR.out.bel.size));clear BX RR c0 c1 c2 c3 c4;unfold row5 at zx rowV resV rowX ownV belV;generalize wr.alloc (.cells #[.int .i64 x.1,.int .i64 x.2.1,.int .i64 x.2.2.1,.int .i64 x.2.2.2.1,.int .i64 x.2.2.2.2] 98)=V at *;have C0:FC g gF N cap wr.heap.size x V.drew:=⟨rowV,rowX⟩;have ne:Nonempty (Sc.In (FC g gF N cap wr.heap.size x)):=⟨⟨_,C0⟩⟩;have k1:=Sc.cell_in (C:=FC g gF N cap wr.heap.size x) (a:=⟨gF,1,none⟩) (v:=.slice (some ⟨g,0,none⟩) N cap) (fun W' h=>row_cell h.1 1);have x0:=Sc.cell_in (C:=FC g gF N cap wr.heap.size x) (a:=⟨wr.heap.size,0,none⟩) (v:=.int .i64 x.1) (fun W' h=>row_cell h.2 0);have x1:=Sc.cell_in (C:=FC g gF N cap wr.heap.size x) (a:=⟨wr.heap.size,1,none⟩) (v:=.int .i64 x.2.1) (fun W' h=>row_cell h.2 1);have x2:=Sc.cell_in (C:=FC g gF N cap wr.heap.size x) (a:=⟨wr.heap.size,2,none⟩) (v:=.int .i64 x.2.2.1) (fun W' h=>row_cell h.2 2);have x3:=Sc.cell_in (C:=FC g gF N cap wr.heap.size x) (a:=⟨wr.heap.size,3,none⟩) (v:=.int .i64 x.2.2.2.1) (fun W' h=>row_cell h.2 3);have x4:=Sc.cell_in (C:=FC g gF N cap wr.heap.size x) (a:=⟨wr.heap.size,4,none⟩) (v:=.int .i64 x.2.2.2.2) (fun W' h=>row_cell h.2 4);refine Sc.start (FC g gF N cap wr.heap.size x) [(false,0),(false,1),(false,2),(false,3),(false,4),(true,5),(false,6),(false,7),(false,8),(false,9),(true,10)] (by kernel_rfl) (by kernel_rfl) (by kernel_rfl) C0 ?_;dsimp only [Sd.picks,List.getElem?_cons_succ,List.getElem?_cons_zero]
    iterate 5 (refine Sd.lit ?_;quiet_step (fail);refine wpQuiet_nil ?_)
    refine Sd.call (by rfl) (fun K hK=>?_);go_simp;refine (PT.out _).mono ?_;rintro e w4 ⟨rfl,b4⟩;have b4':Below V.heap.size V w4:=Below.trans ((Below.refl V.heap.size V).drew) b4;have B4:=Lib.hid (belV.out.trans (b4'.mono belV.out.size));have row4:=(b4'.block _ (by omega)).trans rowV;have rowX4:=(b4'.block _ (by omega)).trans rowX;have r4:=(b4'.block _ (by omega)).trans resV.out;have O4:=Lib.hid (ownV.out.keep b4');refine hK _ _ (Sc.Cl.of ⟨row4,rowX4⟩) ?_;clear hK K b4 b4' belV ownV resV rowV rowX PT
    iterate 4 (refine Sd.lit ?_;quiet_step (fail);refine wpQuiet_nil ?_)
    refine Sd.call (by rfl) (fun K hK=>?_);obtain ⟨g',cap',eg,_,_,_,_,hfr,hat⟩:=O4.out.form (by rw [PLK.out];omega);have eg':g'=g:=by
     injection eg with e1;injection e1 with e1;injection e1 with e1 _ _;exact e1.symm
    subst eg';have hKL:K1 < (part h l k).length:=by rw [PLK.out];have:=HN2.out;omega
    have eK:K1=1+k:=by rw [HK.out];omega
    have O5:=Lib.hid (sto4_own (i:=K1) O4.out (by rw [PLK.out]) hKL q);rw [show (part h l k).set K1 q=part h l (k+1) by rw [eK];exact PK.out] at O5;clear eK;obtain ⟨d0,d1,d2,d3⟩:=at4 hat K1 hKL;rw [Nat.zero_add] at d0 d1 d2 d3;have f0:=hfr (K1 * 4);have f1:=hfr (K1 * 4+1);have f2:=hfr (K1 * 4+2);have f3:=hfr (K1 * 4+3);have row5:=sto4_other (g:=g') (o:=K1 * 4) (r:=q) row4 (by omega);have rowX5:=sto4_other (g:=g') (o:=K1 * 4) (r:=q) rowX4 (by omega);have r5:=sto4_other (g:=g') (o:=K1 * 4) (r:=q) r4 (by omega);have B5:=Lib.hid (sto4_below (o:=K1 * 4) (r:=q) B4.out (show w.heap.size≤g' by omega));have N5:Hid (FRel w h l g' gF N cap (k+1) (sto4 w4 g' (K1 * 4) q)):=Lib.hid ⟨row5,r5,O5.out,B5.out⟩;clear hfr hat O4 B4 eg O5 B5;go_simp;refine hK _ _ (Sc.Cl.of ⟨row5,rowX5⟩) ?_;clear hK K d0 d1 d2 d3 f0 f1 f2 f3 row4 r4 rowX4 k1 ne C0 x0 x1 x2 x3 x4;refine Sd.done ?_
    show Exit.inBlock _ _ _ _ (sto4 w4 g' (K1 * 4) q)
    generalize sto4 w4 g' (K1 * 4) q=wS at *;go_wp2
    go_roundw
    case rel=>exact ⟨k+1,by omega,by go_num,N5⟩
    case measure=>simp [intOf];omega
   ·obtain rfl:k=n:=by omega
    have PK:=Lib.hid (PE.out h);have PLK:=Lib.hid (PL.out h k (Nat.le_refl _));have e1:putR endE=endR:=by decide
    have e2:putN endE=0:=by decide
    have PT:=Lib.hid (fun w=>put_any w endE);have EE:=Lib.hid (fun w=>end_any w);rw [e1,e2] at PT;clear e1 e2;unfold ent at PT EE;unfold rec4 at PT;simp only [endE,endR] at PT EE;obtain ⟨K1,hK1⟩:∃ K1,K1=k+1:=⟨_,rfl⟩;have W1:IntKind.i64.wrap (1+(k:Int))=(K1:Int):=by rw [IntWalk.i64_in _ (by omega)];omega
    have hkN:K1 < N:=by have:=HN2.out;omega
    have HK:=Lib.hid hK1;clear hK1 PS PE PL;go_upto_region 9 with fail;have gx:gF < wr.heap.size:=lt_of_block RR.out.row;have rowV:=RR.out.row;have resV:=Lib.hid RR.out.res;have ownV:=Lib.hid RR.out.own;have belV:=Lib.hid RR.out.bel;clear RR;have C0:(fun W':World=>W'.heap[gF]? = some (.cells #[.int .i64 3,.slice (some ⟨g,0,none⟩) N cap] 65 (0,0))) wr.drew:=rowV;have ne:Nonempty (Sc.In (fun W':World=>W'.heap[gF]? = some (.cells #[.int .i64 3,.slice (some ⟨g,0,none⟩) N cap] 65 (0,0)))):=⟨⟨_,C0⟩⟩;have k1:=Sc.cell_in (C:=fun W':World=>W'.heap[gF]? = some (.cells #[.int .i64 3,.slice (some ⟨g,0,none⟩) N cap] 65 (0,0))) (a:=⟨gF,1,none⟩) (v:=.slice (some ⟨g,0,none⟩) N cap) (fun W' h=>row_cell h 1);refine Sc.start (fun W':World=>W'.heap[gF]? = some (.cells #[.int .i64 3,.slice (some ⟨g,0,none⟩) N cap] 65 (0,0))) [(false,0),(false,1),(false,2),(false,3),(false,4),(true,5),(true,6),(false,7),(false,8),(false,9),(false,10),(true,11)] (by kernel_rfl) (by kernel_rfl) (by kernel_rfl) C0 ?_;dsimp only [Sd.picks,List.getElem?_cons_succ,List.getElem?_cons_zero]
    iterate 5 (refine Sd.lit ?_;quiet_step (fail);refine wpQuiet_nil ?_)
    refine Sd.call (by rfl) (fun K hK=>?_);go_simp;refine (EE.out _).mono ?_;rintro e w3 ⟨rfl,b3⟩;have b3':Below wr.heap.size wr w3:=Below.trans ((Below.refl wr.heap.size wr).drew) b3;have row3:=(b3'.block _ (by omega)).trans rowV;refine hK _ _ (Sc.Cl.of row3) ?_;clear hK K b3;refine Sd.call (by rfl) (fun K hK=>?_);go_simp;refine (PT.out _).mono ?_;rintro e w4 ⟨rfl,b4⟩;have b4':Below wr.heap.size wr w4:=b3'.trans (b4.mono b3'.size);have B4:=Lib.hid (belV.out.trans (b4'.mono belV.out.size));have row4:=(b4'.block _ (by omega)).trans rowV;have r4:=(b4'.block _ (by omega)).trans resV.out;have O4:=Lib.hid (ownV.out.keep b4');refine hK _ _ (Sc.Cl.of row4) ?_;clear hK K b4 b3' b4' belV ownV resV rowV row3 PT EE
    iterate 4 (refine Sd.lit ?_;quiet_step (fail);refine wpQuiet_nil ?_)
    refine Sd.call (by rfl) (fun K hK=>?_);obtain ⟨g',cap',eg,_,_,_,_,hfr,hat⟩:=O4.out.form (by rw [PLK.out];omega);have eg':g'=g:=by
     injection eg with e1;injection e1 with e1;injection e1 with e1 _ _;exact e1.symm
    subst eg';have hKL:K1 < (part h l k).length:=by rw [PLK.out];have:=HN2.out;omega
    have eK:K1=1+k:=by rw [HK.out];omega
    have O5:=Lib.hid (sto4_own (i:=K1) O4.out (by rw [PLK.out]) hKL endR);rw [show (part h l k).set K1 endR=fileL l by rw [eK,HF.out];exact PK.out] at O5;clear eK;obtain ⟨d0,d1,d2,d3⟩:=at4 hat K1 hKL;rw [Nat.zero_add] at d0 d1 d2 d3;have f0:=hfr (K1 * 4);have f1:=hfr (K1 * 4+1);have f2:=hfr (K1 * 4+2);have f3:=hfr (K1 * 4+3);have row5:=sto4_other (g:=g') (o:=K1 * 4) (r:=endR) row4 (by omega);have r5:=sto4_other (g:=g') (o:=K1 * 4) (r:=endR) r4 (by omega);have B5:=Lib.hid (sto4_below (o:=K1 * 4) (r:=endR) B4.out (show w.heap.size≤g' by omega));clear hfr hat O4 B4 eg;go_simp;refine hK _ _ (Sc.Cl.of row5) ?_;clear hK K d0 d1 d2 d3 f0 f1 f2 f3 row4 r4 k1 ne C0;refine Sd.done ?_;have d0:(sto4 w4 g' (K1 * 4) endR).cell? ⟨gF,0,none⟩=some (.int .i64 3):=row_cell row5 0;have d1:(sto4 w4 g' (K1 * 4) endR).cell? ⟨gF,1,none⟩=some (.slice (some ⟨g',0,none⟩) N cap):=row_cell row5 1;have e0:(sto4 w4 g' (K1 * 4) endR).cell? ⟨w.heap.size,0,none⟩=some (.int .i64 0):=row_cell r5 0;have e1:(sto4 w4 g' (K1 * 4) endR).cell? ⟨w.heap.size,1,none⟩=some (.slice none 0 0):=row_cell r5 1;have f0:=row_frozen r5 0;have f1:=row_frozen r5 1;have hne:(Value.slice (some ⟨g',0,none⟩) N cap).ownBlock≠some w.heap.size:=O5.out.range (.inl (by omega));have RR:=Lib.hid (sto2_row r5 3 (.slice (some ⟨g',0,none⟩) N cap));have O6:=Lib.hid (sto2_off (u:=.slice (some ⟨g',0,none⟩) N cap) O5.out hne 3);have B6:=Lib.hid (sto2_below (p:=3) (v:=.slice (some ⟨g',0,none⟩) N cap) B5.out (Nat.le_refl _));clear row5 r5 O5 B5 hne
    show Exit.then _ _ _ _ (sto4 w4 g' (K1 * 4) endR)
    generalize sto4 w4 g' (K1 * 4) endR=wS at *;go_wp2
    (try simp only [Exit.inBlock,Exit.then])
    exact bodyPost_ret (v:=.tuple #[file 3 _,.int .i64 0]) (results_new (p:=2) (r:=3) rfl _ _ w.heap.size 3 _ 0 rfl rfl RR.out) rfl (HE.out _ _ O6.out.rd B6.out)
 ·have GA:=Lib.hid (at_bool (show mayB l=false from decide_eq_false hm) (istable_any _ v l R0.out))
  have E:=Lib.hid (file_no (w:=w) hm);clear hm;obtain ⟨a,cap,rfl,_,hm,_⟩:=R;clear R0;generalize l.length=n at *
  go_enter Tryz.func156,Tryz.ntmps156
  go_wp2_with fail;refine GA.out.mono ?_;rintro e w1 ⟨rfl,b1⟩;have z1:w.heap.size < w1.heap.size:=by have:=b1.size;simp at this;omega
  have B1:=Lib.hid (B0.out.trans (b1.mono B0.out.size));have r0:w1.heap[w.heap.size]? = some (.cells #[.int .i64 0,.slice none 0 0] 65 (0,0)):=(b1.block _ (by simp)).trans (heap_alloc_new w _);have c0:w1.cell? ⟨w.heap.size,0,none⟩=some (.int .i64 0):=row_cell r0 0;have c1:w1.cell? ⟨w.heap.size,1,none⟩=some (.slice none 0 0):=row_cell r0 1;have f0:=row_frozen r0 0;have f1:=row_frozen r0 1;have RR:=Lib.hid (sto2_row r0 0 (.slice none 0 0));clear b1 B0 r0 GA;go_wp2
  (try simp only [Exit.inBlock,Exit.then])
  exact bodyPost_ret (v:=.tuple #[file 0 (.slice none 0 0),.int .i64 1]) (results_new (p:=2) (r:=3) rfl _ _ w.heap.size 0 _ 1 rfl rfl RR.out) rfl (E.out _ (sto2_below B1.out (Nat.le_refl _)))
end Go.Proofs.YtpkipilggkbkeaaGreatDoor.Ro
namespace Go.Proofs.YtpkipilggkbkeaaGreatDoor.Ck
open Go.RowKit
open Ro (E5 z5 eat ent K5 at5 eat_mem mayB mayP)
open Rw (Rd Ow At)
open Fl (ret_bool at_bool row_cell row_frozen file)
attribute [local irreducible] Sd.wpSd wpQuiet
set_option maxHeartbeats 1000000 in
theorem sender_any (w:World) (v:Value) (L:LL) (s:Int) (R:RdL w v L):Calls Tryz.prog 131 #[v,.int .i64 s] w (WhoPost w (sN s L) (sE s L)):=by
 have eg:∀ args w,(callFunc 182 args).run Tryz.prog w = .ok (.enter 182 args) w:=enters_of Tryz.func182 (by kernel_rfl) rfl;have R0:RowE (w.alloc (.cells #[.int .i64 0,.int .i64 0,.int .i64 0,.int .i64 0,.int .i64 0] 98)) w.heap.size z5:=heap_alloc_new w _;have b0:=(Below.refl w.heap.size w).alloc (Nat.le_refl _) (.cells #[.int .i64 0,.int .i64 0,.int .i64 0,.int .i64 0,.int .i64 0] 98);have RV:=R.below b0;obtain ⟨a,cap,rfl,_⟩:=R.slice;clear R;have FA:=Lib.hid (fun (W:World) (B:Nat) (hr:RdL W (.slice a L.length cap) L) (hc:W.cell? ⟨B,0,none⟩=some (.int .i64 s))=>find_any W _ L 182 #[.pointer (some ⟨B,0,none⟩)] (snd s) eg hr (sclos_any W B s L hc));clear eg;have RR:=Lib.hid R0;have BB:=Lib.hid b0;have RL:=Lib.hid RV;clear R0 b0 RV;have E:Hid (∀ w',Below w.heap.size w w'→WhoPost w (sN s L) (sE s L) (.returned (.tuple #[.int .i64 (sN s L),ent (sE s L)])) w'):=fun w' b=>⟨rfl,b⟩;rw [show whoN (snd s) L=sN s L from rfl,show whoE (snd s) L=sE s L from rfl] at FA;generalize sN s L=rn at *;generalize sE s L=re at *;generalize L.length=n at *
 go_enter Tryz.func131,Tryz.ntmps131
 go_upto_region 1 with fail;generalize w.alloc (.cells #[.int .i64 0,.int .i64 0,.int .i64 0,.int .i64 0,.int .i64 0] 98)=w0 at *;go_wp2_with fail;refine (sending_any w0 s).mono ?_;rintro e w1 ⟨rfl,rfl⟩;have b1:=(Below.refl w0.heap.size w0).alloc (Nat.le_refl _) (.cells #[.int .i64 s] 3);have F:=FA.out (w0.alloc (.cells #[.int .i64 s] 3)) w0.heap.size (RL.out.below b1) (by go_simp);have FB:=Lib.hid F;have R1:=Lib.hid (RR.out.below b1 RR.out.lt);have B1:=Lib.hid (BB.out.trans (b1.mono BB.out.size));clear FA RL RR BB b1 F;generalize w0.heap.size=g0 at *;generalize w0.alloc (.cells #[.int .i64 s] 3)=V at *;go_wp2_with fail;refine FB.out.mono ?_;rintro e w2 ⟨rfl,b2⟩;have R2:=Lib.hid (R1.out.below b2 R1.out.lt);have B2:=Lib.hid (B1.out.trans (b2.mono B1.out.size));clear FB R1 B1 b2;have d0:w2.cell? ⟨w.heap.size,0,none⟩=some (.int .i64 0):=row_cell R2.out 0;have d1:w2.cell? ⟨w.heap.size,1,none⟩=some (.int .i64 0):=row_cell R2.out 1;have d2:w2.cell? ⟨w.heap.size,2,none⟩=some (.int .i64 0):=row_cell R2.out 2;have d3:w2.cell? ⟨w.heap.size,3,none⟩=some (.int .i64 0):=row_cell R2.out 3;have d4:w2.cell? ⟨w.heap.size,4,none⟩=some (.int .i64 0):=row_cell R2.out 4;have f0:w2.frozen? ⟨w.heap.size,0,none⟩=false:=row_frozen R2.out 0;have f1:w2.frozen? ⟨w.heap.size,1,none⟩=false:=row_frozen R2.out 1;have f2:w2.frozen? ⟨w.heap.size,2,none⟩=false:=row_frozen R2.out 2;have f3:w2.frozen? ⟨w.heap.size,3,none⟩=false:=row_frozen R2.out 3;have f4:w2.frozen? ⟨w.heap.size,4,none⟩=false:=row_frozen R2.out 4;have R3:Hid (RowE (sto5 w2 w.heap.size re) w.heap.size re):=Lib.hid (sto5_row (y:=z5) R2.out re);have B3:=Lib.hid (sto5_below (g:=w.heap.size) (x:=re) B2.out (Nat.le_refl _));unfold ent;go_wp2
 (try simp only [Exit.inBlock,Exit.then])
 exact bodyPost_ret (v:=.tuple #[.int .i64 rn,ent re]) (results_who (p:=5) (r:=4) rfl _ _ w.heap.size rn re rfl rfl R3.out) rfl (E.out _ B3.out)
def no (_:Nat):Int:=0
def upto (L:LL) (k:Nat) (i:Nat):Int:=if i < k then sF L i else 0
theorem upto_zero (L:LL) (i:Nat):no i=upto L 0 i:=by unfold upto;rw [if_neg (Nat.not_lt_zero _)];rfl
theorem upto_step (L:LL) (k i:Nat):upI (upto L k) k (sN k L) i=upto L (k+1) i:=by
 unfold upI upto
 by_cases e:i=k
 ·subst e;rw [if_pos rfl,if_pos (by omega)];rfl
 ·rw [if_neg e]
  by_cases c:i < k
  ·rw [if_pos c,if_pos (by omega)]
  ·rw [if_neg c,if_neg (by omega)]
structure TwoI (w wr:World) (F:Nat→Int):Prop where
 res:RowI wr w.heap.size no
 out_:RowI wr (w.heap.size+1) F
 bel:Below w.heap.size w wr
theorem twoI_new (w:World) (F:Nat→Int) (h:∀ i,i < 17→no i=F i):TwoI w ((w.alloc (.cells (ar no) 193)).alloc (.cells (ar no) 193)) F:=by
 have e:(w.alloc (.cells (ar no) 193)).heap.size=w.heap.size+1:=by simp
 have n2:=RowI.new (w.alloc (.cells (ar no) 193)) no;rw [e] at n2;exact ⟨(Below.heap_alloc _ _ _ (by simp)).trans (RowI.new w no),n2.to h,((Below.refl _ _).alloc (Nat.le_refl _) _).alloc (by simp) _⟩
theorem TwoI.set_ {w wr:World} {F:Nat→Int} (h:TwoI w wr F) (k:Nat) (hk:k < 17) (x:Int):TwoI w (wr.setCell ⟨w.heap.size+1,k,none⟩ (.int .i64 x)) (upI F k x) :=
 ⟨h.1.far (by simp) _,h.2.set_ k hk x,h.3.setCell (by simp) _⟩
theorem TwoI.below {w wr w1:World} {F:Nat→Int} (h:TwoI w wr F) (hb:Below wr.heap.size wr w1):TwoI w w1 F :=
 ⟨h.1.below hb h.1.lt,h.2.below hb h.2.lt,h.3.trans (hb.mono h.3.size)⟩
theorem TwoI.to {w wr:World} {F G:Nat→Int} (h:TwoI w wr F) (e:∀ i,i < 17→F i=G i):TwoI w wr G:=⟨h.1,h.2.to e,h.3⟩
theorem below_setRow {B:Nat} {a w:World} (h:Below B a w) (g:Nat) (cs:Array Value) (hg:B≤g):Below B a (w.setRow g cs) :=
 ⟨h.os,h.tape,h.output,by rw [size_setRow];exact h.size,fun k hk=>(setRow_other w g k cs (by omega)).trans (h.block k hk)⟩
set_option maxHeartbeats 1000000 in
theorem senders_any (w:World) (v:Value) (L:LL) (R:RdL w v L):Calls Tryz.prog 125 #[v] w fun e w'=>e = .returned (.agg (ar (sF L)))∧Below w.heap.size w w':=by
 have T0:=Lib.hid (twoI_new w (upto L 0) (fun i _=>upto_zero L i));have SA:=Lib.hid (fun (W:World) (s:Int) (hb:Below w.heap.size w W)=>sender_any W v L s (R.below hb));have E:Hid (ar (upto L 17)=ar (sF L)):=Lib.hid (ar_congr fun i hi=>if_pos hi);have ST:=Lib.hid (upto_step L);obtain ⟨a,cap,rfl,_⟩:=R.slice;clear R;generalize L.length=n at *
 go_enter Tryz.func125,Tryz.ntmps125
 go_wp2
 go_loopw [5] (fun i wr=>∃ k:Nat,k≤17∧i = .int .i64 k∧Hid (TwoI w wr (upto L k))) (fun i _=>17 - (intOf i).toNat)
 case atStart=>exact ⟨0,Nat.zero_le _,rfl,T0⟩
 case round =>
  obtain ⟨k,hk,rfl,T⟩:=hrel
  by_cases hlt:k < 17
  ·have C:=Lib.hid (SA.out wr k T.out.bel)
   have UP:=Lib.hid (ST.out k);generalize sN (k:Int) L=sn at *;generalize sE (k:Int) L=se at *;unfold WhoPost ent at C;go_wp2_with fail;refine C.out.mono ?_;rintro e w1 ⟨rfl,b1⟩;have T1:=Lib.hid (T.out.below b1);have c:=T1.out.out_.cell k hlt;have f:=T1.out.out_.frozen k;have T2:=Lib.hid ((T1.out.set_ k hlt sn).to (fun i _=>UP.out i));clear b1 T1 C;go_wp2
   go_roundw
   case rel=>exact ⟨k+1,by omega,by go_num,T2⟩
   case measure=>simp [intOf];omega
  ·obtain rfl:k=17:=by omega
   go_wp2_with (first
    | (refine wpList_load_row rfl 193 _ rfl _ rfl _ _ _ _ T.out.out_ Tryz.underlying193 rfl (infoI _) ?_)
    | (refine wpList_store_row rfl 193 _ _ rfl _ _ rfl rfl _ _ T.out.res (infoI _) rfl (ar_one _) ?_))
   refine bodyPost_ret (results_ar rfl _ _ _ _ rfl (T.out.res.row _)) rfl ⟨by rw [E.out],?_⟩;exact below_setRow T.out.bel _ _ (Nat.le_refl _)
theorem isno_any (w:World) (v:Value) (l:List E5) (R:Rd K5 w v l):Calls Tryz.prog 124 #[v] w fun e w'=>e = .returned (.bool (bad l))∧Below w.heap.size w w':=by
 have FA:=Lib.hid (Ro.file_any w v l R);have hb:bad l = !mayB l:=rfl;obtain ⟨a,cap,rfl,_⟩:=R;unfold Ro.FilePost file at FA
 by_cases h:mayP l
 ·have e1:Ro.fN l=0:=if_pos h
  have e2:bad l=false:=by rw [hb,show mayB l=true from decide_eq_true h];rfl
  rw [e1] at FA;rw [e2];generalize Ro.fP l=p at *;generalize Ro.fL l=fl at *;clear e1 e2 hb h;generalize l.length=n at *
  go_enter Tryz.func124,Tryz.ntmps124
  go_wp2_with fail;refine FA.out.mono ?_;rintro e w1 ⟨u,rfl,r1,b1⟩;obtain ⟨a1,c1,rfl,_⟩:=r1;have HB:=Lib.hid (fun o=>b1.alloc b1.size o);clear b1;go_wp2
  go_ret
  exact ⟨rfl,HB.out _⟩
 ·have e1:Ro.fN l=1:=if_neg h
  have e2:bad l=true:=by rw [hb,show mayB l=false from decide_eq_false h];rfl
  rw [e1] at FA;rw [e2];generalize Ro.fP l=p at *;generalize Ro.fL l=fl at *;clear e1 e2 hb h;generalize l.length=n at *
  go_enter Tryz.func124,Tryz.ntmps124
  go_wp2_with fail;refine FA.out.mono ?_;rintro e w1 ⟨u,rfl,r1,b1⟩;obtain ⟨a1,c1,rfl,_⟩:=r1;have HB:=Lib.hid (fun o=>b1.alloc b1.size o);clear b1;go_wp2
  go_ret
  exact ⟨rfl,HB.out _⟩
set_option maxHeartbeats 1000000 in
theorem index_any (w:World) (v:Value) (L:LL) (g:Nat) (q:List E5→Bool) (eg:∀ args w,(callFunc g args).run Tryz.prog w = .ok (.enter g args) w) (R:RdL w v L)
 (hp:∀ (W:World) (u:Value) (l:List E5),Rd K5 W u l→Calls Tryz.prog g #[u] W fun e w'=>e = .returned (.bool (q l))∧Below W.heap.size W w') :
 Calls Tryz.prog 123 #[v,.func (.func g) #[] #[]] w fun e w'=>e = .returned (.int .i64 (idx q 0 L))∧Below w.heap.size w w':=by
 obtain ⟨a,cap,rfl,_,hm,hA⟩:=R;have HA:=Lib.hid hA;have HP:=Lib.hid hp;have HH:Hid (∀ k,IAhead q L k→k < L.length→q (lat L k)=true→idx q 0 L=k):=fun k=>iahead_hit;have HE:Hid (IAhead q L L.length→idx q 0 L = -1):=iahead_end;have HX:Hid (∀ k,IAhead q L k→k < L.length→q (lat L k)=false→IAhead q L (k+1)):=fun k=>iahead_next;clear hA hp;generalize hr:idx q 0 L=r at *;clear hr;unfold maxLen at hm;generalize hn:L.length=n at *;have HN:=Lib.hid hn;clear hn
 go_enter Tryz.func123,Tryz.ntmps123
 go_wp2
 go_loopw [8] (fun i wr=>∃ k:Nat,k≤n∧i = .int .i64 k∧Hid (IAhead q L k)∧Hid (Below w.heap.size w wr)) (fun i _=>n - (intOf i).toNat)
 case atStart=>exact ⟨0,Nat.zero_le _,rfl,iahead_zero,Below.refl _ _⟩
 case round =>
  obtain ⟨k,hk,rfl,hs,bw⟩:=hrel
  by_cases hlt:k < n
  ·obtain ⟨b,off,rfl,A⟩:=HA.out (by omega)
   obtain ⟨u,c,ru⟩:=A k hlt;have ru':=ru.below bw.out;have c':=(bw.out.cell (World.block_lt_of_cell? _ _ c)).trans c;have AA:=Lib.hid A;clear A;have hc:=HP.out wr u (lat L k) (ru.below bw.out);obtain ⟨a',cap',rfl,_⟩:=ru;have C:=Lib.hid hc;have YES:=fun h=>HH.out k hs.out hlt h;have NO:=fun h=>HX.out k hs.out hlt h;clear hc ru' c;generalize q (lat L k)=qq at *;generalize (lat L k).length=m at *
   cases qq with
   | true =>
     have Y:=Lib.hid (YES rfl);clear YES NO;go_wp2_with fail;refine C.out.mono ?_;rintro e w1 ⟨rfl,b1⟩;have B1:=Lib.hid (bw.out.trans (b1.mono bw.out.size));clear b1;go_wp2
     go_ret
     exact ⟨Ua.ret_int Y.out.symm,B1.out⟩
   | false =>
     have N:=Lib.hid (NO rfl);clear YES NO;go_wp2_with fail;refine C.out.mono ?_;rintro e w1 ⟨rfl,b1⟩;have B1:=Lib.hid (bw.out.trans (b1.mono bw.out.size));clear b1;go_wp2
     go_roundw
     case rel=>exact ⟨k+1,by omega,by go_num,N,B1⟩
     case measure=>simp [intOf];omega
  ·obtain rfl:k=n:=by omega
   have E:=Lib.hid (HE.out hs.out);go_wp2
   go_ret
   exact ⟨Ua.ret_int E.out.symm,bw.out⟩
end Go.Proofs.YtpkipilggkbkeaaGreatDoor.Ck
namespace Go.Proofs.YtpkipilggkbkeaaGreatDoor.Pa
open Go.RowKit Go.Maps
open Fs (Abs St Only Fx Wf gB gV GetPost get_st OkA)
open Rw (Rd Ow At)
open Ro (E5 z5 eat K5 at5 okE okB ok_yes ent good_any okE_bounds)
open Ck (LL lat sN sE tE RdL who_cases sender_any WhoPost snd snd_is)
open Fl (R4 z4 rec4 okR arr4 row_cell row_frozen sto4 sto4_row sto4_other sto4_below sto4_size)
set_option maxRecDepth 100000
attribute [local irreducible] Sd.wpSd wpQuiet Sf.wpSf
theorem sender_is {T:LL} (ok:tE T=0) {s:Int} (h:0≤sN s T):∃ n:Nat,sN s T=n∧n < T.length∧sE s T∈lat T n∧okE (sE s T)∧(sE s T).1=1∧(sE s T).2.1=s:=by
 rcases who_cases (snd s) T with ⟨n,x,hn,hx,hp,_,e1,e2⟩ | ⟨_,e1,_⟩
 ·have e1':sN s T=n:=e1
  have e2':sE s T=x:=e2;obtain ⟨k1,k2⟩:=snd_is hp;exact ⟨n,e1',hn,by rw [e2'];exact hx,by rw [e2'];exact (tab_each ok hn x hx).1,by rw [e2'];exact k1,by rw [e2'];exact k2⟩
 ·have e1':sN s T = -1:=e1
  omega
theorem gV_ok {A:Abs} (hA:OkA A) (f r:Int):okR (gV A f r):=by
 unfold gV
 split
 ·exact Fl.okR_z
 ·rename_i e he
  split
  ·exact Fl.okR_at (hA.find he).2.2.1 _
  ·exact Fl.okR_z
theorem gV_no {A:Abs} {f r:Int} (h:gB A f r=false):gV A f r=z4:=by
 unfold gB at h;unfold gV
 split
 ·rfl
 ·rename_i e he
  rw [he] at h;simp only [decide_eq_false_iff_not] at h;rw [if_neg h]
theorem get_has {w:World} {s:Nat} {x:Abs×Int} (H:Has w s x) {n:Int} (hn:Wf n) (r:Int):Calls Tryz.prog 40 #[.pointer (some ⟨s,0,none⟩),.int .i64 n,.int .i64 r] w (GetPost w (gV x.1 n r) (gB x.1 n r)):=by
 obtain ⟨F,S⟩:=H;exact get_st S hn r
theorem arr4_at (v:R4) {j:Nat} (hj:j < 4):(arr4 v)[j]? = some (.int .u8 (rb v j)):=by
 obtain rfl | rfl | rfl | rfl:j=0∨j=1∨j=2∨j=3:=by omega
 all_goals rfl
def SentPost (w:World) (n x:Int) (b:Bool) (e:Ending) (w':World):Prop:=e = .returned (.tuple #[.int .i64 n,.int .u8 x,.bool b])∧Below w.heap.size w w'
theorem sent_no {S:Sts} {T:LL} {V:List Bool} {s:Int} {w w':World} (h:snB S T V s=false) (b:Below w.heap.size w w'):SentPost w (sbN S T V s) (sbX S T V s) (snB S T V s) (.returned (.tuple #[.int .i64 (-1),.int .u8 0,.bool false])) w':=by
 refine ⟨?_,b⟩;unfold sbN sbX;rw [h]
 rfl
theorem sent_yes {S:Sts} {T:LL} {V:List Bool} {s:Int} {w w':World} (h:snB S T V s=true) (b:Below w.heap.size w w'):SentPost w (sbN S T V s) (sbX S T V s) (snB S T V s) (.returned (.tuple #[.int .i64 (sN s T),.int .u8 (snX S T s),.bool true])) w':=by
 refine ⟨?_,b⟩;unfold sbN sbX;rw [h]
 rfl
set_option maxHeartbeats 400000 in
theorem sent_any {w:World} {vs vt vl:Value} {S:Sts} {T:LL} {V:List Bool} (H:Ns w vs vt vl S T V) (s:Int):Calls Tryz.prog 90 #[vs,vt,vl,.int .i64 s] w (SentPost w (sbN S T V s) (sbX S T V s) (snB S T V s)):=by
 have SA:=Lib.hid (sender_any w vt T s H.tb);unfold WhoPost at SA;have NO:=Lib.hid (fun h w' b=>sent_no (S:=S) (T:=T) (V:=V) (s:=s) (w:=w) (w':=w') h b);have YES:=Lib.hid (fun h w' b=>sent_yes (S:=S) (T:=T) (V:=V) (s:=s) (w:=w) (w':=w') h b);have HH:=Lib.hid H;obtain ⟨sa,cs,rfl,_⟩:=H.st.slice;obtain ⟨al,cl,el,_⟩:=H.lv.slice;rw [H.ll] at el;subst el
 by_cases h0:0≤sN s T
 ·obtain ⟨n,hn,hlt,hmem,oke,hk1,hk2⟩:=sender_is H.ok h0
  have GA:=Lib.hid (fun w=>good_any w (sE s T));rw [ok_yes oke] at GA;obtain ⟨f0,r0,y0⟩:=(okE_bounds oke).2.2;have hnS:n < S.length:=by rw [← H.lt];exact hlt
  have hnV:n < V.length:=by rw [H.ll];exact hnS
  obtain ⟨b,off,cap,sp,e1,cS,hS⟩:=H.st.one hnS;injection e1 with e1 _ e2;subst e1 e2;obtain ⟨bl,ol,el2,AL⟩:∃ bl ol,al=some ⟨bl,ol,none⟩∧At KB w bl ol V:=by
   obtain ⟨a',c',e',_,_,h3⟩:=H.lv;injection e' with q1 _ q2;subst q1;exact h3 (by omega)
  subst el2;have cV:=atB AL hnV
  have SB:Hid (snB S T V s=(vat V n && gB (sat S n).1 (sE s T).2.2.1 (sE s T).2.2.2.1)):=Lib.hid (by
   unfold snB
   rw [hn,decide_eq_true (Int.natCast_nonneg n),Bool.true_and])
  have SX:Hid (snX S T s=rb (gV (sat S n).1 (sE s T).2.2.1 (sE s T).2.2.2.1) (sE s T).2.2.2.2):=Lib.hid (by
   unfold snX
   rw [hn])
  have ev:V.getD n false=vat V n:=rfl;rw [ev] at cV;rw [hn] at YES SA;have WF:=Lib.hid (wf_of (n:=(sE s T).2.2.1) (by omega));have SG:Hid (∀ W,Below w.heap.size w W→Calls Tryz.prog 40 #[.pointer (some ⟨sp,0,none⟩),.int .i64 (sE s T).2.2.1,.int .i64 (sE s T).2.2.2.1] W (GetPost W (gV (sat S n).1 (sE s T).2.2.1 (sE s T).2.2.2.1) (gB (sat S n).1 (sE s T).2.2.1 (sE s T).2.2.2.1))):=Lib.hid (fun W b=>get_has (hS.below b) WF.out _);have GN:Hid (gB (sat S n).1 (sE s T).2.2.1 (sE s T).2.2.2.1=false→gV (sat S n).1 (sE s T).2.2.1 (sE s T).2.2.2.1=z4):=Lib.hid gV_no;clear hmem hS HH H h0 hk1 hk2 hlt oke hn;unfold GetPost at SG;generalize gV (sat S n).1 (sE s T).2.2.1 (sE s T).2.2.2.1=gv at *;generalize gB (sat S n).1 (sE s T).2.2.1 (sE s T).2.2.2.1=gb at *;unfold ent at SA GA;generalize snX S T s=X at *;generalize sE s T=x at *;obtain ⟨q,s',f,r,y⟩:=x;simp only at y0 SX SA GA SG WF GN;obtain ⟨j,rfl⟩:∃ j:Nat,y=j:=⟨y.toNat,by omega⟩;have hj:j < 4:=by omega
  clear f0 r0 y0;generalize snB S T V s=a3 at *;generalize sbN S T V s=a1 at *;generalize sbX S T V s=a2 at *;generalize S.length=N at *;have lS:b < w.heap.size:=World.block_lt_of_cell? _ _ cS;have lV:bl < w.heap.size:=World.block_lt_of_cell? _ _ cV;have CS:=Lib.hid cS;have CV:=Lib.hid cV;clear cS AL hnV
  go_enter Tryz.func90,Tryz.ntmps90
  go_wp2_with fail;refine SA.out.mono ?_;rintro e w1 ⟨rfl,b1⟩;have X1:Hid ((w1.alloc (.cells #[.int .i64 q,.int .i64 s',.int .i64 f,.int .i64 r,.int .i64 (j:Int)] 98)).heap[w1.heap.size]? = some (.cells #[.int .i64 q,.int .i64 s',.int .i64 f,.int .i64 r,.int .i64 (j:Int)] 98 (0,0))):=Lib.hid (heap_alloc_new w1 _);have B1:=Lib.hid (b1.alloc b1.size (.cells #[.int .i64 q,.int .i64 s',.int .i64 f,.int .i64 r,.int .i64 (j:Int)] 98));have G1:=b1.size;go_upto_region 2 with fail;generalize (w1.alloc (.cells #[.int .i64 q,.int .i64 s',.int .i64 f,.int .i64 r,.int .i64 (j:Int)] 98))=W at *;clear b1 SA;generalize w1.heap.size=g at *;have cV:=(B1.out.cell lV).trans CV.out;have x0:W.cell? ⟨g,0,none⟩=some (.int .i64 q):=row_cell X1.out 0;have x1:W.cell? ⟨g,1,none⟩=some (.int .i64 s'):=row_cell X1.out 1;have x2:W.cell? ⟨g,2,none⟩=some (.int .i64 f):=row_cell X1.out 2;have x3:W.cell? ⟨g,3,none⟩=some (.int .i64 r):=row_cell X1.out 3;have x4:W.cell? ⟨g,4,none⟩=some (.int .i64 (j:Int)):=row_cell X1.out 4
  cases hv:vat V n with
  | false =>
    rw [hv] at cV;have N2:=Lib.hid (NO.out (by rw [SB.out,hv];rfl) W B1.out);clear NO YES SB SX;go_wp2
    go_ret3
    exact N2.out
  | true =>
    rw [hv] at cV;go_wp2_with fail;refine (GA.out _).mono ?_;rintro e w2 ⟨rfl,b2⟩;have X2:=Lib.hid ((b2.block _ (lt_of_block X1.out)).trans X1.out);have B2:=Lib.hid (B1.out.trans (b2.mono B1.out.size));clear b2 GA X1 B1 cV x0 x1 x2 x3 x4;go_upto_region 4 with fail;have cS:=Sd.cell_by ((B2.out.cell lS).trans CS.out);have x2:=Sd.cell_by (show w2.cell? ⟨g,2,none⟩=some (.int .i64 f) from row_cell X2.out 2);have x3:=Sd.cell_by (show w2.cell? ⟨g,3,none⟩=some (.int .i64 r) from row_cell X2.out 3);refine Sf.start [(0,0),(0,1),(0,2),(0,3),(0,4),(0,5),(0,6),(0,7),(1,8),(0,9),(0,10),(0,11),(2,12),(1,13),(0,14)] [⟨12,12,#[.int .u8 0,.int .u8 0,.int .u8 0,.int .u8 0],96⟩] (by kernel_rfl) (by kernel_rfl) (by kernel_rfl) (by decide) (by decide) ?_ ?_ ?_
    ·simp
    ·intro f hf
     simp only [List.mem_cons,List.not_mem_nil,or_false] at hf;subst hf;exact ⟨_,rfl,rfl,rfl,fun ρ w=>by go_simp⟩
    dsimp only [Sf.picks,List.getElem?_cons_succ,List.getElem?_cons_zero];have BW:=Lib.hid ((Below.refl w2.heap.size w2).drew);unfold ptr at cS
    repeat (refine Sf.lit (fun xs=>?_);simp only [Sf.fill,List.foldl_cons,List.foldl_nil];quiet_step (fail);refine wpQuiet_nil ?_)
    refine Sf.call (fun xs w3 hb hc=>⟨by rfl,fun K hK=>?_⟩);have B3:=Lib.hid (BW.out.trans (hb.mono BW.out.size));clear hb hc BW;simp only [Sf.fill,List.foldl_cons,List.foldl_nil];go_simp;refine (SG.out w3 (B2.out.trans (B3.out.mono B2.out.size))).mono ?_;rintro e4 w4 ⟨rfl,b4⟩;have B4:=Lib.hid (B3.out.trans (b4.mono B3.out.size));refine hK _ _ (Sd.Cl.of B4.out) b4.size (fun _=>b4) ?_;clear hK K b4 B3 SG;unfold rec4
    repeat (refine Sf.lit (fun xs=>?_);simp only [Sf.fill,List.foldl_cons,List.foldl_nil];quiet_step (fail);refine wpQuiet_nil ?_)
    refine Sf.meet (fun g7 w7 hb hc row n7 hH hL=>?_);have B7:=Lib.hid (B4.out.trans (hb.mono B4.out.size));have R7:Hid (w7.heap[g7]? = some (.cells (arr4 z4) 96 (0,0))):=Lib.hid row;clear hb hc row hH hL B4
    repeat (refine Sf.lit (fun xs=>?_);simp only [Sf.fill,List.foldl_nil];quiet_step (fail);refine wpQuiet_nil ?_)
    refine Sf.call (fun xs w9 hb hc=>⟨by rfl,fun K hK=>?_⟩);have B9:=Lib.hid (B7.out.trans (hb.mono B7.out.size));have R9:=(hb.block _ (lt_of_block R7.out)).trans R7.out;have d0:w9.cell? ⟨g7,0,none⟩=some (.int .u8 0):=row_cell R9 0;have d1:w9.cell? ⟨g7,1,none⟩=some (.int .u8 0):=row_cell R9 1;have d2:w9.cell? ⟨g7,2,none⟩=some (.int .u8 0):=row_cell R9 2;have d3:w9.cell? ⟨g7,3,none⟩=some (.int .u8 0):=row_cell R9 3;have f0:w9.frozen? ⟨g7,0,none⟩=false:=row_frozen R9 0;have f1:w9.frozen? ⟨g7,1,none⟩=false:=row_frozen R9 1;have f2:w9.frozen? ⟨g7,2,none⟩=false:=row_frozen R9 2;have f3:w9.frozen? ⟨g7,3,none⟩=false:=row_frozen R9 3;have RA:=sto4_row R9 gv;have BA:=sto4_below (o:=0) (r:=gv) B9.out n7;have hsz:=sto4_size w9 g7 0 gv;clear hb hc B7 R7 R9;simp only [Sf.fill,List.foldl_nil];go_simp;refine hK _ _ (Sd.Cl.of BA) (by rw [← hsz];exact Nat.le_refl _) (fun h=>absurd rfl h) ?_;clear hK K d0 d1 d2 d3 f0 f1 f2 f3 hsz
    show Sf.wpSf _ _ _ _ _ _ _ _ _ _ (sto4 w9 g7 0 gv)
    have B10:=Lib.hid (B2.out.trans (BA.mono B2.out.size));have X10:=Lib.hid ((BA.block _ (lt_of_block X2.out)).trans X2.out);have R10:=Lib.hid RA;clear BA RA cS x2 x3 B9 B2 X2 CS CV n7;generalize sto4 w9 g7 0 gv=wA at *
    repeat (refine Sf.lit (fun xs=>?_);simp only [Sf.fill,List.foldl_nil];quiet_step (fail);refine wpQuiet_nil ?_)
    refine Sf.done (fun wB hb hc=>?_);have BB:=Lib.hid (B10.out.trans (hb.mono B10.out.size));have XB:=Lib.hid ((hb.block _ (lt_of_block X10.out)).trans X10.out);have RB:=Lib.hid ((hb.block _ (lt_of_block R10.out)).trans R10.out);clear hb hc B10 X10 R10
    cases hb:gb with
    | false =>
      have N2:=Lib.hid (NO.out (by rw [SB.out,hv,hb];rfl) wB BB.out);clear NO YES SB SX;go_wp2
      go_ret3
      exact N2.out
    | true =>
      have N2:=Lib.hid (YES.out (by rw [SB.out,hv,hb];rfl) wB.drew (BB.out.trans ((Below.refl _ _).drew)));rw [SX.out] at N2;clear NO YES SB SX GN;go_upto_region 7 with fail;have x4:=Sd.cell_by (show wB.cell? ⟨g,4,none⟩=some (.int .i64 (j:Int)) from row_cell XB.out 4);have rj:=Sd.cell_by ((row_cell RB.out j).trans (arr4_at gv hj));obtain rfl | rfl | rfl | rfl:j=0∨j=1∨j=2∨j=3:=by omega
      all_goals
       refine Sd.start [(false,0),(false,1),(false,2),(false,3),(false,4),(false,5),(false,6),(false,7)] (by kernel_rfl) (by kernel_rfl) (by kernel_rfl) ?_;dsimp only [Sd.picks,List.getElem?_cons_succ,List.getElem?_cons_zero]
       repeat (refine Sd.lit ?_;quiet_step (fail);refine wpQuiet_nil ?_)
       refine Sd.done ?_;clear x4 rj;go_wp2
       go_ret3
       exact N2.out
 ·have SBF:snB S T V s=false:=by unfold snB;rw [decide_eq_false h0];rfl
  have N2:=Lib.hid (NO.out SBF);clear NO YES SBF HH H;generalize sbN S T V s=a1 at *;generalize sbX S T V s=a2 at *;generalize snB S T V s=a3 at *;have d0:decide (sN s T < 0)=true:=decide_eq_true (by omega);generalize sN s T=m at *;generalize sE s T=x at *;unfold ent at SA
  go_enter Tryz.func90,Tryz.ntmps90
  go_wp2_with fail;refine SA.out.mono ?_;rintro e w1 ⟨rfl,b1⟩;have B1:=Lib.hid (b1.alloc b1.size (.cells #[.int .i64 x.1,.int .i64 x.2.1,.int .i64 x.2.2.1,.int .i64 x.2.2.2.1,.int .i64 x.2.2.2.2] 98));have hm0:m < 0:=by omega
  clear b1 SA;go_wp2
  go_ret3
  exact N2.out _ B1.out
end Go.Proofs.YtpkipilggkbkeaaGreatDoor.Pa
