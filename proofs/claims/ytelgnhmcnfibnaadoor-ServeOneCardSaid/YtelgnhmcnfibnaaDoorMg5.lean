import Derived.Test.YtelgnhmcnfibnaaDoorMg4
import Derived.WalkKit
import Derived.Test.YtelgnhmcnfibnaaDoorMg2
import Derived.Test.YtelgnhmcnfibnaaDoorMg3
import Derived.Maps.Range
import Derived.Maps.RangeWalk
import Derived.Maps.RangeRun
import Derived.Deep.Cut
import Derived.Test.YtelgnhmcnfibnaaDoorShelfK
import Derived.Test.YtelgnhmcnfibnaaDoorMg1
set_option maxRecDepth 100000
namespace Go.Proofs.YtelgnhmcnfibnaaDoor.Ck
open Ro (E5 z5 eat mayP mayB okE okAt prevS)
abbrev LL:=List (List E5)
def lat (L:LL) (n:Nat):List E5:=L.getD n []
theorem lat_take {L:LL} {n j:Nat} (h:j < n):lat (L.take n) j=lat L j:=by
 unfold lat;rw [List.getD_eq_getElem?_getD,List.getD_eq_getElem?_getD,List.getElem?_take,if_pos h]
def scn (p:Nat→E5→Bool):Nat→LL→Option (Nat×E5)
 | _,[]=>none
 | n,t :: r=>match t.find? (p n) with
   | some x=>some (n,x)
   | none=>scn p (n+1) r
def whoN (p:Nat→E5→Bool) (L:LL):Int:=match scn p 0 L with
 | some y=>y.1
 | none=>-1
def whoE (p:Nat→E5→Bool) (L:LL):E5:=match scn p 0 L with
 | some y=>y.2
 | none=>z5
section
variable {p:Nat→E5→Bool} {L:LL} {k i:Nat}
end
def idx (q:List E5→Bool):Nat→LL→Int
 | _,[]=>-1
 | n,t :: r=>if q t then n else idx q (n+1) r
section
variable {q:List E5→Bool} {L:LL} {k:Nat}
end
def snd (s:Int) (_:Nat) (x:E5):Bool:=decide (x.1=1∧x.2.1=s)
def sN (s:Int) (L:LL):Int:=whoN (snd s) L
def sE (s:Int) (L:LL):E5:=whoE (snd s) L
def bad (t:List E5):Bool:=!mayB t
def bI (L:LL):Int:=idx bad 0 L
def pc (L:LL) (n:Nat) (x:E5):Bool:=decide (x.1=1∧0≤sN x.2.1 (L.take n))
def pg (L:LL) (_:Nat) (x:E5):Bool:=decide (x.1=2∧sN x.2.1 L < 0)
def clN (L:LL):Int:=whoN (pc L) L
def gaN (L:LL):Int:=whoN (pg L) L
def tE (L:LL):Int:=if 0≤bI L then 2 else if 0≤clN L then 8 else if 0≤gaN L then 9 else 0
def cnt (p:E5→Bool) (L:LL) (k i:Nat):Nat:=((L.take k).flatten).countP p+((lat L k).take i).countP p
def all (p:E5→Bool) (L:LL):Nat:=L.flatten.countP p
section
variable {p:E5→Bool} {L:LL} {k i:Nat}
end
end Go.Proofs.YtelgnhmcnfibnaaDoor.Ck
namespace Go.Proofs.YtelgnhmcnfibnaaDoor.Ua
open Go.RowKit
def bit (b:Int) (j:Nat):Bool:=decide (b / 2 ^ j % 2=1)
def par (F:Nat→Bool):Nat→Bool
 | 0=>false
 | k+1=>par F k != F (k+1)
def val (F:Nat→Bool):Nat→Nat
 | 0=>0
 | k+1=>val F k+if F (k+1) then 2 ^ k else 0
def cnt (F:Nat→Bool):Nat→Nat
 | 0=>0
 | k+1=>cnt F k+if F (k+1) then 1 else 0
def upd (F:Nat→Bool) (k:Nat) (x:Bool) (i:Nat):Bool:=if i=k then x else F i
def put (b:Int) (k:Nat) (i:Nat):Bool:=if 1≤i∧i < k then bit b (i - 1) else false
def frm (b:Int) (odd:Bool):Nat→Bool:=upd (upd (put b 9) 9 (par (put b 9) 9 != odd)) 10 true
def bad (F:Nat→Bool):Bool:=F 0 || !F 10
def tb (F:Nat→Bool):Int:=if bad F then 0 else val F 8
def tp (F:Nat→Bool):Bool:=if bad F then false else par F 9
def te (F:Nat→Bool):Int:=if bad F then 2 else 0
def ones (m:Int):Nat→Nat
 | 0=>0
 | k+1=>ones m k+if bit m k then 1 else 0
end Go.Proofs.YtelgnhmcnfibnaaDoor.Ua
namespace Go.Proofs.YtelgnhmcnfibnaaDoor.Pa
open Go.RowKit
open Fl (R4 z4 rat goodF okR okL)
open Fs (Fil Abs key Srt OkA gB gV sB sA dA dE dD dV addE addA look_some look_none look_at map_look)
open Ro (E5 z5 okE eat mayP)
open Ck (LL lat sN sE tE)
open Ua (bit frm te tp tb upd)
def rb (v:R4) (b:Int):Int:=if b=0 then v.1 else if b=1 then v.2.1 else if b=2 then v.2.2.1 else v.2.2.2
def rs (v:R4) (b x:Int):R4:=if b=0 then (x,v.2.1,v.2.2.1,v.2.2.2) else if b=1 then (v.1,x,v.2.2.1,v.2.2.2) else if b=2 then (v.1,v.2.1,x,v.2.2.2) else (v.1,v.2.1,v.2.2.1,x)
def byt (x:Int):Prop:=0≤x∧x≤255
abbrev Hr:=Int→Option Int
def mt (f r:Int) (x:E5):Bool:=decide (x.1=2∧x.2.2.1=f∧x.2.2.2.1=r)
section
variable {h:Hr} {t:List E5} {V:Int→Int→Bool} {A:Abs}
end
end Go.Proofs.YtelgnhmcnfibnaaDoor.Pa
namespace Go.Proofs.YtelgnhmcnfibnaaDoor.Pa
open Go.RowKit
open Fl (R4 z4 rat goodF okR okL)
open Fs (Fil Abs key Srt OkA gB gV sB sA dA dE dD dV addE addA look_some look_none look_at map_look)
open Ro (E5 z5 okE eat mayP)
open Ck (LL lat sN sE tE)
open Ua (bit frm te tp tb upd)
section
variable {h:Hr} {t:List E5} {V:Int→Int→Bool} {A:Abs}
end
def tn (F:Nat→Bool) (m:Int) (i:Nat):Bool:=if 1≤i∧i < 11 then F i != bit m i else F i
abbrev S2:=Int×Int
def z2:S2:=(0,0)
def sq1 (s:Int) (F:Nat→Bool) (x:S2):Nat→Bool:=if x.1=s then tn F x.2 else F
def sq (P:List S2) (s:Int) (F:Nat→Bool) (j:Nat):Nat→Bool:=(P.take j).foldl (sq1 s) F
abbrev Sts:=List (Abs×Int)
def sat (S:Sts) (n:Int):Abs×Int:=S.getD n.toNat ([],0)
def vat (V:List Bool) (n:Int):Bool:=V.getD n.toNat false
def snB (S:Sts) (T:LL) (V:List Bool) (s:Int):Bool:=decide (0≤sN s T) && vat V (sN s T) && gB (sat S (sN s T)).1 (sE s T).2.2.1 (sE s T).2.2.2.1
def snX (S:Sts) (T:LL) (s:Int):Int:=rb (gV (sat S (sN s T)).1 (sE s T).2.2.1 (sE s T).2.2.2.1) (sE s T).2.2.2.2
def lowF (_:Nat):Bool:=false
def frF (S:Sts) (T:LL) (V:List Bool) (P:List S2) (s:Int):Nat→Bool:=if snB S T V s=true then sq P s (frm (snX S T s) false) P.length else lowF
def hrB (S:Sts) (T:LL) (V:List Bool) (P:List S2) (s:Int):Bool:=snB S T V s && decide (te (frF S T V P s)=0) && !tp (frF S T V P s)
def hrV (S:Sts) (T:LL) (V:List Bool) (P:List S2) (s:Int):Int:=if hrB S T V P s=true then tb (frF S T V P s) else 0
def hr (S:Sts) (T:LL) (V:List Bool) (P:List S2):Hr:=fun s=>if 1≤s∧s≤16∧hrB S T V P s=true then some (hrV S T V P s) else none
end Go.Proofs.YtelgnhmcnfibnaaDoor.Pa
namespace Go.Proofs.YtelgnhmcnfibnaaDoor.Fs
open Go.RowKit Go.Maps
open Fl (R4 z4 K4 rec4 rat goodF goodFB okR okL file arr4 row_cell row_frozen)
open Rw (Rd Ow At)
attribute [local irreducible] Sd.wpSd wpQuiet
theorem St.as {w:World} {s:Nat} {F:Nat→Prop} {A:Abs} {d d':Int} {m:Value} {T:TypeId} (h:St w s F A d) (row:w.heap[s]? = some (.cells #[m,.int .i64 d'] T (0,0))):∃ C,Sto w s F m C d∧C.map Ent.abs=A:=by
 obtain ⟨m',C,h,e⟩:=h;have r:=h.row.symm.trans row;injection r with r;injection r with r _ _;have e4:=congrArg (fun t:Array Value=>t[0]?) r
 simp at e4
 subst e4;exact ⟨C,h,e⟩
end Go.Proofs.YtelgnhmcnfibnaaDoor.Fs
namespace Go.Proofs.YtelgnhmcnfibnaaDoor.Fs
open Go.RowKit Go.Maps Go.Sort Go.Shelf
open Rw (Rd Ow At)
theorem sortsL (m:Nat):AnyZI.SortsIn Tryd.prog sortedL_ren Fence.wide m :=
 ⟨fun blk off cap ss W hH hblk hsz=>callsIn_wide.2 (AnyM.slices_Sort_int sortL blk off cap ss W hH hblk hsz),
  fun p cap W=>callsIn_wide.2 (AnyM.slices_Sort_int_none sortL p cap W)⟩
theorem keys_any (mb:Option Nat) (W:World):Calls Tryd.prog 13 #[.map mb] W fun e w'=>e = .returned (.func (.func 29) #[] #[.pointer (some ⟨W.heap.size,0,none⟩)])∧w'=W.alloc (.cells #[.map mb] 54) :=
 (callsIn_wide (n:=5)).1 (AnyZI.keys_in keysL Fence.wide 5 trivial rfl mb W)
def KI:Rw.Kind Int:=Rw.int .i64
theorem flat_int:∀ l:List Int,KI.flat l=l.map encZ
 | []=>rfl
 | a :: r=>by
   have:=flat_int r
   show [Value.int .i64 a] ++ KI.flat r=_
   rw [this]
   rfl
theorem keys_dat (C:List Ent):intKeys (dat C)=C.map Ent.n:=by
 show (C.map ent).map (fun p=>Go.intOf p.1)=_
 rw [List.map_map]
 rfl
theorem sort_keys {C:List Ent} (h:Srt Ent.n C) {ss:List Int} (hp:ss.Perm (intKeys (dat C))):ss.mergeSort (fun x y=>decide (x≤y))=C.map Ent.n:=by
 have e:=mergeSort_of_perm_i hp
 show ss.mergeSort leI=_
 rw [e,keys_dat];refine List.mergeSort_of_pairwise ?_;rw [List.pairwise_map];exact h.imp fun h=>by simp only [leI,decide_eq_true_eq];exact Int.le_of_lt h
theorem size_dat (C:List Ent):Maps.size (dat C)=C.length:=by unfold dat Maps.size;simp
def SortPost (w:World) (C:List Ent) (e:Ending) (w':World):Prop:=∃ v,e = .returned v∧Ow KI w' w.heap.size 3 v (C.map Ent.n)∧Below w.heap.size w w'
set_option maxHeartbeats 1000000 in
theorem sorted_any {w:World} {F:Nat→Prop} {mb:Option Nat} {C:List Ent} (M:Mp w F (.map mb) C) (hs:Srt Ent.n C) (hl:C.length≤64) :
 Calls Tryd.prog 12 #[.func (.func 29) #[] #[.pointer (some ⟨w.heap.size,0,none⟩)]] (w.alloc (.cells #[.map mb] 54)) (SortPost w C):=by
 have B0:Below w.heap.size w (w.alloc (.cells #[.map mb] 54)):=(Below.refl w.heap.size w).alloc (Nat.le_refl _) _
 rcases M with ⟨e,rfl⟩ | ⟨b,e,_,hown⟩
 ·obtain rfl:mb=none:=by injection e
  have hseq:SeqGives Fence.wide 2 Tryd.prog 29 #[.pointer (some ⟨w.heap.size,0,none⟩)] encZ (fun ss:List Int=>ss = []) 0 (w.alloc (.cells #[.map none] 54)) :=
   AnyZI.keys_gives_nil (ρ:=keysL_ren) { keysL with } Fence.wide _ trivial rfl w.heap.size _ (by simp) (by simp)
  have cS:=AnyZI.sorted_in sortedL Fence.wide 5 trivial trivial trivial trivial rfl (by omega) (sortsL _) (enters_of Tryd.func28 (by kernel_rfl) rfl) 29 #[.pointer (some ⟨w.heap.size,0,none⟩)] trivial (enters_of Tryd.func29 (by kernel_rfl) rfl) _ 0 (Nat.zero_le _) (by omega) _ hseq;refine ((callsIn_wide (n:=5)).1 cS).mono ?_;rintro e w' ⟨v,ss,rfl,rfl,hrow,hnil,hb⟩;obtain rfl:v = .slice none 0 0:=hnil.2 rfl;exact ⟨_,rfl,Ow.nil _ _ _,B0.trans (hb.mono (by simp))⟩
 ·obtain rfl:mb=some b:=by injection e
  have hbl:=hown.lt;have hseq:SeqGives Fence.wide 2 Tryd.prog 29 #[.pointer (some ⟨w.heap.size,0,none⟩)] encZ (fun ss=>ss.Perm (intKeys (dat C))) (Maps.size (dat C)) (w.alloc (.cells #[.map (some b)] 54)) :=
   AnyZI.keys_gives (ρ:=keysL_ren) { keysL with } Fence.wide _ trivial rfl (by omega) w.heap.size b C.length (dat C) _ (by simp) (by simp) (by
    obtain ⟨es,clock,hb,Ft,hs,hD⟩:=hown
    exact ⟨es,clock,(Below.heap_alloc _ _ b hbl).trans hb,Ft,hs,hD⟩)
  have cS:=AnyZI.sorted_in sortedL Fence.wide 5 trivial trivial trivial trivial rfl (by omega) (sortsL _) (enters_of Tryd.func28 (by kernel_rfl) rfl) 29 #[.pointer (some ⟨w.heap.size,0,none⟩)] trivial (enters_of Tryd.func29 (by kernel_rfl) rfl) _ _ (by rw [size_dat];unfold maxLen;omega) (by rw [size_dat];omega) _ hseq;refine ((callsIn_wide (n:=5)).1 cS).mono ?_;rintro e w' ⟨v,ss,rfl,hS,hrow,hnil,hb⟩;refine ⟨v,rfl,?_,B0.trans (hb.mono (by simp))⟩;have e1:=sort_keys hs hS;have e2:ss.length=(C.map Ent.n).length:=by rw [← keys_dat];exact hS.length_eq
  show w'.ownsRow w.heap.size 3 1 v (C.map Ent.n).length (KI.flat (C.map Ent.n))
  rw [flat_int,← e1,List.length_mergeSort];exact ownsRow_base_a hrow (by simp)
end Go.Proofs.YtelgnhmcnfibnaaDoor.Fs
namespace Go.Proofs.YtelgnhmcnfibnaaDoor.Fs
open Go.RowKit Go.Maps
open Fl (R4 z4 K4 rec4 rat goodF goodFB okR okL file row_cell row_frozen)
open Rw (Rd Ow At)
theorem infoE3:(Tryd.prog.info? 48).map (fun i=>(i.zero,i.size,i.bytes))=some (some (.agg #[.int .i64 0,.int .i64 0,.slice none 0 0]),3,40):=by kernel_rfl
theorem run_buildN (n p:Int) (a:Option Addr) (q cap:Nat) (w:World):(Instr.build 48 #[(0,.int .i64 n),(1,.agg #[.int .i64 p,.slice a q cap])]).run Tryd.prog w = .ok (.agg #[.int .i64 n,.int .i64 p,.slice a q cap]) w:=by kernel_rfl
theorem copied_agg (w:World) (p:Int) (v:Value) (l:List R4) (q:Nat) (R:Rd K4 w v l) (hl:l.length≤260) (hq:l.length=q):Calls Tryd.prog 14 #[.agg #[.int .i64 p,v]] w fun e w'=>∃ a cap,e = .returned (.agg #[.int .i64 p,.slice a q cap])∧Ow K4 w' w.heap.size 26 (.slice a q cap) l∧Below w.heap.size w w' :=
 (copied_any w p v l R hl).mono fun e w' ⟨u,h1,h2,h3⟩=>by
   obtain ⟨a,cap,rfl,_⟩:=h2.slice;rw [hq] at h1 h2;exact ⟨a,cap,h1,h2,h3⟩
theorem ow_far {α:Type} {K:Rw.Kind α} {w w':World} {B E T:Nat} {v:Value} {l:List α} (h:Ow K w B E v l) (hne:E≠T) (f:Rw.Far T w w'):Ow K w' B E v l:=by
 obtain ⟨h1,h2⟩:=h;refine ⟨h1,?_⟩
 rcases h2 with h2 | ⟨g,cap,cur,e,hB,hh,r⟩
 ·exact .inl h2
 ·exact .inr ⟨g,cap,cur,e,hB,f g _ _ hh hne,r⟩
def FRel (w:World) (C:List Ent) (v:Value) (k:Nat) (wr:World):Prop:=∃ L:List Ent,Ow E3 wr w.heap.size 48 v L∧L.map Ent.abs=(C.take k).map Ent.abs∧(∀ c∈L,Ow K4 wr w.heap.size 26 c.sl c.l)∧Below w.heap.size w wr
def FilesPost (w:World) (A:Abs) (e:Ending) (w':World):Prop:=∃ v,e = .returned v∧(∀ F:Nat→Prop,(∀ k,F k→k < w.heap.size)→Ls F w' v A)∧Below w.heap.size w w'
theorem ls_of {w w2 w':World} {C:List Ent} {v:Value} {A:Abs} (h:FRel w2 C v C.length w') (hA:C.map Ent.abs=A) (hb:w.heap.size≤w2.heap.size) (F:Nat→Prop) (hF:∀ k,F k→k < w.heap.size):Ls F w' v A:=by
 obtain ⟨L,o,e,r,b⟩:=h;rw [List.take_length] at e;exact ⟨L,⟨o.rd,fun _ k hk g=>by have:=(ow_new o k hk).1;have:=hF k g;omega,fun c hc=>(r c hc).rd,fun c hc _ k hk g=>by have:=(ow_new (r c hc) k hk).1;have:=hF k g;omega⟩,e.trans hA⟩
set_option maxHeartbeats 4000000 in
theorem files_any {w:World} {s:Nat} {F:Nat→Prop} {A:Abs} {d:Int} (S:St w s F A d):Calls Tryd.prog 5 #[.pointer (some ⟨s,0,none⟩)] w (FilesPost w A):=by
 obtain ⟨m,C,h,hA⟩:=S;obtain ⟨mb,rfl⟩:∃ mb,m = .map mb:=by
  rcases h.mp with ⟨e,_⟩ | ⟨b,e,_⟩
  ·exact ⟨_,e⟩
  ·exact ⟨_,e⟩
 have srt:Srt Ent.n C:=(map_srt (κ:=Ent.n) (κ':=key) abs_key).1 h.ok.srt;have c0:w.cell? ⟨s,0,none⟩=some (.map mb):=row_cell h.row 0;have SO:=Lib.hid (sorted_any h.mp srt h.len);have SS:=Lib.hid h;have HL:=Lib.hid h.len;have HS:=Lib.hid srt;have HA:=Lib.hid hA;clear h hA srt
 go_enter Tryd.func5,Tryd.ntmps5
 go_wp2_with (first
  | (go_at_call 13;refine (keys_any _ _).mono ?_;rintro e w1 ⟨rfl,rfl⟩)
  | (go_at_call 12;refine SO.out.mono ?_;rintro e w2 ⟨vk,rfl,ok,b2⟩;obtain ⟨ka,kc,rfl,hkc⟩:=ok.slice;rw [List.length_map] at ok ⊢))
 have OK:=Lib.hid ok;have B2:=Lib.hid b2;have S2:=Lib.hid (SS.out.below b2);clear c0 ok b2 SO SS hkc;generalize hn:C.length=n at *;have HN:=Lib.hid hn;clear hn
 go_loopw [3,15] (fun v i wr=>∃ k:Nat,k≤n∧i = .int .i64 k∧Hid (FRel w2 C v k wr)) (fun _ i _=>n - (intOf i).toNat)
 case atStart=>exact ⟨0,Nat.zero_le _,rfl,[],Ow.nil _ _ _,by simp,nofun,Below.refl _ _⟩
 case round =>
  obtain ⟨k,hk,rfl,R⟩:=hrel
  by_cases hlt:k < n
  ·obtain ⟨L,oL,eL,rL,bL⟩:=R.out
   have hkC:k < C.length:=by have:=HN.out;omega
   obtain ⟨⟨cn,cp,ca,cc,cl⟩,hc⟩:∃ c:Ent,C[k]? = some c:=⟨_,List.getElem?_eq_getElem hkC⟩;obtain ⟨g,off,ek,hK⟩:∃ g cap,(Value.slice ka n kc) = .slice (some ⟨g,0,none⟩) n cap∧w2.cell? ⟨g,k,none⟩=some (.int .i64 cn):=by
    obtain ⟨g,cap,e1,_,_,_,_,_,hAt⟩:=OK.out.form (by rw [List.length_map];omega);rw [List.length_map,HN.out] at e1;have c:=hAt k (by rw [List.length_map];exact hkC) 0 (.int .i64 ((C.map Ent.n).getD k 0)) rfl;have e0:(C.map Ent.n).getD k 0=cn:=by rw [List.getD_eq_getElem?_getD,List.getElem?_map,hc];rfl
    rw [e0] at c;have e:0+k * KI.n+0=k:=by show 0+k * 1+0=k;omega
    rw [e] at c;exact ⟨g,cap,e1,c⟩
   obtain ⟨rfl,rfl⟩:ka=some ⟨g,0,none⟩∧kc=off:=by injection ek with e1 _ e3;exact ⟨e1,e3⟩
   have kr:=(bL.cell (World.block_lt_of_cell? _ _ hK)).trans hK;have SR:=S2.out.below bL;have c0:wr.cell? ⟨s,0,none⟩=some (.map mb):=row_cell SR.row 0;have M:=Lib.hid SR.mp;have hin:=List.mem_of_getElem? hc;have hl:look Ent.n cn C=some ⟨cn,cp,ca,cc,cl⟩:=look_at HS.out hin;have LV:=Lib.hid (lv_some hl);obtain ⟨ho,hg,-,-,hnm,-⟩:=SR.find hl;have WN:Hid (Wf cn):=WalkArith.wf_i64 (by omega);have RC:=Lib.hid (ho.rd);have GL:Hid (cl.length≤260):=by have:=hg.2.2.2.1;show cl.length≤260;simp only at this;omega
   have TK:Hid (∀ e:Ent,e.abs=(cn,cp,cl)→(L ++ [e]).map Ent.abs=(C.take (k+1)).map Ent.abs):=fun e he=>by
    rw [List.take_add_one,hc,List.map_append,List.map_append,eL]
    show _ ++ [e.abs]=_ ++ [(cn,cp,cl)]
    rw [he]
   have LL:Hid (L.length≤64):=by
    have e:=congrArg List.length eL;rw [List.length_map,List.length_map,List.length_take] at e;have:=HL.out
    show _≤64
    omega
   have OL:=Lib.hid oL;have RL:=Lib.hid rL;have BL:=Lib.hid bL;obtain ⟨va,vc,ev,-⟩:=oL.slice;clear R hK ek SR hin hl ho hg hnm oL rL bL eL hkC hc;unfold Ent.sl at RC;simp only at *;generalize hq:cl.length=q at *;have HQ:=Lib.hid hq;clear hq;generalize hLl:L.length=Ln at *;have HLl:=Lib.hid hLl;subst ev;clear hLl;have CA:=fun W (hb:Below wr.heap.size wr W)=>copied_agg W cp (.slice ca q cc) cl q (by have:=RC.out.below hb;exact this) (by rw [HQ.out];exact GL.out) HQ.out;have CC:=Lib.hid CA;clear CA;have hF:=run_fieldF;have hBN:=run_buildN;have hn64:n≤64:=HL.out;have hw2:Hid (w2.heap.size≤wr.heap.size):=BL.out.size
   go_wp2_with (first
    | (at_lookup;refine at_look0 rfl _ _ rfl M.out rfl _ rfl WN.out _ LV.out ?_)
    | (go_at_call 14;refine (CC.out _ (Below.refl _ _)).mono ?_;rintro e w3 ⟨ua,uc,rfl,o3,b3⟩;have O3:=Lib.hid o3;have B3:=Lib.hid b3;clear o3 b3)
    | (at_builtin;refine Rw.push_far (K:=E3) Tryd.underlying22 infoE3 rfl (by omega) rfl _ _ rfl w2.heap.size _ L ?e0 ((OL.out.keep B3.out).alloc _) _ ⟨cn,cp,ua,uc,cl⟩ rfl ?d1 ?d2 ?d3 ?_))
   case e0=>rfl
   case d1 =>
    intro j u hu
    unfold E3 Ent.sl at hu;simp only [HQ.out] at hu
    match j,hu with
    | 0,hu=>simp at hu;subst hu;go_simp
    | 1,hu=>simp at hu;subst hu;go_simp
    | 2,hu=>simp at hu;subst hu;go_simp
    | j+3,hu=>simp at hu
   case d2=>rw [HLl.out];have:=LL.out;omega
   case d3=>have:=B3.out.size;have:=hw2.out;simp;omega
   intro v' w4 o4 b4 f4
   have N2:Hid (FRel w2 C v' (k+1) w4):=by
    have hs3:=B3.out.size;have hs2:=hw2.out;refine ⟨L ++ [⟨cn,cp,ua,uc,cl⟩],o4,TK.out _ rfl,fun c hc=>?_,((BL.out.trans (B3.out.mono hs2)).alloc (by omega) _).trans b4⟩
    rcases List.mem_append.1 hc with hc | hc
    ·exact ow_far (((RL.out c hc).keep B3.out).alloc _) (by decide) f4
    ·obtain rfl:c=_:=List.mem_singleton.1 hc
     have o:Ow K4 w3 wr.heap.size 26 (⟨cn,cp,ua,uc,cl⟩:Ent).sl cl:=by unfold Ent.sl;rw [HQ.out];exact O3.out
     exact ow_far ((o.low hs2).alloc _) (by decide) f4
   clear o4 b4 f4;go_wp2
   go_roundw
   case rel=>exact ⟨k+1,by omega,by go_num,N2⟩
   case measure=>simp [intOf];omega
  ·obtain rfl:k=n:=by omega
   have E:=Lib.hid (fun (F:Nat→Prop) (hF:∀ k,F k→k < w.heap.size)=>ls_of (w:=w) (by rw [HN.out];exact R.out) HA.out B2.out.size F hF);have BR:Hid (Below w2.heap.size w2 wr):=by obtain ⟨_,_,_,_,b⟩:=R.out;exact b
   clear R;go_wp2
   go_ret
   exact ⟨_,rfl,E.out,B2.out.trans (BR.out.mono B2.out.size)⟩
end Go.Proofs.YtelgnhmcnfibnaaDoor.Fs
namespace Go.Proofs.YtelgnhmcnfibnaaDoor.Fl
open Go.RowKit
open Rw (Rd Ow At)
end Go.Proofs.YtelgnhmcnfibnaaDoor.Fl
namespace Go.Proofs.YtelgnhmcnfibnaaDoor.Fs
open Go.RowKit Go.Maps
open Fl (R4 z4 K4 rec4 rat goodF goodFB okR okL file arr4 hdr newL newP row_cell row_frozen ret_bool eq_rec)
open Rw (Rd Ow At)
def L0:List R4:=[(3,2,165,164),z4,z4,z4]
def L1:List R4:=[(3,2,165,164),z4,(9,0,0,0),z4]
def A0:Abs:=[(7,2,L0)]
def A1:Abs:=[(7,2,L1)]
theorem new_st (w:World):St (w.alloc (.cells #[.map none,.int .i64 0] 56)) w.heap.size (fun k=>k=w.heap.size) [] 0 :=
 ⟨.map none,[],⟨heap_alloc_new w _,rfl,.inl ⟨rfl,rfl⟩,nofun,nofun,List.Pairwise.nil,OkA.nil,fun k hk=>by subst hk;simp⟩,rfl⟩
structure Aw (w:World) (s:Nat) (F:Nat→Prop) (A:Abs) (d:Int) (W:World):Prop where
 st:St W s F A d
 lo:∀ k,F k→w.heap.size≤k
 bel:Below w.heap.size w W
theorem Aw.next {w W W':World} {s:Nat} {F:Nat→Prop} {A A':Abs} {d d':Int} (h:Aw w s F A d W) (st:St W' s (Fx F W W') A' d') (o:Only F W W'):Aw w s (Fx F W W') A' d' W' :=
 ⟨st,fun k hk=>by
  rcases hk with hk | ⟨hk,_⟩
  ·exact h.lo k hk
  ·have:=h.bel.size;omega,h.bel.trans (o.below h.bel.size h.lo)⟩
theorem Aw.below {w W W':World} {s:Nat} {F:Nat→Prop} {A:Abs} {d:Int} (h:Aw w s F A d W) (b:Below W.heap.size W W'):Aw w s F A d W':=⟨h.st.below b,h.lo,h.bel.trans (b.mono h.bel.size)⟩
theorem Aw.glob {w W:World} {s:Nat} {F:Nat→Prop} {A:Abs} {d:Int} (h:Aw w s F A d W) (g:Glob w):Glob W∧¬ F 0:=⟨g.below h.bel,fun hk=>by have:=h.lo _ hk;have:_ < w.heap.size:=World.block_lt_of_cell? _ _ g;simp only at this;omega⟩
def Loc (F:Nat→Prop) (W:World) (g:Nat) (cs:Array Value) (t:TypeId):Prop:=W.heap[g]? = some (.cells cs t (0,0))∧¬ F g
theorem Loc.only {F:Nat→Prop} {W W':World} {g:Nat} {cs:Array Value} {t:TypeId} (h:Loc F W g cs t) (o:Only F W W'):Loc (Fx F W W') W' g cs t:=⟨(o.block g (lt_of_block h.1) h.2).trans h.1,Fx.not h.2 (lt_of_block h.1)⟩
theorem Loc.below {F:Nat→Prop} {W W':World} {g:Nat} {cs:Array Value} {t:TypeId} (h:Loc F W g cs t) (b:Below W.heap.size W W'):Loc F W' g cs t:=⟨(b.block g (lt_of_block h.1)).trans h.1,h.2⟩
theorem Loc.new {F:Nat→Prop} {W:World} (hF:∀ k,F k→k < W.heap.size) (cs:Array Value) (t:TypeId):Loc F (W.alloc (.cells cs t)) W.heap.size cs t:=⟨heap_alloc_new W _,fun h=>by have:=hF _ h;omega⟩
theorem get_st {w:World} {s:Nat} {F:Nat→Prop} {A:Abs} {d:Int} (S:St w s F A d) {n:Int} (hn:Wf n) (r:Int):Calls Tryd.prog 23 #[.pointer (some ⟨s,0,none⟩),.int .i64 n,.int .i64 r] w (GetPost w (gV A n r) (gB A n r)):=by
 obtain ⟨m,C,h,rfl⟩:=S;exact get_any h hn r
theorem below_new (W:World) (o:Obj):Below W.heap.size W (W.alloc o):=(Below.refl _ W).alloc (Nat.le_refl _) o
end Go.Proofs.YtelgnhmcnfibnaaDoor.Fs
namespace Go.Proofs.YtelgnhmcnfibnaaDoor.Fs
open Go.RowKit Go.Maps
open Fl (R4 z4 K4 rec4 rat goodF goodFB okR okL file arr4 row_cell row_frozen)
open Rw (Rd Ow At)
structure De where
 k:Int
 o:Int
 f:Int
 r:Int
 x:R4
 p:Int
 a:Option Addr
 cap:Nat
 l:List R4
def De.cells (D:De):List Value:=[.int .u8 D.k,.int .i64 D.o,.int .i64 D.f,.int .i64 D.r,.int .u8 D.x.1,.int .u8 D.x.2.1,.int .u8 D.x.2.2.1,.int .u8 D.x.2.2.2,.int .i64 D.p,.slice D.a D.l.length D.cap]
def De.sl (D:De):Value:=.slice D.a D.l.length D.cap
end Go.Proofs.YtelgnhmcnfibnaaDoor.Fs
namespace Go.Proofs.YtelgnhmcnfibnaaDoor.Fs
open Go.RowKit Go.Maps
open Fl (R4 z4 K4 rec4 rat goodF goodFB okR okL file arr4 sto4 sto4_row sto4_below row_cell row_frozen at4)
open Rw (Rd Ow At)
theorem ret_i {a b:Int} (h:a=b):Ending.returned (.int .i64 a) = .returned (.int .i64 b):=by rw [h]
theorem at3 {w:World} {b off:Nat} {L:List Ent} (h:At E3 w b off L) {i:Nat} {c:Ent} (hc:L[i]? = some c) :
 w.cell? ⟨b,off+i * 3,none⟩=some (.int .i64 c.n)∧w.cell? ⟨b,off+i * 3+1,none⟩=some (.int .i64 c.p)∧w.cell? ⟨b,off+i * 3+2,none⟩=some c.sl:=by
 have hi:=(List.getElem?_eq_some_iff.1 hc).1;have e:L.getD i E3.dft=c:=by rw [List.getD_eq_getElem?_getD,hc];rfl
 exact ⟨h i hi 0 _ (by rw [e];rfl),h i hi 1 _ (by rw [e];rfl),h i hi 2 _ (by rw [e];rfl)⟩
def Ix (L:List Ent) (n q:Int):Prop:=(q = -1∧∀ x∈L,x.n≠n)∨∃ i:Nat,∃ c,q=i∧L[i]? = some c∧c.n=n∧∀ j,j < i→∀ e,L[j]? = some e→e.n≠n
theorem ix_none {L:List Ent} {n:Int} (h:look Ent.n n L=none):Ix L n (-1):=.inl ⟨rfl,look_none.1 h⟩
theorem ix_some {L:List Ent} {n:Int} {c:Ent} (hs:Srt Ent.n L) (h:look Ent.n n L=some c):∃ i:Nat,L[i]? = some c∧Ix L n i:=by
 obtain ⟨hm,hn⟩:=look_some h;obtain ⟨i,hi⟩:=List.getElem?_of_mem hm;refine ⟨i,hi,.inr ⟨i,c,rfl,hi,hn,fun j hj e he=>?_⟩⟩;obtain ⟨hi1,hi2⟩:=List.getElem?_eq_some_iff.1 hi;obtain ⟨hj1,hj2⟩:=List.getElem?_eq_some_iff.1 he;have:=List.pairwise_iff_getElem.1 hs j i hj1 hi1 hj;rw [hi2,hj2] at this
 omega
set_option maxHeartbeats 1000000 in
theorem rix_any {w:World} {r:Nat} {F:Nat→Prop} {v:Value} {L:List Ent} {d:Int} (R:Rst w r F v L d) {n q:Int} (hq:Ix L n q) :
 Calls Tryd.prog 40 #[.pointer (some ⟨r,0,none⟩),.int .i64 n] w fun e w'=>e = .returned (.int .i64 q)∧Below w.heap.size w w':=by
 have c0:w.cell? ⟨r,0,none⟩=some v:=row_cell R.row 0;have hlen:=R.len;obtain ⟨a,cap,rfl,_,_,h3⟩:=R.list.rd;have H3:=Lib.hid h3;have HQ:=Lib.hid hq;clear R h3 hq;generalize hn:L.length=N at *;have HN:=Lib.hid hn;have C0:=Lib.hid c0;clear hn c0
 go_enter Tryd.func40,Tryd.ntmps40
 go_wp2
 go_loopw [5] (fun i wr=>∃ k:Nat,k≤N∧i = .int .i64 k∧Hid (∀ j,j < k→∀ e,L[j]? = some e→e.n≠n)∧Hid (Below w.heap.size w wr)) (fun i _=>N - (intOf i).toNat)
 case atStart=>exact ⟨0,Nat.zero_le _,rfl,fun j hj=>by omega,Below.refl _ _⟩
 case round =>
  obtain ⟨k,hk,rfl,hb,B⟩:=hrel;have c0:=(B.out.cell (World.block_lt_of_cell? _ _ C0.out)).trans C0.out
  by_cases hlt:k < N
  ·have hkL:k < L.length:=by have:=HN.out;omega
   obtain ⟨c,hc⟩:∃ c,L[k]? = some c:=⟨_,List.getElem?_eq_getElem hkL⟩;obtain ⟨b,off,rfl,hA⟩:=H3.out (by omega);obtain ⟨x0,_,_⟩:=at3 (hA.below B.out) hc
   by_cases he:c.n=n
   ·have E:Hid (q=k):=by
     rcases HQ.out with ⟨_,h⟩ | ⟨i,c',e1,h1,h2,h3⟩
     ·exact absurd he (h c (List.mem_of_getElem? hc))
     ·have:i=k:=by
       rcases Nat.lt_trichotomy i k with h | h | h
       ·exact absurd h2 (hb.out i h c' h1)
       ·exact h
       ·exact absurd he (h3 k h c hc)
      show q=k
      rw [e1,this]
    clear hc hkL hA;generalize c.n=cn at *;subst he;go_wp2
    go_ret
    exact ⟨ret_i E.out.symm,B.out⟩
   ·have NB:Hid (∀ j,j < k+1→∀ e,L[j]? = some e→e.n≠n):=fun j hj e hje=>by
     by_cases ej:j=k
     ·subst ej
      rw [hc] at hje;obtain rfl:=Option.some.inj hje;exact he
     ·exact hb.out j (by omega) e hje
    clear hc hkL hA;generalize c.n=cn at *;go_wp2
    go_roundw
    case rel=>exact ⟨k+1,by omega,by go_num,NB,B⟩
    case measure=>simp [intOf];omega
  ·obtain rfl:k=N:=by omega
   have E:Hid (q = -1):=by
    rcases HQ.out with ⟨h,_⟩ | ⟨i,c',e1,h1,h2,h3⟩
    ·exact h
    ·have:=(List.getElem?_eq_some_iff.1 h1).1
     exact absurd h2 (hb.out i (by have:=HN.out;omega) c' h1)
   go_wp2
   go_ret
   exact ⟨ret_i E.out.symm,B.out⟩
theorem srtL {L:List Ent} (h:OkA (L.map Ent.abs)):Srt Ent.n L:=(map_srt (κ:=Ent.n) (κ':=key) abs_key).1 h.srt
end Go.Proofs.YtelgnhmcnfibnaaDoor.Fs
namespace Go.Proofs.YtelgnhmcnfibnaaDoor.Fs
open Go.RowKit Go.Maps
open Fl (R4 z4 K4 rec4 rat goodF goodFB okR okL file arr4 sto4 sto4_row sto4_below sto4_own sto4_other sto4_off own4 row_cell row_frozen at4 infoR)
open Rw (Rd Ow At)
attribute [local irreducible] Sd.wpSd wpQuiet Sf.wpSf
def Gd (F:Nat→Prop) (r:Nat) (W:World) (c:Ent):Prop:=Rd K4 W c.sl c.l∧(0 < c.l.length→∀ k,c.sl.ownBlock=some k→¬ (F k∨k=r))
theorem Rst.next {w W:World} {r:Nat} {F:Nat→Prop} {v v':Value} {L L':List Ent} {d d':Int} (R:Rst w r F v L d) (hF:∀ k,F k→k < w.heap.size) (O:Only (fun k=>k=r) w W) (row:W.heap[r]? = some (.cells #[v',.int .i64 d'] 42 (0,0)))
 (own:Ow E3 W w.heap.size 48 v' L') (mem:∀ c∈L',c∈L∨Gd F r W c) (ok:OkA (L'.map Ent.abs)):Rst W r F v' L' d':=by
 have hr:=lt_of_block R.row;refine ⟨row,R.off,⟨own.rd,fun _ k hk g=>?_,fun c hc=>?_,fun c hc=>?_⟩,ok⟩
 ·have:=(ow_new own k hk).1
  rcases g with g | g
  ·have:=hF k g;omega
  ·omega
 ·rcases mem c hc with h | h
  ·exact rd_only (G:=fun k=>k=r) (R.list.file c h) (fun h0 k hk e=>R.list.foff c h h0 k hk (.inr e)) O
  ·exact h.1
 ·rcases mem c hc with h | h
  ·exact R.list.foff c h
  ·exact h.2
structure RC (r:Nat) (v:Value) (d:Int) (g:Nat) (p:Int) (u:Value) (W:World):Prop where
 row:W.heap[r]? = some (.cells #[v,.int .i64 d] 42 (0,0))
 box:W.heap[g]? = some (.cells #[.int .i64 p,u] 46 (0,0))
end Go.Proofs.YtelgnhmcnfibnaaDoor.Fs
namespace Go.Proofs.YtelgnhmcnfibnaaDoor.Sz
open Go.RowKit
open Sd (light light_value picks)
open Sc (In)
def wpAnyZ (P:Program) (md:Region.Mode) (ops:Array Oper) (Q:Exit→Act→World→Prop) (S:World→Prop) (z:Nat):Nat→Array Bool→Act→World→Prop
 | 0,listed,a,w=>Region.ready md ops listed = []∧Q .normal a w
 | fuel+1,listed,a,w =>
   (Region.ready md ops listed = []→Q .normal a w) ∧
   ∀ i∈Region.ready md ops listed,wpOp P ops Q i (fun a' w'=>(i=z∨S w')∧wpAnyZ P md ops Q S z fuel (listed.setIfInBounds i true) a' w') a w
section
variable {P:Program} {md:Region.Mode} {ops:Array Oper} {Q:Exit→Act→World→Prop} {S:World→Prop} {z:Nat}
theorem any_of:∀ (fuel:Nat) (listed:Array Bool) (a:Act) (w:World),wpAnyZ P md ops Q S z fuel listed a w→wpAny P md ops Q fuel listed a w
 | 0,_,_,_,h=>h
 | fuel+1,_,_,_,h=>⟨h.1,fun i hi=>wpOp_mono (fun a' w' h'=>any_of fuel _ a' w' h'.2) (h.2 i hi)⟩
def Blocks (md:Region.Mode) (ops:Array Oper) (z i:Nat) (listed:Array Bool):Prop:=∃ oz e,ops[z]? = some oz∧e∈oz.after∧Region.binds md e=true∧listed.getD e.on true=false∧(e.on=i∨∃ ok,ops[e.on]? = some ok∧∃ e'∈ok.after,Region.binds md e'=true∧e'.on=i)
theorem first {i:Nat} {oi:Oper} {v:Value} (hi:ops[i]? = some oi) (hsel:∀ (j:Nat) (o:Oper) cs b,ops[j]? = some o→o.op≠.select cs b)
 (hQ:∀ c a w,Q (.panic c) (a.put oi.dst v) w→Q (.panic c) a w) :
 ∀ (fuel:Nat) (listed:Array Bool) (a:Act) (w:World),Blocks md ops z i listed →
  (∀ j oj,ops[j]? = some oj→j≠i→listed.getD j true=false→(∀ e∈oj.after,Region.binds md e=true→e.on≠i)→oi.apart ops oj=true) →
  i∈Region.ready md ops listed→YieldsIf P ops S oi v a→S w →
  wpAnyZ P md ops Q S z fuel (listed.setIfInBounds i true) (a.put oi.dst v) w→wpAnyZ P md ops Q S z (fuel+1) listed a w:=by
 intro fuel
 induction fuel with
 | zero =>
   intro listed a w _ _ hr hy hS H
   refine ⟨fun h=>(by rw [h] at hr;cases hr),fun j hj=>?_⟩
   by_cases hji:j=i
   ·subst hji;exact hy.wpOp hi hS ⟨.inr hS,H⟩
   ·have:=ready_mono hj hji
    rw [H.1] at this
    cases this
 | succ fuel ih =>
   intro listed a w hz hfree hr hy hS H
   refine ⟨fun h=>(by rw [h] at hr;cases hr),fun j hj=>?_⟩
   by_cases hji:j=i
   ·subst hji;exact hy.wpOp hi hS ⟨.inr hS,H⟩
   ·have h1:=H.2 j (ready_mono hj hji)
    obtain ⟨hjun,oj,hoj,hall⟩:=mem_ready.1 hj;have hnot:∀ e∈oj.after,Region.binds md e=true→e.on≠i:=fun e he hb heq=>by
     have h1:=hall e he hb;have h0:=(mem_ready.1 hr).1;rw [heq] at h1
     rcases Nat.lt_or_ge i listed.size with h' | h'
     ·simp [h'] at h0 h1;rw [h0] at h1;cases h1
     ·simp [Array.getElem?_eq_none h'] at h1
    obtain ⟨oz,ez,hoz,hez,hbz,hnl,hor⟩:=hz;have low:∀ {k:Nat},listed.getD k true=false→listed.getD k false=false:=fun {k} h=>by
     rcases Nat.lt_or_ge k listed.size with h' | h'
     ·simp [h'] at h ⊢;exact h
     ·simp [Array.getElem?_eq_none h'] at h
    have hjz:j≠z:=fun e=>by
     subst e;rw [hoj] at hoz;obtain rfl:=Option.some.inj hoz;have:=hall ez hez hbz;rw [low hnl] at this
     cases this
    have hje:j≠ez.on:=fun e=>by
     rcases hor with h | ⟨ok,hok,e',he',hb',hon⟩
     ·exact hji (e.trans h)
     ·rw [← e,hoj] at hok
      obtain rfl:=Option.some.inj hok;exact hnot e' he' hb' hon
    have hz':Blocks md ops z i (listed.setIfInBounds j true):=⟨oz,ez,hoz,hez,hbz,by rw [getD_set_ne true hje];exact hnl,hor⟩;have h2:=wpOp_putIf hoj (hfree j oj hoj hji hjun hnot) (fun cs b=>hsel i oi cs b hi) (fun cs b=>hsel j oj cs b hoj) hQ hy h1;have hfree':∀ k ok,ops[k]? = some ok→k≠i→(listed.setIfInBounds j true).getD k true=false →
     (∀ e∈ok.after,Region.binds md e=true→e.on≠i)→oi.apart ops ok=true:=fun k ok hk hki hun hno=>by
     refine hfree k ok hk hki ?_ hno
     by_cases hjk:j=k
     ·subst hjk;exact hjun
     ·rw [getD_set_ne true hjk] at hun;exact hun
    refine wpOp_mono (fun a' w' h3=>?_) h2;have hS':S w':=h3.2.1.resolve_left hjz;refine ⟨.inr hS',ih (listed.setIfInBounds j true) a' w' hz' hfree' (ready_mono hr (Ne.symm hji)) h3.1 hS' ?_⟩;rw [Array.setIfInBounds_comm _ _ hji];exact h3.2.2
theorem fin {listed:Array Bool} {a:Act} {w:World} (hr:Region.ready md ops listed = []) (h:Q .normal a w) :
 ∀ fuel,wpAnyZ P md ops Q S z fuel listed a w
 | 0=>⟨hr,h⟩
 | _+1=>⟨fun _=>h,by rw [hr];simp⟩
theorem all {rs:List Nat} {fuel:Nat} {listed:Array Bool} {a:Act} {w:World} (hr:Region.ready md ops listed=rs) (hne:rs≠[])
 (h:∀ i∈rs,wpOp P ops Q i (fun a' w'=>(i=z∨S w')∧wpAnyZ P md ops Q S z fuel (listed.setIfInBounds i true) a' w') a w):wpAnyZ P md ops Q S z (fuel+1) listed a w :=
 ⟨fun h0=>absurd (hr ▸ h0) hne,hr ▸ h⟩
end
def blocksB (ops:Array Oper) (z i:Nat) (listed:Array Bool):Bool:=match ops[z]? with
 | some oz=>oz.after.any fun e=>Region.binds .any e && !listed.getD e.on true && (e.on == i || match ops[e.on]? with
   | some ok=>ok.after.any fun e'=>Region.binds .any e' && e'.on == i
   | none=>false)
 | none=>false
theorem blocks_of {ops:Array Oper} {z i:Nat} {listed:Array Bool} (h:blocksB ops z i listed=true):Blocks .any ops z i listed:=by
 unfold blocksB at h
 cases ho:ops[z]? with
 | none=>rw [ho] at h;cases h
 | some oz =>
   rw [ho] at h;obtain ⟨e,he,hb⟩:=Array.any_eq_true'.1 h;simp only [Bool.and_eq_true,Bool.not_eq_true',Bool.or_eq_true,beq_iff_eq] at hb;obtain ⟨⟨hb1,hb2⟩,hb3⟩:=hb;refine ⟨oz,e,ho,he,hb1,hb2,?_⟩
   rcases hb3 with h3 | h3
   ·exact .inl h3
   ·cases hk:ops[e.on]? with
    | none=>rw [hk] at h3;cases h3
    | some ok =>
      rw [hk] at h3;obtain ⟨e',he',hb'⟩:=Array.any_eq_true'.1 h3;simp only [Bool.and_eq_true,beq_iff_eq] at hb';exact .inr ⟨ok,rfl,e',he',hb'.1,hb'.2⟩
def good (ops:Array Oper) (z:Nat):List (Bool×Nat)→Array Bool→Nat→Bool
 | _,_,0=>false
 | [],listed,_+1=>Region.ready .any ops listed == [z] && (Region.ready .any ops (listed.setIfInBounds z true)).isEmpty
 | (h,i) :: r,listed,fuel+1 =>
   (match ops[i]? with
    | some o=>i != z && (if h then Region.ready .any ops listed == [i] else light o.op && Region.free .any ops listed i && (Region.ready .any ops listed).contains i && blocksB ops z i listed)
    | none=>false) && good ops z r (listed.setIfInBounds i true) fuel
def wpSz (P:Program) (ops:Array Oper) (C:World→Prop) (Q:Exit→Act→World→Prop) (E:Act→World→Prop):List (Bool×Oper)→Act→World→Prop
 | [],a,w=>E a w
 | (false,o) :: r,a,w=>wpQuiet P ops C (fun a'=>wpSz P ops C Q E r a' w) [o] a
 | (true,o) :: r,a,w=>if Region.wanted o (yielded ops a.tmps) then o.wp P a w (fun a' w'=>C w'∧wpSz P ops C Q E r a' w') Q else wpSz P ops C Q E r (a.put o.dst undef) w
theorem sound {P:Program} {l:List Oper} {C:World→Prop} {Q:Exit→Act→World→Prop} {z:Nat} {oz:Oper} (hs:Region.noSelect l.toArray=true) (hQ:∀ c d v a w,Q (.panic c) (Act.put a d v) w→Q (.panic c) a w)
 (hoz:l[z]? = some oz) (hgd:oz.guard=none) :
 ∀ (sc:List (Bool×Nat)) (listed:Array Bool) (fuel:Nat) (a:Act) (w:World),good l.toArray z sc listed fuel=true→C w→wpSz P l.toArray C Q (fun a w=>oz.wp P a w (fun a' w'=>Q .normal a' w') Q) (picks l sc) a w→wpAnyZ P .any l.toArray Q C z fuel listed a w
 | [],listed,0,a,w,hg,_,h=>by cases hg
 | [],listed,fuel+1,a,w,hg,_,h=>by
   unfold good at hg;simp only [Bool.and_eq_true,beq_iff_eq,List.isEmpty_iff] at hg;refine all hg.1 (by simp) fun j hj=>?_;obtain rfl:j=z:=by simpa using hj
   have hop:l.toArray[j]? = some oz:=by rw [List.getElem?_toArray];exact hoz
   unfold wpOp;simp only [hop];rw [if_pos (by simp [Region.wanted,hgd])];exact .inl (Oper.wp_mono (fun a' w' k=>⟨by simp,fin hg.2 k fuel⟩) h)
 | _ :: _,_,0,_,_,hg,_,_=>by cases hg
 | (b,i) :: r,listed,fuel+1,a,w,hg,hC,h=>by
   unfold good at hg;simp only [Bool.and_eq_true] at hg;obtain ⟨hg1,hg2⟩:=hg;have hll:l.toArray[i]? = l[i]?:=by rw [List.getElem?_toArray]
   cases ho:l[i]? with
   | none=>rw [hll,ho] at hg1;cases hg1
   | some o =>
     rw [hll,ho] at hg1;simp only [Bool.and_eq_true,bne_iff_ne,ne_eq] at hg1;obtain ⟨_,hg1⟩:=hg1;have hop:l.toArray[i]? = some o:=hll.trans ho;have hp:picks l ((b,i) :: r)=(b,o) :: picks l r:=by rw [picks,ho]
     rw [hp] at h
     cases b with
     | true =>
       simp only [if_true,beq_iff_eq] at hg1;refine all hg1 (by simp) fun j hj=>?_;obtain rfl:j=i:=by simpa using hj
       unfold wpOp;simp only [hop];unfold wpSz at h
       by_cases hw:Region.wanted o (yielded l.toArray a.tmps)=true
       ·rw [if_pos hw] at h ⊢
        exact .inl (Oper.wp_mono (fun a' w' ⟨c,k⟩=>⟨.inr c,sound hs hQ hoz hgd r _ fuel a' w' hg2 c k⟩) h)
       ·rw [if_neg hw] at h ⊢
        exact ⟨.inr hC,sound hs hQ hoz hgd r _ fuel _ w hg2 hC h⟩
     | false =>
       simp only [Bool.false_eq_true,if_false,Bool.and_eq_true] at hg1;obtain ⟨⟨⟨hk,hf⟩,hr⟩,hbl⟩:=hg1;have hr':i∈Region.ready .any l.toArray listed:=by simpa using hr
       unfold wpSz at h
       by_cases hw:Region.wanted o (yielded l.toArray a.tmps)=true
       ·unfold wpQuiet at h
        rw [if_pos hw] at h;obtain ⟨v,hv,hn⟩:=h;refine first (v:=v) hop (Region.noSelect_spec hs) (fun c a w=>hQ c _ _ a w) fuel listed a w (blocks_of hbl) (Region.free_spec hop hf) hr' (.inl ⟨hw,fun w' hw'=>?_⟩) hC (sound hs hQ hoz hgd r _ fuel _ w hg2 hC hn)
        have q:=hv w' hw';unfold Oper.quietAt at q
        cases e:(execOp a.eval o).run P w' with
        | halt x w1=>rw [e] at q;cases q
        | ok n w1 =>
          obtain ⟨u,rfl⟩:=light_value hk e;rw [e] at q;obtain ⟨e1,e2⟩:=q;rw [e1,e2]
       ·unfold wpQuiet at h
        rw [if_neg hw] at h;exact first (v:=undef) hop (Region.noSelect_spec hs) (fun c a w=>hQ c _ _ a w) fuel listed a w (blocks_of hbl) (Region.free_spec hop hf) hr' (.inr ⟨by simpa using hw,rfl⟩) hC (sound hs hQ hoz hgd r _ fuel _ w hg2 hC h)
theorem start {P:Program} {id:Nat} {l:List Oper} {Q:Exit→Act→World→Prop} {a:Act} {w:World} {oz:Oper} (C:World→Prop) (sc:List (Bool×Nat)) (z:Nat) (hm:P.follows .mixedOrders=true) (hs:Region.noSelect l.toArray=true)
 (hg:good l.toArray z sc (Array.replicate l.toArray.size false) l.toArray.size=true) (hoz:l[z]? = some oz) (hgd:oz.guard=none) (h0:C w.drew)
 (h:wpSz P l.toArray (fun w'=>∃ p:In C,w'=p.world) (NoPanic Q) (fun a w=>oz.wp P a w (fun a' w'=>NoPanic Q .normal a' w') (NoPanic Q)) (picks l sc) a w.drew):(Code.region id l.toArray true).wp P Q a w :=
 wp_region_noPanic (wp_region_any hm (any_of _ _ _ _ (sound hs (fun _ _ _ _ _ h=>h) hoz hgd sc _ _ a _ hg (Sc.Cl.of h0) h)))
section
variable {P:Program} {ops:Array Oper} {C:World→Prop} {Q:Exit→Act→World→Prop} {E:Act→World→Prop} {a:Act} {w:World} {o:Oper} {r:List (Bool×Oper)}
theorem done (h:E a w):wpSz P ops C Q E [] a w:=h
theorem lit (h:wpQuiet P ops C (fun a'=>wpSz P ops C Q E r a' w) [o] a):wpSz P ops C Q E ((false,o) :: r) a w:=h
theorem call (hw:Region.wanted o (yielded ops a.tmps)=true) (h:∀ K:Act→World→Prop,(∀ a w,C w→wpSz P ops C Q E r a w→K a w)→o.wp P a w K Q):wpSz P ops C Q E ((true,o) :: r) a w:=by
 unfold wpSz;rw [if_pos hw];exact h _ fun a w c k=>⟨c,k⟩
end
end Go.Proofs.YtelgnhmcnfibnaaDoor.Sz
