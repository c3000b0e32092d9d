import Derived.Test.YtljnkaodhfnbbaaGreatDoorPb1
import Derived.Test.YtljnkaodhfnbbaaGreatDoorPb3
import Derived.Laws.StructEq
import Derived.Shelf.SlicesE.Kit
import Derived.Test.YtljnkaodhfnbbaaGreatDoorShelf
import Derived.Shelf.SlSortCmp.WholeK
import Derived.Shelf.SlSortCmp.NoneTotal
import Derived.StillTailTactics
import Derived.Test.YtljnkaodhfnbbaaGreatDoorChecked
import Derived.LoopTactic
import Derived.Outline
import Derived.Deep.LoopGhost
import Derived.Deep.Draws
import Derived.Lib.Hide
import Derived.BigQuiet
import Derived.Deep.QuietTactic
import Derived.WalkSmall
import Derived.Deep.RegionWith
set_option maxRecDepth 100000
namespace Go.Proofs.YtljnkaodhfnbbaaGreatDoor.Fs
open Go.ChangeShapes Go.WideShapes Go.ChangeAt Go.RowKit Go.Deep
def laid2 : List (String × DataW Unit) := [("hayward/fire.codes", Rows.laid_hayward_fire_codes), ("errors.errorType", Rows.laid_errors_errorType)]
theorem both_of {W:World} (h:laidMetH Tryz.prog laid2 W):Fi.Tab W∧Glob W:=by
 have h':laidMet Tryz.prog Fi.laid W∧handlesMet Tryz.prog laid W:=h;refine ⟨Fi.of_laid ?_,glob_of ?_⟩
 ·rw [MakeChecks.laidMetH_plain _ _ _ (by kernel_rfl)]
  exact h'.1
 ·show laidMet Tryz.prog [] W∧handlesMet Tryz.prog laid W
  exact ⟨laidMet_nil _ _,h'.2⟩
noncomputable def laidWorld2 (os:Os):World :=
 let w0:=World.doorLaid Tryz.prog 400 os
 { w0 with heap:=w0.heap.modify 1 fun
  | .cells _ t frozen=>.cells #[.iface 337 (.agg #[.pointer (some ⟨2,214,none⟩)])] t frozen
  | o=>o }
theorem laidWorld2_met (os:Os) (args:Array Value):laidMetH Tryz.prog laid2 ((laidWorld2 os).forCall (fun _ _=>0) ⟨#[],args,[]⟩).memory :=
 laidMetH_of_parts3 (fuel:=8) (laidMet_of_run' 8 (by kernel_rfl) (by kernel_rfl)) (by kernel_rfl) (by kernel_rfl)
end Go.Proofs.YtljnkaodhfnbbaaGreatDoor.Fs
namespace Go.Proofs.YtljnkaodhfnbbaaGreatDoor.Wi
open Go.RowKit Go.Proofs.YtljnkaodhfnbbaaGreatDoor.Sp
theorem at_bool {P:Program} {f:Nat} {args:Array Value} {w:World} {B:Nat} {a b:Bool} (e:a=b) (c:Calls P f args w fun e w'=>e = .returned (.bool a)∧Below B w w'):Calls P f args w fun e w'=>e = .returned (.bool b)∧Below B w w':=by rw [← e];exact c
end Go.Proofs.YtljnkaodhfnbbaaGreatDoor.Wi
namespace Go.Proofs.YtljnkaodhfnbbaaGreatDoor.Wi
open Go.RowKit Go.Proofs.YtljnkaodhfnbbaaGreatDoor.Sp
def PlainOf (X l:List S2):Prop:=Plain l∧∀ t,Low l t↔Low X t
theorem PlainOf.one {x a b:List S2} (ha:PlainOf x a) (hb:PlainOf x b):a=b:=plain_one ha.1 hb.1 fun t=>(ha.2 t).trans (hb.2 t).symm
end Go.Proofs.YtljnkaodhfnbbaaGreatDoor.Wi
namespace Go.Proofs.YtljnkaodhfnbbaaGreatDoor.Se
open Sp Go.Proofs.YtljnkaodhfnbbaaGreatDoor.Wi
open Tk (GoodP Glo IsG Glo_is Glo_eq)
section
variable {n:Nat} {A R:Nat→Int}
theorem Glo_in (A R:Nat→Int) (n:Nat) (m:Int):0≤Glo A R n m∧Glo A R n m≤4294967296:=⟨(Glo_is A R n m).lo,(Glo_is A R n m).hi⟩
theorem Glo_mono {a b:Int} (h:a≤b):Glo A R n a≤Glo A R n b:=by
 have x:=Glo_is A R n a;have y:=Glo_is A R n b;have y0:=y.lo;have x1:=x.hi
 rcases Wi.ltge (Glo A R n b) (Glo A R n a) with c | c
 ·have p:=y.there (by omega)
  have q:=x.before _ y.lo c
  omega
 ·exact c
theorem Loc_step (g:GoodP n A R) (t:Int) (h0:0≤t) (h1:t < 4294967296):Tk.Loc A R n (t+1)≤Tk.Loc A R n t+2:=by
 obtain ⟨c,_,c1,e⟩:=Tk.PP_succ g t;unfold Tk.Loc;rw [Tk.clamp_id (by omega) (by omega),Tk.clamp_id (by omega) (by omega),e]
 omega
theorem Glo_there (g:GoodP n A R) {a:Int} (h1:a≤4000000000):Glo A R n a < 4294967296:=by
 have x:=Glo_is A R n a;have b:=(Tk.Loc_bd g 4294967295 (by omega) (by omega)).2;have x1:=x.hi
 rcases Wi.ltge (Glo A R n a) 4294967296 with c | c
 ·exact c
 ·have:=x.before 4294967295 (by omega) (by omega)
  omega
theorem Glo_at (g:GoodP n A R) {a:Int} (h1:a≤4000000000):a≤Tk.Loc A R n (Glo A R n a):=(Glo_is A R n a).there (Glo_there g h1)
theorem Loc_zero (g:GoodP n A R):Tk.Loc A R n 0=0:=by
 rw [Tk.Loc,Tk.clamp_id (by omega) (by omega),Tk.PP_zero g]
 rfl
theorem Glo_no (g:GoodP n A R) {a:Int} (h0:0≤a):Tk.Loc A R n (Glo A R n a)≤a+1:=by
 have x:=Glo_is A R n a;have x0:=x.lo;have x1:=x.hi
 rcases Wi.ltge 0 (Glo A R n a) with c | c
 ·have p:=x.before (Glo A R n a - 1) (by omega) (by omega)
  have s:=Loc_step g (Glo A R n a - 1) (by omega) (by omega);rw [show Glo A R n a - 1+1=Glo A R n a by omega] at s
  omega
 ·have e:Glo A R n a=0:=by omega
  rw [e,Loc_zero g]
  omega
theorem Glo_lt (g:GoodP n A R) {a b:Int} (h0:0≤a) (h:a+2≤b) (h1:b≤4000000000):Glo A R n a < Glo A R n b:=by
 have p:=Glo_no g h0;have q:=Glo_at g h1;have m:=Glo_mono (A:=A) (R:=R) (n:=n) (show a≤b by omega)
 rcases Wi.ltge (Glo A R n a) (Glo A R n b) with c | c
 ·exact c
 ·have e:Glo A R n a=Glo A R n b:=by omega
  rw [e] at p
  omega
end
def lows (g:Int→Int) (F:Nat→Bool) (m:Int):Nat→List S2
 | 0=>[]
 | k+1=>if F k then lows g F m k else lows g F m k ++ [(g (m+16 * k),g (m+16 * k+16))]
section
variable {g:Int→Int} {F:Nat→Bool} {m:Int}
theorem lows_hi {k:Nat} (h:F k=true):lows g F m (k+1)=lows g F m k:=by rw [lows,if_pos h]
theorem lows_lo {k:Nat} (h:F k=false):lows g F m (k+1)=lows g F m k ++ [(g (m+16 * k),g (m+16 * k+16))]:=by rw [lows,if_neg (by simp [h])]
theorem lows_len:∀ k,(lows g F m k).length≤k
 | 0=>Nat.le_refl _
 | k+1=>by
   have:=lows_len k;rw [lows]
   split
   ·omega
   ·simp;omega
theorem lows_mem {s:S2} : ∀ {k},s∈lows g F m k↔∃ i:Nat,i < k∧F i=false∧s=(g (m+16 * i),g (m+16 * i+16))
 | 0=>by simp [lows]
 | k+1=>by
   cases h:F k with
   | true =>
     rw [lows_hi h,lows_mem]
     constructor
     ·rintro ⟨i,a,b⟩
      exact ⟨i,by omega,b⟩
     ·rintro ⟨i,a,b,c⟩
      by_cases e:i=k
      ·subst e;rw [h] at b;cases b
      ·exact ⟨i,by omega,b,c⟩
   | false =>
     rw [lows_lo h,List.mem_append,lows_mem]
     constructor
     ·rintro (⟨i,a,b⟩ | c)
      ·exact ⟨i,by omega,b⟩
      ·exact ⟨k,by omega,h,by simpa using c⟩
     ·rintro ⟨i,a,b,c⟩
      by_cases e:i=k
      ·subst e;exact .inr (by simpa using c)
      ·exact .inl ⟨i,by omega,b,c⟩
end
theorem lows_in {n:Nat} {A R:Nat→Int} {F:Nat→Bool} {m f t:Int} {l:List S2} (h:PlainOf (lows (Glo A R n) F m 11) l) (hf:f≤m) (ht:m+176≤t) (i:Nat) (hi:i < l.length):Glo A R n f≤fr l i∧tp l i≤Glo A R n t:=by
 have hs:=h.1.1 _ (mem_fr hi);simp only at hs;have lo:Low l (fr l i):=low_iff.2 ⟨i,hi,by omega,hs⟩;have hi':Low l (tp l i - 1):=low_iff.2 ⟨i,hi,by omega,by omega⟩;obtain ⟨s,ms,a1,a2⟩:=(h.2 _).1 lo;obtain ⟨s',ms',b1,b2⟩:=(h.2 _).1 hi';obtain ⟨j,hj,_,rfl⟩:=lows_mem.1 ms;obtain ⟨j',hj',_,rfl⟩:=lows_mem.1 ms';have p:=Glo_mono (A:=A) (R:=R) (n:=n) (show f≤m+16 * j by omega);have q:=Glo_mono (A:=A) (R:=R) (n:=n) (show m+16 * (j':Int)+16≤t by omega);simp only at a1 b2
 omega
end Go.Proofs.YtljnkaodhfnbbaaGreatDoor.Se
namespace Go.Proofs.YtljnkaodhfnbbaaGreatDoor.Wi
open Go.Shelf Go.RowKit Go.Lib Go.Sort Go.Proofs.YtljnkaodhfnbbaaGreatDoor.Sp
def enc (x:S2):List Value:=[.int .i64 x.1,.int .i64 x.2]
def cf (x y:S2):Int:=cmpI x.1 y.1
theorem lt_cf (x y:S2):ltOf cf x y=decide (x.1 < y.1):=by
 unfold ltOf cf cmpI
 by_cases h1:x.1 < y.1
 ·simp [h1]
 ·by_cases h2:y.1 < x.1 <;> simp [h1,h2]
theorem swo:SWO (ltOf cf) where
 irrefl x:=by rw [lt_cf];simp
 trans x y z h1 h2:=by rw [lt_cf] at *;simp at *;omega
 ntrans x y z h1 h2:=by rw [lt_cf] at *;simp at *;omega
set_option maxHeartbeats 400000 in
theorem clos_any (x y:S2) (W:World):Calls Tryz.prog 191 #[.agg #[.int .i64 x.1,.int .i64 x.2],.agg #[.int .i64 y.1,.int .i64 y.2]] W fun e w'=>e = .returned (.int .i64 (cf x y))∧∃ q os',w'=grow (W.drewN q) os':=by
 have hcon:=fun W'=>compare_any W' x.1 y.1;have HC:=Lib.hid hcon;clear hcon;unfold cf;generalize cmpI x.1 y.1=r at HC ⊢
 go_enter Tryz.func191,Tryz.ntmps191
 go_wp2_with (go_at_call 192;refine (HC.out _).mono ?_;rintro e w' ⟨rfl,rfl⟩)
 go_ret
 exact ⟨rfl,0,_,by rw [alloc_eq_grow,alloc_eq_grow,grow_grow];rfl⟩
theorem lays (blk off size:Nat) (w:World):CmpLays Tryz.prog 191 #[] enc 2 cf blk off size w:=fun _ _ _ _ x y=>clos_any x y _
theorem get_fr (l:List S2) (i:Nat):l.toArray[i]! = (fr l i,tp l i):=by
 by_cases h:i < l.length
 ·rw [getElem!_pos l.toArray i (by simpa using h)]
  simp [fr,tp,h]
 ·rw [getElem!_neg l.toArray i (by simpa using h)]
  simp [fr,tp,h]
  rfl
theorem holds_of {w:World} {g:Nat} {l:List S2} (h:∀ i,i < l.length→w.cell? ⟨g,i * 2,none⟩=some (.int .i64 (fr l i))∧w.cell? ⟨g,i * 2+1,none⟩=some (.int .i64 (tp l i))∧w.frozen? ⟨g,i * 2,none⟩=false∧w.frozen? ⟨g,i * 2+1,none⟩=false) :
 HoldsK enc 2 w g 0 l.toArray:=by
 intro j hj
 have hj':j < l.length * 2:=by simpa using hj
 obtain ⟨c0,c1,f0,f1⟩:=h (j / 2) (by omega);rw [get_flatK enc 2 l.toArray j (by simpa using hj'),get_fr]
 rcases (by omega:j % 2=0∨j % 2=1) with e | e
 ·have ej:0+j=j / 2 * 2:=by omega
  rw [ej,e];exact ⟨c0,f0⟩
 ·have ej:0+j=j / 2 * 2+1:=by omega
  rw [ej,e];exact ⟨c1,f1⟩
def SortedTo (W:World) (B:Nat) (v:Value) (x:List S2) (w':World):Prop :=
 ∃ x',Sp w' v x'∧x'.length=x.length∧(∀ s,s∈x'↔s∈x)∧(∀ i j,i≤j→j < x'.length→fr x' i≤fr x' j)∧Below B W w'
theorem below_world {W:World} {B g m:Nat} (hB:B≤g) (hg:g < W.heap.size) (d:Array S2) (os:Array Obj):Below B W (sortWorldK enc 2 W g 0 m d os):=by
 refine ⟨rfl,rfl,rfl,?_,fun k hk=>?_⟩
 ·show W.heap.size≤((W.heap.modify g _) ++ os).size
  simp
 ·show ((W.heap.modify g _) ++ os)[k]? = _
  rw [Array.getElem?_append_left (by simp;omega),Array.getElem?_modify,if_neg (by omega)]
theorem sorted_to {W:World} {B g cap m:Nat} {x:List S2} {d':Array S2} {os:Array Obj} (hB:B≤g) (hg:g < W.heap.size) (h1:x.length≤cap) (h2:cap≤maxLen) (hH:HoldsK enc 2 W g 0 x.toArray)
 (hp:PermIn 0 x.toArray.size x.toArray d') (hs:SortedIn (ltOf cf) 0 x.toArray.size d'):SortedTo W B (.slice (some ⟨g,0,none⟩) x.length cap) x (sortWorldK enc 2 W g 0 m d' os):=by
 obtain ⟨hsz,_,hperm⟩:=hp;have hlen:d'.toList.length=x.length:=by simpa using hsz
 have hperm':d'.toList.Perm x:=by
  have e1:d'.extract 0 x.toArray.size=d':=by rw [← hsz];simp
  have e2:x.toArray.extract 0 x.toArray.size=x.toArray:=by simp
  rw [e1,e2] at hperm
  simpa using hperm
 have hH':HoldsK enc 2 (sortWorldK enc 2 W g 0 m d' os) g 0 d':=by
  unfold sortWorldK;refine holdsK_grow _ _ _ _ _ _ _ (by show g < (putRowK enc 2 (Sort.ahead W m) g 0 d').heap.size;rw [size_putRowK];exact hg) ?_;exact holdsK_putRowK enc 2 (Sort.ahead W m) g 0 x.toArray d' hH hsz
 have hsz':d'.size=x.length:=by simpa using hsz
 have hget:∀ i,i < x.length→d'[i]! = (fr d'.toList i,tp d'.toList i):=fun i hi=>by
  have:=get_fr d'.toList i
  simpa using this
 refine ⟨d'.toList,⟨some ⟨g,0,none⟩,cap,by rw [hlen],by rw [hlen];exact h1,h2,fun _=>⟨g,0,rfl,fun i hi=>?_⟩⟩,hlen,fun s=>hperm'.mem_iff,fun i j hij hj=>?_,below_world hB hg _ _⟩
 ·rw [hlen] at hi
  have c0:=(hH'.cell (i:=i) (c:=0) (by omega) (by omega)).1;have c1:=(hH'.cell (i:=i) (c:=1) (by omega) (by omega)).1;rw [hget i hi] at c0 c1;exact ⟨c0,c1⟩
 ·rw [hlen] at hj
  rcases Nat.lt_or_ge i j with c | c
  ·have:=hs i j (by omega) c (by simpa using hj)
   rw [lt_cf,hget i (by omega),hget j hj] at this
   simp at this
   exact this
  ·rw [show i=j by omega]
   exact Int.le_refl _
theorem sort_some (W:World) (B:Nat) (v:Value) (x:List S2) (hown:Sp.Own W B 186 v x) (h0:0 < x.length) (hlen:x.length < 1099511627776) :
 Calls Tryz.prog 190 #[v,.func (.func 191) #[] #[]] W fun e w'=>e = .returned (.tuple #[])∧SortedTo W B v x w':=by
 obtain ⟨g,cap,rfl,hB,hg,h1,h2,_,hc⟩:=hown.form h0;have eg:∀ args w,(callFunc 191 args).run Tryz.prog w = .ok (.enter 191 args) w:=enters_of Tryz.func191 (by kernel_rfl) rfl;have hH:=holds_of hc;have hcon:=AnyQ.slices_SortFunc Wi.sortFunc 2 Tryz.isAgg186 Tryz.sizeOf186 enc (fun _=>rfl) (fun x v hv=>by simp [enc] at hv;rcases hv with rfl | rfl <;> rfl) cf swo 191 #[] g 0 cap x.toArray W eg (lays g 0 x.toArray.size W) hH hg (by simp;omega)
 change Calls Tryz.prog 190 _ _ _ at hcon
 refine hcon.mono ?_;rintro e w' ⟨rfl,d',n,os,hp,hs,rfl⟩;exact ⟨rfl,sorted_to hB hg h1 h2 hH hp hs⟩
theorem sort_any (W:World) (B:Nat) (v:Value) (x:List S2) (hown:Sp.Own W B 186 v x) (hlen:x.length < 1099511627776) :
 Calls Tryz.prog 190 #[v,.func (.func 191) #[] #[]] W fun e w'=>e = .returned (.tuple #[])∧SortedTo W B v x w':=by
 rcases Nat.eq_zero_or_pos x.length with z | z
 ·have hsp:=hown.sp
  obtain ⟨a,cap,rfl,_⟩:=hown.slice;have hcon:=AnyF.slices_SortFunc_none (ρ:=Wi.sortFunc_ren) Wi.sortFunc a cap (.func (.func 191) #[] #[]) W
  change Calls Tryz.prog 190 _ _ _ at hcon
  rw [z];refine hcon.mono ?_;rintro e w' ⟨rfl,rfl⟩;have e:x = []:=List.length_eq_zero_iff.1 z;subst e;exact ⟨rfl,[],hsp,rfl,fun s=>Iff.rfl,fun i j _ h=>by simp at h,Below.refl _ _⟩
 ·exact sort_some W B v x hown z hlen
end Go.Proofs.YtljnkaodhfnbbaaGreatDoor.Wi
namespace Go.Proofs.YtljnkaodhfnbbaaGreatDoor.Wi
open Go.RowKit Go.Proofs.YtljnkaodhfnbbaaGreatDoor.Sp
def Rows (w:World) (v:Value) (ls:List (List S2)):Prop:=∃ a cap,v = .slice a ls.length cap∧ls.length≤cap∧cap≤maxLen∧(0 < ls.length→∃ b off,a=some ⟨b,off,none⟩∧∀ i,i < ls.length→∃ u,w.cell? ⟨b,off+i,none⟩=some u∧Sp w u (ls.getD i []))
def tot (ls:List (List S2)):Nat→Nat
 | 0=>0
 | k+1=>tot ls k+(ls.getD k []).length
theorem tot_mono (ls:List (List S2)) {i j:Nat} (h:i≤j):tot ls i≤tot ls j:=by
 induction j with
 | zero=>rw [show i=0 by omega];exact Nat.le_refl _
 | succ j ih =>
   by_cases e:i=j+1
   ·rw [e];exact Nat.le_refl _
   ·have:=ih (by omega)
    show tot ls i≤tot ls j+_
    omega
structure Acc (ls:List (List S2)) (k j:Nat) (x:List S2):Prop where
 ticks:∀ s∈x,s.1 < s.2
 low:∀ t,Low x t↔(∃ i,i < k∧Low (ls.getD i []) t)∨Low ((ls.getD k []).take j) t
 len:x.length≤tot ls k+j
theorem Acc.zero (ls:List (List S2)):Acc ls 0 0 []:=⟨fun s h=>by simp at h,fun t=>by
 constructor
 ·exact fun h=>absurd h low_nil
 ·rintro (⟨i,h,_⟩ | h)
  ·omega
  ·simp at h;exact h,by simp⟩
theorem Acc.push {ls:List (List S2)} {k j:Nat} {x:List S2} (h:Acc ls k j x) (hj:j < (ls.getD k []).length) (ht:fr (ls.getD k []) j < tp (ls.getD k []) j):Acc ls k (j+1) (x ++ [(fr (ls.getD k []) j,tp (ls.getD k []) j)]):=by
 refine ⟨fun s hs=>?_,fun t=>?_,by have:=h.len;simp;omega⟩
 ·rcases List.mem_append.1 hs with c | c
  ·exact h.ticks s c
  ·simp at c;subst c;exact ht
 ·rw [low_append,h.low,take_snoc hj,low_append,or_assoc]
theorem Acc.skip {ls:List (List S2)} {k j:Nat} {x:List S2} (h:Acc ls k j x) (hj:j < (ls.getD k []).length) (ht:¬ fr (ls.getD k []) j < tp (ls.getD k []) j):Acc ls k (j+1) x:=by
 refine ⟨h.ticks,fun t=>?_,by have:=h.len;omega⟩;rw [h.low,take_snoc hj,low_append,low_one]
 constructor
 ·rintro (c | c)
  ·exact .inl c
  ·exact .inr (.inl c)
 ·rintro (c | c | c)
  ·exact .inl c
  ·exact .inr c
  ·have c1:=c.1;have c2:=c.2;simp at c1 c2;omega
theorem Acc.next {ls:List (List S2)} {k:Nat} {x:List S2} (h:Acc ls k (ls.getD k []).length x):Acc ls (k+1) 0 x:=by
 refine ⟨h.ticks,fun t=>?_,by have:=h.len;show x.length≤tot ls k+_+0;omega⟩;rw [h.low,List.take_length]
 constructor
 ·rintro (⟨i,hi,c⟩ | c)
  ·exact .inl ⟨i,by omega,c⟩
  ·exact .inl ⟨k,by omega,c⟩
 ·rintro (⟨i,hi,c⟩ | c)
  ·by_cases e:i=k
   ·subst e;exact .inr c
   ·exact .inl ⟨i,by omega,c⟩
  ·simp at c;exact absurd c low_nil
structure SortOf (ls:List (List S2)) (x:List S2):Prop where
 srt:Srt x
 low:∀ t,Low x t↔∃ i,i < ls.length∧Low (ls.getD i []) t
 len:x.length≤tot ls ls.length
theorem low_mem {x y:List S2} (h:∀ s,s∈x↔s∈y) (t:Int):Low x t↔Low y t:=⟨fun ⟨s,a,b⟩=>⟨s,(h s).1 a,b⟩,fun ⟨s,a,b⟩=>⟨s,(h s).2 a,b⟩⟩
theorem SortOf.of {ls:List (List S2)} {x x':List S2} (h:Acc ls ls.length 0 x) (hl:x'.length=x.length) (hm:∀ s,s∈x'↔s∈x) (hu:∀ i j,i≤j→j < x'.length→fr x' i≤fr x' j):SortOf ls x':=by
 refine ⟨⟨fun i hi=>h.ticks _ ((hm _).1 (mem_fr hi)),hu⟩,fun t=>?_,by have:=h.len;omega⟩;rw [low_mem hm,h.low]
 constructor
 ·rintro (c | c)
  ·exact c
  ·simp at c;exact absurd c low_nil
 ·exact .inl
def Gives (w:World) (P:List S2→Prop) (e:Ending) (w':World):Prop:=∃ v x,e = .returned v∧Sp w' v x∧P x∧Below w.heap.size w w'
def SRel (w:World) (ls:List (List S2)) (v:Value) (k j:Nat) (wr:World):Prop:=∃ x,Sp.Own wr w.heap.size 186 v x∧Acc ls k j x∧Below w.heap.size w wr
set_option maxHeartbeats 1000000 in
theorem sorted_any (w:World) (v:Value) (ls:List (List S2)) (h:Rows w v ls) (hlen:tot ls ls.length < 1099511627776):Calls Tryz.prog 148 #[v] w (Gives w (SortOf ls)):=by
 obtain ⟨a,cap,rfl,h1,h2,h3⟩:=h;have H3:=Lib.hid h3;have HT:=Lib.hid hlen;clear h3 hlen;generalize hn:ls.length=n at *;have HN:=Lib.hid hn;clear hn;unfold maxLen at h2
 go_enter Tryz.func148,Tryz.ntmps148
 go_wp2
 go_loopw [3,10] (fun v i wr=>∃ k:Nat,k≤n∧i = .int .i64 k∧SRel w ls v k 0 wr) (fun _ i _=>n - (intOf i).toNat)
 case atStart=>exact ⟨0,Nat.zero_le _,rfl,[],Sp.Own.nil _ _ _,Acc.zero ls,Below.refl _ _⟩
 case round =>
  obtain ⟨k,hk,rfl,x,hown,hacc,hb⟩:=hrel;have HA:=Lib.hid hacc;clear hacc
  by_cases hlt:k < n
  ·obtain ⟨b,off,rfl,hrows⟩:=H3.out (by omega)
   obtain ⟨u,c1,hu⟩:=hrows k (by have:=HN.out;omega);have HR:=Lib.hid hrows;clear hrows;have d1:=(hb.cell (World.block_lt_of_cell? _ _ c1)).trans c1;clear c1;obtain ⟨ra,rcap,rfl,r1,r2,r3⟩:=hu;have R3:=Lib.hid r3;clear r3;generalize hm:(ls.getD k []).length=m at *;have HM:=Lib.hid hm;clear hm;unfold maxLen at r2;obtain ⟨wo,rfl⟩:∃ wo:World,wo=wr:=⟨_,rfl⟩;have hw:SRel w ls _ k 0 wo:=⟨x,hown,HA.out,hb⟩;have HW:=Lib.hid hw;clear hw hown hb;have TB:Hid (tot ls k+m≤1099511627775):=by
    have e:=tot_mono ls (show k+1≤ls.length by have:=HN.out;omega);have e2:tot ls (k+1)=tot ls k+(ls.getD k []).length:=rfl;have:=HT.out;have:=HM.out;have:=HN.out
    show tot ls k+m≤1099511627775
    subst n
    omega
   go_wp2
   go_loopw [3,16] (fun v i wr=>∃ j:Nat,j≤m∧i = .int .i64 j∧SRel w ls v k j wr) (fun _ i _=>m - (intOf i).toNat)
   case atStart=>exact ⟨0,Nat.zero_le _,rfl,HW.out⟩
   case round =>
    obtain ⟨j,hj,rfl,y,hown,hacc,hb⟩:=hrel;have hB:=hb.size;have hyl:=hacc.len;have HAY:=Lib.hid hacc;clear hacc
    by_cases hltj:j < m
    ·obtain ⟨b',off',rfl,hA⟩:=R3.out (by omega)
     obtain ⟨c1,c2⟩:=hA j (by have:=HM.out;omega);have HAt:=Lib.hid hA;clear hA;have e1:=(hb.cell (World.block_lt_of_cell? _ _ c1)).trans c1;have e2:=(hb.cell (World.block_lt_of_cell? _ _ c2)).trans c2;clear c1 c2
     by_cases ht:fr (ls.getD k []) j < tp (ls.getD k []) j
     ·have PU:=Lib.hid (HAY.out.push (by have:=HM.out;omega) ht)
      generalize fr (ls.getD k []) j=p at *;generalize tp (ls.getD k []) j=q at *;have HT:=Lib.hid ht;clear ht;go_wp2_with fail;refine (at_bool (decide_eq_true HT.out) (ticks_any _ _ _)).mono ?_;rintro e w1 ⟨rfl,b1⟩;have f1:w1.cell? ⟨wr.heap.size,0,none⟩=some (.int .i64 p):=(b1.cell (by simp)).trans (by go_simp);have f2:w1.cell? ⟨wr.heap.size,1,none⟩=some (.int .i64 q):=(b1.cell (by simp)).trans (by go_simp);have z1:=b1.size
      simp at z1
      have hown1:=(hown.alloc (.cells #[.int .i64 p,.int .i64 q] 186)).keep b1;have hb1:=(hb.alloc hB (.cells #[.int .i64 p,.int .i64 q] 186)).trans (b1.mono (B':=w.heap.size) (by simp;omega));clear hown hb b1
      go_wp2_with (at_builtin;refine push_step rfl _ _ rfl w.heap.size _ _ rfl (hown1.alloc _) _ p q rfl ?c1 ?c2 ?c3 ?c4 ?_)
      case c1=>go_simp
      case c2=>go_simp
      case c3=>have:=TB.out;omega
      case c4=>simp;omega
      intro v' w2 hown2 hb2
      have R:SRel w ls v' k (j+1) w2:=⟨_,hown2,PU.out,(hb1.alloc (by omega) _).trans hb2⟩;clear hown2 hb2 hown1 hb1 f1 f2;go_wp2
      go_roundw
      case rel=>exact ⟨j+1,by omega,by go_num,R⟩
      case measure=>simp [intOf];omega
     ·have PU:=Lib.hid (HAY.out.skip (by have:=HM.out;omega) ht)
      generalize fr (ls.getD k []) j=p at *;generalize tp (ls.getD k []) j=q at *;have HT:=Lib.hid ht;clear ht;go_wp2_with fail;refine (at_bool (decide_eq_false (show ¬ p < q by have:=HT.out;omega)) (ticks_any _ _ _)).mono ?_;rintro e w1 ⟨rfl,b1⟩;have R:SRel w ls _ k (j+1) w1:=⟨_,(hown.alloc (.cells #[.int .i64 p,.int .i64 q] 186)).keep b1,PU.out,(hb.alloc hB (.cells #[.int .i64 p,.int .i64 q] 186)).trans (b1.mono (B':=w.heap.size) (by simp;omega))⟩;clear hown hb b1;go_wp2
      go_roundw
      case rel=>exact ⟨j+1,by omega,by go_num,R⟩
      case measure=>simp [intOf];omega
    ·obtain rfl:j=m:=by omega
     have R:SRel w ls _ (k+1) 0 wr:=⟨_,hown,(by have:=HAY.out;rw [← HM.out] at this;exact this.next),hb⟩;clear hown hb;go_wp2
     go_roundw
     case rel=>exact ⟨k+1,by omega,by go_num,R⟩
     case measure=>simp [intOf];omega
  ·obtain rfl:k=n:=by omega
   have hxl:x.length < 1099511627776:=by have:=HA.out.len;have:=HT.out;omega
   have hs:=sort_any wr w.heap.size _ x hown hxl;have HS:=Lib.hid hs;clear hs;go_wp2_with fail;refine HS.out.mono ?_;rintro e w1 ⟨rfl,hst⟩;have ST:=Lib.hid hst;clear hst;go_wp2
   go_ret
   obtain ⟨x',s1,s2,s3,s4,s5⟩:=ST.out;exact ⟨_,x',rfl,s1,SortOf.of (by rw [HN.out];exact HA.out) s2 s3 s4,hb.trans s5⟩
structure JoinOf (ls:List (List S2)) (l:List S2):Prop where
 plain:Plain l
 low:∀ t,Low l t↔∃ i,i < ls.length∧Low (ls.getD i []) t
 len:l.length≤tot ls ls.length
structure JRel (w w1:World) (S:List S2) (v:Value) (k:Nat) (l:List S2) (wr:World):Prop where
 own:Sp.Own wr w1.heap.size 186 v l
 inv:JoinInv S k l
 len:l.length≤k
 bel1:Below w1.heap.size w1 wr
 bel:Below w.heap.size w w1
theorem own_low {w:World} {B B' E:Nat} {v:Value} {l:List S2} (h:Sp.Own w B E v l) (hB:B'≤B):Sp.Own w B' E v l:=by
 obtain ⟨h1,h2⟩:=h;refine ⟨h1,?_⟩
 rcases h2 with h2 | ⟨g,cap,cur,e,hg,r⟩
 ·exact .inl h2
 ·exact .inr ⟨g,cap,cur,e,by omega,r⟩
theorem snoc_of {l:List S2} {m:Nat} (h:l.length=m+1):l=l.take m ++ [(fr l m,tp l m)]:=by
 have e:=take_snoc (S:=l) (k:=m) (by omega);rw [← e,← h,List.take_length]
theorem set_last {l:List S2} {m:Nat} (h:l.length=m+1) (x:Int):l.set m (fr l m,x)=l.take m ++ [(fr l m,x)]:=by
 have e:=snoc_of h;have hm:(l.take m).length=m:=by simp;omega
 generalize fr l m=p at *;generalize tp l m=q at *;generalize l.take m=t at *;subst e;rw [List.set_append_right _ _ (by omega),hm]
 simp
theorem JRel.push {w w1 wr w2:World} {S l:List S2} {v v':Value} {k:Nat} (h:JRel w w1 S v k l wr) (hS:Srt S) (hk:k < S.length) (hl:l = []∨lastc l < fr S k) (hown:Sp.Own w2 w1.heap.size 186 v' (l ++ [(fr S k,tp S k)])) (hb:Below w1.heap.size w1 w2):JRel w w1 S v' (k+1) (l ++ [(fr S k,tp S k)]) w2:=by
 refine ⟨hown,h.inv.push hS hk fun x hx=>?_,by have:=h.len;simp;omega,hb,h.bel⟩
 rcases hl with e | e
 ·rw [e] at hx;simp at hx
 ·have:=lastc_le h.inv.plain x hx;omega
theorem JRel.grow {w w1 wr w2:World} {S l:List S2} {v:Value} {k m:Nat} (h:JRel w w1 S v k l wr) (hk:k < S.length) (hm:l.length=m+1) (hl:fr S k≤tp l m) (hown:Sp.Own w2 w1.heap.size 186 v (l.set m (fr l m,max (tp l m) (tp S k)))) (hb:Below w1.heap.size w1 w2):JRel w w1 S v (k+1) (l.set m (fr l m,max (tp l m) (tp S k))) w2:=by
 refine ⟨hown,?_,by have:=h.len;simp;omega,hb,h.bel⟩;have e:=snoc_of hm;have inv:=h.inv;rw [e] at inv;have g:=inv.grow hk hl (max (tp l m) (tp S k)) (by omega);rw [set_last hm];exact g
set_option maxHeartbeats 1000000 in
theorem join_any (w:World) (v:Value) (ls:List (List S2)) (h:Rows w v ls) (hlen:tot ls ls.length < 1099511627776):Calls Tryz.prog 88 #[v] w (Made w (JoinOf ls)):=by
 have hs:=sorted_any w v ls h hlen;have HS:=Lib.hid hs;obtain ⟨a,cap,rfl,_,_,_⟩:=h;have HT:=Lib.hid hlen;clear hs hlen;generalize hn:ls.length=n at *;have HN:=Lib.hid hn;clear hn
 go_enter Tryz.func88,Tryz.ntmps88
 go_wp2_with fail;refine HS.out.mono ?_;rintro e w1 ⟨v1,S,rfl,hSp,hSo,hb0⟩;obtain ⟨a1,cap1,rfl,r1,r2,r3⟩:=hSp;have R3:=Lib.hid r3;have SO:=Lib.hid hSo;clear r3 hSo;generalize hm:S.length=n1 at *;have HM:=Lib.hid hm;clear hm;unfold maxLen at r2;have hz0:=hb0.size;go_wp2
 go_loopw [3,10] (fun v i wr=>∃ (k:Nat) (l:List S2),k≤n1∧i = .int .i64 k∧JRel w w1 S v k l wr) (fun _ i _=>n1 - (intOf i).toNat)
 case atStart=>exact ⟨0,[],Nat.zero_le _,rfl,Sp.Own.nil _ _ _,JoinInv.zero S,by simp,Below.refl _ _,hb0⟩
 case round =>
  obtain ⟨k,l,hk,rfl,hR⟩:=hrel;have HR:=Lib.hid hR;have hb:=hR.bel1;have hB:=hb.size;have hlk:=hR.len;clear hR
  by_cases hlt:k < n1
  ·obtain ⟨b,off,rfl,hA⟩:=R3.out (by omega)
   obtain ⟨c1,c2⟩:=hA k (by have:=HM.out;omega);have HA:=Lib.hid hA;clear hA;have d1:=(hb.cell (World.block_lt_of_cell? _ _ c1)).trans c1;have d2:=(hb.cell (World.block_lt_of_cell? _ _ c2)).trans c2;clear c1 c2;have TB:Hid (l.length < 1099511627776):=by
    have:=SO.out.len;have:=HT.out;have:=HM.out;have:=HN.out
    show l.length < 1099511627776
    subst n
    omega
   rcases Nat.eq_zero_or_pos l.length with z | z
   ·have NX:=fun v' w2 (h1:Sp.Own w2 w1.heap.size 186 v' (l ++ [(fr S k,tp S k)])) (h2:Below w1.heap.size w1 w2)=>HR.out.push SO.out.srt (by have:=HM.out;omega) (.inl (List.length_eq_zero_iff.1 z)) h1 h2
    have NX:=Lib.hid NX;obtain ⟨a3,cap3,rfl,_,_⟩:=HR.out.own.slice;generalize hl:l.length=len at *;have HL:=Lib.hid hl;clear hl;subst z;generalize hp:fr S k=p at *;generalize hq:tp S k=q at *;go_wp2
    go_quiet (fail)
    have hown:=((HR.out.own.alloc (.cells #[.int .i64 p,.int .i64 q] 186)).draw nq)
    go_wp2_with (at_builtin;refine push_step rfl _ _ rfl w1.heap.size _ _ rfl (hown.alloc _) _ p q rfl ?c1 ?c2 ?c3 ?c4 ?_)
    case c1=>go_simp
    case c2=>go_simp
    case c3=>have:=HL.out;omega
    case c4=>simp;omega
    intro v' w2 hown2 hb2
    have R:=NX.out v' w2 hown2 ((below_drewN (hb.alloc hB _) nq).alloc (by simp;omega) _ |>.trans hb2);clear hown2 hb2 hown;go_wp2
    go_roundw
    case rel=>exact ⟨k+1,_,by omega,by go_num,R⟩
    case measure=>simp [intOf];omega
   ·obtain ⟨m,hm1⟩:∃ m,l.length=m+1:=⟨l.length - 1,by omega⟩
    obtain ⟨g,cap3,rfl,g1,g2,_,_,_,hcells⟩:=HR.out.own.form z;obtain ⟨e0,e1,_,f1⟩:=hcells m (by omega);clear hcells z;have hlc:lastc l=tp l m:=by rw [lastc_tp l (by omega),hm1];rfl
    by_cases hle:fr S k≤tp l m
    ·have NX:=fun w2 h1 h2=>HR.out.grow (w2:=w2) (by have:=HM.out;omega) hm1 hle h1 h2
     have NX:=Lib.hid NX;have OW:=Lib.hid HR.out.own;have ST:=Lib.hid (fun (W:World) (h:Sp.Own W w1.heap.size 186 (.slice (some ⟨g,0,none⟩) l.length cap3) l)=>h.set m (by omega) (max (tp l m) (tp S k)));generalize hl:l.length=len at *;have HL:=Lib.hid hl;clear hl;subst hm1;clear hlc;generalize hp:fr S k=p at *;generalize hq:tp S k=q at *;generalize hp':fr l m=p' at *;generalize hq':tp l m=q' at *;go_wp2
     go_quiet (fail)
     go_wp2;have x0:((wr.alloc (.cells #[.int .i64 p,.int .i64 q] 186)).drewN nq).cell? ⟨wr.heap.size,1,none⟩=some (.int .i64 q):=by go_simp
     have x1:((wr.alloc (.cells #[.int .i64 p,.int .i64 q] 186)).drewN nq).cell? ⟨g,m * 2+1,none⟩=some (.int .i64 q'):=by go_simp
     have x2:((wr.alloc (.cells #[.int .i64 p,.int .i64 q] 186)).drewN nq).frozen? ⟨g,m * 2+1,none⟩=false:=by go_simp
     generalize hwq:(wr.alloc (.cells #[.int .i64 p,.int .i64 q] 186)).drewN nq=wq at x0 x1 x2 ⊢;have HWQ:=Lib.hid hwq;clear hwq
     go_region
     have OQ:Hid (Sp.Own wq w1.heap.size 186 (.slice (some ⟨g,0,none⟩) (m+1) cap3) l):=by
      rw [← HWQ.out];exact (OW.out.alloc _).draw nq
     have BQ:Hid (Below w1.heap.size w1 wq):=by
      rw [← HWQ.out];exact below_drewN (hb.alloc hB _) nq
     have R:=NX.out _ (show Sp.Own ((wq.setCell ⟨g,m * 2+1,none⟩ (.int .i64 (max q' q))).drew) _ _ _ _ from ST.out wq OQ.out) ((BQ.out.setCell (p:=⟨g,m * 2+1,none⟩) g1 _).drew);have R':=Lib.hid R;clear R x0 x1 x2;go_wp2
     go_roundw
     case rel=>exact ⟨k+1,_,by omega,by go_num,R'.out⟩
     case measure=>simp [intOf];omega
    ·have NX:=fun v' w2 (h1:Sp.Own w2 w1.heap.size 186 v' (l ++ [(fr S k,tp S k)])) (h2:Below w1.heap.size w1 w2)=>HR.out.push SO.out.srt (by have:=HM.out;omega) (.inr (by omega)) h1 h2
     have NX:=Lib.hid NX;have OW:=Lib.hid HR.out.own;generalize hl:l.length=len at *;have HL:=Lib.hid hl;clear hl;subst hm1;clear hlc;generalize hp:fr S k=p at *;generalize hq:tp S k=q at *;generalize hq':tp l m=q' at *;go_wp2
     go_quiet (fail)
     have hown:=((OW.out.alloc (.cells #[.int .i64 p,.int .i64 q] 186)).draw nq)
     go_wp2_with (at_builtin;refine push_step rfl _ _ rfl w1.heap.size _ _ rfl (hown.alloc _) _ p q rfl ?c1 ?c2 ?c3 ?c4 ?_)
     case c1=>go_simp
     case c2=>go_simp
     case c3=>have:=HL.out;have:=TB.out;omega
     case c4=>simp;omega
     intro v' w2 hown2 hb2
     have R:=NX.out v' w2 hown2 ((below_drewN (hb.alloc hB _) nq).alloc (by simp;omega) _ |>.trans hb2);clear hown2 hb2 hown;go_wp2
     go_roundw
     case rel=>exact ⟨k+1,_,by omega,by go_num,R⟩
     case measure=>simp [intOf];omega
  ·obtain rfl:k=n1:=by omega
   have inv:=HR.out.inv;rw [← HM.out] at inv;have al:=inv.all;have J:JoinOf ls l:=⟨al.1,fun t=>(al.2 t).trans (SO.out.low t),by have:=SO.out.len;have:=HM.out;omega⟩;have JJ:=Lib.hid J;have OW:=Lib.hid (own_low HR.out.own hz0);have BB:=Lib.hid (HR.out.bel.trans (hb.mono hz0));clear inv al J;go_wp2
   go_ret
   exact ⟨_,l,rfl,OW.out,JJ.out,BB.out⟩
end Go.Proofs.YtljnkaodhfnbbaaGreatDoor.Wi
namespace Go.Proofs.YtljnkaodhfnbbaaGreatDoor.Wi
open Sp
def idx (p:S2→Bool) (l:List S2):Int:=match (List.range l.length).find? (fun i=>p (fr l i,tp l i)) with
 | some i=>i
 | none=>-1
theorem idx_hit {p:S2→Bool} {l:List S2} {i:Nat} (hi:i < l.length) (hp:p (fr l i,tp l i)=true) (hn:∀ j,j < i→p (fr l j,tp l j)=false):idx p l=i:=by
 have e:(List.range l.length).find? (fun i=>p (fr l i,tp l i))=some i:=by
  rw [List.find?_range_eq_some];exact ⟨hp,by simpa using hi,fun j hj=>by simp [hn j hj]⟩
 simp [idx,e]
theorem idx_miss {p:S2→Bool} {l:List S2} (hn:∀ j,j < l.length→p (fr l j,tp l j)=false):idx p l = -1:=by
 have e:(List.range l.length).find? (fun i=>p (fr l i,tp l i))=none:=by
  rw [List.find?_eq_none]
  intro i hi
  simp [hn i (by simpa using hi)]
 simp [idx,e]
theorem idx_cases (p:S2→Bool) (l:List S2):(∃ i:Nat,i < l.length∧p (fr l i,tp l i)=true∧(∀ j,j < i→p (fr l j,tp l j)=false)∧idx p l=i)∨((∀ j,j < l.length→p (fr l j,tp l j)=false)∧idx p l = -1):=by
 rcases h:(List.range l.length).find? (fun i=>p (fr l i,tp l i)) with _ | i
 ·right
  rw [List.find?_eq_none] at h;have hn:∀ j,j < l.length→p (fr l j,tp l j)=false:=fun j hj=>by simpa using h j (by simpa using hj)
  exact ⟨hn,idx_miss hn⟩
 ·left
  rw [List.find?_range_eq_some] at h;have hi:i < l.length:=by simpa using h.2.1
  have hn:∀ j,j < i→p (fr l j,tp l j)=false:=fun j hj=>by simpa using h.2.2 j hj
  exact ⟨i,hi,h.1,hn,idx_hit hi h.1 hn⟩
def fallP (f t:Int) (s:S2):Bool:=decide (f≤s.1) && decide (s.1 < t)
def FallV (x:List S2) (f t:Int):Int×Bool:=if 0≤idx (fallP f t) x then (fr x (idx (fallP f t) x).toNat,true) else (0,false)
theorem fall_hit {x:List S2} {f t:Int} {i:Nat} (e:idx (fallP f t) x=i):FallV x f t=(fr x i,true):=by
 unfold FallV;rw [e,if_pos (by omega)]
 simp
theorem fall_miss {x:List S2} {f t:Int} (e:idx (fallP f t) x = -1):FallV x f t=(0,false):=by
 unfold FallV;rw [e,if_neg (by omega)]
end Go.Proofs.YtljnkaodhfnbbaaGreatDoor.Wi
namespace Go.Proofs.YtljnkaodhfnbbaaGreatDoor.Wi
open Go.RowKit Go.Proofs.YtljnkaodhfnbbaaGreatDoor.Sp
theorem idx_low (t:Int) (l:List S2):decide (0≤idx (inB t) l)=lowB l t:=by
 rcases idx_cases (inB t) l with ⟨i,hi,hp,_,e⟩ | ⟨hn,e⟩
 ·rw [e]
  have:lowB l t=true:=lowB_iff.2 (low_iff.2 ⟨i,hi,by simpa [inB] using hp⟩);rw [this];simp
 ·rw [e]
  have:lowB l t=false:=lowB_false.2 fun h=>by
   obtain ⟨i,hi,h1,h2⟩:=low_iff.1 h;have:=hn i hi
   simp [inB,h1] at this
   omega
  rw [this];simp
def PredS (g:Nat) (lb:Array Value) (p:S2→Bool) (w:World):Prop :=
 ∀ (W:World) (a b:Int),Below w.heap.size w W→Calls Tryz.prog g (#[.agg #[.int .i64 a,.int .i64 b]] ++ lb) W fun e w'=>e = .returned (.bool (p (a,b)))∧Below w.heap.size w w'
set_option maxHeartbeats 1000000 in
theorem index_any (w:World) (v:Value) (l:List S2) (g:Nat) (lb:Array Value) (p:S2→Bool) (eg:∀ args w,(callFunc g args).run Tryz.prog w = .ok (.enter g args) w) (h:Sp w v l) (hp:PredS g lb p w) :
 Calls Tryz.prog 149 #[v,.func (.func g) #[] lb] w fun e w'=>e = .returned (.int .i64 (idx p l))∧Below w.heap.size w w':=by
 obtain ⟨a,cap,rfl,h1,h2,h3⟩:=h;have H3:=Lib.hid h3;have HP:=Lib.hid hp;have hhit:∀ i,i < l.length→p (fr l i,tp l i)=true→(∀ j,j < i→p (fr l j,tp l j)=false)→idx p l=i:=fun i=>idx_hit;have hmiss:(∀ j,j < l.length→p (fr l j,tp l j)=false)→idx p l = -1:=idx_miss;have HH:=Lib.hid hhit;have HM:=Lib.hid hmiss;clear h3 hp hhit hmiss;generalize hr:idx p l=r at *;clear hr;generalize hn:l.length=n at *;have HN:=Lib.hid hn;clear hn;unfold maxLen at h2
 go_enter Tryz.func149,Tryz.ntmps149
 go_wp2
 go_loopw [8] (fun i wr=>∃ k:Nat,k≤n∧i = .int .i64 k∧Hid (∀ j,j < k→p (fr l j,tp l j)=false)∧Hid (Below w.heap.size w wr)) (fun i _=>n - (intOf i).toNat)
 case atStart=>exact ⟨0,Nat.zero_le _,rfl,fun j hj=>by omega,Below.refl _ _⟩
 case round =>
  obtain ⟨k,hk,rfl,hs,hb⟩:=hrel
  by_cases hlt:k < n
  ·obtain ⟨b,off,rfl,hA⟩:=H3.out (by omega)
   obtain ⟨c1,c2⟩:=hA k (by have:=HN.out;omega);have HA:=Lib.hid hA;clear hA;have d1:=(hb.out.cell (World.block_lt_of_cell? _ _ c1)).trans c1;have d2:=(hb.out.cell (World.block_lt_of_cell? _ _ c2)).trans c2;clear c1 c2;have hc:=HP.out wr (fr l k) (tp l k) hb.out
   cases hq:p (fr l k,tp l k) with
   | true =>
     rw [hq] at hc;have C:=Lib.hid hc;have HR:=Lib.hid (HH.out k hlt hq hs.out);clear hc hq;go_wp2_with fail;refine C.out.mono ?_;rintro e w1 ⟨rfl,b1⟩;go_wp2
     go_ret
     exact ⟨ret_int HR.out.symm,b1⟩
   | false =>
     rw [hq] at hc;have C:=Lib.hid hc;have ST:Hid (∀ j,j < k+1→p (fr l j,tp l j)=false):=fun j hj=>by
      by_cases e:j=k
      ·rw [e];exact hq
      ·exact hs.out j (by omega)
     clear hc hq;go_wp2_with fail;refine C.out.mono ?_;rintro e w1 ⟨rfl,b1⟩;have B1:=Lib.hid b1;clear b1;go_wp2
     go_roundw
     case rel=>exact ⟨k+1,by omega,by go_num,ST,B1⟩
     case measure=>simp [intOf];omega
  ·obtain rfl:k=n:=by omega
   have HR:=Lib.hid (HM.out hs.out);go_wp2
   go_ret
   exact ⟨ret_int HR.out.symm,hb.out⟩
theorem contains_any (w:World) (v:Value) (l:List S2) (g:Nat) (lb:Array Value) (p:S2→Bool) (eg:∀ args w,(callFunc g args).run Tryz.prog w = .ok (.enter g args) w) (h:Sp w v l) (hp:PredS g lb p w) :
 Calls Tryz.prog 89 #[v,.func (.func g) #[] lb] w fun e w'=>e = .returned (.bool (decide (0≤idx p l)))∧Below w.heap.size w w':=by
 have C:=Lib.hid (index_any w v l g lb p eg h hp);clear eg h hp;generalize idx p l=r at *
 go_enter Tryz.func89,Tryz.ntmps89
 go_wp2_with fail;refine C.out.mono ?_;rintro e w1 ⟨rfl,b1⟩;go_wp2
 go_ret
 exact ⟨rfl,b1⟩
theorem hclos_any (w:World) (B:Nat) (t:Int) (hc:w.cell? ⟨B,0,none⟩=some (.int .i64 t)):PredS 94 #[.pointer (some ⟨B,0,none⟩)] (inB t) w:=fun W a b hb=>by
 have hlt:=World.block_lt_of_cell? _ _ hc;have d:=(hb.cell hlt).trans hc;have hz:=hb.size;have hBW:B < W.heap.size:=Nat.lt_of_lt_of_le hlt hz;clear hc hlt
 show Calls Tryz.prog 94 #[.agg #[.int .i64 a,.int .i64 b],.pointer (some ⟨B,0,none⟩)] W _
 by_cases h1:a≤t
 ·by_cases h2:t < b
  ·have e:inB t (a,b)=true:=by simp [inB,h1,h2]
   rw [e];clear e;have HB:=Lib.hid (hb.alloc hz (.cells #[.int .i64 a,.int .i64 b] 186));clear hb
   go_enter Tryz.func94,Tryz.ntmps94
   go_wp2
   go_ret
   exact ⟨rfl,HB.out⟩
  ·have e:inB t (a,b)=false:=by simp [inB,h2]
   rw [e];clear e;have HB:=Lib.hid (hb.alloc hz (.cells #[.int .i64 a,.int .i64 b] 186));clear hb
   go_enter Tryz.func94,Tryz.ntmps94
   go_wp2
   go_ret
   exact ⟨rfl,HB.out⟩
 ·have e:inB t (a,b)=false:=by simp [inB,h1]
  rw [e];clear e;have HB:=Lib.hid (hb.alloc hz (.cells #[.int .i64 a,.int .i64 b] 186));clear hb
  go_enter Tryz.func94,Tryz.ntmps94
  go_wp2
  go_ret
  exact ⟨rfl,HB.out⟩
theorem high_any (w:World) (v:Value) (l:List S2) (h:Sp w v l) (t:Int):Calls Tryz.prog 35 #[v,.int .i64 t] w fun e w'=>e = .returned (.bool (!lowB l t))∧Below w.heap.size w w':=by
 have eg:∀ args w,(callFunc 94 args).run Tryz.prog w = .ok (.enter 94 args) w:=enters_of Tryz.func94 (by kernel_rfl) rfl;have hb:Below w.heap.size w (w.alloc (.cells #[.int .i64 t] 3)):=(Below.refl _ _).alloc (Nat.le_refl _) _;have c:=contains_any (w.alloc (.cells #[.int .i64 t] 3)) v l 94 #[.pointer (some ⟨w.heap.size,0,none⟩)] (inB t) eg (h.below hb) (hclos_any _ _ _ (by go_simp));rw [idx_low] at c;have C:=Lib.hid c;have HB:=Lib.hid hb;obtain ⟨a,cap,rfl,_⟩:=h.slice;clear c hb h eg;have hmf:∀ (fn:Fn) (first cap:Array Value) (w:World),(Instr.makeFunc fn first cap).run Tryz.prog w = .ok (.func fn first cap) w:=fun _ _ _ _=>rfl;generalize lowB l t=r at *
 go_enter Tryz.func35,Tryz.ntmps35
 go_wp2_with fail;refine C.out.mono ?_;rintro e w1 ⟨rfl,b1⟩;go_wp2
 go_ret
 exact ⟨rfl,HB.out.trans (b1.mono (by simp))⟩
end Go.Proofs.YtljnkaodhfnbbaaGreatDoor.Wi
namespace Go.Proofs.YtljnkaodhfnbbaaGreatDoor.Wi
open Go.RowKit Go.Proofs.YtljnkaodhfnbbaaGreatDoor.Sp
theorem ret_pair {v:Int×Bool} {a:Int} {b:Bool} (h:v=(a,b)):Ending.returned (.tuple #[.int .i64 a,.bool b]) = .returned (.tuple #[.int .i64 v.1,.bool v.2]):=by subst h;rfl
def FallPost (w:World) (l:List S2) (f t:Int) (e:Ending) (w':World):Prop:=∃ x,PlainOf l x∧e = .returned (.tuple #[.int .i64 (FallV x f t).1,.bool (FallV x f t).2])∧Below w.heap.size w w'
theorem fclos_any (w:World) (B C:Nat) (f t:Int) (hf:w.cell? ⟨B,0,none⟩=some (.int .i64 f)) (ht:w.cell? ⟨C,0,none⟩=some (.int .i64 t)):PredS 150 #[.pointer (some ⟨B,0,none⟩),.pointer (some ⟨C,0,none⟩)] (fallP f t) w:=fun W a b hb=>by
 have hltB:=World.block_lt_of_cell? _ _ hf;have hltC:=World.block_lt_of_cell? _ _ ht;have d:=(hb.cell hltB).trans hf;have d':=(hb.cell hltC).trans ht;have hz:=hb.size;have hBW:B < W.heap.size:=Nat.lt_of_lt_of_le hltB hz;have hCW:C < W.heap.size:=Nat.lt_of_lt_of_le hltC hz;have HB:=Lib.hid (hb.alloc hz (.cells #[.int .i64 a,.int .i64 b] 186));clear hf ht hltB hltC hb
 show Calls Tryz.prog 150 #[.agg #[.int .i64 a,.int .i64 b],.pointer (some ⟨B,0,none⟩),.pointer (some ⟨C,0,none⟩)] W _
 by_cases h1:f≤a
 ·by_cases h2:a < t
  ·have e:fallP f t (a,b)=true:=by simp [fallP,h1,h2]
   rw [e];clear e
   go_enter Tryz.func150,Tryz.ntmps150
   go_wp2
   go_ret
   exact ⟨rfl,HB.out⟩
  ·have e:fallP f t (a,b)=false:=by simp [fallP,h2]
   rw [e];clear e
   go_enter Tryz.func150,Tryz.ntmps150
   go_wp2
   go_ret
   exact ⟨rfl,HB.out⟩
 ·have e:fallP f t (a,b)=false:=by simp [fallP,h1]
  rw [e];clear e
  go_enter Tryz.func150,Tryz.ntmps150
  go_wp2
  go_ret
  exact ⟨rfl,HB.out⟩
theorem rows_one {W:World} {v:Value} {l:List S2} (h:Sp W v l):Rows (W.alloc (.cells #[v] 95)) (.slice (some ⟨W.heap.size,0,none⟩) 1 1) [l] :=
 ⟨_,1,rfl,Nat.le_refl _,by unfold maxLen;omega,fun _=>⟨_,_,rfl,fun i hi=>by
  have:i=0:=by simp at hi;omega
  subst this
  exact ⟨v,by go_simp,h.below ((Below.refl _ _).alloc (Nat.le_refl _) _)⟩⟩⟩
theorem plain_one_of {l x:List S2} (h:JoinOf [l] x):PlainOf l x:=⟨h.plain,fun t=>by
 rw [h.low]
 constructor
 ·rintro ⟨i,hi,c⟩
  have:i=0:=by simp at hi;omega
  subst this;exact c
 ·exact fun c=>⟨0,by simp,c⟩⟩
set_option maxHeartbeats 1000000 in
theorem fall_any (w:World) (v:Value) (l:List S2) (h:Sp w v l) (hlen:l.length < 1099511627776) (f t:Int):Calls Tryz.prog 96 #[v,.int .i64 f,.int .i64 t] w (FallPost w l f t):=by
 have eg:∀ args w,(callFunc 150 args).run Tryz.prog w = .ok (.enter 150 args) w:=enters_of Tryz.func150 (by kernel_rfl) rfl;have hb2:Below w.heap.size w ((w.alloc (.cells #[.int .i64 f] 3)).alloc (.cells #[.int .i64 t] 3)):=((Below.refl _ _).alloc (Nat.le_refl _) _).alloc (by simp) _;have j:=join_any (((w.alloc (.cells #[.int .i64 f] 3)).alloc (.cells #[.int .i64 t] 3)).alloc (.cells #[v] 95)) _ [l] (rows_one (h.below hb2)) (by show 0+l.length < _;omega);have ez:((w.alloc (.cells #[.int .i64 f] 3)).alloc (.cells #[.int .i64 t] 3)).heap.size=w.heap.size+1+1:=by simp
 rw [ez] at j;clear ez;have J:=Lib.hid j;have HB2:=Lib.hid hb2;have EG:=Lib.hid eg;obtain ⟨a,cap,rfl,_⟩:=h.slice;clear j hb2 eg h;have hmf:∀ (fn:Fn) (first cap:Array Value) (w:World),(Instr.makeFunc fn first cap).run Tryz.prog w = .ok (.func fn first cap) w:=fun _ _ _ _=>rfl
 go_enter Tryz.func96,Tryz.ntmps96
 go_wp2_with fail;refine J.out.mono ?_;rintro e w1 ⟨v1,x,rfl,hown,hj,b1⟩;have PO:=Lib.hid (plain_one_of hj);have SP1:=Lib.hid hown.sp;have B1:Hid (Below w.heap.size w w1):=(HB2.out.alloc (by first | (simp;done) | (simp;omega)) _).trans (b1.mono (by first | (simp;done) | (simp;omega)));have f1:w1.cell? ⟨w.heap.size,0,none⟩=some (.int .i64 f):=(b1.cell (by first | (simp;done) | (simp;omega))).trans (by go_simp);have f2:w1.cell? ⟨w.heap.size+1,0,none⟩=some (.int .i64 t):=(b1.cell (by first | (simp;done) | (simp;omega))).trans (by go_simp);have IC:=Lib.hid (index_any w1 v1 x 150 _ _ EG.out SP1.out (fclos_any _ _ _ f t f1 f2));clear hown hj b1 f1 f2
 rcases idx_cases (fallP f t) x with ⟨i,hi,_,_,e⟩ | ⟨_,e⟩
 ·have FV:=Lib.hid (fall_hit e)
  rw [e] at IC;clear e;go_wp2_with fail;refine IC.out.mono ?_;rintro e w2 ⟨rfl,b2⟩;have SP2:=Lib.hid (SP1.out.below b2);obtain ⟨a1,cap1,rfl,q1,q2,hAt⟩:=SP2.out;obtain ⟨b',off',rfl,hA⟩:=hAt (by omega);have c1:=(hA i hi).1;have HA:=Lib.hid hA;have HAt:=Lib.hid hAt;have B2:=Lib.hid (B1.out.trans (b2.mono B1.out.size));clear hA hAt b2;unfold maxLen at q2;generalize hn:x.length=n at *;clear hn;go_wp2
  go_ret2
  exact ⟨x,PO.out,ret_pair FV.out,B2.out⟩
 ·have FV:=Lib.hid (fall_miss e)
  rw [e] at IC;clear e;go_wp2_with fail;refine IC.out.mono ?_;rintro e w2 ⟨rfl,b2⟩;have B2:=Lib.hid (B1.out.trans (b2.mono B1.out.size));clear b2;go_wp2
  go_ret2
  exact ⟨x,PO.out,ret_pair FV.out,B2.out⟩
end Go.Proofs.YtljnkaodhfnbbaaGreatDoor.Wi
namespace Go.Proofs.YtljnkaodhfnbbaaGreatDoor.Sa
open Sp
open Tk (GoodP Glo)
open Wi (PlainOf Plain Low lowB lowB_false FallV fall_hit fall_miss idx_hit idx_miss fallP mem_fr mem_iff low_one low_nil)
open Se (lows lows_mem lows_in Glo_lt Glo_mono Glo_in)
theorem plain_before {l:List S2} (h:Plain l) {i j:Nat} (hij:i < j) (hj:j < l.length):tp l i < fr l j:=by
 have p:=List.pairwise_iff_getElem.1 h.2 i j (by omega) hj hij
 simpa [Sp.tp,fr,List.getD,List.getElem?_eq_getElem hj,List.getElem?_eq_getElem (show i < l.length by omega)] using p
theorem plain_span {l:List S2} (h:Plain l) {i:Nat} (hi:i < l.length):fr l i < tp l i:=h.1 _ (mem_fr hi)
theorem plain_len {l:List S2} (h:Plain l) (b:∀ i,i < l.length→0≤fr l i∧fr l i≤4294967296):l.length < 1099511627776:=by
 have up:∀ i:Nat,i < l.length→(i:Int)≤fr l i:=by
  intro i
  induction i with
  | zero=>exact fun hi=>(b 0 hi).1
  | succ i ih =>
    intro hi
    have a:=ih (by omega);have c:=plain_before h (show i < i+1 by omega) hi;have d:=plain_span h (show i < l.length by omega)
    omega
 by_cases h0:0 < l.length
 ·have a:=up (l.length - 1) (by omega)
  have c:=(b (l.length - 1) (by omega)).2
  omega
 ·omega
theorem lows_short {n:Nat} {A R:Nat→Int} {F:Nat→Bool} {m:Int} {l:List S2} (h:PlainOf (lows (Glo A R n) F m 11) l):l.length < 1099511627776 :=
 plain_len h.1 fun i hi=>by
  have a:=lows_in h (Int.le_refl m) (Int.le_refl (m+176)) i hi;have c:=Glo_in A R n m;have d:=Glo_in A R n (m+176);have e:=plain_span h.1 hi
  omega
theorem fall_first {L x:List S2} {f t T:Int} (hx:PlainOf L x) (h:Low L T) (hn:∀ u,u < T→¬ Low L u) (h0:f≤T) (h1:T < t):FallV x f t=(T,true):=by
 obtain ⟨s,hs,a,b⟩:=(hx.2 T).2 h;have at_:∀ i,i < x.length→T≤fr x i:=fun i hi=>by
  rcases Wi.ltge (fr x i) T with c | c
  ·exact absurd ((hx.2 _).1 ⟨_,mem_fr hi,Int.le_refl _,plain_span hx.1 hi⟩) (hn _ c)
  ·exact c
 obtain ⟨i,hi,e1,e2⟩:=mem_iff.1 hs;have e:fr x i=T:=by have:=at_ i hi;omega
 have hit:=fall_hit (x:=x) (f:=f) (t:=t) (i:=i) (idx_hit hi (by simp [fallP,e,h0,h1]) fun j hj=>by
  have c:=plain_before hx.1 hj hi;have d:=plain_span hx.1 (show j < x.length by omega);have k:=at_ j (by omega)
  omega)
 rw [hit,e]
theorem fall_none {L x:List S2} {f t:Int} (hx:PlainOf L x) (h:∀ u,¬ Low L u):FallV x f t=(0,false) :=
 fall_miss (idx_miss fun _ hj=>absurd ((hx.2 _).1 ⟨_,mem_fr hj,Int.le_refl _,plain_span hx.1 hj⟩) (h _))
end Go.Proofs.YtljnkaodhfnbbaaGreatDoor.Sa
namespace Go.Proofs.YtljnkaodhfnbbaaGreatDoor.Sa
open Sp Go.Proofs.YtljnkaodhfnbbaaGreatDoor.Wi Go.Proofs.YtljnkaodhfnbbaaGreatDoor.Se
open Tk (GoodP Glo IsG Glo_is Glo_eq PP)
structure Calm (n:Nat) (A R:Nat→Int) (B:Int):Prop where
 good:GoodP n A R
 lo:0≤B
 bd:∀ i,i < n→-B≤R i∧R i≤B
section
variable {n:Nat} {A R:Nat→Int} {B:Int}
theorem Calm.rt (g:Calm n A R B) (k:Nat) (h:k≤n) : -B≤Tk.rt R k∧Tk.rt R k≤B:=by
 have:=g.lo
 cases k with
 | zero=>exact ⟨by simp [Tk.rt];omega,by simp [Tk.rt];omega⟩
 | succ k=>exact g.bd k (by omega)
theorem PP_one (g:Calm n A R B) (t:Int):∃ c,1000000 - B≤c∧c≤1000000+B∧PP A R n (t+1)=PP A R n t+c:=by
 have s:=Tk.stop_at A n t;generalize hk:Tk.stop A n t=k at s;obtain ⟨s1,s2,s3⟩:=s;rw [Tk.PP_eq ⟨s1,s2,s3⟩]
 by_cases hn:k < n∧A k < t+1
 ·obtain ⟨hn,ha⟩:=hn
  have e:A k=t:=by have:=s3 hn;omega
  have st:Tk.AtStop A n (t+1) (k+1):=by
   refine ⟨hn,fun i hi=>?_,fun h=>?_⟩
   ·by_cases c:i=k
    ·subst c;exact ha
    ·have:=s2 i (by omega);omega
   ·have:=g.good.up k h;omega
  rw [Tk.PP_eq st];have b:=g.bd k hn;refine ⟨1000000+R k,by omega,by omega,?_⟩
  show Tk.sm A R k+(A k - Tk.fr A k) * (1000000+Tk.rt R k)+(t+1 - A k) * (1000000+R k)=Tk.sm A R k+(t - Tk.fr A k) * (1000000+Tk.rt R k)+(1000000+R k)
  rw [e,show t+1 - t=1 by omega,Int.one_mul]
 ·have st:Tk.AtStop A n (t+1) k:=by
   refine ⟨s1,fun i hi=>?_,fun h=>?_⟩
   ·have:=s2 i hi;omega
   ·have:=s3 h;omega
  rw [Tk.PP_eq st];have b:=g.rt k s1;refine ⟨1000000+Tk.rt R k,by omega,by omega,?_⟩;unfold Tk.pp;rw [show t+1 - Tk.fr A k=(t - Tk.fr A k)+1 by omega,Int.add_mul,Int.one_mul]
  omega
theorem PP_more (g:Calm n A R B) (t:Int) (d:Nat):PP A R n t+(1000000 - B) * d≤PP A R n (t+d)∧PP A R n (t+d)≤PP A R n t+(1000000+B) * d:=by
 induction d with
 | zero=>simp
 | succ d ih =>
   obtain ⟨c,c1,c2,e⟩:=PP_one g (t+d);rw [show t+((d+1:Nat):Int)=t+d+1 by omega,e];have e1:(1000000 - B) * ((d+1:Nat):Int)=(1000000 - B) * d+(1000000 - B):=by rw [show ((d+1:Nat):Int)=d+1 by omega,Int.mul_add,Int.mul_one]
   have e2:(1000000+B) * ((d+1:Nat):Int)=(1000000+B) * d+(1000000+B):=by rw [show ((d+1:Nat):Int)=d+1 by omega,Int.mul_add,Int.mul_one]
   rw [e1,e2];generalize (1000000 - B) * (d:Int)=x at *;generalize (1000000+B) * (d:Int)=y at *
   omega
theorem PP_span (g:Calm n A R B) {t u:Int} (h:t≤u):PP A R n t+(1000000 - B) * (u - t)≤PP A R n u∧PP A R n u≤PP A R n t+(1000000+B) * (u - t):=by
 have:=PP_more g t (u - t).toNat;rw [show t+((u - t).toNat:Int)=u by omega,show ((u - t).toNat:Int)=u - t by omega] at this;exact this
theorem Calm.up {B':Int} (g:Calm n A R B) (h:B≤B'):Calm n A R B':=⟨g.good,by have:=g.lo;omega,fun i hi=>by have:=g.bd i hi;omega⟩
theorem Glo_parts (g:Calm n A R B) {a:Int} (h0:0≤a) (h1:a≤4000000000):1000000 * a≤PP A R n (Glo A R n a)∧PP A R n (Glo A R n a)≤1000000 * a+999999+B:=by
 have x:=Glo_is A R n a;have x0:=x.lo;have x1:=Glo_there g.good h1;have q:=Glo_at g.good h1;have b0:=g.lo;unfold Tk.Loc at q;rw [Tk.clamp_id (by omega) (by omega)] at q;refine ⟨by omega,?_⟩
 rcases Wi.ltge 0 (Glo A R n a) with c | c
 ·have p:=x.before (Glo A R n a - 1) (by omega) (by omega)
  unfold Tk.Loc at p;rw [Tk.clamp_id (by omega) (by omega)] at p;obtain ⟨d,_,d1,e⟩:=PP_one g (Glo A R n a - 1);rw [show Glo A R n a - 1+1=Glo A R n a by omega] at e
  omega
 ·have e:Glo A R n a=0:=by omega
  rw [e,Tk.PP_zero g.good]
  omega
theorem Glo_le {a u:Int} (h0:0≤u) (h:1000000 * a≤PP A R n u):Glo A R n a≤u:=by
 have x:=Glo_is A R n a
 rcases Wi.ltge u (Glo A R n a) with c | c
 ·have p:=x.before u h0 c
  have:=x.hi;unfold Tk.Loc at p;rw [Tk.clamp_id (by omega) (by omega)] at p
  omega
 ·exact c
theorem lt_Glo (g:Calm n A R B) {a u:Int} (h1:a≤4000000000) (h:PP A R n u < 1000000 * a):u < Glo A R n a:=by
 have q:=Glo_at g.good h1;have x0:=(Glo_is A R n a).lo;have x1:=Glo_there g.good h1;unfold Tk.Loc at q;rw [Tk.clamp_id (by omega) (by omega)] at q
 rcases Wi.ltge u (Glo A R n a) with c | c
 ·exact c
 ·have:=Tk.PP_mono g.good c
  omega
end
def maj (a b c:Bool):Bool:=a && b || a && c || b && c
def heard (low:Int→Bool) (g:Int→Int) (N:Int) (i:Nat):Bool:=maj (!low (g (N+16 * i+7))) (!low (g (N+16 * i+8))) (!low (g (N+16 * i+9)))
theorem maj_same (a:Bool):maj a a a=a:=by cases a <;> rfl
theorem look_in {n n':Nat} {A R A' R':Nat→Int} (g:Calm n A R 10000) (g':Calm n' A' R' 10000) {m:Int} (m0:0≤m) (m1:m≤1073741824) (i:Nat) (hi:i < 11) (j:Int) (j0:7≤j) (j1:j≤9) :
 Glo A R n (m+16 * i)≤Glo A' R' n' (Tk.Loc A' R' n' (Glo A R n m)+16 * i+j)∧Glo A' R' n' (Tk.Loc A' R' n' (Glo A R n m)+16 * i+j) < Glo A R n (m+16 * i+16):=by
 have t:=Glo_parts g m0 (by omega);have t0:=(Glo_is A R n m).lo;have t1:=Glo_there g.good (show m≤4000000000 by omega);have t2:Glo A R n m≤1100000000:=by
  have b:=PP_span g (show 0≤Glo A R n m from t0);rw [Tk.PP_zero g.good] at b
  omega
 have l:=Tk.Loc_bd g'.good (Glo A R n m) t0 (by omega);have lp:1000000 * Tk.Loc A' R' n' (Glo A R n m)≤PP A' R' n' (Glo A R n m)∧PP A' R' n' (Glo A R n m)≤1000000 * Tk.Loc A' R' n' (Glo A R n m)+999999:=by
  unfold Tk.Loc;rw [Tk.clamp_id (by omega) (by omega)]
  omega
 have l0:0≤Tk.Loc A' R' n' (Glo A R n m):=by
  unfold Tk.Loc;rw [Tk.clamp_id (by omega) (by omega)];have:=(Tk.PP_bd g'.good (Glo A R n m) t0).1
  omega
 generalize Tk.Loc A' R' n' (Glo A R n m)=N at *;have u:=Glo_parts g' (a:=N+16 * i+j) (by omega) (by omega);have u0:=(Glo_is A' R' n' (N+16 * i+j)).lo;generalize Glo A' R' n' (N+16 * i+j)=U at *;have tu:Glo A R n m≤U:=by
  rcases Wi.ltge U (Glo A R n m) with c | c
  ·have:=Tk.PP_mono g'.good (show U≤Glo A R n m by omega)
   omega
  ·exact c
 have b:=PP_span g tu;have b':=PP_span g' tu;generalize Glo A R n m=T at *;have lo:1000000 * (m+16 * (i:Int))≤PP A R n U:=by omega
 have hi':PP A R n U < 1000000 * (m+16 * (i:Int)+16):=by omega
 exact ⟨Glo_le u0 lo,lt_Glo g (by omega) hi'⟩
theorem low_in {n:Nat} {A R:Nat→Int} {F:Nat→Bool} {m:Int} {l:List S2} (h:PlainOf (lows (Glo A R n) F m 11) l) (i:Nat) (hi:i < 11) {u:Int} (h0:Glo A R n (m+16 * i)≤u) (h1:u < Glo A R n (m+16 * i+16)):lowB l u = !F i:=by
 cases e:F i with
 | false =>
   rw [lowB_iff.2 ((h.2 u).2 ⟨_,lows_mem.2 ⟨i,hi,e,rfl⟩,h0,h1⟩)]
   rfl
 | true =>
   refine lowB_false.2 fun hl=>?_;obtain ⟨s,hs,a,b⟩:=(h.2 u).1 hl;obtain ⟨k,hk,hf,rfl⟩:=lows_mem.1 hs;simp only at a b
   rcases Nat.lt_trichotomy k i with c | c | c
   ·have:=Glo_mono (A:=A) (R:=R) (n:=n) (show m+16 * (k:Int)+16≤m+16 * i by omega)
    omega
   ·subst c;rw [e] at hf;cases hf
   ·have:=Glo_mono (A:=A) (R:=R) (n:=n) (show m+16 * (i:Int)+16≤m+16 * k by omega)
    omega
theorem heard_true {n n':Nat} {A R A' R':Nat→Int} (g:Calm n A R 10000) (g':Calm n' A' R' 10000) {m:Int} (m0:0≤m) (m1:m≤1073741824) {F:Nat→Bool} {l:List S2} (h:PlainOf (lows (Glo A R n) F m 11) l) (i:Nat) (hi:i < 11) :
 heard (lowB l) (Glo A' R' n') (Tk.Loc A' R' n' (Glo A R n m)) i=F i:=by
 have a:=look_in g g' m0 m1 i hi 7 (by omega) (by omega);have b:=look_in g g' m0 m1 i hi 8 (by omega) (by omega);have c:=look_in g g' m0 m1 i hi 9 (by omega) (by omega);unfold heard;rw [low_in h i hi a.1 a.2,low_in h i hi b.1 b.2,low_in h i hi c.1 c.2,maj_same]
 simp
theorem Loc_all (A R:Nat→Int) (n:Nat) (g:GoodP n A R) (t:Int):0≤Tk.Loc A R n t∧Tk.Loc A R n t≤4400000000:=by
 have h0:=Tk.clamp_lo t;have h1:=Tk.clamp_hi t;have:=Tk.PP_bd g (Tk.clamp t) h0;unfold Tk.Loc
 omega
end Go.Proofs.YtljnkaodhfnbbaaGreatDoor.Sa
namespace Go.Proofs.YtljnkaodhfnbbaaGreatDoor.Tk
open Go.RowKit
def prev (A:Nat→Int):Nat→Int
 | 0=>-1
 | k+1=>A k
structure GoodTo (A R:Nat→Int) (k:Nat):Prop where
 at_:∀ i,i < k→0≤A i∧A i≤4294967296
 rate:∀ i,i < k→-20000≤R i∧R i≤20000
 up:∀ i,i+1 < k→A i < A (i+1)
theorem GoodTo.zero (A R:Nat→Int):GoodTo A R 0:=⟨fun i h=>by omega,fun i h=>by omega,fun i h=>by omega⟩
theorem GoodTo.lo {A R:Nat→Int} {k:Nat} (g:GoodTo A R k) : -1≤prev A k:=by
 cases k with
 | zero=>exact Int.le_refl _
 | succ k=>have:=(g.at_ k (by omega)).1;show -1≤A k;omega
theorem GoodTo.step {A R:Nat→Int} {k:Nat} (g:GoodTo A R k) (h1:¬ A k≤prev A k) (h2:¬ 4294967296 < A k) (h3:¬ R k < -20000) (h4:¬ 20000 < R k):GoodTo A R (k+1):=by
 have l:=g.lo;refine ⟨fun i hi=>?_,fun i hi=>?_,fun i hi=>?_⟩
 ·by_cases e:i=k
  ·subst e;omega
  ·exact g.at_ i (by omega)
 ·by_cases e:i=k
  ·subst e;omega
  ·exact g.rate i (by omega)
 ·by_cases e:i+1=k
  ·subst e;have:prev A (i+1)=A i:=rfl;omega
  ·exact g.up i (by omega)
theorem GoodTo.all {A R:Nat→Int} {n:Nat} (g:GoodTo A R n) (h:n≤64):GoodP n A R:=⟨h,g.at_,g.rate,g.up⟩
theorem bad {A R:Nat→Int} {n k:Nat} (hk:k < n) (h:A k≤prev A k∨4294967296 < A k∨R k < -20000∨20000 < R k):goodB n A R=false:=by
 refine goodB_no fun g=>?_;have a:=g.at_ k hk;have r:=g.rate k hk
 rcases h with h | h | h | h
 ·cases k with
  | zero=>have:prev A 0 = -1:=rfl;omega
  | succ k=>have:=g.up k hk;have:prev A (k+1)=A k:=rfl;omega
 ·omega
 ·omega
 ·omega
theorem ret_bool {a b:Bool} (h:a=b):Ending.returned (.bool a) = .returned (.bool b):=by rw [h]
theorem ret_int {a b:Int} (h:a=b):Ending.returned (.int .i64 a) = .returned (.int .i64 b):=by rw [h]
theorem good_none (w:World) (a:Option Addr) (cap:Nat) (A R:Nat→Int):Calls Tryz.prog 38 #[.slice a 0 cap] w fun e w'=>e = .returned (.bool (goodB 0 A R))∧Below w.heap.size w w':=by
 rw [goodB_yes (⟨by omega,fun i h=>by omega,fun i h=>by omega,fun i h=>by omega⟩:GoodP 0 A R)]
 go_enter Tryz.func38,Tryz.ntmps38
 go_wp2
 go_loopw [3,11] (fun _ i wr=>i = .int .i64 0∧Below w.heap.size w wr) (fun _ _ _=>0)
 case atStart=>exact ⟨rfl,Below.refl _ _⟩
 case round =>
  obtain ⟨rfl,hb⟩:=hrel;go_wp2
  go_ret
  exact ⟨rfl,hb⟩
theorem good_long (w:World) (a:Option Addr) (n cap:Nat) (h:64 < n) (A R:Nat→Int):Calls Tryz.prog 38 #[.slice a n cap] w fun e w'=>e = .returned (.bool (goodB n A R))∧Below w.heap.size w w':=by
 rw [goodB_no (fun g:GoodP n A R=>by have:=g.len;omega)]
 go_enter Tryz.func38,Tryz.ntmps38
 go_wp2
 go_ret
 exact ⟨rfl,Below.refl _ _⟩
theorem good_some (w:World) (b off n cap:Nat) (h:n≤64) (A R:Nat→Int)
 (hc:∀ i,i < n→w.cell? ⟨b,off+i * 2,none⟩=some (.int .i64 (A i))∧w.cell? ⟨b,off+i * 2+1,none⟩=some (.int .i64 (R i))) :
 Calls Tryz.prog 38 #[.slice (some ⟨b,off,none⟩) n cap] w fun e w'=>e = .returned (.bool (goodB n A R))∧Below w.heap.size w w':=by
 have HC:=Lib.hid hc;clear hc
 go_enter Tryz.func38,Tryz.ntmps38
 go_wp2
 go_loopw [3,11] (fun a i wr=>∃ k:Nat,k≤n∧i = .int .i64 k∧a = .int .i64 (prev A k)∧GoodTo A R k∧Below w.heap.size w wr) (fun _ i _=>n - (intOf i).toNat)
 case atStart=>exact ⟨0,Nat.zero_le _,rfl,rfl,GoodTo.zero A R,Below.refl _ _⟩
 case round =>
  obtain ⟨k,hk,rfl,rfl,hg,hb⟩:=hrel
  by_cases hlt:k < n
  ·obtain ⟨c1,c2⟩:=HC.out k hlt
   have d1:=(hb.cell (World.block_lt_of_cell? _ _ c1)).trans c1;have d2:=(hb.cell (World.block_lt_of_cell? _ _ c2)).trans c2;clear c1 c2
   by_cases h1:A k≤prev A k
   ·go_wp2
    go_ret
    exact ⟨ret_bool (bad hlt (.inl h1)).symm,hb.alloc hb.size _⟩
   ·by_cases h2:4294967296 < A k
    ·go_wp2
     go_ret
     exact ⟨ret_bool (bad hlt (.inr (.inl h2))).symm,hb.alloc hb.size _⟩
    ·by_cases h3:R k < -20000
     ·go_wp2
      go_ret
      exact ⟨ret_bool (bad hlt (.inr (.inr (.inl h3)))).symm,hb.alloc hb.size _⟩
     ·by_cases h4:20000 < R k
      ·go_wp2
       go_ret
       exact ⟨ret_bool (bad hlt (.inr (.inr (.inr h4)))).symm,hb.alloc hb.size _⟩
      ·go_wp2
       go_roundw
       case rel=>exact ⟨k+1,by omega,by go_num,rfl,hg.step h1 h2 h3 h4,hb.alloc hb.size _⟩
       case measure=>simp [intOf];omega
  ·obtain rfl:k=n:=by omega
   go_wp2
   go_ret
   exact ⟨ret_bool (goodB_yes (hg.all h)).symm,hb⟩
theorem good_any (w:World) (v:Value) (n:Nat) (A R:Nat→Int) (h:Steps w v n A R):Calls Tryz.prog 38 #[v] w fun e w'=>e = .returned (.bool (goodB n A R))∧Below w.heap.size w w':=by
 rcases h with ⟨a,cap,rfl,_,rfl⟩ | ⟨b,off,cap,rfl,_,_,hc⟩
 ·exact good_none w a cap A R
 ·by_cases hn:n≤64
  ·exact good_some w b off n cap hn A R hc
  ·exact good_long w _ n cap (by omega) A R
end Go.Proofs.YtljnkaodhfnbbaaGreatDoor.Tk
namespace Go.Proofs.YtljnkaodhfnbbaaGreatDoor.Tk
open Go.RowKit
structure Bd (A R:Nat→Int) (n k:Nat):Prop where
 f0:0≤fr A k
 f1:fr A k≤4294967296
 r0 : -20000≤rt R k
 r1:rt R k≤20000
 s0:0≤sm A R k
 s1:sm A R k≤4380866641920
theorem Bd.of {A R:Nat→Int} {n:Nat} (g:GoodP n A R) (k:Nat) (h:k≤n):0≤sm A R k∧sm A R k≤4380866641920000:=by
 have f:=fr_bd g k h;have s:=sm_bd g k h
 omega
theorem mul_rt {A R:Nat→Int} {n:Nat} (g:GoodP n A R) (k:Nat) (h:k≤n) (d:Int) (h0:0≤d) (h1:d≤4294967296):0≤d * (1000000+rt R k)∧d * (1000000+rt R k)≤4380866641920000:=by
 have b:=rt_bd g k h;have m:=mul_bd (d:=d) (c:=1000000+rt R k) h0 (by omega) (by omega)
 omega
theorem parts_none (w:World) (a:Option Addr) (cap:Nat) (t:Int) (h0:0≤t) (h1:t≤4294967296) (A R:Nat→Int):Calls Tryz.prog 193 #[.slice a 0 cap,.int .i64 t] w fun e w'=>e = .returned (.int .i64 (PP A R 0 t))∧Below w.heap.size w w':=by
 have e:PP A R 0 t=t * 1000000:=by
  rw [PP_eq (⟨Nat.le_refl _,fun i h=>by omega,fun h=>by omega⟩:AtStop A 0 t 0)]
  show 0+(t - 0) * (1000000+0)=_
  omega
 rw [e]
 go_enter Tryz.func193,Tryz.ntmps193
 go_wp2
 go_loopw [5,6,7,12] (fun s f r i wr=>i = .int .i64 0∧s = .int .i64 0∧f = .int .i64 0∧r = .int .i64 0∧Below w.heap.size w wr) (fun _ _ _ _ _=>0)
 case atStart=>exact ⟨rfl,rfl,rfl,rfl,Below.refl _ _⟩
 case round =>
  obtain ⟨rfl,rfl,rfl,rfl,hb⟩:=hrel;go_wp2
  go_ret
  exact ⟨ret_int (by omega),hb⟩
set_option maxHeartbeats 400000 in
theorem parts_some (w:World) (b off n cap:Nat) (A R:Nat→Int) (g:GoodP n A R) (t:Int) (h0:0≤t) (h1:t≤4294967296)
 (hc:∀ i,i < n→w.cell? ⟨b,off+i * 2,none⟩=some (.int .i64 (A i))∧w.cell? ⟨b,off+i * 2+1,none⟩=some (.int .i64 (R i))) :
 Calls Tryz.prog 193 #[.slice (some ⟨b,off,none⟩) n cap,.int .i64 t] w fun e w'=>e = .returned (.int .i64 (PP A R n t))∧Below w.heap.size w w':=by
 have HC:=Lib.hid hc;clear hc;have G:=Lib.hid g;clear g;have hn:n≤64:=G.out.len
 go_enter Tryz.func193,Tryz.ntmps193
 go_wp2
 go_loopw [5,6,7,12] (fun s f r i wr=>∃ k:Nat,k≤n∧i = .int .i64 k∧s = .int .i64 (sm A R k)∧f = .int .i64 (fr A k)∧r = .int .i64 (rt R k)∧Hid (∀ i,i < k→A i < t)∧Below w.heap.size w wr) (fun _ _ _ i _=>n - (intOf i).toNat)
 case atStart=>exact ⟨0,Nat.zero_le _,rfl,rfl,rfl,rfl,fun i h=>by omega,Below.refl _ _⟩
 case round =>
  obtain ⟨k,hk,rfl,rfl,rfl,rfl,hs,hb⟩:=hrel;have fb:=fr_bd G.out k hk;have rb:=rt_bd G.out k hk;have sb:=Bd.of G.out k hk
  by_cases hlt:k < n
  ·obtain ⟨c1,c2⟩:=HC.out k hlt
   have d1:=(hb.cell (World.block_lt_of_cell? _ _ c1)).trans c1;have d2:=(hb.cell (World.block_lt_of_cell? _ _ c2)).trans c2;clear c1 c2;have ab:=G.out.at_ k hlt;have fa:=fr_le G.out k hlt;have mb:=mul_rt G.out k hk (A k - fr A k) (by omega) (by omega)
   by_cases ht:t≤A k
   ·have hst:AtStop A n t k:=⟨hk,hs.out,fun _=>ht⟩
    have ft:=stop_fr h0 hst;have mc:=mul_rt G.out k hk (t - fr A k) (by omega) (by omega);have HP:=Lib.hid (PP_eq (R:=R) hst);clear hst;go_wp2
    go_ret
    exact ⟨ret_int (by rw [HP.out];rfl),hb.alloc hb.size _⟩
   ·go_wp2
    go_quiet (fail)
    go_wp2
    go_roundw
    case rel=>exact ⟨k+1,by omega,by go_num,rfl,rfl,rfl,(fun i hi=>by
     by_cases e:i=k
     ·subst e;omega
     ·exact hs.out i (by omega)),below_drewN (hb.alloc hb.size _) _⟩
    case measure=>simp [intOf];omega
  ·obtain rfl:k=n:=by omega
   have hst:AtStop A k t k:=⟨hk,hs.out,fun h=>by omega⟩;have ft:=stop_fr h0 hst;have mc:=mul_rt G.out k hk (t - fr A k) (by omega) (by omega);have HP:=Lib.hid (PP_eq (R:=R) hst);clear hst;go_wp2
   go_ret
   exact ⟨ret_int (by rw [HP.out];rfl),hb⟩
theorem parts_any (w:World) (v:Value) (n:Nat) (A R:Nat→Int) (h:Steps w v n A R) (g:GoodP n A R) (t:Int) (h0:0≤t) (h1:t≤4294967296) :
 Calls Tryz.prog 193 #[v,.int .i64 t] w fun e w'=>e = .returned (.int .i64 (PP A R n t))∧Below w.heap.size w w':=by
 rcases h with ⟨a,cap,rfl,_,rfl⟩ | ⟨b,off,cap,rfl,_,_,hc⟩
 ·exact parts_none w a cap t h0 h1 A R
 ·exact parts_some w b off n cap A R g t h0 h1 hc
theorem local_any (w:World) (v:Value) (n:Nat) (A R:Nat→Int) (h:Steps w v n A R) (g:GoodP n A R) (t:Int) :
 Calls Tryz.prog 151 #[v,.int .i64 t] w fun e w'=>e = .returned (.int .i64 (Loc A R n t))∧Below w.heap.size w w':=by
 have G:=Lib.hid g;clear g;have S:=Lib.hid h;clear h
 by_cases ht:t≤0
 ·have e:Loc A R n t=0:=by
   have c:clamp t=0:=by unfold clamp;split <;> (try split) <;> omega
   rw [Loc,c,PP_zero G.out];rfl
  have E:=Lib.hid e;clear e
  go_enter Tryz.func151,Tryz.ntmps151
  go_wp2
  go_ret
  exact ⟨ret_int E.out.symm,Below.refl _ _⟩
 ·by_cases hm:t≤4294967296
  ·have p:=parts_any w v n A R S.out G.out t (by omega) hm
   have mn:min t 4294967296=t:=Int.min_eq_left hm;have pb:=PP_bd G.out t (by omega);have P:=Lib.hid p;clear p;have e:Loc A R n t=PP A R n t / 1000000:=by rw [Loc,clamp_id (by omega) hm]
   have E:=Lib.hid e;clear e
   go_enter Tryz.func151,Tryz.ntmps151
   go_wp2_with fail;refine P.out.mono ?_;rintro e w' ⟨rfl,hb⟩;go_wp2
   go_ret
   exact ⟨ret_int E.out.symm,hb⟩
  ·have p:=parts_any w v n A R S.out G.out 4294967296 (by omega) (by omega)
   have mn:min t 4294967296=4294967296:=by omega
   have pb:=PP_bd G.out 4294967296 (by omega);have P:=Lib.hid p;clear p;have e:Loc A R n t=PP A R n 4294967296 / 1000000:=by
    have c:clamp t=4294967296:=by unfold clamp;split <;> (try split) <;> omega
    rw [Loc,c]
   have E:=Lib.hid e;clear e
   go_enter Tryz.func151,Tryz.ntmps151
   go_wp2_with fail;refine P.out.mono ?_;rintro e w' ⟨rfl,hb⟩;go_wp2
   go_ret
   exact ⟨ret_int E.out.symm,hb⟩
end Go.Proofs.YtljnkaodhfnbbaaGreatDoor.Tk
namespace Go.Proofs.YtljnkaodhfnbbaaGreatDoor.Tk
open Go.RowKit
theorem Steps.drew {w:World} {v:Value} {n:Nat} {A R:Nat→Int} (h:Steps w v n A R):Steps w.drew v n A R:=h.below (Below.refl _ _).drew
theorem clos_any (w:World) (bl bn:Nat) (v:Value) (n:Nat) (A R:Nat→Int) (m t:Int) (S:Steps w v n A R) (g:GoodP n A R)
 (hl:w.cell? ⟨bl,0,none⟩=some v) (hn:w.cell? ⟨bn,0,none⟩=some (.int .i64 m)) :
 Calls Tryz.prog 188 (#[.int .i64 t] ++ #[.pointer (some ⟨bl,0,none⟩),.pointer (some ⟨bn,0,none⟩)]) w fun e w'=>e = .returned (.bool (decide (m≤Loc A R n t)))∧Below w.heap.size w w':=by
 have LC:Hid (∀ W,Below w.heap.size w W→Calls Tryz.prog 151 #[v,.int .i64 t] W fun e w'=>e = .returned (.int .i64 (Loc A R n t))∧Below W.heap.size W w'):=fun W hW=>local_any W v n A R (S.below hW) g t;have hlt:=World.block_lt_of_cell? _ _ hn;clear S g
 go_enter Tryz.func188,Tryz.ntmps188
 go_wp2_with fail
 go_region_with (go_at_call 151;refine (LC.out _ ?_).mono ?_;exact (Below.refl _ _).drew;rintro e w1 ⟨rfl,hb⟩;have hn1:=(hb.cell hlt).trans hn)
 all_goals go_wp2
 all_goals go_ret
 all_goals exact ⟨rfl,(Below.refl _ _).drew.trans hb⟩
theorem mid_lo {A R:Nat→Int} {n:Nat} {m lo hi:Int} (g:GoodP n A R) (h:¬ m≤Loc A R n ((lo+hi) / 2)):∀ t,0≤t→t < (lo+hi) / 2+1→Loc A R n t < m:=fun t _ h1=>by
 have:=Loc_mono g (show t≤(lo+hi) / 2 by omega)
 omega
set_option maxHeartbeats 400000 in
theorem search_any (w:World) (bl bn:Nat) (v:Value) (n:Nat) (A R:Nat→Int) (m:Int) (S:Steps w v n A R) (g:GoodP n A R)
 (hl:w.cell? ⟨bl,0,none⟩=some v) (hn:w.cell? ⟨bn,0,none⟩=some (.int .i64 m)) :
 Calls Tryz.prog 91 #[.int .i64 4294967296,.func (.func 188) #[] #[.pointer (some ⟨bl,0,none⟩),.pointer (some ⟨bn,0,none⟩)]] w fun e w'=>e = .returned (.int .i64 (Glo A R n m))∧Below w.heap.size w w':=by
 have CC:Hid (∀ W t,Below w.heap.size w W→Calls Tryz.prog 188 (#[.int .i64 t] ++ #[.pointer (some ⟨bl,0,none⟩),.pointer (some ⟨bn,0,none⟩)]) W fun e w'=>e = .returned (.bool (decide (m≤Loc A R n t)))∧Below w.heap.size W w'):=fun W t hW =>
  (clos_any W bl bn v n A R m t (S.below hW) g ((hW.cell (World.block_lt_of_cell? _ _ hl)).trans hl) ((hW.cell (World.block_lt_of_cell? _ _ hn)).trans hn)).mono fun e w' ⟨h1,h2⟩=>⟨h1,h2.mono hW.size⟩
 have G:=Lib.hid g;clear S g hl hn
 go_enter Tryz.func91,Tryz.ntmps91
 go_wp2
 go_loopw [5,6] (fun i j wr=>∃ lo hi:Int,0≤lo∧lo≤hi∧hi≤4294967296∧i = .int .i64 lo∧j = .int .i64 hi∧Hid (∀ t,0≤t→t < lo→Loc A R n t < m)∧Hid (hi < 4294967296→m≤Loc A R n hi)∧Below w.heap.size w wr) (fun i j _=>(intOf j - intOf i).toNat)
 case atStart=>exact ⟨0,4294967296,by omega,by omega,by omega,rfl,rfl,fun t a b=>by omega,fun h=>by omega,Below.refl _ _⟩
 case round =>
  obtain ⟨lo,hi,h0,h1,h2,rfl,rfl,il,ih,hb⟩:=hrel
  by_cases hlt:lo < hi
  ·by_cases hm:m≤Loc A R n ((lo+hi) / 2)
   ·have HM:=Lib.hid hm
    have hd:decide (m≤Loc A R n ((lo+hi) / 2))=true:=decide_eq_true hm;have c:=CC.out wr ((lo+hi) / 2) hb;rw [hd] at c;have C:=Lib.hid c;clear c hd hm;go_wp2_with fail;refine C.out.mono ?_;rintro e w1 ⟨rfl,hb1⟩;go_wp2
    go_roundw
    case rel=>exact ⟨lo,(lo+hi) / 2,h0,by omega,by omega,rfl,rfl,il,fun _=>HM.out,hb.trans hb1⟩
    case measure=>simp [intOf];omega
   ·have HM:=Lib.hid hm
    have hd:decide (m≤Loc A R n ((lo+hi) / 2))=false:=decide_eq_false hm;have c:=CC.out wr ((lo+hi) / 2) hb;rw [hd] at c;have C:=Lib.hid c;clear c hd hm;go_wp2_with fail;refine C.out.mono ?_;rintro e w1 ⟨rfl,hb1⟩;go_wp2
    go_roundw
    case rel=>exact ⟨(lo+hi) / 2+1,hi,by omega,by omega,by omega,rfl,rfl,mid_lo G.out (by have:=HM.out;omega),ih,hb.trans hb1⟩
    case measure=>simp [intOf];omega
  ·obtain rfl:lo=hi:=by omega
   go_wp2
   go_ret
   exact ⟨ret_int (Glo_eq (IsG.of_meet h0 h2 il ih)).symm,hb⟩
theorem Steps.slice {w:World} {v:Value} {n:Nat} {A R:Nat→Int} (S:Steps w v n A R):∃ a l cap,v = .slice a l cap:=by
 rcases S with ⟨a,cap,rfl,_⟩ | ⟨b,off,cap,rfl,_⟩
 ·exact ⟨_,_,_,rfl⟩
 ·exact ⟨_,_,_,rfl⟩
set_option maxHeartbeats 400000 in
theorem global_any (w:World) (v:Value) (n:Nat) (A R:Nat→Int) (m:Int) (S:Steps w v n A R) (g:GoodP n A R) :
 Calls Tryz.prog 146 #[v,.int .i64 m] w fun e w'=>e = .returned (.int .i64 (Glo A R n m))∧Below w.heap.size w w':=by
 obtain ⟨a,l,cap,rfl⟩:=S.slice;have hb:Below w.heap.size w ((w.alloc (.cells #[.slice a l cap] 103)).alloc (.cells #[.int .i64 m] 3)):=((Below.refl _ _).alloc (Nat.le_refl _) _).alloc (by simp) _;have c:=search_any ((w.alloc (.cells #[.slice a l cap] 103)).alloc (.cells #[.int .i64 m] 3)) w.heap.size (w.heap.size+1) (.slice a l cap) n A R m (S.below hb) g (by go_simp) (by go_simp);have C:=Lib.hid c;have HB:=Lib.hid hb;clear c hb S g;have hmf:∀ (fn:Fn) (first cap:Array Value) (w:World),(Instr.makeFunc fn first cap).run Tryz.prog w = .ok (.func fn first cap) w:=fun _ _ _ _=>rfl
 go_enter Tryz.func146,Tryz.ntmps146
 go_wp2_with fail;refine C.out.mono ?_;rintro e w1 ⟨rfl,hb1⟩;go_wp2
 go_ret
 exact ⟨rfl,HB.out.trans (hb1.mono (by simp;omega))⟩
end Go.Proofs.YtljnkaodhfnbbaaGreatDoor.Tk
namespace Go.Proofs.YtljnkaodhfnbbaaGreatDoor.Ua
open Go.RowKit
theorem place_any (w:World) (k:Nat) (h:k < 8):Calls Tryz.prog 98 #[.int .i64 (k+1:Nat)] w fun e w'=>e = .returned (.int .u8 (2 ^ k))∧w=w':=by
 rcases (by omega:k=0∨k=1∨k=2∨k=3∨k=4∨k=5∨k=6∨k=7) with rfl | rfl | rfl | rfl | rfl | rfl | rfl | rfl
 all_goals
  go_enter Tryz.func98,Tryz.ntmps98
  go_wp2
  go_ret
  exact ⟨ret_int (by decide),rfl⟩
theorem isOdd_any (w:World) (F:Nat→Bool):Calls Tryz.prog 99 #[.agg (arr F)] w fun e w'=>e = .returned (.bool (par F 9))∧Below w.heap.size w w':=by
 have R0:=Lib.hid (Row.new w F);have B0:=Lib.hid ((Below.refl w.heap.size w).alloc (Nat.le_refl _) (.cells (arr F) 113))
 go_enter Tryz.func99,Tryz.ntmps99
 go_wp2
 go_loop [3,8] (fun o i=>∃ k:Nat,k≤9∧i = .int .i64 k∧o = .bool (par F k)) (fun _ i=>9 - (intOf i).toNat)
 case atStart=>exact ⟨0,by omega,rfl,rfl⟩
 case round =>
  obtain ⟨k,hk,rfl,rfl⟩:=hrel
  by_cases hlt:k < 9
  ·have c:=R0.out.cell (1+k) (by omega)
   have e:par F (k+1)=(par F k != F (1+k)):=by rw [par,Nat.add_comm 1 k]
   have E:=Lib.hid e;clear e;go_wp2
   go_round
   case rel=>exact ⟨k+1,by omega,by go_num,by rw [E.out];cases par F k <;> cases F (1+k) <;> rfl⟩
   case measure=>simp [intOf];omega
  ·obtain rfl:k=9:=by omega
   go_wp2
   go_ret
   exact ⟨rfl,B0.out⟩
end Go.Proofs.YtljnkaodhfnbbaaGreatDoor.Ua
namespace Go.Proofs.YtljnkaodhfnbbaaGreatDoor.Ua
open Go.RowKit
theorem ret_three {a b:Int} {p q:Bool} {c d:Int} {k:IntKind} (h1:a=b) (h2:p=q) (h3:c=d):Ending.returned (.tuple #[.int k a,.bool p,.int .i64 c]) = .returned (.tuple #[.int k b,.bool q,.int .i64 d]):=by rw [h1,h2,h3]
theorem of_bad {F:Nat→Bool} (h:bad F=true):0=tb F∧false=tp F∧2=te F:=by unfold tb tp te;rw [h];exact ⟨rfl,rfl,rfl⟩
theorem of_good {F:Nat→Bool} (h:bad F=false):(val F 8:Int)=tb F∧par F 9=tp F∧0=te F:=by unfold tb tp te;rw [h];exact ⟨rfl,rfl,rfl⟩
set_option maxHeartbeats 400000 in
theorem take_bad (w:World) (F:Nat→Bool) (hb:bad F=true):Calls Tryz.prog 87 #[.agg (arr F)] w fun e w'=>e = .returned (.tuple #[.int .u8 (tb F),.bool (tp F),.int .i64 (te F)])∧Below w.heap.size w w':=by
 have R0:=Lib.hid (Row.new w F);have B0:=Lib.hid ((Below.refl w.heap.size w).alloc (Nat.le_refl _) (.cells (arr F) 113));have c0:=R0.out.cell 0 (by omega);have c10:=R0.out.cell 10 (by omega);have OB:=Lib.hid (of_bad hb);unfold bad at hb
 cases h0:F 0 with
 | true =>
   rw [h0] at c0;clear hb
   go_enter Tryz.func87,Tryz.ntmps87
   go_wp2
   go_ret3
   exact ⟨ret_three OB.out.1 OB.out.2.1 OB.out.2.2,B0.out⟩
 | false =>
   have h10:F 10=false:=by rw [h0] at hb;simpa using hb
   rw [h0] at c0;rw [h10] at c10;clear hb
   go_enter Tryz.func87,Tryz.ntmps87
   go_wp2
   go_ret3
   exact ⟨ret_three OB.out.1 OB.out.2.1 OB.out.2.2,B0.out⟩
set_option maxHeartbeats 400000 in
theorem take_good (w:World) (F:Nat→Bool) (hb:bad F=false):Calls Tryz.prog 87 #[.agg (arr F)] w fun e w'=>e = .returned (.tuple #[.int .u8 (tb F),.bool (tp F),.int .i64 (te F)])∧Below w.heap.size w w':=by
 have R0:=Lib.hid (Row.new w F);have B0:=Lib.hid ((Below.refl w.heap.size w).alloc (Nat.le_refl _) (.cells (arr F) 113));have c0:=R0.out.cell 0 (by omega);have c10:=R0.out.cell 10 (by omega);have OB:=Lib.hid (of_good hb);unfold bad at hb
 simp at hb
 obtain ⟨h0,h10⟩:=hb;rw [h0] at c0;rw [h10] at c10;clear h0 h10
 go_enter Tryz.func87,Tryz.ntmps87
 go_wp2
 go_loop [2,5] (fun x i=>∃ k:Nat,k≤8∧i = .int .i64 (k+1:Nat)∧x = .int .u8 (val F k:Nat)) (fun _ i=>9 - (intOf i).toNat)
 case atStart=>exact ⟨0,by omega,rfl,rfl⟩
 case round =>
  obtain ⟨k,hk,rfl,rfl⟩:=hrel
  by_cases hlt:k < 8
  ·have c:=R0.out.cell (k+1) (by omega)
   have hv:=val_lt F k
   cases hF:F (k+1) with
   | true =>
     rw [hF] at c;have E:=Lib.hid (or_bit (val F k) k hlt hv);have V:Hid (val F (k+1)=val F k+2 ^ k):=by show val F (k+1)=_;rw [val,hF];rfl
     clear hF hv;go_wp2_with fail;refine (place_any _ k hlt).mono ?_;rintro e w' ⟨rfl,rfl⟩;go_wp2
     go_round
     case rel=>exact ⟨k+1,by omega,by go_num,by rw [V.out,E.out]⟩
     case measure=>simp [intOf];omega
   | false =>
     rw [hF] at c;have V:Hid (val F (k+1)=val F k):=by show val F (k+1)=_;rw [val,hF];rfl
     clear hF hv;go_wp2
     go_round
     case rel=>exact ⟨k+1,by omega,by go_num,by rw [V.out]⟩
     case measure=>simp [intOf];omega
  ·obtain rfl:k=8:=by omega
   go_wp2_with (refine wpList_load_row rfl 113 _ rfl _ rfl _ _ _ _ R0.out Tryz.underlying113 rfl (info_of _) ?_)
   refine (isOdd_any _ _).mono ?_;rintro e w1 ⟨rfl,b1⟩;have B1:=Lib.hid (B0.out.trans (b1.mono B0.out.size));clear b1;go_wp2
   go_ret3
   exact ⟨ret_three OB.out.1 OB.out.2.1 OB.out.2.2,B1.out⟩
theorem take_any (w:World) (F:Nat→Bool):Calls Tryz.prog 87 #[.agg (arr F)] w fun e w'=>e = .returned (.tuple #[.int .u8 (tb F),.bool (tp F),.int .i64 (te F)])∧Below w.heap.size w w':=by
 cases h:bad F with
 | true=>exact take_bad w F h
 | false=>exact take_good w F h
end Go.Proofs.YtljnkaodhfnbbaaGreatDoor.Ua
namespace Go.Proofs.YtljnkaodhfnbbaaGreatDoor.Ua
open Go.RowKit
theorem put_1 (b:Int) (i:Nat):put b 1 i=false:=by unfold put;rw [if_neg (by omega)]
theorem put_step (b:Int) (k:Nat) (h:1≤k) (i:Nat):upd (put b k) k (bit b (k - 1)) i=put b (k+1) i:=by
 unfold upd put
 by_cases e:i=k
 ·subst e;rw [if_pos rfl,if_pos (by omega)]
 ·rw [if_neg e]
  by_cases c:1≤i∧i < k
  ·rw [if_pos c,if_pos (by omega)]
  ·rw [if_neg c,if_neg (by omega)]
def no (_:Nat):Bool:=false
def Two (w wr:World) (F:Nat→Bool):Prop:=Row wr w.heap.size no∧Row wr (w.heap.size+1) F∧Below w.heap.size w wr
theorem Two.frame {w wr:World} {F:Nat→Bool} (h:Two w wr F):Row wr (w.heap.size+1) F:=h.2.1
theorem Two.res {w wr:World} {F:Nat→Bool} (h:Two w wr F):Row wr w.heap.size no:=h.1
theorem two_new (w:World) (F:Nat→Bool) (h:∀ i,i < 11→false=F i):Two w ((w.alloc (.cells (arr no) 113)).alloc (.cells (arr no) 113)) F:=by
 refine ⟨(Row.new w no).alloc _,?_,((Below.refl _ _).alloc (Nat.le_refl _) _).alloc (by simp) _⟩;have:=Row.new (w.alloc (.cells (arr no) 113)) no;have e:(w.alloc (.cells (arr no) 113)).heap.size=w.heap.size+1:=by simp
 rw [e] at this;exact this.to h
theorem Two.set_ {w wr:World} {F:Nat→Bool} (h:Two w wr F) (k:Nat) (hk:k < 11) (x:Bool):Two w (wr.setCell ⟨w.heap.size+1,k,none⟩ (.bool x)) (upd F k x) :=
 ⟨h.1.far (by simp) _,h.2.1.set_ k hk x,h.2.2.setCell (by simp) _⟩
theorem Two.below {w wr w1:World} {F:Nat→Bool} (h:Two w wr F) (hb:Below wr.heap.size wr w1):Two w w1 F :=
 ⟨h.1.below hb h.1.lt,h.2.1.below hb h.2.1.lt,h.2.2.trans (hb.mono h.2.2.size)⟩
theorem Two.to {w wr:World} {F G:Nat→Bool} (h:Two w wr F) (e:∀ i,i < 11→F i=G i):Two w wr G:=⟨h.1,h.2.1.to e,h.2.2⟩
set_option maxHeartbeats 400000 in
theorem put_any (w:World) (b:Int) (odd:Bool) (h0:0≤b) (h1:b≤255):Calls Tryz.prog 41 #[.int .u8 b,.bool odd] w fun e w'=>e = .returned (.agg (arr (frm b odd)))∧Below w.heap.size w w':=by
 have T0:=Lib.hid (two_new w (put b 1) (fun i _=>(put_1 b i).symm))
 go_enter Tryz.func41,Tryz.ntmps41
 go_wp2
 go_loopw [6] (fun i wr=>∃ k:Nat,1≤k∧k≤9∧i = .int .i64 k∧Hid (Two w wr (put b k))) (fun i _=>9 - (intOf i).toNat)
 case atStart=>exact ⟨1,by omega,by omega,rfl,T0⟩
 case round =>
  obtain ⟨k,k1,k9,rfl,T⟩:=hrel
  by_cases hlt:k < 9
  ·obtain ⟨j,rfl⟩:∃ j,k=j+1:=⟨k - 1,by omega⟩
   have c:=T.out.2.1.cell (j+1) (by omega);have f:=T.out.2.1.frozen (j+1);go_wp2_with fail;refine (place_any _ j (by omega)).mono ?_;rintro e w' ⟨rfl,rfl⟩;go_wp2
   go_roundw
   case rel=>exact ⟨j+1+1,by omega,by omega,by go_num,by rw [and_bit b j h0 h1 (by omega)];exact (T.out.set_ (j+1) (by omega) _).to (fun i _=>put_step b (j+1) (by omega) i)⟩
   case measure=>simp [intOf];omega
  ·obtain rfl:k=9:=by omega
   go_wp2_with (refine wpList_load_row rfl 113 _ rfl _ rfl _ _ _ _ T.out.2.1 Tryz.underlying113 rfl (info_of _) ?_)
   refine (isOdd_any _ _).mono ?_;rintro e w1 ⟨rfl,b1⟩;have T1:=Lib.hid (T.out.below b1);have c9:=T1.out.2.1.cell 9 (by omega);have c10:=T1.out.2.1.cell 10 (by omega);have f9:=T1.out.2.1.frozen 9;have f10:=T1.out.2.1.frozen 10;clear b1;have T2:=Lib.hid ((T1.out.set_ 9 (by omega) (par (put b 9) 9 != odd)).set_ 10 (by omega) true)
   go_wp2_with (first
    | (refine wpList_load_row rfl 113 _ rfl _ rfl _ _ _ _ T2.out.2.1 Tryz.underlying113 rfl (info_of _) ?_)
    | (refine wpList_store_row rfl 113 _ _ rfl _ _ rfl rfl _ _ T2.out.1 (info_of _) rfl (arr_one _) ?_))
   refine bodyPost_ret (results_cell_row rfl _ _ _ _ _ _ _ rfl (T2.out.1.row _) Tryz.underlying113 rfl (info_of _)) rfl ⟨rfl,?_⟩;exact below_setRow T2.out.2.2 _ _ (Nat.le_refl _)
end Go.Proofs.YtljnkaodhfnbbaaGreatDoor.Ua
namespace Go.Proofs.YtljnkaodhfnbbaaGreatDoor.Ua
open Go.RowKit
theorem turn_0 (F:Nat→Bool) (m:Int) (i:Nat):turn F m 0 i=F i:=by unfold turn;rw [if_neg (by omega)]
theorem turn_yes {F:Nat→Bool} {m:Int} {k:Nat} (h:bit m k=true) (i:Nat):upd (turn F m k) k (!turn F m k k) i=turn F m (k+1) i:=by
 unfold upd turn
 by_cases e:i=k
 ·subst e;rw [if_pos rfl,if_neg (by omega),if_pos (by omega),h];simp
 ·rw [if_neg e]
  by_cases c:i < k
  ·rw [if_pos c,if_pos (by omega)]
  ·rw [if_neg c,if_neg (by omega)]
theorem turn_no {F:Nat→Bool} {m:Int} {k:Nat} (h:bit m k=false) (i:Nat):turn F m k i=turn F m (k+1) i:=by
 unfold turn
 by_cases e:i=k
 ·subst e;rw [if_neg (by omega),if_pos (by omega),h];simp
 ·by_cases c:i < k
  ·rw [if_pos c,if_pos (by omega)]
  ·rw [if_neg c,if_neg (by omega)]
def Own2 (w wr:World) (F:Nat→Bool):Prop:=Row wr w.heap.size F∧Row wr (w.heap.size+1) no∧Below w.heap.size w wr
theorem own2_new (w:World) (F:Nat→Bool):Own2 w ((w.alloc (.cells (arr F) 113)).alloc (.cells (arr no) 113)) F:=by
 refine ⟨(Row.new w F).alloc _,?_,((Below.refl _ _).alloc (Nat.le_refl _) _).alloc (by simp) _⟩;have:=Row.new (w.alloc (.cells (arr F) 113)) no;have e:(w.alloc (.cells (arr F) 113)).heap.size=w.heap.size+1:=by simp
 rw [e] at this;exact this
theorem Own2.set_ {w wr:World} {F:Nat→Bool} (h:Own2 w wr F) (k:Nat) (hk:k < 11) (x:Bool):Own2 w (wr.setCell ⟨w.heap.size,k,none⟩ (.bool x)) (upd F k x) :=
 ⟨h.1.set_ k hk x,h.2.1.far (by simp) _,h.2.2.setCell (by simp) _⟩
theorem Own2.to {w wr:World} {F G:Nat→Bool} (h:Own2 w wr F) (e:∀ i,i < 11→F i=G i):Own2 w wr G:=⟨h.1.to e,h.2.1,h.2.2⟩
set_option maxHeartbeats 400000 in
theorem turn_any (w:World) (F:Nat→Bool) (m:Int):Calls Tryz.prog 43 #[.agg (arr F),.int .i64 m] w fun e w'=>e = .returned (.agg (arr (turn F m 11)))∧Below w.heap.size w w':=by
 have T0:=Lib.hid ((own2_new w F).to (fun i _=>(turn_0 F m i).symm))
 go_enter Tryz.func43,Tryz.ntmps43
 go_wp2
 go_loopw [6] (fun i wr=>∃ k:Nat,k≤11∧i = .int .i64 k∧Hid (Own2 w wr (turn F m k))) (fun i _=>11 - (intOf i).toNat)
 case atStart=>exact ⟨0,by omega,rfl,T0⟩
 case round =>
  obtain ⟨k,hk,rfl,T⟩:=hrel
  by_cases hlt:k < 11
  ·have c:=T.out.1.cell k hlt
   have f:=T.out.1.frozen k
   cases hb:bit m k with
   | true =>
     have TY:=Lib.hid (turn_yes (F:=F) hb);have tt:=(test_one m k).trans hb;clear hb;go_wp2
     go_roundw
     case rel=>exact ⟨k+1,by omega,by go_num,(T.out.set_ k hlt _).to (fun i _=>TY.out i)⟩
     case measure=>simp [intOf];omega
   | false =>
     have TN:=Lib.hid (turn_no (F:=F) hb);have tt:=(test_one m k).trans hb;clear hb;go_wp2
     go_roundw
     case rel=>exact ⟨k+1,by omega,by go_num,T.out.to (fun i _=>TN.out i)⟩
     case measure=>simp [intOf];omega
  ·obtain rfl:k=11:=by omega
   go_wp2_with (first
    | (refine wpList_load_row rfl 113 _ rfl _ rfl _ _ _ _ T.out.1 Tryz.underlying113 rfl (info_of _) ?_)
    | (refine wpList_store_row rfl 113 _ _ rfl _ _ rfl rfl _ _ T.out.2.1 (info_of _) rfl (arr_one _) ?_))
   refine bodyPost_ret (results_cell_row rfl _ _ _ _ _ _ _ rfl (T.out.2.1.row _) Tryz.underlying113 rfl (info_of _)) rfl ⟨rfl,?_⟩;exact below_setRow T.out.2.2 _ _ (by omega)
end Go.Proofs.YtljnkaodhfnbbaaGreatDoor.Ua
namespace Go.Proofs.YtljnkaodhfnbbaaGreatDoor.Sa
open Go.RowKit Go.Proofs.YtljnkaodhfnbbaaGreatDoor.Sp
open Tk (GoodP Glo goodB goodB_true)
open Wi (PlainOf lowB Made push_step)
open Ua (arr upd Row no copy_frame results_frame ret_arr below_setRow store_new)
def hf (low:Int→Bool) (g:Int→Int) (N:Int) (k i:Nat):Bool:=if i < k then heard low g N i else false
theorem hf_0 (low:Int→Bool) (g:Int→Int) (N:Int) (i:Nat):false=hf low g N 0 i:=by unfold hf;rw [if_neg (by omega)]
theorem hf_all (low:Int→Bool) (g:Int→Int) (N:Int) (i:Nat) (h:i < 11):hf low g N 11 i=heard low g N i:=by unfold hf;rw [if_pos h]
theorem hf_step (low:Int→Bool) (g:Int→Int) (N:Int) (k:Nat) {x:Bool} (e:x=heard low g N k) (i:Nat):upd (hf low g N k) k x i=hf low g N (k+1) i:=by
 unfold upd hf
 by_cases c:i=k
 ·subst c;rw [if_pos rfl,if_pos (by omega),e]
 ·rw [if_neg c]
  by_cases d:i < k
  ·rw [if_pos d,if_pos (by omega)]
  ·rw [if_neg d,if_neg (by omega)]
end Go.Proofs.YtljnkaodhfnbbaaGreatDoor.Sa
namespace Go.Proofs.YtljnkaodhfnbbaaGreatDoor.Sa
open Go.RowKit Go.Proofs.YtljnkaodhfnbbaaGreatDoor.Sp
open Tk (GoodP Glo global_any local_any)
open Wi (PlainOf lowB high_any fall_any FallV FallPost)
open Ua (arr upd Row Two two_new no tb tp te take_any copy_frame results_frame ret_arr ret_three below_setRow store_new)
def hi (low:Int→Bool) (g:Int→Int) (b:Int):Nat→Nat
 | 0=>0
 | k+1=>hi low g b k+(if low (g (b+7+k)) then 0 else 1)
theorem hi_le (low:Int→Bool) (g:Int→Int) (b:Int):∀ k,hi low g b k≤k
 | 0=>Nat.le_refl _
 | k+1=>by have:=hi_le low g b k;unfold hi;split <;> omega
theorem hi_low {low:Int→Bool} {g:Int→Int} {b:Int} {k:Nat} (h:low (g (b+7+k))=true):hi low g b (k+1)=hi low g b k:=by rw [hi,if_pos h,Nat.add_zero]
theorem hi_high {low:Int→Bool} {g:Int→Int} {b:Int} {k:Nat} (h:low (g (b+7+k))=false):hi low g b (k+1)=hi low g b k+1:=by rw [hi,if_neg (by simp [h])]
theorem hi_maj (low:Int→Bool) (g:Int→Int) (b:Int):decide ((1:Int) < (hi low g b 3:Nat))=maj (!low (g (b+7))) (!low (g (b+8))) (!low (g (b+9))):=by
 have e:hi low g b 3=0+(if low (g (b+7)) then 0 else 1)+(if low (g (b+8)) then 0 else 1)+(if low (g (b+9)) then 0 else 1):=by
  show 0+(if low (g (b+7+(0:Nat))) then 0 else 1)+(if low (g (b+7+(1:Nat))) then 0 else 1)+(if low (g (b+7+(2:Nat))) then 0 else 1)=_
  rw [show b+7+((0:Nat):Int)=b+7 by omega,show b+7+((1:Nat):Int)=b+8 by omega,show b+7+((2:Nat):Int)=b+9 by omega]
 rw [e]
 cases low (g (b+7)) <;> cases low (g (b+8)) <;> cases low (g (b+9)) <;> rfl
set_option maxHeartbeats 400000 in
theorem mostly_any (w:World) (v u:Value) (l:List S2) (P:Sp w v l) (n:Nat) (A R:Nat→Int) (S:Tk.Steps w u n A R) (g:GoodP n A R) (b:Int) (b0:0≤b) (b1:b≤5000000000) :
 Calls Tryz.prog 152 #[v,u,.int .i64 b] w fun e w'=>e = .returned (.bool (maj (!lowB l (Glo A R n (b+7))) (!lowB l (Glo A R n (b+8))) (!lowB l (Glo A R n (b+9)))))∧Below w.heap.size w w':=by
 have P0:=Lib.hid P;have S0:=Lib.hid S;have G:=Lib.hid g;have HM:=Lib.hid (hi_maj (lowB l) (Glo A R n) b);clear P S g
 go_enter Tryz.func152,Tryz.ntmps152
 go_wp2
 go_loopw [7,9] (fun h i wr=>∃ k:Nat,k≤3∧i = .int .i64 k∧h = .int .i64 (hi (lowB l) (Glo A R n) b k:Nat)∧Below w.heap.size w wr) (fun _ i _=>3 - (intOf i).toNat)
 case atStart=>exact ⟨0,by omega,rfl,rfl,Below.refl _ _⟩
 case round =>
  obtain ⟨k,hk,rfl,rfl,hb⟩:=hrel;have q:=hi_le (lowB l) (Glo A R n) b k;have HB:=Lib.hid hb
  by_cases hlt:k < 3
  ·have s1:=Lib.hid (S0.out.below hb)
   have p1:=Lib.hid (P0.out.below hb);clear hb;go_wp2_with fail;refine (global_any _ _ _ _ _ (b+7+k) s1.out G.out).mono ?_;rintro e w1 ⟨rfl,c1⟩;have p2:=Lib.hid (p1.out.below c1);have B1:=Lib.hid (HB.out.trans (c1.mono HB.out.size));clear c1
   cases hL:lowB l (Glo A R n (b+7+k)) with
   | true =>
     have E:=Lib.hid (hi_low hL);have HA:=Lib.hid (high_any _ _ _ p2.out (Glo A R n (b+7+k)));rw [hL] at HA;clear hL;go_wp2_with fail;refine HA.out.mono ?_;rintro e w2 ⟨rfl,c2⟩;have B2:=Lib.hid (B1.out.trans (c2.mono B1.out.size));clear c2;go_wp2
     go_roundw
     case rel=>exact ⟨k+1,by omega,by go_num,by rw [E.out],B2.out⟩
     case measure=>simp [intOf];omega
   | false =>
     have E:=Lib.hid (hi_high hL);have HA:=Lib.hid (high_any _ _ _ p2.out (Glo A R n (b+7+k)));rw [hL] at HA;clear hL;go_wp2_with fail;refine HA.out.mono ?_;rintro e w2 ⟨rfl,c2⟩;have B2:=Lib.hid (B1.out.trans (c2.mono B1.out.size));clear c2;go_wp2
     go_roundw
     case rel=>exact ⟨k+1,by omega,by go_num,by rw [E.out];go_num,B2.out⟩
     case measure=>simp [intOf];omega
  ·obtain rfl:k=3:=by omega
   clear hb;generalize hi (lowB l) (Glo A R n) b 3=h at *;go_wp2
   go_ret
   exact ⟨Ua.ret_bool HM.out,HB.out⟩
set_option maxHeartbeats 400000 in
theorem bits_any (w:World) (v u:Value) (l:List S2) (P:Sp w v l) (n:Nat) (A R:Nat→Int) (S:Tk.Steps w u n A R) (g:GoodP n A R) (t:Int) :
 Calls Tryz.prog 97 #[v,u,.int .i64 t] w fun e w'=>e = .returned (.agg (arr (heard (lowB l) (Glo A R n) (Tk.Loc A R n t))))∧Below w.heap.size w w':=by
 have T0:=Lib.hid (two_new w (hf (lowB l) (Glo A R n) (Tk.Loc A R n t) 0) (fun i _=>hf_0 _ _ _ i));have P0:=Lib.hid P;have S0:=Lib.hid S;have G:=Lib.hid g;have N:=Loc_all A R n g t;have z2:((w.alloc (.cells (arr no) 113)).alloc (.cells (arr no) 113)).heap.size=w.heap.size+1+1:=by simp
 have LA:=Lib.hid (local_any _ u n A R (S.below T0.out.2.2) g t);clear P S g
 go_enter Tryz.func97,Tryz.ntmps97
 go_wp2_with fail;refine LA.out.mono ?_;rintro e w1 ⟨rfl,b1⟩;have T1:=Lib.hid (T0.out.below b1);clear b1 LA T0;generalize hL:Tk.Loc A R n t=L at *;have HL:=Lib.hid hL;clear hL;obtain ⟨N0,N1⟩:=N;go_wp2
 go_loopw [13] (fun i wr=>∃ k:Nat,k≤11∧i = .int .i64 k∧Hid (Two w wr (hf (lowB l) (Glo A R n) L k))) (fun i _=>11 - (intOf i).toNat)
 case atStart=>exact ⟨0,by omega,rfl,T1⟩
 case round =>
  obtain ⟨k,hk,rfl,T⟩:=hrel
  by_cases hlt:k < 11
  ·have HS:=Lib.hid (fun x (e:x=heard (lowB l) (Glo A R n) L k)=>hf_step (lowB l) (Glo A R n) L k e)
   have M:=Lib.hid (mostly_any wr v u l (P0.out.below T.out.2.2) n A R (S0.out.below T.out.2.2) G.out (L+16 * k) (by omega) (by omega));go_wp2_with fail;refine M.out.mono ?_;rintro e w2 ⟨rfl,b2⟩;have T2:=Lib.hid (T.out.below b2);have c:=T2.out.2.1.cell k (by omega);have f:=T2.out.2.1.frozen k;clear b2 M;go_wp2
   go_roundw
   case rel=>exact ⟨k+1,by omega,by go_num,Lib.hid ((T2.out.set_ k (by omega) _).to (fun i _=>HS.out _ rfl i))⟩
   case measure=>simp [intOf];omega
  ·obtain rfl:k=11:=by omega
   go_wp2_with ((with_reducible refine copy_frame (o:=⟨some 26,_,_,_,_,_⟩) rfl rfl _ _ _ rfl rfl rfl _ _ _ _ ?_ ?_ ?_ T.out.frame T.out.res ?_);(exact rfl);(exact rfl);(exact rfl))
   refine bodyPost_ret (results_frame rfl _ _ _ _ rfl (T.out.1.row _)) rfl ⟨ret_arr fun i hi=>by rw [HL.out];exact hf_all _ _ _ i hi,?_⟩;exact below_setRow T.out.2.2 _ _ (Nat.le_refl _)
noncomputable def HearV (x l:List S2) (A R:Nat→Int) (n:Nat) (f t:Int):Int×Bool×Int :=
 if (FallV x f t).2 then (tb (heard (lowB l) (Glo A R n) (Tk.Loc A R n (FallV x f t).1)),tp (heard (lowB l) (Glo A R n) (Tk.Loc A R n (FallV x f t).1)),te (heard (lowB l) (Glo A R n) (Tk.Loc A R n (FallV x f t).1))) else (0,false,3)
theorem hear_no {x l:List S2} {A R:Nat→Int} {n:Nat} {f t p:Int} (h:FallV x f t=(p,false)):(0,false,3)=HearV x l A R n f t:=by
 unfold HearV;rw [h];rfl
theorem hear_yes {x l:List S2} {A R:Nat→Int} {n:Nat} {f t p:Int} (h:FallV x f t=(p,true)):(tb (heard (lowB l) (Glo A R n) (Tk.Loc A R n p)),tp (heard (lowB l) (Glo A R n) (Tk.Loc A R n p)),te (heard (lowB l) (Glo A R n) (Tk.Loc A R n p)))=HearV x l A R n f t:=by
 unfold HearV;rw [h];rfl
def HearPost (w:World) (l:List S2) (A R:Nat→Int) (n:Nat) (f t:Int) (e:Ending) (w':World):Prop :=
 ∃ x,PlainOf l x∧e = .returned (.tuple #[.int .u8 (HearV x l A R n f t).1,.bool (HearV x l A R n f t).2.1,.int .i64 (HearV x l A R n f t).2.2])∧Below w.heap.size w w'
theorem ret_hear {a c:Int} {b:Bool} {q:Int×Bool×Int} (h:(a,b,c)=q):Ending.returned (.tuple #[.int .u8 a,.bool b,.int .i64 c]) = .returned (.tuple #[.int .u8 q.1,.bool q.2.1,.int .i64 q.2.2]):=by rw [← h]
set_option maxHeartbeats 400000 in
theorem hear_any (w:World) (v u:Value) (l:List S2) (P:Sp w v l) (hl:l.length < 1099511627776) (n:Nat) (A R:Nat→Int) (S:Tk.Steps w u n A R) (g:GoodP n A R) (f t:Int) :
 Calls Tryz.prog 39 #[v,u,.int .i64 f,.int .i64 t] w (HearPost w l A R n f t):=by
 have P0:=Lib.hid P;have S0:=Lib.hid S;have G:=Lib.hid g;clear P S g
 go_enter Tryz.func39,Tryz.ntmps39
 go_wp2_with fail;refine (fall_any _ _ _ P0.out hl f t).mono ?_;rintro e w1 ⟨x,hx,rfl,b1⟩;have PX:=Lib.hid hx;have B1:=Lib.hid b1;have P1:=Lib.hid (P0.out.below b1);have S1:=Lib.hid (S0.out.below b1);clear b1 hx P0 S0;generalize hv:FallV x f t=q;obtain ⟨p,y⟩:=q
 cases y with
 | false =>
   have E:=Lib.hid (hear_no (l:=l) (A:=A) (R:=R) (n:=n) hv);clear hv;go_wp2
   go_ret3
   exact ⟨x,PX.out,ret_hear E.out,B1.out⟩
 | true =>
   have E:=Lib.hid (hear_yes (l:=l) (A:=A) (R:=R) (n:=n) hv);clear hv;go_wp2_with fail;refine (bits_any _ _ _ _ P1.out _ _ _ S1.out G.out p).mono ?_;rintro e w2 ⟨rfl,b2⟩;have B2:=Lib.hid (B1.out.trans (b2.mono B1.out.size));clear b2;generalize heard (lowB l) (Glo A R n) (Tk.Loc A R n p)=F at *;go_wp2_with fail;refine (take_any _ F).mono ?_;rintro e w3 ⟨rfl,b3⟩;have B3:=Lib.hid (B2.out.trans (b3.mono B2.out.size));clear b3;go_wp2
   go_ret3
   exact ⟨x,PX.out,ret_hear E.out,B3.out⟩
end Go.Proofs.YtljnkaodhfnbbaaGreatDoor.Sa
namespace Go.Proofs.YtljnkaodhfnbbaaGreatDoor.Wb
open Go.RowKit
open Sp (S2)
open Wi (PlainOf FallV lowB)
open Se (lows lows_mem Glo_mono)
open Sa (HearV heard heard_true Glo_parts PP_span lt_Glo fall_first)
open Tk (GoodP Glo Glo_is PP)
open Ua (bit par val frm turn bad tb tp te par_congr val_congr and_i64)
open Fi (cd dif roundV codeV dif_one)
theorem starts {n:Nat} {A R:Nat→Int} (g:Sa.Calm n A R 10000) {m:Int} (m0:0≤m) (m1:m≤1073741824):0≤Glo A R n m∧Glo A R n m≤1100000000∧Glo A R n m < Glo A R n (m+16):=by
 have t:=Glo_parts g m0 (by omega);have t0:=(Glo_is A R n m).lo;have t2:Glo A R n m≤1100000000:=by
  have b:=PP_span g (show 0≤Glo A R n m from t0);rw [Tk.PP_zero g.good] at b
  omega
 exact ⟨t0,t2,lt_Glo g (by omega) (by omega)⟩
theorem t_congr {F G:Nat→Bool} (h:∀ i,i < 11→F i=G i):tb F=tb G∧tp F=tp G∧te F=te G:=by
 have b:bad F=bad G:=by unfold bad;rw [h 0 (by omega),h 10 (by omega)]
 unfold tb tp te;rw [b,val_congr 8 (fun i _ hi=>h i (by omega)),par_congr 9 (fun i _ hi=>h i (by omega))];exact ⟨rfl,rfl,rfl⟩
theorem hear_true {n n':Nat} {A R A' R':Nat→Int} (g:Sa.Calm n A R 10000) (g':Sa.Calm n' A' R' 10000) {m:Int} (m0:0≤m) (m1:m≤1073741824) {F:Nat→Bool} (hF:F 0=false) {l x:List S2} (h:PlainOf (lows (Glo A R n) F m 11) l) (hx:PlainOf l x) :
 HearV x l A' R' n' 0 2147483648=(tb F,tp F,te F):=by
 obtain ⟨t0,t1,t2⟩:=starts g m0 m1;have fl:FallV x 0 2147483648=(Glo A R n m,true):=by
  refine fall_first hx ((h.2 _).2 ⟨_,lows_mem.2 ⟨0,by omega,hF,rfl⟩,?_,?_⟩) (fun u hu hl=>?_) t0 (by omega)
  ·show Glo A R n (m+16 * ((0:Nat):Int))≤_
   rw [show m+16 * ((0:Nat):Int)=m by omega]
   omega
  ·show _ < Glo A R n (m+16 * ((0:Nat):Int)+16)
   rw [show m+16 * ((0:Nat):Int)=m by omega];exact t2
  ·obtain ⟨s,hs,a,b⟩:=(h.2 u).1 hl
   obtain ⟨i,_,_,rfl⟩:=lows_mem.1 hs;have:=Glo_mono (A:=A) (R:=R) (n:=n) (show m≤m+16 * (i:Int) by omega);simp only at a
   omega
 obtain ⟨e1,e2,e3⟩:=t_congr fun i hi=>heard_true g g' m0 m1 h i hi;unfold HearV;rw [fl,if_pos rfl]
 show (tb _,tp _,te _)=_
 rw [e1,e2,e3]
theorem turn_zero {F:Nat→Bool} {m:Int} (h:bit m 0=false):turn F m 11 0=F 0:=by
 unfold turn;rw [if_pos (by omega),h]
 cases F 0 <;> rfl
theorem and_2046 (x:Int):bit (bits BinOp.and .i64 x 2046) 0=false:=by
 rw [show bits BinOp.and .i64 x 2046=(((x % 18446744073709551616).toNat &&& 2046:Nat):Int) from and_i64 x 2046 (by omega)];generalize (x % 18446744073709551616).toNat=X;have h:(X &&& 2046).testBit 0=false:=by rw [Nat.testBit_and];simp
 rw [Nat.testBit_zero] at h;unfold bit;have h:=of_decide_eq_false h;refine decide_eq_false ?_;simp only [Int.pow_zero]
 omega
section
variable {i:Nat} (hi:i < 8) {G:Nat→Bool} (h0:G 0=false)
include h0
theorem wb_no (he:te G≠0):0 < dif (frm (cd i) true) G 11:=by
 have hb:bad G=true:=by
  cases h:bad G with
  | true=>rfl
  | false=>exact absurd (by unfold te;rw [h];rfl) he
 have h10:G 10=false:=by
  unfold bad at hb;rw [h0] at hb
  cases h:G 10 with
  | true=>rw [h] at hb;exact Bool.noConfusion hb
  | false=>rfl
 rw [dif_one (by rw [h10,Ua.frm_10];decide)]
 omega
omit h0
include hi
theorem wb_yes (he:te G=0):3 < dif (frm (cd i) true) G 11∨(roundV (tb G) (tp G)).2≠0∨((roundV (tb G) (tp G)).1=i∧dif (frm (cd i) true) G 11=0):=by
 have hb:bad G=false:=by
  cases h:bad G with
  | false=>rfl
  | true=>unfold te at he;rw [h] at he;exact absurd he (by decide)
 by_cases ho:(roundV (tb G) (tp G)).2=0
 ·obtain ⟨m,e,⟨h1,h2⟩ | ⟨h1,h2⟩⟩:=Fi.safe hi hb ho
  ·exact .inr (.inr ⟨by rw [e,h1],h2⟩)
  ·exact .inl h2
 ·exact .inr (.inl ho)
end
end Go.Proofs.YtljnkaodhfnbbaaGreatDoor.Wb
namespace Go.Proofs.YtljnkaodhfnbbaaGreatDoor.Ro
open Go.RowKit
open Rw (Rd Ow At)
open Fl (R4 z4 rec4 K4 okR hdr rat goodF)
abbrev E5:=Int×Int×Int×Int×Int
def z5:E5:=(0,0,0,0,0)
def endE:E5:=(4,0,0,0,0)
def endR:R4:=(4,0,0,0)
def ent (x:E5):Value:=.agg #[.int .i64 x.1,.int .i64 x.2.1,.int .i64 x.2.2.1,.int .i64 x.2.2.2.1,.int .i64 x.2.2.2.2]
def K5:Rw.Kind E5:=⟨fun x=>[.int .i64 x.1,.int .i64 x.2.1,.int .i64 x.2.2.1,.int .i64 x.2.2.2.1,.int .i64 x.2.2.2.2],5,by decide,fun _=>rfl,fun _ u h=>by simp at h;rcases h with rfl | rfl | rfl | rfl | rfl <;> rfl,z5⟩
def place (s f r:Int):Prop:=1≤s∧s≤16∧0≤f∧f≤63∧1≤r∧r≤255
instance (s f r:Int):Decidable (place s f r):=by unfold place;infer_instance
def placeB (s f r:Int):Bool:=decide (place s f r)
def okE (x:E5):Prop:=(1≤x.1∧x.1≤3∧(x.1≠3∨x.2.2.2.2=0)∧place x.2.1 x.2.2.1 x.2.2.2.1∧0≤x.2.2.2.2∧x.2.2.2.2≤3)∨(x.1=4∧x.2.1=0∧x.2.2.1=0∧x.2.2.2.1=0∧x.2.2.2.2=0)
instance (x:E5):Decidable (okE x):=by unfold okE;infer_instance
def okB (x:E5):Bool:=decide (okE x)
theorem ok_yes {x:E5} (h:okE x):okB x=true:=decide_eq_true h
theorem ok_no {x:E5} (h:¬ okE x):okB x=false:=decide_eq_false h
def putR (x:E5):R4:=if okE x then (64 * x.2.2.2.2+x.1,x.2.1,x.2.2.1,x.2.2.2.1) else z4
def putN (x:E5):Int:=if okE x then 0 else 1
def takeX (v:R4):E5:=(v.1 % 64,v.2.1,v.2.2.1,v.2.2.2,v.1 / 64)
def takeE (v:R4):E5:=if okE (takeX v) then takeX v else z5
def takeN (v:R4):Int:=if okE (takeX v) then 0 else 2
theorem okE_bounds {x:E5} (h:okE x):(1≤x.1∧x.1≤4)∧(0≤x.2.1∧x.2.1≤16)∧(0≤x.2.2.1∧x.2.2.1≤63)∧(0≤x.2.2.2.1∧x.2.2.2.1≤255)∧0≤x.2.2.2.2∧x.2.2.2.2≤3:=by
 unfold okE place at h
 omega
theorem ok_slot {x:E5} (h:okE x):x.1≠4↔0 < x.2.1:=by
 unfold okE place at h
 omega
theorem at5 {w:World} {b off:Nat} {l:List E5} (h:At K5 w b off l) (i:Nat) (hi:i < l.length) :
 w.cell? ⟨b,off+i * 5,none⟩=some (.int .i64 (l.getD i z5).1)∧w.cell? ⟨b,off+i * 5+1,none⟩=some (.int .i64 (l.getD i z5).2.1)∧w.cell? ⟨b,off+i * 5+2,none⟩=some (.int .i64 (l.getD i z5).2.2.1)∧w.cell? ⟨b,off+i * 5+3,none⟩=some (.int .i64 (l.getD i z5).2.2.2.1)∧w.cell? ⟨b,off+i * 5+4,none⟩=some (.int .i64 (l.getD i z5).2.2.2.2) :=
 ⟨h i hi 0 _ rfl,h i hi 1 _ rfl,h i hi 2 _ rfl,h i hi 3 _ rfl,h i hi 4 _ rfl⟩
theorem infoE:(Tryz.prog.info? 87).map (fun i=>(i.zero,i.size,i.bytes))=some (some (.agg #[.int .i64 0,.int .i64 0,.int .i64 0,.int .i64 0,.int .i64 0]),5,40):=by kernel_rfl
theorem eq_ent (x y:E5) (w:World):(Op.equalIn 10000 87 (.agg #[.int .i64 x.1,.int .i64 x.2.1,.int .i64 x.2.2.1,.int .i64 x.2.2.2.1,.int .i64 x.2.2.2.2]) (.agg #[.int .i64 y.1,.int .i64 y.2.1,.int .i64 y.2.2.1,.int .i64 y.2.2.2.1,.int .i64 y.2.2.2.2])).run Tryz.prog w = .ok (decide (x=y)) w:=by
 have u3:=Tryz.underlying3;have a3:=Tryz.isAgg3;have z3:=Tryz.sizeOf3;have hS:Tryz.prog.underlying 87=some (.struct (Tryz.prog.fieldsOf 87)):=by kernel_rfl
 have hp:Tryz.prog.stoodInHeld 87=false:=by kernel_rfl
 obtain ⟨x1,x2,x3,x4,x5⟩:=x;obtain ⟨y1,y2,y3,y4,y5⟩:=y;rw [show (10000:Nat)=9999+1 from rfl,run_equalIn_agg w 9999 87 _ _ hS hp];simp only [Program.fieldsOf,Tryz.underlying87];go_simp
 by_cases h1:x1=y1 <;> by_cases h2:x2=y2 <;> by_cases h3:x3=y3 <;> by_cases h4:x4=y4 <;> by_cases h5:x5=y5 <;> simp [h1,h2,h3,h4,h5]
end Go.Proofs.YtljnkaodhfnbbaaGreatDoor.Ro
namespace Go.Proofs.YtljnkaodhfnbbaaGreatDoor.Ro
open Go.RowKit
open Rw (Rd Ow At)
open Fl (R4 z4 rec4 K4 okR okL hdr rat goodF)
def eat (l:List E5) (i:Nat):E5:=l.getD i z5
def prevS (l:List E5) (i:Nat):Int:=if i=0 then 0 else (eat l (i - 1)).2.1
def okAt (l:List E5) (i:Nat):Prop:=okE (eat l i)∧prevS l i < (eat l i).2.1
instance (l:List E5) (i:Nat):Decidable (okAt l i):=by unfold okAt;infer_instance
def mayP (l:List E5):Prop:=∀ i,i < l.length→okAt l i
instance (l:List E5):Decidable (mayP l):=by unfold mayP;infer_instance
def mayB (l:List E5):Bool:=decide (mayP l)
theorem prev_zero (l:List E5):prevS l 0=0:=rfl
theorem prev_next (l:List E5) (k:Nat):prevS l (k+1)=(eat l k).2.1:=rfl
theorem prev_ge {l:List E5} {n:Nat} (h:∀ i,i < n→okAt l i) (k:Nat) (hk:k≤n):(k:Int)≤prevS l k:=by
 induction k with
 | zero=>exact Int.le_refl _
 | succ k ih =>
   have h1:=ih (by omega);have h2:=(h k (by omega)).2;rw [prev_next]
   omega
theorem may_len {l:List E5} (h:mayP l):l.length≤16:=by
 have h1:=prev_ge h l.length (Nat.le_refl _)
 rcases e:l.length with _ | n
 ·omega
 ·rw [e,prev_next] at h1
  have:=(okE_bounds (h n (by omega)).1).2.1.2
  omega
theorem okAt_iff {l:List E5} {k:Nat} (h:∀ i,i < k→okAt l i):okAt l k↔okE (eat l k)∧(eat l k).1≠4∧¬ (0 < k∧(eat l k).2.1≤prevS l k):=by
 have h1:=prev_ge h k (Nat.le_refl _)
 constructor
 ·intro g
  exact ⟨g.1,(ok_slot g.1).2 (by have:=g.2;omega),by have:=g.2;omega⟩
 ·intro ⟨g1,g2,g3⟩
  refine ⟨g1,?_⟩;have:=(ok_slot g1).1 g2
  by_cases e:k=0
  ·subst e;rw [prev_zero];exact this
  ·omega
theorem eat_get {l:List E5} {i:Nat} (h:i < l.length):l[i]? = some (eat l i):=by
 unfold eat;rw [List.getD_eq_getElem?_getD,List.getElem?_eq_getElem h]
 rfl
theorem eat_mem {l:List E5} {i:Nat} (h:i < l.length):eat l i∈l:=List.mem_of_getElem? (eat_get h)
def scan:List R4→Option (List E5)
 | []=>some []
 | v :: r=>if okE (takeX v) then (if (takeX v).1=4 then some [] else (scan r).map (takeX v :: ·)) else none
def tabO (p:Int) (l:List R4):Option (List E5):=if goodF p l then (scan (l.drop 1)).filter mayB else none
def tabL (p:Int) (l:List R4):List E5:=(tabO p l).getD []
def tabN (p:Int) (l:List R4):Int:=if (tabO p l).isSome then 0 else 2
theorem tab_may (p:Int) (l:List R4):mayP (tabL p l):=by
 unfold tabL
 rcases e:tabO p l with _ | m
 ·intro i hi;exact absurd hi (by simp)
 ·unfold tabO at e
  by_cases h:goodF p l
  ·rw [if_pos h] at e
   rw [Option.filter_eq_some_iff] at e;exact of_decide_eq_true e.2
  ·rw [if_neg h] at e;cases e
theorem tab_bad {p:Int} {l:List R4} (h:¬ goodF p l):tabL p l = []∧tabN p l=2:=by
 have e:tabO p l=none:=by unfold tabO;rw [if_neg h]
 unfold tabL tabN;rw [e];exact ⟨rfl,rfl⟩
theorem tab_stop {p:Int} {l:List R4} (h:scan (l.drop 1)=none):tabL p l = []∧tabN p l=2:=by
 have e:tabO p l=none:=by unfold tabO;rw [h];split <;> rfl
 unfold tabL tabN;rw [e];exact ⟨rfl,rfl⟩
theorem tab_yes {p:Int} {l:List R4} {m:List E5} (hg:goodF p l) (h:scan (l.drop 1)=some m) (hm:mayP m):tabL p l=m∧tabN p l=0:=by
 have e:tabO p l=some m:=by unfold tabO;rw [if_pos hg,h,Option.filter_eq_some_iff];exact ⟨rfl,decide_eq_true hm⟩
 unfold tabL tabN;rw [e];exact ⟨rfl,rfl⟩
theorem tab_no {p:Int} {l:List R4} {m:List E5} (h:scan (l.drop 1)=some m) (hm:¬ mayP m):tabL p l = []∧tabN p l=2:=by
 have e:tabO p l=none:=by
  unfold tabO
  split
  ·rw [h]
   show (some m).filter mayB=none
   simp only [Option.filter,mayB,decide_eq_false hm,Bool.false_eq_true,if_false]
  ·rfl
 unfold tabL tabN;rw [e];exact ⟨rfl,rfl⟩
def Read (r:List R4) (k:Nat) (L:List E5):Prop:=L.length=k∧scan r=(scan (r.drop k)).map (L ++ ·)
theorem read_start (r:List R4):Read r 0 []:=⟨rfl,by simp⟩
theorem drop_cons {r:List R4} {k:Nat} (h:k < r.length):r.drop k=rat r k :: r.drop (k+1):=by
 rw [List.drop_eq_getElem_cons h]
 congr 1
 unfold rat;rw [List.getD_eq_getElem?_getD,List.getElem?_eq_getElem h]
 rfl
theorem read_bad {r:List R4} {k:Nat} {L:List E5} (h:Read r k L) (hk:k < r.length) (hb:¬ okE (takeX (rat r k))):scan r=none:=by
 rw [h.2,drop_cons hk];simp only [scan,if_neg hb,Option.map_none]
theorem read_end {r:List R4} {k:Nat} {L:List E5} (h:Read r k L) (hk:k < r.length) (hb:okE (takeX (rat r k))) (h4:(takeX (rat r k)).1=4):scan r=some L:=by
 rw [h.2,drop_cons hk];simp only [scan,if_pos hb,if_pos h4,Option.map_some,List.append_nil]
theorem read_next {r:List R4} {k:Nat} {L:List E5} (h:Read r k L) (hk:k < r.length) (hb:okE (takeX (rat r k))) (h4:(takeX (rat r k)).1≠4):Read r (k+1) (L ++ [takeX (rat r k)]):=by
 refine ⟨by rw [List.length_append,h.1];rfl,?_⟩;rw [h.2,drop_cons hk];simp only [scan,if_pos hb,if_neg h4,Option.map_map]
 congr 1
 funext m
 simp
theorem read_all {r:List R4} {L:List E5} (h:Read r r.length L):scan r=some L:=by
 rw [h.2,List.drop_length]
 simp [scan]
def fileL (l:List E5):List R4:=hdr 3 ((l.length:Int)+1) :: (l.map putR ++ [endR])
def fL (l:List E5):List R4:=if mayP l then fileL l else []
def fP (l:List E5):Int:=if mayP l then 3 else 0
def fN (l:List E5):Int:=if mayP l then 0 else 1
theorem may_each {l:List E5} (h:mayP l):∀ x∈l,okE x∧x.1≠4:=fun x hx=>by
 obtain ⟨i,hi,e⟩:=List.getElem_of_mem hx;have g:=(okAt_iff (fun j hj=>h j (by omega))).1 (h i hi);have e':eat l i=x:=by
  have:=eat_get hi;rw [List.getElem?_eq_getElem hi,e] at this;exact (Option.some.inj this).symm
 rw [e'] at g;exact ⟨g.1,g.2.1⟩
def part (h:R4) (l:List E5) (k:Nat):List R4:=h :: ((l.take k).map putR ++ List.replicate (l.length+1 - k) z4)
theorem part_len (h:R4) (l:List E5) (k:Nat) (hk:k≤l.length):(part h l k).length=l.length+2:=by
 simp [part,List.length_take]
 omega
theorem part_start (h:R4) (l:List E5):part h l 0=h :: List.replicate (l.length+1) z4:=by simp [part]
theorem take_next {l:List E5} {k:Nat} (hk:k < l.length):l.take (k+1)=l.take k ++ [eat l k]:=by
 rw [List.take_add_one,eat_get hk]
 rfl
theorem part_set (h:R4) {l:List E5} {k:Nat} (hk:k < l.length):(part h l k).set (1+k) (putR (eat l k))=part h l (k+1):=by
 have e1:(l.take k).length=k:=by rw [List.length_take];omega
 unfold part;rw [Nat.add_comm 1 k,List.set_cons_succ,List.set_append_right _ _ (by rw [List.length_map,e1];omega),List.length_map,e1,Nat.sub_self,take_next hk];rw [show l.length+1 - k=(l.length+1 - (k+1))+1 by omega,List.replicate_succ]
 simp
theorem part_end (h:R4) (l:List E5):(part h l l.length).set (1+l.length) endR=h :: (l.map putR ++ [endR]):=by
 unfold part;rw [Nat.add_comm 1,List.set_cons_succ,List.set_append_right _ _ (by simp),List.take_length];have e:l.length+1 - l.length=1:=by omega
 rw [e]
 simp
end Go.Proofs.YtljnkaodhfnbbaaGreatDoor.Ro
namespace Go.Proofs.YtljnkaodhfnbbaaGreatDoor.Ck
open Ro (E5 z5 eat mayP mayB okE okAt eat_get eat_mem prevS prev_next okE_bounds)
abbrev LL:=List (List E5)
def lat (L:LL) (n:Nat):List E5:=L.getD n []
theorem drop_lat {L:LL} {k:Nat} (h:k < L.length):L.drop k=lat L k :: L.drop (k+1):=by
 rw [List.drop_eq_getElem_cons h]
 congr 1
 unfold lat;rw [List.getD_eq_getElem?_getD,List.getElem?_eq_getElem h]
 rfl
theorem drop_eat {t:List E5} {i:Nat} (h:i < t.length):t.drop i=eat t i :: t.drop (i+1):=by
 rw [List.drop_eq_getElem_cons h]
 congr 1
 have:=eat_get h;rw [List.getElem?_eq_getElem h] at this;exact Option.some.inj this
theorem lat_take {L:LL} {n j:Nat} (h:j < n):lat (L.take n) j=lat L j:=by
 unfold lat;rw [List.getD_eq_getElem?_getD,List.getD_eq_getElem?_getD,List.getElem?_take,if_pos h]
def scn (p:Nat→E5→Bool):Nat→LL→Option (Nat×E5)
 | _,[]=>none
 | n,t :: r=>match t.find? (p n) with
   | some x=>some (n,x)
   | none=>scn p (n+1) r
def whoN (p:Nat→E5→Bool) (L:LL):Int:=match scn p 0 L with
 | some y=>y.1
 | none=>-1
def whoE (p:Nat→E5→Bool) (L:LL):E5:=match scn p 0 L with
 | some y=>y.2
 | none=>z5
def Ahead (p:Nat→E5→Bool) (L:LL) (k:Nat):Prop:=scn p 0 L=scn p k (L.drop k)
def Within (p:Nat→E5→Bool) (L:LL) (k i:Nat):Prop:=Ahead p L k∧(lat L k).find? (p k)=((lat L k).drop i).find? (p k)
section
variable {p:Nat→E5→Bool} {L:LL} {k i:Nat}
theorem ahead_zero:Ahead p L 0:=rfl
theorem within_zero (h:Ahead p L k):Within p L k 0:=⟨h,rfl⟩
theorem within_hit (h:Within p L k i) (hk:k < L.length) (hi:i < (lat L k).length) (hp:p k (eat (lat L k) i)=true):whoN p L=k∧whoE p L=eat (lat L k) i:=by
 have e:scn p 0 L=some (k,eat (lat L k) i):=by
  rw [h.1,drop_lat hk];simp only [scn,h.2,drop_eat hi,List.find?_cons,hp]
 unfold whoN whoE;rw [e];exact ⟨rfl,rfl⟩
theorem within_next (h:Within p L k i) (hi:i < (lat L k).length) (hp:p k (eat (lat L k) i)=false):Within p L k (i+1):=by
 refine ⟨h.1,?_⟩;rw [h.2,drop_eat hi,List.find?_cons,hp]
theorem within_end (h:Within p L k (lat L k).length) (hk:k < L.length):Ahead p L (k+1):=by
 unfold Ahead;have e:=h.2;rw [List.drop_length] at e;rw [h.1,drop_lat hk];simp only [scn,e,List.find?_nil]
theorem ahead_end (h:Ahead p L L.length):whoN p L = -1∧whoE p L=z5:=by
 have e:scn p 0 L=none:=by rw [h,List.drop_length];rfl
 unfold whoN whoE;rw [e];exact ⟨rfl,rfl⟩
end
theorem scn_some {p:Nat→E5→Bool} : ∀ {L:LL} {n0 n:Nat} {x:E5},scn p n0 L=some (n,x)→∃ k,n=n0+k∧k < L.length∧x∈lat L k∧p n x=true∧∀ j,j < k→∀ y∈lat L j,p (n0+j) y=false
 | [],_,_,_,h=>by cases h
 | t :: r,n0,n,x,h=>by
   rcases e:t.find? (p n0) with _ | y
   ·simp only [scn,e] at h
    obtain ⟨k,e1,h1,h2,h3,h4⟩:=scn_some h;refine ⟨k+1,by omega,by simp;omega,h2,h3,fun j hj y hy=>?_⟩
    rcases j with _ | j
    ·rw [List.find?_eq_none] at e
     simpa using e y hy
    ·have:=h4 j (by omega) y hy
     rw [show n0+(j+1)=n0+1+j by omega];exact this
   ·simp only [scn,e,Option.some.injEq,Prod.mk.injEq] at h
    obtain ⟨rfl,rfl⟩:=h;exact ⟨0,rfl,by simp,List.mem_of_find?_eq_some e,List.find?_some e,fun j hj=>absurd hj (Nat.not_lt_zero _)⟩
theorem scn_none {p:Nat→E5→Bool} : ∀ {L:LL} {n0:Nat},scn p n0 L=none→∀ k,k < L.length→∀ x∈lat L k,p (n0+k) x=false
 | [],_,_,k,hk=>by cases hk
 | t :: r,n0,h,k,hk=>by
   rcases e:t.find? (p n0) with _ | y
   ·simp only [scn,e] at h
    intro x hx
    rcases k with _ | k
    ·rw [List.find?_eq_none] at e
     simpa using e x hx
    ·have:=scn_none h k (by simpa using hk) x hx
     rw [show n0+(k+1)=n0+1+k by omega];exact this
   ·simp only [scn,e] at h
    cases h
theorem find_congr {p q:E5→Bool} : ∀ {t:List E5},(∀ x∈t,p x=q x)→t.find? p=t.find? q
 | [],_=>rfl
 | x :: r,h=>by rw [List.find?_cons,List.find?_cons,h x (List.mem_cons_self ..),find_congr fun y hy=>h y (List.mem_cons_of_mem _ hy)]
theorem scn_congr {p q:Nat→E5→Bool} : ∀ {L:LL} {n0:Nat},(∀ k,k < L.length→∀ x∈lat L k,p (n0+k) x=q (n0+k) x)→scn p n0 L=scn q n0 L
 | [],_,_=>rfl
 | t :: r,n0,h=>by
   have e:t.find? (p n0)=t.find? (q n0):=find_congr fun x hx=>h 0 (by simp) x hx;have ih:=scn_congr (p:=p) (q:=q) (L:=r) (n0:=n0+1) fun k hk x hx=>by
    have:=h (k+1) (by simp;omega) x hx;rw [show n0+1+k=n0+(k+1) by omega];exact this
   simp only [scn,e,ih]
theorem who_cases (p:Nat→E5→Bool) (L:LL):(∃ n x,n < L.length∧x∈lat L n∧p n x=true∧(∀ m,m < n→∀ y∈lat L m,p m y=false)∧whoN p L=n∧whoE p L=x)∨((∀ n,n < L.length→∀ x∈lat L n,p n x=false)∧whoN p L = -1∧whoE p L=z5):=by
 rcases e:scn p 0 L with _ | ⟨n,x⟩
 ·right
  refine ⟨fun n hn x hx=>by simpa using scn_none e n hn x hx,?_,?_⟩
  ·unfold whoN;rw [e]
  ·unfold whoE;rw [e]
 ·left
  obtain ⟨k,e1,h1,h2,h3,h4⟩:=scn_some e;obtain rfl:n=k:=by omega
  refine ⟨n,x,h1,h2,h3,fun m hm y hy=>by simpa using h4 m hm y hy,?_,?_⟩
  ·unfold whoN;rw [e]
  ·unfold whoE;rw [e]
theorem who_congr {p q:Nat→E5→Bool} {L:LL} (h:∀ k,k < L.length→∀ x∈lat L k,p k x=q k x):whoN p L=whoN q L∧whoE p L=whoE q L:=by
 have e:scn p 0 L=scn q 0 L:=scn_congr fun k hk x hx=>by simpa using h k hk x hx
 unfold whoN whoE;rw [e];exact ⟨rfl,rfl⟩
theorem who_hit {p:Nat→E5→Bool} {L:LL} {n:Nat} {x:E5} (hn:n < L.length) (hx:x∈lat L n) (hp:p n x=true):0≤whoN p L∧whoN p L≤n:=by
 rcases who_cases p L with ⟨m,y,h1,h2,h3,h4,e,_⟩ | ⟨h,e,_⟩
 ·rw [e]
  refine ⟨by omega,?_⟩
  by_cases g:n < m
  ·have:=h4 n g x hx
   rw [hp] at this
   cases this
  ·omega
 ·have:=h n hn x hx
  rw [hp] at this
  cases this
def idx (q:List E5→Bool):Nat→LL→Int
 | _,[]=>-1
 | n,t :: r=>if q t then n else idx q (n+1) r
def IAhead (q:List E5→Bool) (L:LL) (k:Nat):Prop:=idx q 0 L=idx q k (L.drop k)
section
variable {q:List E5→Bool} {L:LL} {k:Nat}
theorem iahead_zero:IAhead q L 0:=rfl
theorem iahead_hit (h:IAhead q L k) (hk:k < L.length) (hq:q (lat L k)=true):idx q 0 L=k:=by
 rw [h,drop_lat hk];simp only [idx,hq,if_true]
theorem iahead_next (h:IAhead q L k) (hk:k < L.length) (hq:q (lat L k)=false):IAhead q L (k+1):=by
 unfold IAhead;rw [h,drop_lat hk];simp only [idx,hq,Bool.false_eq_true,if_false]
theorem iahead_end (h:IAhead q L L.length):idx q 0 L = -1:=by rw [h,List.drop_length];rfl
end
theorem idx_all {q:List E5→Bool} : ∀ {L:LL} {n:Nat},idx q n L < 0→∀ k,k < L.length→q (lat L k)=false
 | [],_,_,k,hk=>by cases hk
 | t :: r,n,h,k,hk=>by
   by_cases e:q t=true
   ·simp only [idx,e,if_true] at h
    omega
   ·simp only [idx,e,Bool.false_eq_true,if_false] at h
    rcases k with _ | k
    ·show q t=false
     simpa using e
    ·exact idx_all h k (by simpa using hk)
def snd (s:Int) (_:Nat) (x:E5):Bool:=decide (x.1=1∧x.2.1=s)
def sN (s:Int) (L:LL):Int:=whoN (snd s) L
def sE (s:Int) (L:LL):E5:=whoE (snd s) L
theorem snd_yes {s:Int} {n:Nat} {x:E5} (h1:x.1=1) (h2:x.2.1=s):snd s n x=true:=decide_eq_true ⟨h1,h2⟩
theorem snd_no {s:Int} {n:Nat} {x:E5} (h:¬ (x.1=1∧x.2.1=s)):snd s n x=false:=decide_eq_false h
theorem snd_is {s:Int} {n:Nat} {x:E5} (h:snd s n x=true):x.1=1∧x.2.1=s:=of_decide_eq_true h
theorem sN_take {L:LL} {n:Nat} (hn:n≤L.length) (s:Int):0≤sN s (L.take n)↔0≤sN s L∧sN s L < n:=by
 unfold sN;have hl:(L.take n).length=n:=by rw [List.length_take];omega
 rcases who_cases (snd s) (L.take n) with ⟨m,y,h1,h2,h3,h4,e,_⟩ | ⟨h,e,_⟩
 ·rw [hl] at h1
  rw [lat_take h1] at h2;have g:=who_hit (p:=snd s) (L:=L) (by omega) h2 h3
  constructor
  ·intro _;omega
  ·intro _;omega
 ·constructor
  ·intro g;omega
  ·intro ⟨g1,g2⟩
   rcases who_cases (snd s) L with ⟨m,y,h1,h2,h3,h4,e',_⟩ | ⟨_,e',_⟩
   ·have hm:m < n:=by omega
    have:=h m (by omega) y (by rw [lat_take hm];exact h2);rw [h3] at this
    cases this
   ·omega
def bad (t:List E5):Bool:=!mayB t
def bI (L:LL):Int:=idx bad 0 L
def pc (L:LL) (n:Nat) (x:E5):Bool:=decide (x.1=1∧0≤sN x.2.1 (L.take n))
def pg (L:LL) (_:Nat) (x:E5):Bool:=decide (x.1=2∧sN x.2.1 L < 0)
def qc (F:Nat→Int) (n:Nat) (x:E5):Bool:=decide (x.1=1∧¬ F x.2.1.toNat=n)
def qg (F:Nat→Int) (_:Nat) (x:E5):Bool:=decide (x.1=2∧F x.2.1.toNat < 0)
def clN (L:LL):Int:=whoN (pc L) L
def gaN (L:LL):Int:=whoN (pg L) L
def sF (L:LL) (s:Nat):Int:=sN s L
def tN (L:LL):Int:=if 0≤bI L then bI L else if 0≤clN L then clN L else if 0≤gaN L then gaN L else -1
def tE (L:LL):Int:=if 0≤bI L then 2 else if 0≤clN L then 8 else if 0≤gaN L then 9 else 0
theorem t_form {L:LL} (h:0≤bI L):tN L=bI L∧tE L=2:=by unfold tN tE;rw [if_pos h,if_pos h];exact ⟨rfl,rfl⟩
theorem t_clash {L:LL} (h:¬ 0≤bI L) (h2:0≤clN L):tN L=clN L∧tE L=8:=by unfold tN tE;rw [if_neg h,if_neg h,if_pos h2,if_pos h2];exact ⟨rfl,rfl⟩
theorem t_gap {L:LL} (h:¬ 0≤bI L) (h2:¬ 0≤clN L) (h3:0≤gaN L):tN L=gaN L∧tE L=9:=by unfold tN tE;rw [if_neg h,if_neg h,if_neg h2,if_neg h2,if_pos h3,if_pos h3];exact ⟨rfl,rfl⟩
theorem t_ok {L:LL} (h:¬ 0≤bI L) (h2:¬ 0≤clN L) (h3:¬ 0≤gaN L):tN L = -1∧tE L=0:=by unfold tN tE;rw [if_neg h,if_neg h,if_neg h2,if_neg h2,if_neg h3,if_neg h3];exact ⟨rfl,rfl⟩
theorem may_all {L:LL} (h:¬ 0≤bI L):∀ k,k < L.length→mayP (lat L k):=fun k hk=>by
 have:=idx_all (q:=bad) (L:=L) (n:=0) (by unfold bI at h;omega) k hk;unfold bad mayB at this
 simpa using this
theorem may_slot {t:List E5} (h:mayP t) {x:E5} (hx:x∈t):0≤x.2.1∧x.2.1≤16:=(okE_bounds (Ro.may_each h x hx).1).2.1
theorem clash_same {L:LL} (h:¬ 0≤bI L):whoN (qc (sF L)) L=clN L:=by
 refine (who_congr fun k hk x hx=>?_).1;have b:=may_slot (may_all h k hk) hx;unfold qc pc sF;rw [show ((x.2.1.toNat:Nat):Int)=x.2.1 by omega]
 by_cases h1:x.1=1
 ·have g:=who_hit (p:=snd x.2.1) hk hx (snd_yes h1 rfl)
  have t:=sN_take (L:=L) (n:=k) (by omega) x.2.1;unfold sN at t ⊢
  apply decide_eq_decide.2
  constructor
  ·intro ⟨_,a⟩;exact ⟨h1,t.2 ⟨g.1,by omega⟩⟩
  ·intro ⟨_,a⟩;have:=t.1 a;exact ⟨h1,by omega⟩
 ·simp [h1]
theorem gap_same {L:LL} (h:¬ 0≤bI L):whoN (qg (sF L)) L=gaN L:=by
 refine (who_congr fun k hk x hx=>?_).1;have b:=may_slot (may_all h k hk) hx;unfold qg pg sF;rw [show ((x.2.1.toNat:Nat):Int)=x.2.1 by omega]
def all (p:E5→Bool) (L:LL):Nat:=L.flatten.countP p
section
end
end Go.Proofs.YtljnkaodhfnbbaaGreatDoor.Ck
