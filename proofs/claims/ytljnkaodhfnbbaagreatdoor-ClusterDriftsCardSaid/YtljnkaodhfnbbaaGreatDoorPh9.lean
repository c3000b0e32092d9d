import Derived.Test.YtljnkaodhfnbbaaGreatDoorPh8
import Derived.Shelf.Abstract
import Derived.Test.YtljnkaodhfnbbaaGreatDoorShelf
import Derived.Shelf.SlSortCmp.WholeK
import Derived.Shelf.SlSortCmp.NoneTotal
import Derived.StillTailTactics
import Derived.Test.YtljnkaodhfnbbaaGreatDoorPh5
import Derived.BigQuiet
import Derived.Deep.QuietTactic
import Derived.WalkSmall
import Derived.Deep.RegionWith
import Derived.Test.YtljnkaodhfnbbaaGreatDoorPh4
import Derived.Deep.Cut
import Derived.Test.YtljnkaodhfnbbaaGreatDoorPh6
set_option maxRecDepth 100000
namespace Go.Proofs.YtljnkaodhfnbbaaGreatDoor.Bu
open Go.RowKit
open Tk (GoodP goodB goodB_true goodB_no good_any)
def anyN (p:Nat→Bool) (n:Nat):Bool:=(List.range n).any p
theorem anyN_yes {p:Nat→Bool} {n k:Nat} (hk:k < n) (h:p k=true):anyN p n=true:=List.any_eq_true.2 ⟨k,List.mem_range.2 hk,h⟩
theorem anyN_no {p:Nat→Bool} {n:Nat} (h:∀ j,j < n→p j=false):anyN p n=false:=List.any_eq_false.2 fun j hj=>by rw [h j (List.mem_range.1 hj)];exact Bool.false_ne_true
def IdxPost (w:World) (b:Bool) (e:Ending) (w':World):Prop:=∃ r:Int,e = .returned (.int .i64 r)∧decide (0≤r)=b∧Below w.heap.size w w'
theorem idx_yes {w w':World} {b:Bool} {k:Nat} (h:b=true) (hb:Below w.heap.size w w'):IdxPost w b (.returned (.int .i64 k)) w':=⟨k,rfl,by rw [h];simp,hb⟩
theorem idx_no {w w':World} {b:Bool} (h:b=false) (hb:Below w.heap.size w w'):IdxPost w b (.returned (.int .i64 (-1))) w':=⟨-1,rfl,by rw [h];decide,hb⟩
set_option maxHeartbeats 1000000 in
theorem sindex_any (w:World) (v:Value) (n:Nat) (A R:Nat→Int) (S:Tk.Steps w v n A R) (g:Nat) (p:Nat→Bool) (eg:∀ args w,(callFunc g args).run Tryz.prog w = .ok (.enter g args) w)
 (hp:∀ W i,i < n→Calls Tryz.prog g #[.agg #[.int .i64 (A i),.int .i64 (R i)]] W fun e w'=>e = .returned (.bool (p i))∧Below W.heap.size W w') :
 Calls Tryz.prog 185 #[v,.func (.func g) #[] #[]] w (IdxPost w (anyN p n)):=by
 obtain ⟨a,cap,rfl,hm1,hm⟩:=steps_form S;have ST:=Lib.hid (fun hp=>(steps_at S hp).2);have HP:=Lib.hid hp;have YES:Hid (∀ k,k < n→p k=true→anyN p n=true):=Lib.hid (fun k hk h=>anyN_yes hk h);have NO:Hid ((∀ j,j < n→p j=false)→anyN p n=false):=Lib.hid (fun h=>anyN_no h);clear S hp;generalize anyN p n=q at *;unfold maxLen at hm
 go_enter Tryz.func185,Tryz.ntmps185
 go_wp2
 go_loopw [8] (fun i wr=>∃ k:Nat,k≤n∧i = .int .i64 k∧Hid (∀ j,j < k→p j=false)∧Hid (Below w.heap.size w wr)) (fun i _=>n - (intOf i).toNat)
 case atStart=>exact ⟨0,Nat.zero_le _,rfl,fun j hj=>by omega,Below.refl _ _⟩
 case round =>
  obtain ⟨k,hk,rfl,hs,hb⟩:=hrel
  by_cases hlt:k < n
  ·obtain ⟨b,off,rfl,hA⟩:=ST.out (by omega)
   obtain ⟨c1,c2⟩:=hA k hlt;have HA:=Lib.hid hA;clear hA;have d1:=(hb.out.cell (World.block_lt_of_cell? _ _ c1)).trans c1;have d2:=(hb.out.cell (World.block_lt_of_cell? _ _ c2)).trans c2;clear c1 c2;have hc:=HP.out wr k hlt
   cases hq:p k with
   | true =>
     rw [hq] at hc;have C:=Lib.hid hc;have HR:=Lib.hid (YES.out k hlt hq);clear hc hq;go_wp2_with fail;refine C.out.mono ?_;rintro e w1 ⟨rfl,b1⟩;have B1:=Lib.hid (hb.out.trans (b1.mono hb.out.size));clear b1;go_wp2
     go_ret
     exact idx_yes HR.out B1.out
   | false =>
     rw [hq] at hc;have C:=Lib.hid hc;have ST:Hid (∀ j,j < k+1→p j=false):=fun j hj=>by
      by_cases e:j=k
      ·rw [e];exact hq
      ·exact hs.out j (by omega)
     clear hc hq;go_wp2_with fail;refine C.out.mono ?_;rintro e w1 ⟨rfl,b1⟩;have B1:=Lib.hid (hb.out.trans (b1.mono hb.out.size));clear b1;go_wp2
     go_roundw
     case rel=>exact ⟨k+1,by omega,by go_num,ST,B1⟩
     case measure=>simp [intOf];omega
  ·obtain rfl:k=n:=by omega
   have HR:=Lib.hid (NO.out hs.out);go_wp2
   go_ret
   exact idx_no HR.out hb.out
theorem scontains_any (w:World) (v:Value) (n:Nat) (A R:Nat→Int) (S:Tk.Steps w v n A R) (g:Nat) (p:Nat→Bool) (eg:∀ args w,(callFunc g args).run Tryz.prog w = .ok (.enter g args) w)
 (hp:∀ W i,i < n→Calls Tryz.prog g #[.agg #[.int .i64 (A i),.int .i64 (R i)]] W fun e w'=>e = .returned (.bool (p i))∧Below W.heap.size W w') :
 Calls Tryz.prog 142 #[v,.func (.func g) #[] #[]] w fun e w'=>e = .returned (.bool (anyN p n))∧Below w.heap.size w w':=by
 have C:=Lib.hid (sindex_any w v n A R S g p eg hp);clear eg hp S;generalize anyN p n=q at *
 go_enter Tryz.func142,Tryz.ntmps142
 go_wp2_with fail;refine C.out.mono ?_;rintro e w1 ⟨r,rfl,hr,b1⟩;have HR:=Lib.hid hr;clear hr;go_wp2
 go_ret
 exact ⟨Tk.ret_bool HR.out,b1⟩
set_option maxHeartbeats 1000000 in
theorem lindex_any (w:World) (v:Value) (O:List Osc) (S:OsL w v O) (g:Nat) (lb:Array Value) (p:Nat→Bool) (eg:∀ args w,(callFunc g args).run Tryz.prog w = .ok (.enter g args) w)
 (hp:∀ W i,i < O.length→Below w.heap.size w W→∀ u,Tk.Steps W u (osc O i).n (osc O i).A (osc O i).R→Calls Tryz.prog g (#[u] ++ lb) W fun e w'=>e = .returned (.bool (p i))∧Below W.heap.size W w') :
 Calls Tryz.prog 186 #[v,.func (.func g) #[] lb] w (IdxPost w (anyN p O.length)):=by
 have S0:=Lib.hid S;obtain ⟨a,cap,rfl,hm1,hm⟩:=S.slice;have HP:=Lib.hid hp;have YES:Hid (∀ k,k < O.length→p k=true→anyN p O.length=true):=Lib.hid (fun k hk h=>anyN_yes hk h);have NO:Hid ((∀ j,j < O.length→p j=false)→anyN p O.length=false):=Lib.hid (fun h=>anyN_no h);clear S hp;generalize anyN p O.length=q at *;unfold maxLen at hm;generalize hn:O.length=n at *;have HN:=Lib.hid hn;clear hn
 go_enter Tryz.func186,Tryz.ntmps186
 go_wp2
 go_loopw [8] (fun i wr=>∃ k:Nat,k≤n∧i = .int .i64 k∧Hid (∀ j,j < k→p j=false)∧Hid (Below w.heap.size w wr)) (fun i _=>n - (intOf i).toNat)
 case atStart=>exact ⟨0,Nat.zero_le _,rfl,fun j hj=>by omega,Below.refl _ _⟩
 case round =>
  obtain ⟨k,hk,rfl,hs,hb⟩:=hrel
  by_cases hlt:k < n
  ·obtain ⟨b,off,cp,a',cap',e1,c1,_,st⟩:=S0.out.one (k:=k) (by have:=HN.out;omega)
   rw [HN.out] at e1;injection e1 with e1 _ e2;subst e1 e2;have d1:=(hb.out.cell (World.block_lt_of_cell? _ _ c1)).trans c1;have hc:=HP.out wr k hlt hb.out _ (st.below hb.out);clear c1 st;generalize (osc O k).n=m at *
   cases hq:p k with
   | true =>
     rw [hq] at hc;have C:=Lib.hid hc;have HR:=Lib.hid (YES.out k hlt hq);clear hc hq;go_wp2_with fail;refine C.out.mono ?_;rintro e w1 ⟨rfl,b1⟩;have B1:=Lib.hid (hb.out.trans (b1.mono hb.out.size));clear b1;go_wp2
     go_ret
     exact idx_yes HR.out B1.out
   | false =>
     rw [hq] at hc;have C:=Lib.hid hc;have ST:Hid (∀ j,j < k+1→p j=false):=fun j hj=>by
      by_cases e:j=k
      ·rw [e];exact hq
      ·exact hs.out j (by omega)
     clear hc hq;go_wp2_with fail;refine C.out.mono ?_;rintro e w1 ⟨rfl,b1⟩;have B1:=Lib.hid (hb.out.trans (b1.mono hb.out.size));clear b1;go_wp2
     go_roundw
     case rel=>exact ⟨k+1,by omega,by go_num,ST,B1⟩
     case measure=>simp [intOf];omega
  ·obtain rfl:k=n:=by omega
   have HR:=Lib.hid (NO.out hs.out);go_wp2
   go_ret
   exact idx_no HR.out hb.out
theorem lcontains_any (w:World) (v:Value) (O:List Osc) (S:OsL w v O) (g:Nat) (lb:Array Value) (p:Nat→Bool) (eg:∀ args w,(callFunc g args).run Tryz.prog w = .ok (.enter g args) w)
 (hp:∀ W i,i < O.length→Below w.heap.size w W→∀ u,Tk.Steps W u (osc O i).n (osc O i).A (osc O i).R→Calls Tryz.prog g (#[u] ++ lb) W fun e w'=>e = .returned (.bool (p i))∧Below W.heap.size W w') :
 Calls Tryz.prog 143 #[v,.func (.func g) #[] lb] w fun e w'=>e = .returned (.bool (anyN p O.length))∧Below w.heap.size w w':=by
 have C:=Lib.hid (lindex_any w v O S g lb p eg hp);clear eg hp S;generalize anyN p O.length=q at *
 go_enter Tryz.func143,Tryz.ntmps143
 go_wp2_with fail;refine C.out.mono ?_;rintro e w1 ⟨r,rfl,hr,b1⟩;have HR:=Lib.hid hr;clear hr;go_wp2
 go_ret
 exact ⟨Tk.ret_bool HR.out,b1⟩
def wildB (r:Int):Bool:=decide (r < -2000) || decide (2000 < r)
theorem wild_any (w:World) (a r:Int):Calls Tryz.prog 140 #[.agg #[.int .i64 a,.int .i64 r]] w fun e w'=>e = .returned (.bool (wildB r))∧Below w.heap.size w w':=by
 have HB:=Lib.hid ((Below.refl w.heap.size w).alloc (Nat.le_refl _) (.cells #[.int .i64 a,.int .i64 r] 108))
 by_cases h1:r < -2000
 ·have e:Hid (wildB r=true):=Lib.hid (by unfold wildB;rw [decide_eq_true h1];rfl)
  rw [e.out]
  go_enter Tryz.func140,Tryz.ntmps140
  go_wp2
  go_ret
  exact ⟨rfl,HB.out⟩
 ·have e:Hid (wildB r=decide (2000 < r)):=Lib.hid (by unfold wildB;rw [decide_eq_false h1];rfl)
  rw [e.out]
  go_enter Tryz.func140,Tryz.ntmps140
  go_wp2
  go_ret
  exact ⟨rfl,HB.out⟩
theorem calm_by {o:Osc} (h:goodB o.n o.A o.R=true):(!calmB o)=anyN (fun i=>wildB (o.R i)) o.n:=by
 cases c:calmB o with
 | true =>
   have g:=of_calmB c;rw [anyN_no fun j hj=>?_]
   ·rfl
   ·have:=g.bd j hj
    unfold wildB;rw [decide_eq_false (by omega),decide_eq_false (by omega)]
    rfl
 | false =>
   cases q:anyN (fun i=>wildB (o.R i)) o.n with
   | true=>rfl
   | false =>
     exfalso
     have:calmB o=true:=calmB_yes ⟨goodB_true.1 h,by omega,fun i hi=>by
      have:=List.any_eq_false.1 q i (List.mem_range.2 hi);unfold wildB at this;simp only [Bool.or_eq_true,decide_eq_true_eq,not_or] at this
      omega⟩
     rw [c] at this
     cases this
theorem calm_bad {o:Osc} (h:goodB o.n o.A o.R=false):(!calmB o)=true:=by
 rw [calmB_no fun g=>by rw [Tk.goodB_yes g.good] at h;cases h]
 rfl
set_option maxHeartbeats 1000000 in
theorem unfit_any (w:World) (B:Nat) (hc:w.cell? ⟨B,0,none⟩=some (.func (.func 140) #[] #[])) (u:Value) (o:Osc) (S:Tk.Steps w u o.n o.A o.R) :
 Calls Tryz.prog 141 #[u,.pointer (some ⟨B,0,none⟩)] w fun e w'=>e = .returned (.bool (!calmB o))∧Below w.heap.size w w':=by
 have eg:∀ args w,(callFunc 140 args).run Tryz.prog w = .ok (.enter 140 args) w:=enters_of Tryz.func140 (by kernel_rfl) rfl;have GA:=Lib.hid (good_any w u o.n o.A o.R S);have CA:=Lib.hid (fun W b=>scontains_any W u o.n o.A o.R (S.below (w':=W) b) 140 (fun i=>wildB (o.R i)) eg fun W i _=>wild_any W (o.A i) (o.R i));obtain ⟨a,cap,rfl,_⟩:=steps_form S;clear S eg;have YES:=fun h=>calm_by (o:=o) h;have NO:=fun h=>calm_bad (o:=o) h;generalize goodB o.n o.A o.R=g at *;generalize anyN (fun i=>wildB (o.R i)) o.n=q at *;generalize (!calmB o)=r at *
 cases g with
 | true =>
   have E:=Lib.hid (YES rfl);clear YES NO
   go_enter Tryz.func141,Tryz.ntmps141
   go_wp2_with fail;refine GA.out.mono ?_;rintro e w1 ⟨rfl,b1⟩;have c1:=(b1.cell (World.block_lt_of_cell? _ _ hc)).trans hc;have C1:=Lib.hid (CA.out w1 b1);have B1:=Lib.hid b1;clear b1 CA GA hc;go_wp2_with fail;refine C1.out.mono ?_;rintro e w2 ⟨rfl,b2⟩;have B2:=Lib.hid (B1.out.trans (b2.mono B1.out.size));clear b2;go_wp2
   go_ret
   exact ⟨Tk.ret_bool E.out.symm,B2.out⟩
 | false =>
   have E:=Lib.hid (NO rfl);clear YES NO
   go_enter Tryz.func141,Tryz.ntmps141
   go_wp2_with fail;refine GA.out.mono ?_;rintro e w1 ⟨rfl,b1⟩;have B1:=Lib.hid b1;clear b1 CA GA hc;go_wp2
   go_ret
   exact ⟨Tk.ret_bool E.out.symm,B1.out⟩
theorem calmLB_by (O:List Osc):(!anyN (fun i=>!calmB (osc O i)) O.length)=calmLB O:=by
 cases c:calmLB O with
 | true =>
   rw [anyN_no fun j hj=>?_]
   ·rfl
   ·rw [calmB_yes (of_calmLB c _ (osc_mem hj))];rfl
 | false =>
   obtain ⟨o,ho,hc⟩:=List.all_eq_false.1 c;obtain ⟨i,hi,rfl⟩:=List.getElem_of_mem ho;have e:osc O (i:Int)=O[i]:=by unfold osc;rw [Int.toNat_natCast,List.getD_eq_getElem?_getD,List.getElem?_eq_getElem hi];rfl
   rw [anyN_yes (k:=i) hi (by rw [e];simpa using hc)]
   rfl
theorem cell_fn (w:World) (f:Nat) (t:TypeId):(w.alloc (.cells #[.func (.func f) #[] #[]] t)).cell? ⟨w.heap.size,0,none⟩=some (.func (.func f) #[] #[]):=by go_simp
set_option maxHeartbeats 1000000 in
theorem calm_any (w:World) (v:Value) (O:List Osc) (S:OsL w v O):Calls Tryz.prog 80 #[v] w fun e w'=>e = .returned (.bool (calmLB O))∧Below w.heap.size w w':=by
 have eg:∀ args w,(callFunc 141 args).run Tryz.prog w = .ok (.enter 141 args) w:=enters_of Tryz.func141 (by kernel_rfl) rfl;have b0:=(Below.refl w.heap.size w).alloc (Nat.le_refl _) (.cells #[.func (.func 140) #[] #[]] 242);have c0:=cell_fn w 140 242;have CA:=Lib.hid (lcontains_any _ v O (S.below b0) 141 #[.pointer (some ⟨w.heap.size,0,none⟩)] (fun i=>!calmB (osc O i)) eg fun W i _ hb u hu=>unfit_any W w.heap.size ((hb.cell (World.block_lt_of_cell? _ _ c0)).trans c0) u (osc O i) hu);have B0:=Lib.hid b0;obtain ⟨a,cap,rfl,_⟩:=S.slice;have E:=Lib.hid (calmLB_by O);clear b0 c0 eg S;generalize O.length=n at *;generalize anyN (fun i=>!calmB (osc O i)) n=q at *;have hst:∀ (W:World) (p:Addr),(store p (Value.func (Fn.func 140) #[] #[])).run Tryz.prog W=stored Tryz.prog W p (Value.func (Fn.func 140) #[] #[]) .plain:=fun W p=>run_store _ W p _ _ rfl
 go_enter Tryz.func80,Tryz.ntmps80
 go_wp2_with fail;refine CA.out.mono ?_;rintro e w1 ⟨rfl,b1⟩;have B1:=Lib.hid (B0.out.trans (b1.mono B0.out.size));clear b1 CA;go_wp2
 go_ret
 exact ⟨Tk.ret_bool E.out,B1.out⟩
end Go.Proofs.YtljnkaodhfnbbaaGreatDoor.Bu
namespace Go.Proofs.YtljnkaodhfnbbaaGreatDoor.Wi
open Go.Shelf Go.RowKit Go.Lib Go.Sort Go.Proofs.YtljnkaodhfnbbaaGreatDoor.Sp
def enc (x:S2):List Value:=[.int .i64 x.1,.int .i64 x.2]
def cf (x y:S2):Int:=cmpI x.1 y.1
theorem lt_cf (x y:S2):ltOf cf x y=decide (x.1 < y.1):=by
 unfold ltOf cf cmpI
 by_cases h1:x.1 < y.1
 ·simp [h1]
 ·by_cases h2:y.1 < x.1 <;> simp [h1,h2]
theorem swo:SWO (ltOf cf) where
 irrefl x:=by rw [lt_cf];simp
 trans x y z h1 h2:=by rw [lt_cf] at *;simp at *;omega
 ntrans x y z h1 h2:=by rw [lt_cf] at *;simp at *;omega
set_option maxHeartbeats 400000 in
theorem clos_any (x y:S2) (W:World):Calls Tryz.prog 191 #[.agg #[.int .i64 x.1,.int .i64 x.2],.agg #[.int .i64 y.1,.int .i64 y.2]] W fun e w'=>e = .returned (.int .i64 (cf x y))∧∃ q os',w'=grow (W.drewN q) os':=by
 have hcon:=fun W'=>compare_any W' x.1 y.1;have HC:=Lib.hid hcon;clear hcon;unfold cf;generalize cmpI x.1 y.1=r at HC ⊢
 go_enter Tryz.func191,Tryz.ntmps191
 go_wp2_with (go_at_call 192;refine (HC.out _).mono ?_;rintro e w' ⟨rfl,rfl⟩)
 go_ret
 exact ⟨rfl,0,_,by rw [alloc_eq_grow,alloc_eq_grow,grow_grow];rfl⟩
theorem lays (blk off size:Nat) (w:World):CmpLays Tryz.prog 191 #[] enc 2 cf blk off size w:=fun _ _ _ _ x y=>clos_any x y _
theorem get_fr (l:List S2) (i:Nat):l.toArray[i]! = (fr l i,tp l i):=by
 by_cases h:i < l.length
 ·rw [getElem!_pos l.toArray i (by simpa using h)]
  simp [fr,tp,h]
 ·rw [getElem!_neg l.toArray i (by simpa using h)]
  simp [fr,tp,h]
  rfl
theorem holds_of {w:World} {g:Nat} {l:List S2} (h:∀ i,i < l.length→w.cell? ⟨g,i * 2,none⟩=some (.int .i64 (fr l i))∧w.cell? ⟨g,i * 2+1,none⟩=some (.int .i64 (tp l i))∧w.frozen? ⟨g,i * 2,none⟩=false∧w.frozen? ⟨g,i * 2+1,none⟩=false) :
 HoldsK enc 2 w g 0 l.toArray:=by
 intro j hj
 have hj':j < l.length * 2:=by simpa using hj
 obtain ⟨c0,c1,f0,f1⟩:=h (j / 2) (by omega);rw [get_flatK enc 2 l.toArray j (by simpa using hj'),get_fr]
 rcases (by omega:j % 2=0∨j % 2=1) with e | e
 ·have ej:0+j=j / 2 * 2:=by omega
  rw [ej,e];exact ⟨c0,f0⟩
 ·have ej:0+j=j / 2 * 2+1:=by omega
  rw [ej,e];exact ⟨c1,f1⟩
def SortedTo (W:World) (B:Nat) (v:Value) (x:List S2) (w':World):Prop :=
 ∃ x',Sp w' v x'∧x'.length=x.length∧(∀ s,s∈x'↔s∈x)∧(∀ i j,i≤j→j < x'.length→fr x' i≤fr x' j)∧Below B W w'
theorem below_world {W:World} {B g m:Nat} (hB:B≤g) (hg:g < W.heap.size) (d:Array S2) (os:Array Obj):Below B W (sortWorldK enc 2 W g 0 m d os):=by
 refine ⟨rfl,rfl,rfl,?_,fun k hk=>?_⟩
 ·show W.heap.size≤((W.heap.modify g _) ++ os).size
  simp
 ·show ((W.heap.modify g _) ++ os)[k]? = _
  rw [Array.getElem?_append_left (by simp;omega),Array.getElem?_modify,if_neg (by omega)]
theorem sorted_to {W:World} {B g cap m:Nat} {x:List S2} {d':Array S2} {os:Array Obj} (hB:B≤g) (hg:g < W.heap.size) (h1:x.length≤cap) (h2:cap≤maxLen) (hH:HoldsK enc 2 W g 0 x.toArray)
 (hp:PermIn 0 x.toArray.size x.toArray d') (hs:SortedIn (ltOf cf) 0 x.toArray.size d'):SortedTo W B (.slice (some ⟨g,0,none⟩) x.length cap) x (sortWorldK enc 2 W g 0 m d' os):=by
 obtain ⟨hsz,_,hperm⟩:=hp;have hlen:d'.toList.length=x.length:=by simpa using hsz
 have hperm':d'.toList.Perm x:=by
  have e1:d'.extract 0 x.toArray.size=d':=by rw [← hsz];simp
  have e2:x.toArray.extract 0 x.toArray.size=x.toArray:=by simp
  rw [e1,e2] at hperm
  simpa using hperm
 have hH':HoldsK enc 2 (sortWorldK enc 2 W g 0 m d' os) g 0 d':=by
  unfold sortWorldK;refine holdsK_grow _ _ _ _ _ _ _ (by show g < (putRowK enc 2 (Sort.ahead W m) g 0 d').heap.size;rw [size_putRowK];exact hg) ?_;exact holdsK_putRowK enc 2 (Sort.ahead W m) g 0 x.toArray d' hH hsz
 have hsz':d'.size=x.length:=by simpa using hsz
 have hget:∀ i,i < x.length→d'[i]! = (fr d'.toList i,tp d'.toList i):=fun i hi=>by
  have:=get_fr d'.toList i
  simpa using this
 refine ⟨d'.toList,⟨some ⟨g,0,none⟩,cap,by rw [hlen],by rw [hlen];exact h1,h2,fun _=>⟨g,0,rfl,fun i hi=>?_⟩⟩,hlen,fun s=>hperm'.mem_iff,fun i j hij hj=>?_,below_world hB hg _ _⟩
 ·rw [hlen] at hi
  have c0:=(hH'.cell (i:=i) (c:=0) (by omega) (by omega)).1;have c1:=(hH'.cell (i:=i) (c:=1) (by omega) (by omega)).1;rw [hget i hi] at c0 c1;exact ⟨c0,c1⟩
 ·rw [hlen] at hj
  rcases Nat.lt_or_ge i j with c | c
  ·have:=hs i j (by omega) c (by simpa using hj)
   rw [lt_cf,hget i (by omega),hget j hj] at this
   simp at this
   exact this
  ·rw [show i=j by omega]
   exact Int.le_refl _
theorem sort_some (W:World) (B:Nat) (v:Value) (x:List S2) (hown:Sp.Own W B 186 v x) (h0:0 < x.length) (hlen:x.length < 1099511627776) :
 Calls Tryz.prog 190 #[v,.func (.func 191) #[] #[]] W fun e w'=>e = .returned (.tuple #[])∧SortedTo W B v x w':=by
 obtain ⟨g,cap,rfl,hB,hg,h1,h2,_,hc⟩:=hown.form h0;have eg:∀ args w,(callFunc 191 args).run Tryz.prog w = .ok (.enter 191 args) w:=enters_of Tryz.func191 (by kernel_rfl) rfl;have hH:=holds_of hc;have hcon:=AnyQ.slices_SortFunc Wi.sortFunc 2 Tryz.isAgg186 Tryz.sizeOf186 enc (fun _=>rfl) (fun x v hv=>by simp [enc] at hv;rcases hv with rfl | rfl <;> rfl) cf swo 191 #[] g 0 cap x.toArray W eg (lays g 0 x.toArray.size W) hH hg (by simp;omega)
 change Calls Tryz.prog 190 _ _ _ at hcon
 refine hcon.mono ?_;rintro e w' ⟨rfl,d',n,os,hp,hs,rfl⟩;exact ⟨rfl,sorted_to hB hg h1 h2 hH hp hs⟩
theorem sort_any (W:World) (B:Nat) (v:Value) (x:List S2) (hown:Sp.Own W B 186 v x) (hlen:x.length < 1099511627776) :
 Calls Tryz.prog 190 #[v,.func (.func 191) #[] #[]] W fun e w'=>e = .returned (.tuple #[])∧SortedTo W B v x w':=by
 rcases Nat.eq_zero_or_pos x.length with z | z
 ·have hsp:=hown.sp
  obtain ⟨a,cap,rfl,_⟩:=hown.slice;have hcon:=AnyF.slices_SortFunc_none (ρ:=Wi.sortFunc_ren) Wi.sortFunc a cap (.func (.func 191) #[] #[]) W
  change Calls Tryz.prog 190 _ _ _ at hcon
  rw [z];refine hcon.mono ?_;rintro e w' ⟨rfl,rfl⟩;have e:x = []:=List.length_eq_zero_iff.1 z;subst e;exact ⟨rfl,[],hsp,rfl,fun s=>Iff.rfl,fun i j _ h=>by simp at h,Below.refl _ _⟩
 ·exact sort_some W B v x hown z hlen
end Go.Proofs.YtljnkaodhfnbbaaGreatDoor.Wi
namespace Go.Proofs.YtljnkaodhfnbbaaGreatDoor.Wi
open Go.RowKit Go.Proofs.YtljnkaodhfnbbaaGreatDoor.Sp
def Rows (w:World) (v:Value) (ls:List (List S2)):Prop:=∃ a cap,v = .slice a ls.length cap∧ls.length≤cap∧cap≤maxLen∧(0 < ls.length→∃ b off,a=some ⟨b,off,none⟩∧∀ i,i < ls.length→∃ u,w.cell? ⟨b,off+i,none⟩=some u∧Sp w u (ls.getD i []))
def tot (ls:List (List S2)):Nat→Nat
 | 0=>0
 | k+1=>tot ls k+(ls.getD k []).length
theorem tot_mono (ls:List (List S2)) {i j:Nat} (h:i≤j):tot ls i≤tot ls j:=by
 induction j with
 | zero=>rw [show i=0 by omega];exact Nat.le_refl _
 | succ j ih =>
   by_cases e:i=j+1
   ·rw [e];exact Nat.le_refl _
   ·have:=ih (by omega)
    show tot ls i≤tot ls j+_
    omega
structure Acc (ls:List (List S2)) (k j:Nat) (x:List S2):Prop where
 ticks:∀ s∈x,s.1 < s.2
 low:∀ t,Low x t↔(∃ i,i < k∧Low (ls.getD i []) t)∨Low ((ls.getD k []).take j) t
 len:x.length≤tot ls k+j
theorem Acc.zero (ls:List (List S2)):Acc ls 0 0 []:=⟨fun s h=>by simp at h,fun t=>by
 constructor
 ·exact fun h=>absurd h low_nil
 ·rintro (⟨i,h,_⟩ | h)
  ·omega
  ·simp at h;exact h,by simp⟩
theorem Acc.push {ls:List (List S2)} {k j:Nat} {x:List S2} (h:Acc ls k j x) (hj:j < (ls.getD k []).length) (ht:fr (ls.getD k []) j < tp (ls.getD k []) j):Acc ls k (j+1) (x ++ [(fr (ls.getD k []) j,tp (ls.getD k []) j)]):=by
 refine ⟨fun s hs=>?_,fun t=>?_,by have:=h.len;simp;omega⟩
 ·rcases List.mem_append.1 hs with c | c
  ·exact h.ticks s c
  ·simp at c;subst c;exact ht
 ·rw [low_append,h.low,take_snoc hj,low_append,or_assoc]
theorem Acc.skip {ls:List (List S2)} {k j:Nat} {x:List S2} (h:Acc ls k j x) (hj:j < (ls.getD k []).length) (ht:¬ fr (ls.getD k []) j < tp (ls.getD k []) j):Acc ls k (j+1) x:=by
 refine ⟨h.ticks,fun t=>?_,by have:=h.len;omega⟩;rw [h.low,take_snoc hj,low_append,low_one]
 constructor
 ·rintro (c | c)
  ·exact .inl c
  ·exact .inr (.inl c)
 ·rintro (c | c | c)
  ·exact .inl c
  ·exact .inr c
  ·have c1:=c.1;have c2:=c.2;simp at c1 c2;omega
theorem Acc.next {ls:List (List S2)} {k:Nat} {x:List S2} (h:Acc ls k (ls.getD k []).length x):Acc ls (k+1) 0 x:=by
 refine ⟨h.ticks,fun t=>?_,by have:=h.len;show x.length≤tot ls k+_+0;omega⟩;rw [h.low,List.take_length]
 constructor
 ·rintro (⟨i,hi,c⟩ | c)
  ·exact .inl ⟨i,by omega,c⟩
  ·exact .inl ⟨k,by omega,c⟩
 ·rintro (⟨i,hi,c⟩ | c)
  ·by_cases e:i=k
   ·subst e;exact .inr c
   ·exact .inl ⟨i,by omega,c⟩
  ·simp at c;exact absurd c low_nil
structure SortOf (ls:List (List S2)) (x:List S2):Prop where
 srt:Srt x
 low:∀ t,Low x t↔∃ i,i < ls.length∧Low (ls.getD i []) t
 len:x.length≤tot ls ls.length
theorem low_mem {x y:List S2} (h:∀ s,s∈x↔s∈y) (t:Int):Low x t↔Low y t:=⟨fun ⟨s,a,b⟩=>⟨s,(h s).1 a,b⟩,fun ⟨s,a,b⟩=>⟨s,(h s).2 a,b⟩⟩
theorem SortOf.of {ls:List (List S2)} {x x':List S2} (h:Acc ls ls.length 0 x) (hl:x'.length=x.length) (hm:∀ s,s∈x'↔s∈x) (hu:∀ i j,i≤j→j < x'.length→fr x' i≤fr x' j):SortOf ls x':=by
 refine ⟨⟨fun i hi=>h.ticks _ ((hm _).1 (mem_fr hi)),hu⟩,fun t=>?_,by have:=h.len;omega⟩;rw [low_mem hm,h.low]
 constructor
 ·rintro (c | c)
  ·exact c
  ·simp at c;exact absurd c low_nil
 ·exact .inl
def Gives (w:World) (P:List S2→Prop) (e:Ending) (w':World):Prop:=∃ v x,e = .returned v∧Sp w' v x∧P x∧Below w.heap.size w w'
def SRel (w:World) (ls:List (List S2)) (v:Value) (k j:Nat) (wr:World):Prop:=∃ x,Sp.Own wr w.heap.size 186 v x∧Acc ls k j x∧Below w.heap.size w wr
set_option maxHeartbeats 1000000 in
theorem sorted_any (w:World) (v:Value) (ls:List (List S2)) (h:Rows w v ls) (hlen:tot ls ls.length < 1099511627776):Calls Tryz.prog 148 #[v] w (Gives w (SortOf ls)):=by
 obtain ⟨a,cap,rfl,h1,h2,h3⟩:=h;have H3:=Lib.hid h3;have HT:=Lib.hid hlen;clear h3 hlen;generalize hn:ls.length=n at *;have HN:=Lib.hid hn;clear hn;unfold maxLen at h2
 go_enter Tryz.func148,Tryz.ntmps148
 go_wp2
 go_loopw [3,10] (fun v i wr=>∃ k:Nat,k≤n∧i = .int .i64 k∧SRel w ls v k 0 wr) (fun _ i _=>n - (intOf i).toNat)
 case atStart=>exact ⟨0,Nat.zero_le _,rfl,[],Sp.Own.nil _ _ _,Acc.zero ls,Below.refl _ _⟩
 case round =>
  obtain ⟨k,hk,rfl,x,hown,hacc,hb⟩:=hrel;have HA:=Lib.hid hacc;clear hacc
  by_cases hlt:k < n
  ·obtain ⟨b,off,rfl,hrows⟩:=H3.out (by omega)
   obtain ⟨u,c1,hu⟩:=hrows k (by have:=HN.out;omega);have HR:=Lib.hid hrows;clear hrows;have d1:=(hb.cell (World.block_lt_of_cell? _ _ c1)).trans c1;clear c1;obtain ⟨ra,rcap,rfl,r1,r2,r3⟩:=hu;have R3:=Lib.hid r3;clear r3;generalize hm:(ls.getD k []).length=m at *;have HM:=Lib.hid hm;clear hm;unfold maxLen at r2;obtain ⟨wo,rfl⟩:∃ wo:World,wo=wr:=⟨_,rfl⟩;have hw:SRel w ls _ k 0 wo:=⟨x,hown,HA.out,hb⟩;have HW:=Lib.hid hw;clear hw hown hb;have TB:Hid (tot ls k+m≤1099511627775):=by
    have e:=tot_mono ls (show k+1≤ls.length by have:=HN.out;omega);have e2:tot ls (k+1)=tot ls k+(ls.getD k []).length:=rfl;have:=HT.out;have:=HM.out;have:=HN.out
    show tot ls k+m≤1099511627775
    subst n
    omega
   go_wp2
   go_loopw [3,16] (fun v i wr=>∃ j:Nat,j≤m∧i = .int .i64 j∧SRel w ls v k j wr) (fun _ i _=>m - (intOf i).toNat)
   case atStart=>exact ⟨0,Nat.zero_le _,rfl,HW.out⟩
   case round =>
    obtain ⟨j,hj,rfl,y,hown,hacc,hb⟩:=hrel;have hB:=hb.size;have hyl:=hacc.len;have HAY:=Lib.hid hacc;clear hacc
    by_cases hltj:j < m
    ·obtain ⟨b',off',rfl,hA⟩:=R3.out (by omega)
     obtain ⟨c1,c2⟩:=hA j (by have:=HM.out;omega);have HAt:=Lib.hid hA;clear hA;have e1:=(hb.cell (World.block_lt_of_cell? _ _ c1)).trans c1;have e2:=(hb.cell (World.block_lt_of_cell? _ _ c2)).trans c2;clear c1 c2
     by_cases ht:fr (ls.getD k []) j < tp (ls.getD k []) j
     ·have PU:=Lib.hid (HAY.out.push (by have:=HM.out;omega) ht)
      generalize fr (ls.getD k []) j=p at *;generalize tp (ls.getD k []) j=q at *;have HT:=Lib.hid ht;clear ht;go_wp2_with fail;refine (at_bool (decide_eq_true HT.out) (ticks_any _ _ _)).mono ?_;rintro e w1 ⟨rfl,b1⟩;have f1:w1.cell? ⟨wr.heap.size,0,none⟩=some (.int .i64 p):=(b1.cell (by simp)).trans (by go_simp);have f2:w1.cell? ⟨wr.heap.size,1,none⟩=some (.int .i64 q):=(b1.cell (by simp)).trans (by go_simp);have z1:=b1.size
      simp at z1
      have hown1:=(hown.alloc (.cells #[.int .i64 p,.int .i64 q] 186)).keep b1;have hb1:=(hb.alloc hB (.cells #[.int .i64 p,.int .i64 q] 186)).trans (b1.mono (B':=w.heap.size) (by simp;omega));clear hown hb b1
      go_wp2_with (at_builtin;refine push_step rfl _ _ rfl w.heap.size _ _ rfl (hown1.alloc _) _ p q rfl ?c1 ?c2 ?c3 ?c4 ?_)
      case c1=>go_simp
      case c2=>go_simp
      case c3=>have:=TB.out;omega
      case c4=>simp;omega
      intro v' w2 hown2 hb2
      have R:SRel w ls v' k (j+1) w2:=⟨_,hown2,PU.out,(hb1.alloc (by omega) _).trans hb2⟩;clear hown2 hb2 hown1 hb1 f1 f2;go_wp2
      go_roundw
      case rel=>exact ⟨j+1,by omega,by go_num,R⟩
      case measure=>simp [intOf];omega
     ·have PU:=Lib.hid (HAY.out.skip (by have:=HM.out;omega) ht)
      generalize fr (ls.getD k []) j=p at *;generalize tp (ls.getD k []) j=q at *;have HT:=Lib.hid ht;clear ht;go_wp2_with fail;refine (at_bool (decide_eq_false (show ¬ p < q by have:=HT.out;omega)) (ticks_any _ _ _)).mono ?_;rintro e w1 ⟨rfl,b1⟩;have R:SRel w ls _ k (j+1) w1:=⟨_,(hown.alloc (.cells #[.int .i64 p,.int .i64 q] 186)).keep b1,PU.out,(hb.alloc hB (.cells #[.int .i64 p,.int .i64 q] 186)).trans (b1.mono (B':=w.heap.size) (by simp;omega))⟩;clear hown hb b1;go_wp2
      go_roundw
      case rel=>exact ⟨j+1,by omega,by go_num,R⟩
      case measure=>simp [intOf];omega
    ·obtain rfl:j=m:=by omega
     have R:SRel w ls _ (k+1) 0 wr:=⟨_,hown,(by have:=HAY.out;rw [← HM.out] at this;exact this.next),hb⟩;clear hown hb;go_wp2
     go_roundw
     case rel=>exact ⟨k+1,by omega,by go_num,R⟩
     case measure=>simp [intOf];omega
  ·obtain rfl:k=n:=by omega
   have hxl:x.length < 1099511627776:=by have:=HA.out.len;have:=HT.out;omega
   have hs:=sort_any wr w.heap.size _ x hown hxl;have HS:=Lib.hid hs;clear hs;go_wp2_with fail;refine HS.out.mono ?_;rintro e w1 ⟨rfl,hst⟩;have ST:=Lib.hid hst;clear hst;go_wp2
   go_ret
   obtain ⟨x',s1,s2,s3,s4,s5⟩:=ST.out;exact ⟨_,x',rfl,s1,SortOf.of (by rw [HN.out];exact HA.out) s2 s3 s4,hb.trans s5⟩
structure JoinOf (ls:List (List S2)) (l:List S2):Prop where
 plain:Plain l
 low:∀ t,Low l t↔∃ i,i < ls.length∧Low (ls.getD i []) t
 len:l.length≤tot ls ls.length
structure JRel (w w1:World) (S:List S2) (v:Value) (k:Nat) (l:List S2) (wr:World):Prop where
 own:Sp.Own wr w1.heap.size 186 v l
 inv:JoinInv S k l
 len:l.length≤k
 bel1:Below w1.heap.size w1 wr
 bel:Below w.heap.size w w1
theorem own_low {w:World} {B B' E:Nat} {v:Value} {l:List S2} (h:Sp.Own w B E v l) (hB:B'≤B):Sp.Own w B' E v l:=by
 obtain ⟨h1,h2⟩:=h;refine ⟨h1,?_⟩
 rcases h2 with h2 | ⟨g,cap,cur,e,hg,r⟩
 ·exact .inl h2
 ·exact .inr ⟨g,cap,cur,e,by omega,r⟩
theorem snoc_of {l:List S2} {m:Nat} (h:l.length=m+1):l=l.take m ++ [(fr l m,tp l m)]:=by
 have e:=take_snoc (S:=l) (k:=m) (by omega);rw [← e,← h,List.take_length]
theorem set_last {l:List S2} {m:Nat} (h:l.length=m+1) (x:Int):l.set m (fr l m,x)=l.take m ++ [(fr l m,x)]:=by
 have e:=snoc_of h;have hm:(l.take m).length=m:=by simp;omega
 generalize fr l m=p at *;generalize tp l m=q at *;generalize l.take m=t at *;subst e;rw [List.set_append_right _ _ (by omega),hm]
 simp
theorem JRel.push {w w1 wr w2:World} {S l:List S2} {v v':Value} {k:Nat} (h:JRel w w1 S v k l wr) (hS:Srt S) (hk:k < S.length) (hl:l = []∨lastc l < fr S k) (hown:Sp.Own w2 w1.heap.size 186 v' (l ++ [(fr S k,tp S k)])) (hb:Below w1.heap.size w1 w2):JRel w w1 S v' (k+1) (l ++ [(fr S k,tp S k)]) w2:=by
 refine ⟨hown,h.inv.push hS hk fun x hx=>?_,by have:=h.len;simp;omega,hb,h.bel⟩
 rcases hl with e | e
 ·rw [e] at hx;simp at hx
 ·have:=lastc_le h.inv.plain x hx;omega
theorem JRel.grow {w w1 wr w2:World} {S l:List S2} {v:Value} {k m:Nat} (h:JRel w w1 S v k l wr) (hk:k < S.length) (hm:l.length=m+1) (hl:fr S k≤tp l m) (hown:Sp.Own w2 w1.heap.size 186 v (l.set m (fr l m,max (tp l m) (tp S k)))) (hb:Below w1.heap.size w1 w2):JRel w w1 S v (k+1) (l.set m (fr l m,max (tp l m) (tp S k))) w2:=by
 refine ⟨hown,?_,by have:=h.len;simp;omega,hb,h.bel⟩;have e:=snoc_of hm;have inv:=h.inv;rw [e] at inv;have g:=inv.grow hk hl (max (tp l m) (tp S k)) (by omega);rw [set_last hm];exact g
set_option maxHeartbeats 1000000 in
theorem join_any (w:World) (v:Value) (ls:List (List S2)) (h:Rows w v ls) (hlen:tot ls ls.length < 1099511627776):Calls Tryz.prog 88 #[v] w (Made w (JoinOf ls)):=by
 have hs:=sorted_any w v ls h hlen;have HS:=Lib.hid hs;obtain ⟨a,cap,rfl,_,_,_⟩:=h;have HT:=Lib.hid hlen;clear hs hlen;generalize hn:ls.length=n at *;have HN:=Lib.hid hn;clear hn
 go_enter Tryz.func88,Tryz.ntmps88
 go_wp2_with fail;refine HS.out.mono ?_;rintro e w1 ⟨v1,S,rfl,hSp,hSo,hb0⟩;obtain ⟨a1,cap1,rfl,r1,r2,r3⟩:=hSp;have R3:=Lib.hid r3;have SO:=Lib.hid hSo;clear r3 hSo;generalize hm:S.length=n1 at *;have HM:=Lib.hid hm;clear hm;unfold maxLen at r2;have hz0:=hb0.size;go_wp2
 go_loopw [3,10] (fun v i wr=>∃ (k:Nat) (l:List S2),k≤n1∧i = .int .i64 k∧JRel w w1 S v k l wr) (fun _ i _=>n1 - (intOf i).toNat)
 case atStart=>exact ⟨0,[],Nat.zero_le _,rfl,Sp.Own.nil _ _ _,JoinInv.zero S,by simp,Below.refl _ _,hb0⟩
 case round =>
  obtain ⟨k,l,hk,rfl,hR⟩:=hrel;have HR:=Lib.hid hR;have hb:=hR.bel1;have hB:=hb.size;have hlk:=hR.len;clear hR
  by_cases hlt:k < n1
  ·obtain ⟨b,off,rfl,hA⟩:=R3.out (by omega)
   obtain ⟨c1,c2⟩:=hA k (by have:=HM.out;omega);have HA:=Lib.hid hA;clear hA;have d1:=(hb.cell (World.block_lt_of_cell? _ _ c1)).trans c1;have d2:=(hb.cell (World.block_lt_of_cell? _ _ c2)).trans c2;clear c1 c2;have TB:Hid (l.length < 1099511627776):=by
    have:=SO.out.len;have:=HT.out;have:=HM.out;have:=HN.out
    show l.length < 1099511627776
    subst n
    omega
   rcases Nat.eq_zero_or_pos l.length with z | z
   ·have NX:=fun v' w2 (h1:Sp.Own w2 w1.heap.size 186 v' (l ++ [(fr S k,tp S k)])) (h2:Below w1.heap.size w1 w2)=>HR.out.push SO.out.srt (by have:=HM.out;omega) (.inl (List.length_eq_zero_iff.1 z)) h1 h2
    have NX:=Lib.hid NX;obtain ⟨a3,cap3,rfl,_,_⟩:=HR.out.own.slice;generalize hl:l.length=len at *;have HL:=Lib.hid hl;clear hl;subst z;generalize hp:fr S k=p at *;generalize hq:tp S k=q at *;go_wp2
    go_quiet (fail)
    have hown:=((HR.out.own.alloc (.cells #[.int .i64 p,.int .i64 q] 186)).draw nq)
    go_wp2_with (at_builtin;refine push_step rfl _ _ rfl w1.heap.size _ _ rfl (hown.alloc _) _ p q rfl ?c1 ?c2 ?c3 ?c4 ?_)
    case c1=>go_simp
    case c2=>go_simp
    case c3=>have:=HL.out;omega
    case c4=>simp;omega
    intro v' w2 hown2 hb2
    have R:=NX.out v' w2 hown2 ((below_drewN (hb.alloc hB _) nq).alloc (by simp;omega) _ |>.trans hb2);clear hown2 hb2 hown;go_wp2
    go_roundw
    case rel=>exact ⟨k+1,_,by omega,by go_num,R⟩
    case measure=>simp [intOf];omega
   ·obtain ⟨m,hm1⟩:∃ m,l.length=m+1:=⟨l.length - 1,by omega⟩
    obtain ⟨g,cap3,rfl,g1,g2,_,_,_,hcells⟩:=HR.out.own.form z;obtain ⟨e0,e1,_,f1⟩:=hcells m (by omega);clear hcells z;have hlc:lastc l=tp l m:=by rw [lastc_tp l (by omega),hm1];rfl
    by_cases hle:fr S k≤tp l m
    ·have NX:=fun w2 h1 h2=>HR.out.grow (w2:=w2) (by have:=HM.out;omega) hm1 hle h1 h2
     have NX:=Lib.hid NX;have OW:=Lib.hid HR.out.own;have ST:=Lib.hid (fun (W:World) (h:Sp.Own W w1.heap.size 186 (.slice (some ⟨g,0,none⟩) l.length cap3) l)=>h.set m (by omega) (max (tp l m) (tp S k)));generalize hl:l.length=len at *;have HL:=Lib.hid hl;clear hl;subst hm1;clear hlc;generalize hp:fr S k=p at *;generalize hq:tp S k=q at *;generalize hp':fr l m=p' at *;generalize hq':tp l m=q' at *;go_wp2
     go_quiet (fail)
     go_wp2;have x0:((wr.alloc (.cells #[.int .i64 p,.int .i64 q] 186)).drewN nq).cell? ⟨wr.heap.size,1,none⟩=some (.int .i64 q):=by go_simp
     have x1:((wr.alloc (.cells #[.int .i64 p,.int .i64 q] 186)).drewN nq).cell? ⟨g,m * 2+1,none⟩=some (.int .i64 q'):=by go_simp
     have x2:((wr.alloc (.cells #[.int .i64 p,.int .i64 q] 186)).drewN nq).frozen? ⟨g,m * 2+1,none⟩=false:=by go_simp
     generalize hwq:(wr.alloc (.cells #[.int .i64 p,.int .i64 q] 186)).drewN nq=wq at x0 x1 x2 ⊢;have HWQ:=Lib.hid hwq;clear hwq
     go_region
     have OQ:Hid (Sp.Own wq w1.heap.size 186 (.slice (some ⟨g,0,none⟩) (m+1) cap3) l):=by
      rw [← HWQ.out];exact (OW.out.alloc _).draw nq
     have BQ:Hid (Below w1.heap.size w1 wq):=by
      rw [← HWQ.out];exact below_drewN (hb.alloc hB _) nq
     have R:=NX.out _ (show Sp.Own ((wq.setCell ⟨g,m * 2+1,none⟩ (.int .i64 (max q' q))).drew) _ _ _ _ from ST.out wq OQ.out) ((BQ.out.setCell (p:=⟨g,m * 2+1,none⟩) g1 _).drew);have R':=Lib.hid R;clear R x0 x1 x2;go_wp2
     go_roundw
     case rel=>exact ⟨k+1,_,by omega,by go_num,R'.out⟩
     case measure=>simp [intOf];omega
    ·have NX:=fun v' w2 (h1:Sp.Own w2 w1.heap.size 186 v' (l ++ [(fr S k,tp S k)])) (h2:Below w1.heap.size w1 w2)=>HR.out.push SO.out.srt (by have:=HM.out;omega) (.inr (by omega)) h1 h2
     have NX:=Lib.hid NX;have OW:=Lib.hid HR.out.own;generalize hl:l.length=len at *;have HL:=Lib.hid hl;clear hl;subst hm1;clear hlc;generalize hp:fr S k=p at *;generalize hq:tp S k=q at *;generalize hq':tp l m=q' at *;go_wp2
     go_quiet (fail)
     have hown:=((OW.out.alloc (.cells #[.int .i64 p,.int .i64 q] 186)).draw nq)
     go_wp2_with (at_builtin;refine push_step rfl _ _ rfl w1.heap.size _ _ rfl (hown.alloc _) _ p q rfl ?c1 ?c2 ?c3 ?c4 ?_)
     case c1=>go_simp
     case c2=>go_simp
     case c3=>have:=HL.out;have:=TB.out;omega
     case c4=>simp;omega
     intro v' w2 hown2 hb2
     have R:=NX.out v' w2 hown2 ((below_drewN (hb.alloc hB _) nq).alloc (by simp;omega) _ |>.trans hb2);clear hown2 hb2 hown;go_wp2
     go_roundw
     case rel=>exact ⟨k+1,_,by omega,by go_num,R⟩
     case measure=>simp [intOf];omega
  ·obtain rfl:k=n1:=by omega
   have inv:=HR.out.inv;rw [← HM.out] at inv;have al:=inv.all;have J:JoinOf ls l:=⟨al.1,fun t=>(al.2 t).trans (SO.out.low t),by have:=SO.out.len;have:=HM.out;omega⟩;have JJ:=Lib.hid J;have OW:=Lib.hid (own_low HR.out.own hz0);have BB:=Lib.hid (HR.out.bel.trans (hb.mono hz0));clear inv al J;go_wp2
   go_ret
   exact ⟨_,l,rfl,OW.out,JJ.out,BB.out⟩
end Go.Proofs.YtljnkaodhfnbbaaGreatDoor.Wi
namespace Go.Proofs.YtljnkaodhfnbbaaGreatDoor.Bu
open Go.RowKit
open Sp (S2 fr tp Sp)
open Rw (Rd Ow At)
open Wi (Plain PlainOf Low low_nil low_append low_cons Rows tot JoinOf)
open Ck (Hd sl zh KS)
structure HdI (w:World) (v:Value) (hs:List Hd) (ls:List (List S2)) (Q:Int→Prop) (k:Nat) (wr:World):Prop where
 own:Ow KS wr w.heap.size 95 v hs
 el:∀ i,i < hs.length→Sp.Own wr w.heap.size 186 (sl (hs.getD i zh)) (ls.getD i [])
 ll:ls.length=hs.length
 few:∀ i,i < ls.length→(ls.getD i []).length≤4294967297
 low:∀ u,(∃ i,i < ls.length∧Low (ls.getD i []) u)↔Q u
 len:hs.length≤k
 bel:Below w.heap.size w wr
section
variable {w wr w':World} {v v':Value} {hs:List Hd} {ls:List (List S2)} {Q Q':Int→Prop} {k:Nat}
theorem HdI.start (w:World) (b:Below w.heap.size w wr) (hQ:∀ u,¬ Q u):HdI w (.slice none 0 0) [] [] Q 0 wr :=
 ⟨Ow.nil _ _ _,fun _ hi=>absurd hi (Nat.not_lt_zero _),rfl,fun _ hi=>absurd hi (Nat.not_lt_zero _),fun u=>⟨fun ⟨_,hi,_⟩=>absurd hi (Nat.not_lt_zero _),fun h=>absurd h (hQ u)⟩,Nat.le_refl _,b⟩
theorem HdI.below (h:HdI w v hs ls Q k wr) (b:Below wr.heap.size wr w'):HdI w v hs ls Q k w':=⟨h.own.keep b,fun i hi=>(h.el i hi).keep b,h.ll,h.few,h.low,h.len,h.bel.trans (b.mono h.bel.size)⟩
theorem HdI.to (h:HdI w v hs ls Q k wr) (e:∀ u,Q' u↔Q u):HdI w v hs ls Q' (k+1) wr:=⟨h.own,h.el,h.ll,h.few,fun u=>(h.low u).trans (e u).symm,Nat.le_succ_of_le h.len,h.bel⟩
theorem own_grown {B E B' E' n m:Nat} {l:List S2} {f:List Value} (h:Sp.Own wr B E v l) (h':wr.ownsRow B' E' n v' m f) (hE:E≠E') (gr:wr.grownBy w' v'.ownBlock):Sp.Own w' B E v l:=by
 obtain ⟨h1,h2⟩:=h;refine ⟨h1,?_⟩
 rcases h2 with h2 | ⟨g,cap,cur,e,hB,hh,r⟩
 ·exact .inl h2
 ·refine .inr ⟨g,cap,cur,e,hB,(gr.block g (lt_of_block hh) fun q=>?_).trans hh,r⟩
  obtain ⟨_,h'⟩:=h'
  rcases h' with ⟨rfl,_⟩ | ⟨g',cap',cur',rfl,_,hh',_⟩
  ·cases q
  ·simp only [Value.ownBlock,Option.some.injEq] at q
   subst q;rw [hh] at hh';simp only [Option.some.injEq,Obj.cells.injEq] at hh';exact hE hh'.2.1
theorem getD_snoc {α:Type} (l:List α) (x d:α) (i:Nat):(l ++ [x]).getD i d=if i < l.length then l.getD i d else if i=l.length then x else d:=by
 rw [List.getD_eq_getElem?_getD,List.getElem?_append]
 split
 ·rw [List.getD_eq_getElem?_getD]
 ·split
  ·rename_i h;subst h;simp
  ·rw [List.getElem?_eq_none (by simp;omega)];rfl
theorem HdI.push {h:Hd} {l:List S2} (I:HdI w v hs ls Q k wr) (o:Sp.Own wr w.heap.size 186 (sl h) l) (hf:l.length≤4294967297) (own:Ow KS w' w.heap.size 95 v' (hs ++ [h])) (gr:wr.grownBy w' v.ownBlock) (hQ:∀ u,Q' u↔Q u∨Low l u) :
 HdI w v' (hs ++ [h]) (ls ++ [l]) Q' (k+1) w':=by
 refine ⟨own,fun i hi=>?_,by simp [I.ll],fun i hi=>?_,fun u=>?_,by simp;exact I.len,I.bel.grown gr I.bel.size fun j e=>(World.ownsRow.lt I.own j e).1⟩
 ·rw [getD_snoc,getD_snoc,I.ll]
  simp only [List.length_append,List.length_singleton] at hi
  split
  ·rename_i q;exact own_grown (I.el i q) I.own (by decide) gr
  ·rw [if_pos (by omega),if_pos (by omega)]
   exact own_grown o I.own (by decide) gr
 ·rw [getD_snoc]
  split
  ·rename_i q;exact I.few i q
  ·split
   ·exact hf
   ·exact Nat.zero_le _
 ·rw [hQ u,← I.low u]
  constructor
  ·rintro ⟨i,hi,c⟩
   rw [getD_snoc] at c
   split at c
   ·rename_i q;exact .inl ⟨i,q,c⟩
   ·split at c
    ·exact .inr c
    ·exact absurd c low_nil
  ·rintro (⟨i,hi,c⟩ | c)
   ·exact ⟨i,by simp;omega,by rw [getD_snoc,if_pos hi];exact c⟩
   ·exact ⟨ls.length,by simp,by rw [getD_snoc,if_neg (Nat.lt_irrefl _),if_pos rfl];exact c⟩
theorem HdI.rows (I:HdI w v hs ls Q k wr):Wi.Rows wr v ls:=by
 obtain ⟨a,cap,e,h1,h2,h3⟩:=I.own.rd;rw [← I.ll] at e h1 h3;refine ⟨a,cap,e,h1.1,h2,fun hp=>?_⟩;obtain ⟨b,off,ea,hA⟩:=h3 hp;refine ⟨b,off,ea,fun i hi=>⟨_,?_,(I.el i (by rw [← I.ll];exact hi)).sp⟩⟩;have c:=hA i (by rw [← I.ll];exact hi) 0 _ rfl;simp only [KS,Nat.mul_one,Nat.add_zero] at c;exact c
theorem tot_few (ls:List (List S2)) (h:∀ i,i < ls.length→(ls.getD i []).length≤4294967297):∀ n,n≤ls.length→tot ls n≤n * 4294967297
 | 0,_=>Nat.le_refl _
 | n+1,hn=>by
   have:=tot_few ls h n (by omega);have:=h n (by omega)
   show tot ls n+_≤_
   omega
theorem HdI.tot (I:HdI w v hs ls Q k wr) (hk:k≤100):tot ls ls.length < 1099511627776:=by
 have:=tot_few ls I.few ls.length (Nat.le_refl _);have:=I.ll;have:=I.len
 omega
theorem HdI.join (I:HdI w v hs ls Q k wr) {x:List S2} (j:JoinOf ls x):Plain x∧∀ u,Low x u↔Q u:=⟨j.plain,fun u=>(j.low u).trans (I.low u)⟩
theorem HdI.slice (I:HdI w v hs ls Q k wr):∃ a cap,v = .slice a hs.length cap∧cap≤maxLen:=by
 obtain ⟨a,cap,e,_,h⟩:=I.own.slice;exact ⟨a,cap,e,h⟩
end
theorem infoP:(Tryz.prog.info? 95).map (fun i=>(i.zero,i.size,i.bytes))=some (some (.slice none 0 0),1,24):=by kernel_rfl
section
end
end Go.Proofs.YtljnkaodhfnbbaaGreatDoor.Bu
namespace Go.Proofs.YtljnkaodhfnbbaaGreatDoor.Tk
open Go.RowKit
structure Bd (A R:Nat→Int) (n k:Nat):Prop where
 f0:0≤fr A k
 f1:fr A k≤4294967296
 r0 : -20000≤rt R k
 r1:rt R k≤20000
 s0:0≤sm A R k
 s1:sm A R k≤4380866641920
theorem Bd.of {A R:Nat→Int} {n:Nat} (g:GoodP n A R) (k:Nat) (h:k≤n):0≤sm A R k∧sm A R k≤4380866641920000:=by
 have f:=fr_bd g k h;have s:=sm_bd g k h
 omega
theorem mul_rt {A R:Nat→Int} {n:Nat} (g:GoodP n A R) (k:Nat) (h:k≤n) (d:Int) (h0:0≤d) (h1:d≤4294967296):0≤d * (1000000+rt R k)∧d * (1000000+rt R k)≤4380866641920000:=by
 have b:=rt_bd g k h;have m:=mul_bd (d:=d) (c:=1000000+rt R k) h0 (by omega) (by omega)
 omega
theorem parts_none (w:World) (a:Option Addr) (cap:Nat) (t:Int) (h0:0≤t) (h1:t≤4294967296) (A R:Nat→Int):Calls Tryz.prog 193 #[.slice a 0 cap,.int .i64 t] w fun e w'=>e = .returned (.int .i64 (PP A R 0 t))∧Below w.heap.size w w':=by
 have e:PP A R 0 t=t * 1000000:=by
  rw [PP_eq (⟨Nat.le_refl _,fun i h=>by omega,fun h=>by omega⟩:AtStop A 0 t 0)]
  show 0+(t - 0) * (1000000+0)=_
  omega
 rw [e]
 go_enter Tryz.func193,Tryz.ntmps193
 go_wp2
 go_loopw [5,6,7,12] (fun s f r i wr=>i = .int .i64 0∧s = .int .i64 0∧f = .int .i64 0∧r = .int .i64 0∧Below w.heap.size w wr) (fun _ _ _ _ _=>0)
 case atStart=>exact ⟨rfl,rfl,rfl,rfl,Below.refl _ _⟩
 case round =>
  obtain ⟨rfl,rfl,rfl,rfl,hb⟩:=hrel;go_wp2
  go_ret
  exact ⟨ret_int (by omega),hb⟩
set_option maxHeartbeats 400000 in
theorem parts_some (w:World) (b off n cap:Nat) (A R:Nat→Int) (g:GoodP n A R) (t:Int) (h0:0≤t) (h1:t≤4294967296)
 (hc:∀ i,i < n→w.cell? ⟨b,off+i * 2,none⟩=some (.int .i64 (A i))∧w.cell? ⟨b,off+i * 2+1,none⟩=some (.int .i64 (R i))) :
 Calls Tryz.prog 193 #[.slice (some ⟨b,off,none⟩) n cap,.int .i64 t] w fun e w'=>e = .returned (.int .i64 (PP A R n t))∧Below w.heap.size w w':=by
 have HC:=Lib.hid hc;clear hc;have G:=Lib.hid g;clear g;have hn:n≤64:=G.out.len
 go_enter Tryz.func193,Tryz.ntmps193
 go_wp2
 go_loopw [5,6,7,12] (fun s f r i wr=>∃ k:Nat,k≤n∧i = .int .i64 k∧s = .int .i64 (sm A R k)∧f = .int .i64 (fr A k)∧r = .int .i64 (rt R k)∧Hid (∀ i,i < k→A i < t)∧Below w.heap.size w wr) (fun _ _ _ i _=>n - (intOf i).toNat)
 case atStart=>exact ⟨0,Nat.zero_le _,rfl,rfl,rfl,rfl,fun i h=>by omega,Below.refl _ _⟩
 case round =>
  obtain ⟨k,hk,rfl,rfl,rfl,rfl,hs,hb⟩:=hrel;have fb:=fr_bd G.out k hk;have rb:=rt_bd G.out k hk;have sb:=Bd.of G.out k hk
  by_cases hlt:k < n
  ·obtain ⟨c1,c2⟩:=HC.out k hlt
   have d1:=(hb.cell (World.block_lt_of_cell? _ _ c1)).trans c1;have d2:=(hb.cell (World.block_lt_of_cell? _ _ c2)).trans c2;clear c1 c2;have ab:=G.out.at_ k hlt;have fa:=fr_le G.out k hlt;have mb:=mul_rt G.out k hk (A k - fr A k) (by omega) (by omega)
   by_cases ht:t≤A k
   ·have hst:AtStop A n t k:=⟨hk,hs.out,fun _=>ht⟩
    have ft:=stop_fr h0 hst;have mc:=mul_rt G.out k hk (t - fr A k) (by omega) (by omega);have HP:=Lib.hid (PP_eq (R:=R) hst);clear hst;go_wp2
    go_ret
    exact ⟨ret_int (by rw [HP.out];rfl),hb.alloc hb.size _⟩
   ·go_wp2
    go_quiet (fail)
    go_wp2
    go_roundw
    case rel=>exact ⟨k+1,by omega,by go_num,rfl,rfl,rfl,(fun i hi=>by
     by_cases e:i=k
     ·subst e;omega
     ·exact hs.out i (by omega)),below_drewN (hb.alloc hb.size _) _⟩
    case measure=>simp [intOf];omega
  ·obtain rfl:k=n:=by omega
   have hst:AtStop A k t k:=⟨hk,hs.out,fun h=>by omega⟩;have ft:=stop_fr h0 hst;have mc:=mul_rt G.out k hk (t - fr A k) (by omega) (by omega);have HP:=Lib.hid (PP_eq (R:=R) hst);clear hst;go_wp2
   go_ret
   exact ⟨ret_int (by rw [HP.out];rfl),hb⟩
theorem parts_any (w:World) (v:Value) (n:Nat) (A R:Nat→Int) (h:Steps w v n A R) (g:GoodP n A R) (t:Int) (h0:0≤t) (h1:t≤4294967296) :
 Calls Tryz.prog 193 #[v,.int .i64 t] w fun e w'=>e = .returned (.int .i64 (PP A R n t))∧Below w.heap.size w w':=by
 rcases h with ⟨a,cap,rfl,_,rfl⟩ | ⟨b,off,cap,rfl,_,_,hc⟩
 ·exact parts_none w a cap t h0 h1 A R
 ·exact parts_some w b off n cap A R g t h0 h1 hc
theorem local_any (w:World) (v:Value) (n:Nat) (A R:Nat→Int) (h:Steps w v n A R) (g:GoodP n A R) (t:Int) :
 Calls Tryz.prog 151 #[v,.int .i64 t] w fun e w'=>e = .returned (.int .i64 (Loc A R n t))∧Below w.heap.size w w':=by
 have G:=Lib.hid g;clear g;have S:=Lib.hid h;clear h
 by_cases ht:t≤0
 ·have e:Loc A R n t=0:=by
   have c:clamp t=0:=by unfold clamp;split <;> (try split) <;> omega
   rw [Loc,c,PP_zero G.out];rfl
  have E:=Lib.hid e;clear e
  go_enter Tryz.func151,Tryz.ntmps151
  go_wp2
  go_ret
  exact ⟨ret_int E.out.symm,Below.refl _ _⟩
 ·by_cases hm:t≤4294967296
  ·have p:=parts_any w v n A R S.out G.out t (by omega) hm
   have mn:min t 4294967296=t:=Int.min_eq_left hm;have pb:=PP_bd G.out t (by omega);have P:=Lib.hid p;clear p;have e:Loc A R n t=PP A R n t / 1000000:=by rw [Loc,clamp_id (by omega) hm]
   have E:=Lib.hid e;clear e
   go_enter Tryz.func151,Tryz.ntmps151
   go_wp2_with fail;refine P.out.mono ?_;rintro e w' ⟨rfl,hb⟩;go_wp2
   go_ret
   exact ⟨ret_int E.out.symm,hb⟩
  ·have p:=parts_any w v n A R S.out G.out 4294967296 (by omega) (by omega)
   have mn:min t 4294967296=4294967296:=by omega
   have pb:=PP_bd G.out 4294967296 (by omega);have P:=Lib.hid p;clear p;have e:Loc A R n t=PP A R n 4294967296 / 1000000:=by
    have c:clamp t=4294967296:=by unfold clamp;split <;> (try split) <;> omega
    rw [Loc,c]
   have E:=Lib.hid e;clear e
   go_enter Tryz.func151,Tryz.ntmps151
   go_wp2_with fail;refine P.out.mono ?_;rintro e w' ⟨rfl,hb⟩;go_wp2
   go_ret
   exact ⟨ret_int E.out.symm,hb⟩
end Go.Proofs.YtljnkaodhfnbbaaGreatDoor.Tk
namespace Go.Proofs.YtljnkaodhfnbbaaGreatDoor.Tk
open Go.RowKit
theorem Steps.drew {w:World} {v:Value} {n:Nat} {A R:Nat→Int} (h:Steps w v n A R):Steps w.drew v n A R:=h.below (Below.refl _ _).drew
theorem clos_any (w:World) (bl bn:Nat) (v:Value) (n:Nat) (A R:Nat→Int) (m t:Int) (S:Steps w v n A R) (g:GoodP n A R)
 (hl:w.cell? ⟨bl,0,none⟩=some v) (hn:w.cell? ⟨bn,0,none⟩=some (.int .i64 m)) :
 Calls Tryz.prog 188 (#[.int .i64 t] ++ #[.pointer (some ⟨bl,0,none⟩),.pointer (some ⟨bn,0,none⟩)]) w fun e w'=>e = .returned (.bool (decide (m≤Loc A R n t)))∧Below w.heap.size w w':=by
 have LC:Hid (∀ W,Below w.heap.size w W→Calls Tryz.prog 151 #[v,.int .i64 t] W fun e w'=>e = .returned (.int .i64 (Loc A R n t))∧Below W.heap.size W w'):=fun W hW=>local_any W v n A R (S.below hW) g t;have hlt:=World.block_lt_of_cell? _ _ hn;clear S g
 go_enter Tryz.func188,Tryz.ntmps188
 go_wp2_with fail
 go_region_with (go_at_call 151;refine (LC.out _ ?_).mono ?_;exact (Below.refl _ _).drew;rintro e w1 ⟨rfl,hb⟩;have hn1:=(hb.cell hlt).trans hn)
 all_goals go_wp2
 all_goals go_ret
 all_goals exact ⟨rfl,(Below.refl _ _).drew.trans hb⟩
theorem mid_lo {A R:Nat→Int} {n:Nat} {m lo hi:Int} (g:GoodP n A R) (h:¬ m≤Loc A R n ((lo+hi) / 2)):∀ t,0≤t→t < (lo+hi) / 2+1→Loc A R n t < m:=fun t _ h1=>by
 have:=Loc_mono g (show t≤(lo+hi) / 2 by omega)
 omega
set_option maxHeartbeats 400000 in
theorem search_any (w:World) (bl bn:Nat) (v:Value) (n:Nat) (A R:Nat→Int) (m:Int) (S:Steps w v n A R) (g:GoodP n A R)
 (hl:w.cell? ⟨bl,0,none⟩=some v) (hn:w.cell? ⟨bn,0,none⟩=some (.int .i64 m)) :
 Calls Tryz.prog 91 #[.int .i64 4294967296,.func (.func 188) #[] #[.pointer (some ⟨bl,0,none⟩),.pointer (some ⟨bn,0,none⟩)]] w fun e w'=>e = .returned (.int .i64 (Glo A R n m))∧Below w.heap.size w w':=by
 have CC:Hid (∀ W t,Below w.heap.size w W→Calls Tryz.prog 188 (#[.int .i64 t] ++ #[.pointer (some ⟨bl,0,none⟩),.pointer (some ⟨bn,0,none⟩)]) W fun e w'=>e = .returned (.bool (decide (m≤Loc A R n t)))∧Below w.heap.size W w'):=fun W t hW =>
  (clos_any W bl bn v n A R m t (S.below hW) g ((hW.cell (World.block_lt_of_cell? _ _ hl)).trans hl) ((hW.cell (World.block_lt_of_cell? _ _ hn)).trans hn)).mono fun e w' ⟨h1,h2⟩=>⟨h1,h2.mono hW.size⟩
 have G:=Lib.hid g;clear S g hl hn
 go_enter Tryz.func91,Tryz.ntmps91
 go_wp2
 go_loopw [5,6] (fun i j wr=>∃ lo hi:Int,0≤lo∧lo≤hi∧hi≤4294967296∧i = .int .i64 lo∧j = .int .i64 hi∧Hid (∀ t,0≤t→t < lo→Loc A R n t < m)∧Hid (hi < 4294967296→m≤Loc A R n hi)∧Below w.heap.size w wr) (fun i j _=>(intOf j - intOf i).toNat)
 case atStart=>exact ⟨0,4294967296,by omega,by omega,by omega,rfl,rfl,fun t a b=>by omega,fun h=>by omega,Below.refl _ _⟩
 case round =>
  obtain ⟨lo,hi,h0,h1,h2,rfl,rfl,il,ih,hb⟩:=hrel
  by_cases hlt:lo < hi
  ·by_cases hm:m≤Loc A R n ((lo+hi) / 2)
   ·have HM:=Lib.hid hm
    have hd:decide (m≤Loc A R n ((lo+hi) / 2))=true:=decide_eq_true hm;have c:=CC.out wr ((lo+hi) / 2) hb;rw [hd] at c;have C:=Lib.hid c;clear c hd hm;go_wp2_with fail;refine C.out.mono ?_;rintro e w1 ⟨rfl,hb1⟩;go_wp2
    go_roundw
    case rel=>exact ⟨lo,(lo+hi) / 2,h0,by omega,by omega,rfl,rfl,il,fun _=>HM.out,hb.trans hb1⟩
    case measure=>simp [intOf];omega
   ·have HM:=Lib.hid hm
    have hd:decide (m≤Loc A R n ((lo+hi) / 2))=false:=decide_eq_false hm;have c:=CC.out wr ((lo+hi) / 2) hb;rw [hd] at c;have C:=Lib.hid c;clear c hd hm;go_wp2_with fail;refine C.out.mono ?_;rintro e w1 ⟨rfl,hb1⟩;go_wp2
    go_roundw
    case rel=>exact ⟨(lo+hi) / 2+1,hi,by omega,by omega,by omega,rfl,rfl,mid_lo G.out (by have:=HM.out;omega),ih,hb.trans hb1⟩
    case measure=>simp [intOf];omega
  ·obtain rfl:lo=hi:=by omega
   go_wp2
   go_ret
   exact ⟨ret_int (Glo_eq (IsG.of_meet h0 h2 il ih)).symm,hb⟩
theorem Steps.slice {w:World} {v:Value} {n:Nat} {A R:Nat→Int} (S:Steps w v n A R):∃ a l cap,v = .slice a l cap:=by
 rcases S with ⟨a,cap,rfl,_⟩ | ⟨b,off,cap,rfl,_⟩
 ·exact ⟨_,_,_,rfl⟩
 ·exact ⟨_,_,_,rfl⟩
set_option maxHeartbeats 400000 in
theorem global_any (w:World) (v:Value) (n:Nat) (A R:Nat→Int) (m:Int) (S:Steps w v n A R) (g:GoodP n A R) :
 Calls Tryz.prog 146 #[v,.int .i64 m] w fun e w'=>e = .returned (.int .i64 (Glo A R n m))∧Below w.heap.size w w':=by
 obtain ⟨a,l,cap,rfl⟩:=S.slice;have hb:Below w.heap.size w ((w.alloc (.cells #[.slice a l cap] 103)).alloc (.cells #[.int .i64 m] 3)):=((Below.refl _ _).alloc (Nat.le_refl _) _).alloc (by simp) _;have c:=search_any ((w.alloc (.cells #[.slice a l cap] 103)).alloc (.cells #[.int .i64 m] 3)) w.heap.size (w.heap.size+1) (.slice a l cap) n A R m (S.below hb) g (by go_simp) (by go_simp);have C:=Lib.hid c;have HB:=Lib.hid hb;clear c hb S g;have hmf:∀ (fn:Fn) (first cap:Array Value) (w:World),(Instr.makeFunc fn first cap).run Tryz.prog w = .ok (.func fn first cap) w:=fun _ _ _ _=>rfl
 go_enter Tryz.func146,Tryz.ntmps146
 go_wp2_with fail;refine C.out.mono ?_;rintro e w1 ⟨rfl,hb1⟩;go_wp2
 go_ret
 exact ⟨rfl,HB.out.trans (hb1.mono (by simp;omega))⟩
end Go.Proofs.YtljnkaodhfnbbaaGreatDoor.Tk
namespace Go.Proofs.YtljnkaodhfnbbaaGreatDoor.Se
open Go.RowKit Go.Proofs.YtljnkaodhfnbbaaGreatDoor.Tk
set_option maxHeartbeats 400000 in
theorem during_any (w:World) (v:Value) (n:Nat) (A R:Nat→Int) (S:Tk.Steps w v n A R) (g:GoodP n A R) (m d:Int) (m0:0≤m) (m1:m≤4294967296) (d0:0≤d) (d1:d≤4294967296) :
 Calls Tryz.prog 95 #[v,.int .i64 m,.int .i64 d] w fun e w'=>e = .returned (.agg #[.int .i64 (Glo A R n m),.int .i64 (Glo A R n (m+d))])∧Below w.heap.size w w':=by
 have hb0:Below w.heap.size w (w.alloc (.cells #[.int .i64 0,.int .i64 0] 186)):=(Below.refl _ _).alloc (Nat.le_refl _) _;have S0:=Lib.hid (S.below hb0);have G:=Lib.hid g;have HB:=Lib.hid hb0;clear S g hb0
 go_enter Tryz.func95,Tryz.ntmps95
 go_wp2_with fail;refine (global_any _ _ _ _ _ _ S0.out G.out).mono ?_;rintro e w1 ⟨rfl,b1⟩;have S1:=Lib.hid (S0.out.below b1);have c0:w1.cell? ⟨w.heap.size,0,none⟩=some (.int .i64 0):=(b1.cell (by simp)).trans (by go_simp);have c1:w1.cell? ⟨w.heap.size,1,none⟩=some (.int .i64 0):=(b1.cell (by simp)).trans (by go_simp);have f0:w1.frozen? ⟨w.heap.size,0,none⟩=false:=(b1.frozen (by simp)).trans (by go_simp);have f1:w1.frozen? ⟨w.heap.size,1,none⟩=false:=(b1.frozen (by simp)).trans (by go_simp);have z1:=b1.size
 simp at z1
 have B1:=Lib.hid (HB.out.trans (b1.mono (B':=w.heap.size) (by simp)));clear b1;have F0:=Lib.hid f0;have F1:=Lib.hid f1;have C0:=Lib.hid c0;have C1:=Lib.hid c1;clear c0 c1 f0 f1;go_wp2_with fail;refine (global_any _ _ _ _ _ _ S1.out G.out).mono ?_;rintro e w2 ⟨rfl,b2⟩;have c0:w2.cell? ⟨w.heap.size,0,none⟩=some (.int .i64 0):=(b2.cell (by show w.heap.size < w1.heap.size;omega)).trans C0.out;have c1:w2.cell? ⟨w.heap.size,1,none⟩=some (.int .i64 0):=(b2.cell (by show w.heap.size < w1.heap.size;omega)).trans C1.out;have f0:w2.frozen? ⟨w.heap.size,0,none⟩=false:=(b2.frozen (by show w.heap.size < w1.heap.size;omega)).trans F0.out;have f1:w2.frozen? ⟨w.heap.size,1,none⟩=false:=(b2.frozen (by show w.heap.size < w1.heap.size;omega)).trans F1.out;have z2:=b2.size;have B2:=Lib.hid (B1.out.trans (b2.mono (B':=w.heap.size) (by omega)));clear b2;go_wp2;refine bodyPost_ret (v:=.agg #[.int .i64 (Glo A R n m),.int .i64 (Glo A R n (m+d))]) (by simp [results,Tryz.results95,go_sem,c0,c1]) rfl ⟨rfl,?_⟩;exact (B2.out.setCell (by simp) _).setCell (by simp) _
end Go.Proofs.YtljnkaodhfnbbaaGreatDoor.Se
namespace Go.Proofs.YtljnkaodhfnbbaaGreatDoor.Ua
open Go.RowKit
theorem run_index_arr (F:Nat→Bool) (k:Nat) (h:k < 11) (w:World):(Instr.index 113 (.agg (arr F)) (.int .i64 k)).run Tryz.prog w = .ok (.bool (F k)) w:=by
 have hg:=arr_get F k h;have hk:¬ 11≤k:=by omega
 simp [Instr.index,asIntOf,run_underlying Tryz.underlying113,go_sem,part,hg,hk]
end Go.Proofs.YtljnkaodhfnbbaaGreatDoor.Ua
namespace Go.Proofs.YtljnkaodhfnbbaaGreatDoor.Wi
open Go.RowKit Go.Proofs.YtljnkaodhfnbbaaGreatDoor.Sp
theorem idx_low (t:Int) (l:List S2):decide (0≤idx (inB t) l)=lowB l t:=by
 rcases idx_cases (inB t) l with ⟨i,hi,hp,_,e⟩ | ⟨hn,e⟩
 ·rw [e]
  have:lowB l t=true:=lowB_iff.2 (low_iff.2 ⟨i,hi,by simpa [inB] using hp⟩);rw [this];simp
 ·rw [e]
  have:lowB l t=false:=lowB_false.2 fun h=>by
   obtain ⟨i,hi,h1,h2⟩:=low_iff.1 h;have:=hn i hi
   simp [inB,h1] at this
   omega
  rw [this];simp
def PredS (g:Nat) (lb:Array Value) (p:S2→Bool) (w:World):Prop :=
 ∀ (W:World) (a b:Int),Below w.heap.size w W→Calls Tryz.prog g (#[.agg #[.int .i64 a,.int .i64 b]] ++ lb) W fun e w'=>e = .returned (.bool (p (a,b)))∧Below w.heap.size w w'
set_option maxHeartbeats 1000000 in
theorem index_any (w:World) (v:Value) (l:List S2) (g:Nat) (lb:Array Value) (p:S2→Bool) (eg:∀ args w,(callFunc g args).run Tryz.prog w = .ok (.enter g args) w) (h:Sp w v l) (hp:PredS g lb p w) :
 Calls Tryz.prog 149 #[v,.func (.func g) #[] lb] w fun e w'=>e = .returned (.int .i64 (idx p l))∧Below w.heap.size w w':=by
 obtain ⟨a,cap,rfl,h1,h2,h3⟩:=h;have H3:=Lib.hid h3;have HP:=Lib.hid hp;have hhit:∀ i,i < l.length→p (fr l i,tp l i)=true→(∀ j,j < i→p (fr l j,tp l j)=false)→idx p l=i:=fun i=>idx_hit;have hmiss:(∀ j,j < l.length→p (fr l j,tp l j)=false)→idx p l = -1:=idx_miss;have HH:=Lib.hid hhit;have HM:=Lib.hid hmiss;clear h3 hp hhit hmiss;generalize hr:idx p l=r at *;clear hr;generalize hn:l.length=n at *;have HN:=Lib.hid hn;clear hn;unfold maxLen at h2
 go_enter Tryz.func149,Tryz.ntmps149
 go_wp2
 go_loopw [8] (fun i wr=>∃ k:Nat,k≤n∧i = .int .i64 k∧Hid (∀ j,j < k→p (fr l j,tp l j)=false)∧Hid (Below w.heap.size w wr)) (fun i _=>n - (intOf i).toNat)
 case atStart=>exact ⟨0,Nat.zero_le _,rfl,fun j hj=>by omega,Below.refl _ _⟩
 case round =>
  obtain ⟨k,hk,rfl,hs,hb⟩:=hrel
  by_cases hlt:k < n
  ·obtain ⟨b,off,rfl,hA⟩:=H3.out (by omega)
   obtain ⟨c1,c2⟩:=hA k (by have:=HN.out;omega);have HA:=Lib.hid hA;clear hA;have d1:=(hb.out.cell (World.block_lt_of_cell? _ _ c1)).trans c1;have d2:=(hb.out.cell (World.block_lt_of_cell? _ _ c2)).trans c2;clear c1 c2;have hc:=HP.out wr (fr l k) (tp l k) hb.out
   cases hq:p (fr l k,tp l k) with
   | true =>
     rw [hq] at hc;have C:=Lib.hid hc;have HR:=Lib.hid (HH.out k hlt hq hs.out);clear hc hq;go_wp2_with fail;refine C.out.mono ?_;rintro e w1 ⟨rfl,b1⟩;go_wp2
     go_ret
     exact ⟨ret_int HR.out.symm,b1⟩
   | false =>
     rw [hq] at hc;have C:=Lib.hid hc;have ST:Hid (∀ j,j < k+1→p (fr l j,tp l j)=false):=fun j hj=>by
      by_cases e:j=k
      ·rw [e];exact hq
      ·exact hs.out j (by omega)
     clear hc hq;go_wp2_with fail;refine C.out.mono ?_;rintro e w1 ⟨rfl,b1⟩;have B1:=Lib.hid b1;clear b1;go_wp2
     go_roundw
     case rel=>exact ⟨k+1,by omega,by go_num,ST,B1⟩
     case measure=>simp [intOf];omega
  ·obtain rfl:k=n:=by omega
   have HR:=Lib.hid (HM.out hs.out);go_wp2
   go_ret
   exact ⟨ret_int HR.out.symm,hb.out⟩
theorem contains_any (w:World) (v:Value) (l:List S2) (g:Nat) (lb:Array Value) (p:S2→Bool) (eg:∀ args w,(callFunc g args).run Tryz.prog w = .ok (.enter g args) w) (h:Sp w v l) (hp:PredS g lb p w) :
 Calls Tryz.prog 89 #[v,.func (.func g) #[] lb] w fun e w'=>e = .returned (.bool (decide (0≤idx p l)))∧Below w.heap.size w w':=by
 have C:=Lib.hid (index_any w v l g lb p eg h hp);clear eg h hp;generalize idx p l=r at *
 go_enter Tryz.func89,Tryz.ntmps89
 go_wp2_with fail;refine C.out.mono ?_;rintro e w1 ⟨rfl,b1⟩;go_wp2
 go_ret
 exact ⟨rfl,b1⟩
theorem hclos_any (w:World) (B:Nat) (t:Int) (hc:w.cell? ⟨B,0,none⟩=some (.int .i64 t)):PredS 94 #[.pointer (some ⟨B,0,none⟩)] (inB t) w:=fun W a b hb=>by
 have hlt:=World.block_lt_of_cell? _ _ hc;have d:=(hb.cell hlt).trans hc;have hz:=hb.size;have hBW:B < W.heap.size:=Nat.lt_of_lt_of_le hlt hz;clear hc hlt
 show Calls Tryz.prog 94 #[.agg #[.int .i64 a,.int .i64 b],.pointer (some ⟨B,0,none⟩)] W _
 by_cases h1:a≤t
 ·by_cases h2:t < b
  ·have e:inB t (a,b)=true:=by simp [inB,h1,h2]
   rw [e];clear e;have HB:=Lib.hid (hb.alloc hz (.cells #[.int .i64 a,.int .i64 b] 186));clear hb
   go_enter Tryz.func94,Tryz.ntmps94
   go_wp2
   go_ret
   exact ⟨rfl,HB.out⟩
  ·have e:inB t (a,b)=false:=by simp [inB,h2]
   rw [e];clear e;have HB:=Lib.hid (hb.alloc hz (.cells #[.int .i64 a,.int .i64 b] 186));clear hb
   go_enter Tryz.func94,Tryz.ntmps94
   go_wp2
   go_ret
   exact ⟨rfl,HB.out⟩
 ·have e:inB t (a,b)=false:=by simp [inB,h1]
  rw [e];clear e;have HB:=Lib.hid (hb.alloc hz (.cells #[.int .i64 a,.int .i64 b] 186));clear hb
  go_enter Tryz.func94,Tryz.ntmps94
  go_wp2
  go_ret
  exact ⟨rfl,HB.out⟩
theorem high_any (w:World) (v:Value) (l:List S2) (h:Sp w v l) (t:Int):Calls Tryz.prog 35 #[v,.int .i64 t] w fun e w'=>e = .returned (.bool (!lowB l t))∧Below w.heap.size w w':=by
 have eg:∀ args w,(callFunc 94 args).run Tryz.prog w = .ok (.enter 94 args) w:=enters_of Tryz.func94 (by kernel_rfl) rfl;have hb:Below w.heap.size w (w.alloc (.cells #[.int .i64 t] 3)):=(Below.refl _ _).alloc (Nat.le_refl _) _;have c:=contains_any (w.alloc (.cells #[.int .i64 t] 3)) v l 94 #[.pointer (some ⟨w.heap.size,0,none⟩)] (inB t) eg (h.below hb) (hclos_any _ _ _ (by go_simp));rw [idx_low] at c;have C:=Lib.hid c;have HB:=Lib.hid hb;obtain ⟨a,cap,rfl,_⟩:=h.slice;clear c hb h eg;have hmf:∀ (fn:Fn) (first cap:Array Value) (w:World),(Instr.makeFunc fn first cap).run Tryz.prog w = .ok (.func fn first cap) w:=fun _ _ _ _=>rfl;generalize lowB l t=r at *
 go_enter Tryz.func35,Tryz.ntmps35
 go_wp2_with fail;refine C.out.mono ?_;rintro e w1 ⟨rfl,b1⟩;go_wp2
 go_ret
 exact ⟨rfl,HB.out.trans (b1.mono (by simp))⟩
end Go.Proofs.YtljnkaodhfnbbaaGreatDoor.Wi
namespace Go.Proofs.YtljnkaodhfnbbaaGreatDoor.Wi
open Go.RowKit Go.Proofs.YtljnkaodhfnbbaaGreatDoor.Sp
theorem ret_pair {v:Int×Bool} {a:Int} {b:Bool} (h:v=(a,b)):Ending.returned (.tuple #[.int .i64 a,.bool b]) = .returned (.tuple #[.int .i64 v.1,.bool v.2]):=by subst h;rfl
def FallPost (w:World) (l:List S2) (f t:Int) (e:Ending) (w':World):Prop:=∃ x,PlainOf l x∧e = .returned (.tuple #[.int .i64 (FallV x f t).1,.bool (FallV x f t).2])∧Below w.heap.size w w'
theorem fclos_any (w:World) (B C:Nat) (f t:Int) (hf:w.cell? ⟨B,0,none⟩=some (.int .i64 f)) (ht:w.cell? ⟨C,0,none⟩=some (.int .i64 t)):PredS 150 #[.pointer (some ⟨B,0,none⟩),.pointer (some ⟨C,0,none⟩)] (fallP f t) w:=fun W a b hb=>by
 have hltB:=World.block_lt_of_cell? _ _ hf;have hltC:=World.block_lt_of_cell? _ _ ht;have d:=(hb.cell hltB).trans hf;have d':=(hb.cell hltC).trans ht;have hz:=hb.size;have hBW:B < W.heap.size:=Nat.lt_of_lt_of_le hltB hz;have hCW:C < W.heap.size:=Nat.lt_of_lt_of_le hltC hz;have HB:=Lib.hid (hb.alloc hz (.cells #[.int .i64 a,.int .i64 b] 186));clear hf ht hltB hltC hb
 show Calls Tryz.prog 150 #[.agg #[.int .i64 a,.int .i64 b],.pointer (some ⟨B,0,none⟩),.pointer (some ⟨C,0,none⟩)] W _
 by_cases h1:f≤a
 ·by_cases h2:a < t
  ·have e:fallP f t (a,b)=true:=by simp [fallP,h1,h2]
   rw [e];clear e
   go_enter Tryz.func150,Tryz.ntmps150
   go_wp2
   go_ret
   exact ⟨rfl,HB.out⟩
  ·have e:fallP f t (a,b)=false:=by simp [fallP,h2]
   rw [e];clear e
   go_enter Tryz.func150,Tryz.ntmps150
   go_wp2
   go_ret
   exact ⟨rfl,HB.out⟩
 ·have e:fallP f t (a,b)=false:=by simp [fallP,h1]
  rw [e];clear e
  go_enter Tryz.func150,Tryz.ntmps150
  go_wp2
  go_ret
  exact ⟨rfl,HB.out⟩
theorem rows_one {W:World} {v:Value} {l:List S2} (h:Sp W v l):Rows (W.alloc (.cells #[v] 95)) (.slice (some ⟨W.heap.size,0,none⟩) 1 1) [l] :=
 ⟨_,1,rfl,Nat.le_refl _,by unfold maxLen;omega,fun _=>⟨_,_,rfl,fun i hi=>by
  have:i=0:=by simp at hi;omega
  subst this
  exact ⟨v,by go_simp,h.below ((Below.refl _ _).alloc (Nat.le_refl _) _)⟩⟩⟩
theorem plain_one_of {l x:List S2} (h:JoinOf [l] x):PlainOf l x:=⟨h.plain,fun t=>by
 rw [h.low]
 constructor
 ·rintro ⟨i,hi,c⟩
  have:i=0:=by simp at hi;omega
  subst this;exact c
 ·exact fun c=>⟨0,by simp,c⟩⟩
set_option maxHeartbeats 1000000 in
theorem fall_any (w:World) (v:Value) (l:List S2) (h:Sp w v l) (hlen:l.length < 1099511627776) (f t:Int):Calls Tryz.prog 96 #[v,.int .i64 f,.int .i64 t] w (FallPost w l f t):=by
 have eg:∀ args w,(callFunc 150 args).run Tryz.prog w = .ok (.enter 150 args) w:=enters_of Tryz.func150 (by kernel_rfl) rfl;have hb2:Below w.heap.size w ((w.alloc (.cells #[.int .i64 f] 3)).alloc (.cells #[.int .i64 t] 3)):=((Below.refl _ _).alloc (Nat.le_refl _) _).alloc (by simp) _;have j:=join_any (((w.alloc (.cells #[.int .i64 f] 3)).alloc (.cells #[.int .i64 t] 3)).alloc (.cells #[v] 95)) _ [l] (rows_one (h.below hb2)) (by show 0+l.length < _;omega);have ez:((w.alloc (.cells #[.int .i64 f] 3)).alloc (.cells #[.int .i64 t] 3)).heap.size=w.heap.size+1+1:=by simp
 rw [ez] at j;clear ez;have J:=Lib.hid j;have HB2:=Lib.hid hb2;have EG:=Lib.hid eg;obtain ⟨a,cap,rfl,_⟩:=h.slice;clear j hb2 eg h;have hmf:∀ (fn:Fn) (first cap:Array Value) (w:World),(Instr.makeFunc fn first cap).run Tryz.prog w = .ok (.func fn first cap) w:=fun _ _ _ _=>rfl
 go_enter Tryz.func96,Tryz.ntmps96
 go_wp2_with fail;refine J.out.mono ?_;rintro e w1 ⟨v1,x,rfl,hown,hj,b1⟩;have PO:=Lib.hid (plain_one_of hj);have SP1:=Lib.hid hown.sp;have B1:Hid (Below w.heap.size w w1):=(HB2.out.alloc (by first | (simp;done) | (simp;omega)) _).trans (b1.mono (by first | (simp;done) | (simp;omega)));have f1:w1.cell? ⟨w.heap.size,0,none⟩=some (.int .i64 f):=(b1.cell (by first | (simp;done) | (simp;omega))).trans (by go_simp);have f2:w1.cell? ⟨w.heap.size+1,0,none⟩=some (.int .i64 t):=(b1.cell (by first | (simp;done) | (simp;omega))).trans (by go_simp);have IC:=Lib.hid (index_any w1 v1 x 150 _ _ EG.out SP1.out (fclos_any _ _ _ f t f1 f2));clear hown hj b1 f1 f2
 rcases idx_cases (fallP f t) x with ⟨i,hi,_,_,e⟩ | ⟨_,e⟩
 ·have FV:=Lib.hid (fall_hit e)
  rw [e] at IC;clear e;go_wp2_with fail;refine IC.out.mono ?_;rintro e w2 ⟨rfl,b2⟩;have SP2:=Lib.hid (SP1.out.below b2);obtain ⟨a1,cap1,rfl,q1,q2,hAt⟩:=SP2.out;obtain ⟨b',off',rfl,hA⟩:=hAt (by omega);have c1:=(hA i hi).1;have HA:=Lib.hid hA;have HAt:=Lib.hid hAt;have B2:=Lib.hid (B1.out.trans (b2.mono B1.out.size));clear hA hAt b2;unfold maxLen at q2;generalize hn:x.length=n at *;clear hn;go_wp2
  go_ret2
  exact ⟨x,PO.out,ret_pair FV.out,B2.out⟩
 ·have FV:=Lib.hid (fall_miss e)
  rw [e] at IC;clear e;go_wp2_with fail;refine IC.out.mono ?_;rintro e w2 ⟨rfl,b2⟩;have B2:=Lib.hid (B1.out.trans (b2.mono B1.out.size));clear b2;go_wp2
  go_ret2
  exact ⟨x,PO.out,ret_pair FV.out,B2.out⟩
end Go.Proofs.YtljnkaodhfnbbaaGreatDoor.Wi
namespace Go.Proofs.YtljnkaodhfnbbaaGreatDoor.Se
open Go.RowKit Go.Proofs.YtljnkaodhfnbbaaGreatDoor.Tk Go.Proofs.YtljnkaodhfnbbaaGreatDoor.Sp
open Wi (PlainOf Made push_step own_low)
open Ua (arr Row load_frame)
structure LRel (w:World) (g:Int→Int) (F:Nat→Bool) (m:Int) (v:Value) (k:Nat) (wr:World):Prop where
 own:Sp.Own wr w.heap.size 186 v (lows g F m k)
 bel:Below w.heap.size w wr
theorem LRel.hi {w wr:World} {g:Int→Int} {F:Nat→Bool} {m:Int} {v:Value} {k:Nat} (h:LRel w g F m v k wr) (e:F k=true):LRel w g F m v (k+1) wr:=⟨by rw [lows_hi e];exact h.own,h.bel⟩
theorem LRel.lo {w wr:World} {g:Int→Int} {F:Nat→Bool} {m:Int} {v:Value} {k:Nat} (e:F k=false) (ho:Sp.Own wr w.heap.size 186 v (lows g F m k ++ [(g (m+16 * k),g (m+16 * k+16))])) (hb:Below w.heap.size w wr):LRel w g F m v (k+1) wr:=⟨by rw [lows_lo e];exact ho,hb⟩
end Go.Proofs.YtljnkaodhfnbbaaGreatDoor.Se
namespace Go.Proofs.YtljnkaodhfnbbaaGreatDoor.Se
open Go.RowKit Go.Proofs.YtljnkaodhfnbbaaGreatDoor.Tk Go.Proofs.YtljnkaodhfnbbaaGreatDoor.Sp
open Wi (PlainOf Made Gives JoinOf join_any rows_one plain_one_of push_step)
open Ua (arr Row load_frame)
set_option maxHeartbeats 1000000 in
theorem spans_any (w:World) (v:Value) (n:Nat) (A R:Nat→Int) (S:Tk.Steps w v n A R) (g:GoodP n A R) (m:Int) (m0:0≤m) (m1:m≤2147483648) (F:Nat→Bool) :
 Calls Tryz.prog 40 #[v,.int .i64 m,.agg (arr F)] w (Made w (PlainOf (lows (Glo A R n) F m 11))):=by
 have R0:=Lib.hid (Row.new w F);have B0:=Lib.hid ((Below.refl w.heap.size w).alloc (Nat.le_refl _) (.cells (arr F) 113));have S0:=Lib.hid S;have G:=Lib.hid g;clear S g
 go_enter Tryz.func40,Tryz.ntmps40
 go_wp2_with ((with_reducible refine load_frame (o:=⟨some 10,_,_,_,_,_⟩) rfl _ rfl _ _ ?_ R0.out ?_);(exact rfl))
 go_loopw [7,11] (fun v i wr=>∃ k:Nat,k≤11∧i = .int .i64 k∧Hid (LRel w (Glo A R n) F m v k wr)) (fun _ i _=>11 - (intOf i).toNat)
 case atStart=>exact ⟨0,by omega,rfl,Lib.hid ⟨Sp.Own.nil _ _ _,B0.out⟩⟩
 case round =>
  obtain ⟨k,hk,rfl,L⟩:=hrel
  by_cases hlt:k < 11
  ·have ri:=Ua.run_index_arr F k hlt
   cases hF:F k with
   | true =>
     have L':=Lib.hid (L.out.hi hF);rw [hF] at ri;clear hF;go_wp2
     go_roundw
     case rel=>exact ⟨k+1,by omega,by go_num,L'⟩
     case measure=>simp [intOf];omega
   | false =>
     rw [hF] at ri;have HF:=Lib.hid hF;clear hF;have s1:=S0.out.below L.out.bel;have C:=Lib.hid (during_any wr v n A R s1 G.out (m+16 * k) 16 (by omega) (by omega) (by omega) (by omega));clear s1;have hB:=L.out.bel.size;go_wp2_with fail;refine C.out.mono ?_;rintro e w1 ⟨rfl,b1⟩;have hown:=L.out.own.keep b1;have hb1:=L.out.bel.trans (b1.mono hB);have z1:=b1.size;have hll:=lows_len (g:=Glo A R n) (F:=F) (m:=m) k;have LL:=Lib.hid hll;clear b1 hll
     go_wp2_with (at_builtin;refine push_step rfl _ _ rfl w.heap.size _ _ rfl (hown.alloc _) _ (Glo A R n (m+16 * k)) (Glo A R n (m+16 * k+16)) rfl ?c1 ?c2 ?c3 ?c4 ?_)
     case c1=>go_simp
     case c2=>go_simp
     case c3=>have:=LL.out;omega
     case c4=>simp;omega
     intro v' w2 hown2 hb2
     have L2:=Lib.hid (LRel.lo (g:=Glo A R n) (m:=m) HF.out hown2 ((hb1.alloc (by omega) _).trans hb2));clear hown2 hb2 hb1 hown;go_wp2
     go_roundw
     case rel=>exact ⟨k+1,by omega,by go_num,L2⟩
     case measure=>simp [intOf];omega
  ·obtain rfl:k=11:=by omega
   have hB:=L.out.bel.size;obtain ⟨a,cap,rfl,_,_⟩:=L.out.own.slice;have hll:=lows_len (g:=Glo A R n) (F:=F) (m:=m) 11;have J:=Lib.hid (join_any _ _ _ (rows_one L.out.own.sp) (by show 0+(lows (Glo A R n) F m 11).length < _;omega));clear hll;go_wp2_with fail;refine J.out.mono ?_;rintro e w1 ⟨v1,l,rfl,hown,hj,b1⟩;have OW:=Lib.hid (Wi.own_low hown (B':=w.heap.size) (by simp;omega));have PO:=Lib.hid (plain_one_of hj);have B1:=Lib.hid ((L.out.bel.alloc hB _).trans (b1.mono (B':=w.heap.size) (by simp;omega)));clear hown hj b1;go_wp2
   go_ret
   exact ⟨_,l,rfl,OW.out,PO.out,B1.out⟩
end Go.Proofs.YtljnkaodhfnbbaaGreatDoor.Se
namespace Go.Proofs.YtljnkaodhfnbbaaGreatDoor.Bu
open Go.RowKit
open Sp (S2 fr tp Sp)
open Rw (Rd Ow At)
open Wi (Plain PlainOf Low Made join_any own_low)
open Ck (LL lat sN sE tE RdL Hd sl zh KS)
open Pa (Sts Ns K2 snB sbN frF frame_any FramePost sender_is push_at wp_push_at)
open Ua (arr Row store_new info_of)
open Se (lows spans_any)
open Fl (row_cell row_frozen)
attribute [local irreducible] Sd.wpSd wpQuiet
structure Bn (w:World) (vs vt vl vp vo:Value) (S:Sts) (T:LL) (V:List Bool) (P:List S2) (O:List Osc):Prop where
 ns:Ns w vs vt vl S T V
 sp:Rd K2 w vp P
 os:OsL w vo O
 lo:O.length=S.length
 few:S.length≤32
 calm:calmL O
theorem Bn.below {w w':World} {vs vt vl vp vo:Value} {S:Sts} {T:LL} {V:List Bool} {P:List S2} {O:List Osc} (h:Bn w vs vt vl vp vo S T V P O) (b:Below w.heap.size w w'):Bn w' vs vt vl vp vo S T V P O:=⟨h.ns.below b,h.sp.below b,h.os.below b,h.lo,h.few,h.calm⟩
set_option maxHeartbeats 2000000 in
theorem sends_any {w:World} {vs vt vl vp vo:Value} {S:Sts} {T:LL} {V:List Bool} {P:List S2} {O:List Osc} (H:Bn w vs vt vl vp vo S T V P O) (j:Int) :
 Calls Tryz.prog 33 #[vs,vt,vl,vp,vo,.int .i64 j] w (Made w (SendP S T V P O j)):=by
 have FA:=Lib.hid (fun W b s=>frame_any (H.ns.below (w':=W) b) (H.sp.below b) s);unfold FramePost at FA;have WHO:Hid (∀ k:Nat,snB S T V k=true→∃ n:Nat,sbN S T V k=n∧n < O.length∧frs S T V P O k=some (osc O n,frF S T V P k)∧(osc O n).calm):=Lib.hid (fun k h=>who_sends H.ns.ok (by rw [H.lo,H.ns.lt]) H.calm h);have YES:Hid (∀ k:Nat,1≤k→sbN S T V k=j→∀ u,LowUp S T V P O j (k+1) u↔LowUp S T V P O j k u∨LowK (frs S T V P O) k u):=Lib.hid (fun k h e u=>lowUp_yes h e);have NO:Hid (∀ k:Nat,¬ (snB S T V k=true∧sbN S T V k=j)→∀ u,LowUp S T V P O j (k+1) u↔LowUp S T V P O j k u):=Lib.hid (fun k h u=>lowUp_no h);have END:Hid (∀ u,LowUp S T V P O j 17 u↔LowJ S T V P O j u):=Lib.hid (fun u=>lowUp_end);have I0:Hid (HdI w (.slice none 0 0) [] [] (LowUp S T V P O j 1) 1 w):=Lib.hid ⟨Ow.nil _ _ _,fun _ hi=>absurd hi (Nat.not_lt_zero _),rfl,fun _ hi=>absurd hi (Nat.not_lt_zero _),fun u=>⟨fun ⟨_,hi,_⟩=>absurd hi (Nat.not_lt_zero _),fun h=>absurd h lowUp_one⟩,by simp,Below.refl _ _⟩;have OS:=Lib.hid H.os;obtain ⟨ao,co,rfl,mo1,mo⟩:=H.os.slice;unfold maxLen at mo;clear H;generalize hno:O.length=no at *;have HNO:=Lib.hid hno;clear hno;unfold SendP
 go_enter Tryz.func33,Tryz.ntmps33
 go_wp2
 go_loopw [14,13] (fun i v wr=>∃ (k:Nat) (hs:List Hd) (ls:List (List S2)),1≤k∧k≤17∧i = .int .i64 k∧Hid (HdI w v hs ls (LowUp S T V P O j k) k wr)) (fun i _ _=>17 - (intOf i).toNat)
 case atStart=>exact ⟨1,[],[],by omega,by omega,rfl,I0⟩
 case round =>
  obtain ⟨k,hs,ls,hk1,hk,rfl,I⟩:=hrel;clear I0;obtain ⟨av,cv,rfl,_⟩:=I.out.slice
  by_cases hlt:k < 17
  ·have FK:=Lib.hid (FA.out wr I.out.bel (k:Int))
   have WK:=Lib.hid (WHO.out k);have YK:=Lib.hid (YES.out k hk1);have NK:=Lib.hid (NO.out k);generalize hF:frF S T V P (k:Int)=F at *;generalize hm:sbN S T V (k:Int)=m at *;generalize hok:snB S T V (k:Int)=ok at *;clear hF hm hok;go_wp2_with fail;refine FK.out.mono ?_;rintro e w1 ⟨rfl,b1⟩;have I2:=Lib.hid ((I.out.below b1).below ((Below.refl w1.heap.size w1).alloc (Nat.le_refl _) (.cells (arr F) 113)));have R2:=Lib.hid (Row.new w1 F);clear b1 FK I
   by_cases hall:ok=true∧m=j
   ·obtain ⟨rfl,rfl⟩:=hall
    obtain ⟨n,rfl,hn,hf,hcal⟩:=WK.out rfl;have YY:=Lib.hid (YK.out rfl);have CA:=Lib.hid hcal;have HF:=Lib.hid hf;clear YK NK WK hcal hf;obtain ⟨b5,o5,c5,a5,d5,e5,x5,_,s5⟩:=OS.out.one (k:=n) (by have:=HNO.out;omega);rw [HNO.out] at e5;injection e5 with e5 _ e6;subst e5 e6;have S5:=Lib.hid s5;clear s5
    go_upto_region 7 with ((with_reducible refine store_new (o:=⟨none,_,_,_,_,_⟩) rfl _ _ rfl F ?_ ?_ ?_);(exact rfl);(exact rfl))
    generalize (w1.alloc (.cells (arr F) 113))=W1 at *;generalize w1.heap.size=g1 at *;have BD:=Lib.hid (I2.out.bel.trans ((Below.refl W1.heap.size W1).drew.mono I2.out.bel.size));have lo:=World.block_lt_of_cell? _ _ x5;have wk:IntKind.i64.wrap (224 * (k:Int))=224 * (k:Int):=IntWalk.i64_in _ (by omega);have sO:=Sc.cell_in (C:=fun W=>Below w.heap.size w W) (a:=⟨b5,o5+n,none⟩) (fun W' h=>(h.cell lo).trans x5);have ne:Nonempty (Sc.In (fun W=>Below w.heap.size w W)):=⟨⟨_,BD.out⟩⟩;have ID:=Lib.hid (I2.out.below ((Below.refl W1.heap.size W1).drew));have RD:=Lib.hid (R2.out.below ((Below.refl W1.heap.size W1).drew) R2.out.lt);refine Sc.start (fun W=>Below w.heap.size w W) [(false,0),(false,1),(false,2),(false,3),(false,4),(false,5),(false,6),(true,7),(true,8),(true,9),(true,10),(false,11)] (by kernel_rfl) (by kernel_rfl) (by kernel_rfl) BD.out ?_;dsimp only [Sd.picks,List.getElem?_cons_succ,List.getElem?_cons_zero]
    repeat (refine Sd.lit ?_;quiet_step (fail);refine wpQuiet_nil ?_)
    clear sO I2 R2;generalize W1.drew=Wd at *;refine Sd.call (by rfl) (fun K hK=>?_);refine wp_load_row 113 _ rfl g1 rfl _ _ _ _ RD.out Tryz.underlying113 rfl (info_of F) ?_;refine hK _ _ (Sc.Cl.of BD.out) ?_;clear hK K;have SA:=Lib.hid (spans_any Wd _ _ _ _ (S5.out.below BD.out) CA.out.good (224 * (k:Int)) (by omega) (by omega) F);refine Sd.call (by rfl) (fun K hK=>?_);go_simp;refine SA.out.mono ?_;rintro e w5 ⟨v5,l,rfl,own5,p5,b5'⟩;have LK:=Lib.hid (low_spans HF.out p5);have PL:=Lib.hid p5.1;have B5:=Lib.hid (BD.out.trans (b5'.mono BD.out.size));obtain ⟨la,lc,rfl,_,_⟩:=own5.slice;refine hK _ _ (Sc.Cl.of B5.out) ?_;clear hK K p5 SA;refine Sd.call (by rfl) (fun K hK=>?_);go_simp;have BL:=b5'.alloc b5'.size (.cells #[.slice la l.length lc] 95);have I5:=Lib.hid (ID.out.below BL);have O5:=Lib.hid ((own_low own5 BD.out.size).alloc (.cells #[.slice la l.length lc] 95));have N6:=Lib.hid (heap_alloc_new w5 (.cells #[.slice la l.length lc] 95));have B6:=Lib.hid (B5.out.alloc B5.out.size (.cells #[.slice la l.length lc] 95));refine hK _ _ (Sc.Cl.of B6.out) ?_;clear hK K own5 b5' BL ID BD RD B5;have FEW:=Lib.hid (made_few PL.out (fun u h=>(LK.out u).1 h) (fun u h=>lowK_at h));have hh:Hid (Value.slice la l.length lc=sl (la,l.length,lc)):=Lib.hid rfl;generalize hln:l.length=ln at *;have HLN:=Lib.hid hln;clear hln;generalize w5.heap.size=g5 at *;generalize (w5.alloc (.cells #[.slice la ln lc] 95))=W6 at *;refine Sd.call (by rfl) (fun K hK=>?_);refine wp_push_at (K:=KS) Tryz.underlying182 infoP rfl (by omega) _ _ rfl w.heap.size _ _ rfl I5.out.own _ (la,ln,lc) rfl ?d1 ?d2 ?d3 ?_
    case d1 =>
     intro j u hu
     match j,hu with
     | 0,hu=>simp [KS] at hu;subst hu;exact row_cell N6.out 0
     | j+1,hu=>simp [KS] at hu
    case d2=>have:=I5.out.len;omega
    case d3=>have:=I5.out.bel.size;exact this
    intro v' w6 o6 g6 h6
    have NEW:Hid (HdI w v' (hs ++ [(la,ln,lc)]) (ls ++ [l]) (LowUp S T V P O n (k+1)) (k+1) w6):=Lib.hid (I5.out.push (by rw [← hh.out];exact O5.out) (by rw [HLN.out];exact FEW.out) o6 g6 (fun u=>by rw [YY.out u,LK.out u]));refine hK _ _ (Sc.Cl.of NEW.out.bel) ?_;clear hK K o6 g6 h6 I5 O5 B6 N6;obtain ⟨av',cv',rfl,_⟩:=NEW.out.slice;generalize (hs ++ [(la,ln,lc)]).length=Lp' at *
    repeat (refine Sd.lit ?_;quiet_step (fail);refine wpQuiet_nil ?_)
    refine Sd.done ?_;go_wp2
    go_roundw
    case rel=>exact ⟨k+1,_,_,by omega,by omega,by go_num,NEW⟩
    case measure=>simp [intOf];omega
   ·have I3:=Lib.hid (I2.out.to (NK.out hall))
    clear YK NK WK I2 R2
    cases ok with
    | false =>
      clear hall
      go_wp2_with ((with_reducible refine store_new (o:=⟨none,_,_,_,_,_⟩) rfl _ _ rfl F ?_ ?_ ?_);(exact rfl);(exact rfl))
      go_roundw
      case rel=>exact ⟨k+1,_,_,by omega,by omega,by go_num,I3⟩
      case measure=>simp [intOf];omega
    | true =>
      have hmj:(m == j)=false:=by simpa using hall
      clear hall
      go_wp2_with ((with_reducible refine store_new (o:=⟨none,_,_,_,_,_⟩) rfl _ _ rfl F ?_ ?_ ?_);(exact rfl);(exact rfl))
      go_roundw
      case rel=>exact ⟨k+1,_,_,by omega,by omega,by go_num,I3⟩
      case measure=>simp [intOf];omega
  ·obtain rfl:k=17:=by omega
   have J:=Lib.hid (join_any wr _ ls I.out.rows (I.out.tot (by omega)));have BI:=Lib.hid I.out.bel;have IJ:=Lib.hid (fun x hx=>I.out.join (x:=x) hx);clear I;generalize hs.length=Lp at *;go_wp2_with fail;refine J.out.mono ?_;rintro e w1 ⟨v1,l,rfl,own1,hj,b1⟩;have OW:=Lib.hid (own_low own1 BI.out.size);have PO:=Lib.hid (IJ.out l hj);have B1:=Lib.hid (BI.out.trans (b1.mono BI.out.size));clear own1 hj b1 J;go_wp2
   go_ret
   exact ⟨_,l,rfl,OW.out,⟨PO.out.1,fun u=>(PO.out.2 u).trans (END.out u)⟩,B1.out⟩
set_option maxHeartbeats 1000000 in
theorem line_any {w:World} {vs vt vl vp vo:Value} {S:Sts} {T:LL} {V:List Bool} {P:List S2} {O:List Osc} (H:Bn w vs vt vl vp vo S T V P O) :
 Calls Tryz.prog 81 #[vs,vt,vl,vp,vo] w (Made w (LineP S T V P O)):=by
 have SA:=Lib.hid (fun W b j=>sends_any (H.below (w':=W) b) j);have END:Hid (∀ u,LowTo S T V P O S.length u↔LowL (frs S T V P O) u):=Lib.hid (fun u=>by rw [lowL_iff H.ns.ok,H.ns.lt];exact Iff.rfl);have NX:Hid (∀ k u,LowTo S T V P O (k+1) u↔LowTo S T V P O k u∨LowJ S T V P O k u):=Lib.hid lowTo_next;have I0:Hid (HdI w (.slice none 0 0) [] [] (LowTo S T V P O 0) 0 w):=Lib.hid (HdI.start w (Below.refl _ _) fun u h=>by obtain ⟨j,hj,_⟩:=h;omega);have few:=H.few;obtain ⟨sa,cs,rfl,ms⟩:=H.ns.st.slice;unfold maxLen at ms;clear H;generalize S.length=n at *;unfold LineP
 go_enter Tryz.func81,Tryz.ntmps81
 go_wp2
 go_loopw [15,11] (fun i v wr=>∃ (k:Nat) (hs:List Hd) (ls:List (List S2)),k≤n∧i = .int .i64 k∧Hid (HdI w v hs ls (LowTo S T V P O k) k wr)) (fun i _ _=>n - (intOf i).toNat)
 case atStart=>exact ⟨0,[],[],Nat.zero_le _,rfl,I0⟩
 case round =>
  obtain ⟨k,hs,ls,hk,rfl,I⟩:=hrel;clear I0;obtain ⟨av,cv,rfl,_⟩:=I.out.slice
  by_cases hlt:k < n
  ·have SK:=Lib.hid (SA.out wr I.out.bel (k:Int))
   have NK:=Lib.hid (NX.out k);have IL:=Lib.hid I.out.len;generalize hs.length=lh at *;go_wp2_with fail;refine SK.out.mono ?_;rintro e w5 ⟨v5,l,rfl,own5,p5,b5⟩;have PL:=Lib.hid p5.1;have LK:=Lib.hid p5.2;have B5:=Lib.hid (I.out.bel.trans (b5.mono I.out.bel.size));obtain ⟨la,lc,rfl,_,_⟩:=own5.slice;have BL:=b5.alloc b5.size (.cells #[.slice la l.length lc] 95);have I5:=Lib.hid (I.out.below BL);have O5:=Lib.hid ((own_low own5 I.out.bel.size).alloc (.cells #[.slice la l.length lc] 95));have FEW:=Lib.hid (made_few PL.out (fun u h=>(LK.out u).1 h) (fun u h=>lowJ_at h));have hh:Hid (Value.slice la l.length lc=sl (la,l.length,lc)):=Lib.hid rfl;clear own5 p5 b5 BL SK;generalize hln:l.length=ln at *;have HLN:=Lib.hid hln;clear hln
   go_wp2_with (at_builtin;refine push_at (K:=KS) Tryz.underlying182 infoP rfl (by omega) rfl _ _ rfl w.heap.size _ _ rfl I5.out.own _ (la,ln,lc) rfl ?d1 ?d2 ?d3 ?_)
   case d1 =>
    intro j u hu
    match j,hu with
    | 0,hu=>simp [KS] at hu;subst hu;unfold sl;go_simp
    | j+1,hu=>simp [KS] at hu
   case d2=>have:=I5.out.len;omega
   case d3=>have:=I5.out.bel.size;exact this
   intro v' w6 o6 g6 h6
   have NEW:Hid (HdI w v' (hs ++ [(la,ln,lc)]) (ls ++ [l]) (LowTo S T V P O (k+1)) (k+1) w6):=Lib.hid (I5.out.push (by rw [← hh.out];exact O5.out) (by rw [HLN.out];exact FEW.out) o6 g6 (fun u=>by rw [NK.out u,LK.out u]));clear o6 g6 h6 I5 O5 I;obtain ⟨av',cv',rfl,_⟩:=NEW.out.slice;generalize (hs ++ [(la,ln,lc)]).length=Lp' at *;go_wp2
   go_roundw
   case rel=>exact ⟨k+1,_,_,by omega,by go_num,NEW⟩
   case measure=>simp [intOf];omega
  ·obtain rfl:k=n:=by omega
   have J:=Lib.hid (join_any wr _ ls I.out.rows (I.out.tot (by omega)));have BI:=Lib.hid I.out.bel;have IJ:=Lib.hid (fun x hx=>I.out.join (x:=x) hx);clear I;generalize hs.length=Lp at *;go_wp2_with fail;refine J.out.mono ?_;rintro e w1 ⟨v1,l,rfl,own1,hj,b1⟩;have OW:=Lib.hid (own_low own1 BI.out.size);have PO:=Lib.hid (IJ.out l hj);have B1:=Lib.hid (BI.out.trans (b1.mono BI.out.size));clear own1 hj b1 J;go_wp2
   go_ret
   exact ⟨_,l,rfl,OW.out,⟨PO.out.1,fun u=>(PO.out.2 u).trans (END.out u)⟩,B1.out⟩
end Go.Proofs.YtljnkaodhfnbbaaGreatDoor.Bu
namespace Go.Proofs.YtljnkaodhfnbbaaGreatDoor.Sa
open Go.RowKit Go.Proofs.YtljnkaodhfnbbaaGreatDoor.Sp
open Tk (GoodP Glo goodB goodB_true)
open Wi (PlainOf lowB Made push_step)
open Ua (arr upd Row no copy_frame results_frame ret_arr below_setRow store_new)
def hf (low:Int→Bool) (g:Int→Int) (N:Int) (k i:Nat):Bool:=if i < k then heard low g N i else false
theorem hf_0 (low:Int→Bool) (g:Int→Int) (N:Int) (i:Nat):false=hf low g N 0 i:=by unfold hf;rw [if_neg (by omega)]
theorem hf_all (low:Int→Bool) (g:Int→Int) (N:Int) (i:Nat) (h:i < 11):hf low g N 11 i=heard low g N i:=by unfold hf;rw [if_pos h]
theorem hf_step (low:Int→Bool) (g:Int→Int) (N:Int) (k:Nat) {x:Bool} (e:x=heard low g N k) (i:Nat):upd (hf low g N k) k x i=hf low g N (k+1) i:=by
 unfold upd hf
 by_cases c:i=k
 ·subst c;rw [if_pos rfl,if_pos (by omega),e]
 ·rw [if_neg c]
  by_cases d:i < k
  ·rw [if_pos d,if_pos (by omega)]
  ·rw [if_neg d,if_neg (by omega)]
end Go.Proofs.YtljnkaodhfnbbaaGreatDoor.Sa
namespace Go.Proofs.YtljnkaodhfnbbaaGreatDoor.Sa
open Go.RowKit Go.Proofs.YtljnkaodhfnbbaaGreatDoor.Sp
open Tk (GoodP Glo global_any local_any)
open Wi (PlainOf lowB high_any fall_any FallV FallPost)
open Ua (arr upd Row Two two_new no tb tp te take_any copy_frame results_frame ret_arr ret_three below_setRow store_new)
def hi (low:Int→Bool) (g:Int→Int) (b:Int):Nat→Nat
 | 0=>0
 | k+1=>hi low g b k+(if low (g (b+7+k)) then 0 else 1)
theorem hi_le (low:Int→Bool) (g:Int→Int) (b:Int):∀ k,hi low g b k≤k
 | 0=>Nat.le_refl _
 | k+1=>by have:=hi_le low g b k;unfold hi;split <;> omega
theorem hi_low {low:Int→Bool} {g:Int→Int} {b:Int} {k:Nat} (h:low (g (b+7+k))=true):hi low g b (k+1)=hi low g b k:=by rw [hi,if_pos h,Nat.add_zero]
theorem hi_high {low:Int→Bool} {g:Int→Int} {b:Int} {k:Nat} (h:low (g (b+7+k))=false):hi low g b (k+1)=hi low g b k+1:=by rw [hi,if_neg (by simp [h])]
theorem hi_maj (low:Int→Bool) (g:Int→Int) (b:Int):decide ((1:Int) < (hi low g b 3:Nat))=maj (!low (g (b+7))) (!low (g (b+8))) (!low (g (b+9))):=by
 have e:hi low g b 3=0+(if low (g (b+7)) then 0 else 1)+(if low (g (b+8)) then 0 else 1)+(if low (g (b+9)) then 0 else 1):=by
  show 0+(if low (g (b+7+(0:Nat))) then 0 else 1)+(if low (g (b+7+(1:Nat))) then 0 else 1)+(if low (g (b+7+(2:Nat))) then 0 else 1)=_
  rw [show b+7+((0:Nat):Int)=b+7 by omega,show b+7+((1:Nat):Int)=b+8 by omega,show b+7+((2:Nat):Int)=b+9 by omega]
 rw [e]
 cases low (g (b+7)) <;> cases low (g (b+8)) <;> cases low (g (b+9)) <;> rfl
set_option maxHeartbeats 400000 in
theorem mostly_any (w:World) (v u:Value) (l:List S2) (P:Sp w v l) (n:Nat) (A R:Nat→Int) (S:Tk.Steps w u n A R) (g:GoodP n A R) (b:Int) (b0:0≤b) (b1:b≤5000000000) :
 Calls Tryz.prog 152 #[v,u,.int .i64 b] w fun e w'=>e = .returned (.bool (maj (!lowB l (Glo A R n (b+7))) (!lowB l (Glo A R n (b+8))) (!lowB l (Glo A R n (b+9)))))∧Below w.heap.size w w':=by
 have P0:=Lib.hid P;have S0:=Lib.hid S;have G:=Lib.hid g;have HM:=Lib.hid (hi_maj (lowB l) (Glo A R n) b);clear P S g
 go_enter Tryz.func152,Tryz.ntmps152
 go_wp2
 go_loopw [7,9] (fun h i wr=>∃ k:Nat,k≤3∧i = .int .i64 k∧h = .int .i64 (hi (lowB l) (Glo A R n) b k:Nat)∧Below w.heap.size w wr) (fun _ i _=>3 - (intOf i).toNat)
 case atStart=>exact ⟨0,by omega,rfl,rfl,Below.refl _ _⟩
 case round =>
  obtain ⟨k,hk,rfl,rfl,hb⟩:=hrel;have q:=hi_le (lowB l) (Glo A R n) b k;have HB:=Lib.hid hb
  by_cases hlt:k < 3
  ·have s1:=Lib.hid (S0.out.below hb)
   have p1:=Lib.hid (P0.out.below hb);clear hb;go_wp2_with fail;refine (global_any _ _ _ _ _ (b+7+k) s1.out G.out).mono ?_;rintro e w1 ⟨rfl,c1⟩;have p2:=Lib.hid (p1.out.below c1);have B1:=Lib.hid (HB.out.trans (c1.mono HB.out.size));clear c1
   cases hL:lowB l (Glo A R n (b+7+k)) with
   | true =>
     have E:=Lib.hid (hi_low hL);have HA:=Lib.hid (high_any _ _ _ p2.out (Glo A R n (b+7+k)));rw [hL] at HA;clear hL;go_wp2_with fail;refine HA.out.mono ?_;rintro e w2 ⟨rfl,c2⟩;have B2:=Lib.hid (B1.out.trans (c2.mono B1.out.size));clear c2;go_wp2
     go_roundw
     case rel=>exact ⟨k+1,by omega,by go_num,by rw [E.out],B2.out⟩
     case measure=>simp [intOf];omega
   | false =>
     have E:=Lib.hid (hi_high hL);have HA:=Lib.hid (high_any _ _ _ p2.out (Glo A R n (b+7+k)));rw [hL] at HA;clear hL;go_wp2_with fail;refine HA.out.mono ?_;rintro e w2 ⟨rfl,c2⟩;have B2:=Lib.hid (B1.out.trans (c2.mono B1.out.size));clear c2;go_wp2
     go_roundw
     case rel=>exact ⟨k+1,by omega,by go_num,by rw [E.out];go_num,B2.out⟩
     case measure=>simp [intOf];omega
  ·obtain rfl:k=3:=by omega
   clear hb;generalize hi (lowB l) (Glo A R n) b 3=h at *;go_wp2
   go_ret
   exact ⟨Ua.ret_bool HM.out,HB.out⟩
set_option maxHeartbeats 400000 in
theorem bits_any (w:World) (v u:Value) (l:List S2) (P:Sp w v l) (n:Nat) (A R:Nat→Int) (S:Tk.Steps w u n A R) (g:GoodP n A R) (t:Int) :
 Calls Tryz.prog 97 #[v,u,.int .i64 t] w fun e w'=>e = .returned (.agg (arr (heard (lowB l) (Glo A R n) (Tk.Loc A R n t))))∧Below w.heap.size w w':=by
 have T0:=Lib.hid (two_new w (hf (lowB l) (Glo A R n) (Tk.Loc A R n t) 0) (fun i _=>hf_0 _ _ _ i));have P0:=Lib.hid P;have S0:=Lib.hid S;have G:=Lib.hid g;have N:=Loc_all A R n g t;have z2:((w.alloc (.cells (arr no) 113)).alloc (.cells (arr no) 113)).heap.size=w.heap.size+1+1:=by simp
 have LA:=Lib.hid (local_any _ u n A R (S.below T0.out.2.2) g t);clear P S g
 go_enter Tryz.func97,Tryz.ntmps97
 go_wp2_with fail;refine LA.out.mono ?_;rintro e w1 ⟨rfl,b1⟩;have T1:=Lib.hid (T0.out.below b1);clear b1 LA T0;generalize hL:Tk.Loc A R n t=L at *;have HL:=Lib.hid hL;clear hL;obtain ⟨N0,N1⟩:=N;go_wp2
 go_loopw [13] (fun i wr=>∃ k:Nat,k≤11∧i = .int .i64 k∧Hid (Two w wr (hf (lowB l) (Glo A R n) L k))) (fun i _=>11 - (intOf i).toNat)
 case atStart=>exact ⟨0,by omega,rfl,T1⟩
 case round =>
  obtain ⟨k,hk,rfl,T⟩:=hrel
  by_cases hlt:k < 11
  ·have HS:=Lib.hid (fun x (e:x=heard (lowB l) (Glo A R n) L k)=>hf_step (lowB l) (Glo A R n) L k e)
   have M:=Lib.hid (mostly_any wr v u l (P0.out.below T.out.2.2) n A R (S0.out.below T.out.2.2) G.out (L+16 * k) (by omega) (by omega));go_wp2_with fail;refine M.out.mono ?_;rintro e w2 ⟨rfl,b2⟩;have T2:=Lib.hid (T.out.below b2);have c:=T2.out.2.1.cell k (by omega);have f:=T2.out.2.1.frozen k;clear b2 M;go_wp2
   go_roundw
   case rel=>exact ⟨k+1,by omega,by go_num,Lib.hid ((T2.out.set_ k (by omega) _).to (fun i _=>HS.out _ rfl i))⟩
   case measure=>simp [intOf];omega
  ·obtain rfl:k=11:=by omega
   go_wp2_with ((with_reducible refine copy_frame (o:=⟨some 26,_,_,_,_,_⟩) rfl rfl _ _ _ rfl rfl rfl _ _ _ _ ?_ ?_ ?_ T.out.frame T.out.res ?_);(exact rfl);(exact rfl);(exact rfl))
   refine bodyPost_ret (results_frame rfl _ _ _ _ rfl (T.out.1.row _)) rfl ⟨ret_arr fun i hi=>by rw [HL.out];exact hf_all _ _ _ i hi,?_⟩;exact below_setRow T.out.2.2 _ _ (Nat.le_refl _)
noncomputable def HearV (x l:List S2) (A R:Nat→Int) (n:Nat) (f t:Int):Int×Bool×Int :=
 if (FallV x f t).2 then (tb (heard (lowB l) (Glo A R n) (Tk.Loc A R n (FallV x f t).1)),tp (heard (lowB l) (Glo A R n) (Tk.Loc A R n (FallV x f t).1)),te (heard (lowB l) (Glo A R n) (Tk.Loc A R n (FallV x f t).1))) else (0,false,3)
theorem hear_no {x l:List S2} {A R:Nat→Int} {n:Nat} {f t p:Int} (h:FallV x f t=(p,false)):(0,false,3)=HearV x l A R n f t:=by
 unfold HearV;rw [h];rfl
theorem hear_yes {x l:List S2} {A R:Nat→Int} {n:Nat} {f t p:Int} (h:FallV x f t=(p,true)):(tb (heard (lowB l) (Glo A R n) (Tk.Loc A R n p)),tp (heard (lowB l) (Glo A R n) (Tk.Loc A R n p)),te (heard (lowB l) (Glo A R n) (Tk.Loc A R n p)))=HearV x l A R n f t:=by
 unfold HearV;rw [h];rfl
def HearPost (w:World) (l:List S2) (A R:Nat→Int) (n:Nat) (f t:Int) (e:Ending) (w':World):Prop :=
 ∃ x,PlainOf l x∧e = .returned (.tuple #[.int .u8 (HearV x l A R n f t).1,.bool (HearV x l A R n f t).2.1,.int .i64 (HearV x l A R n f t).2.2])∧Below w.heap.size w w'
theorem ret_hear {a c:Int} {b:Bool} {q:Int×Bool×Int} (h:(a,b,c)=q):Ending.returned (.tuple #[.int .u8 a,.bool b,.int .i64 c]) = .returned (.tuple #[.int .u8 q.1,.bool q.2.1,.int .i64 q.2.2]):=by rw [← h]
set_option maxHeartbeats 400000 in
theorem hear_any (w:World) (v u:Value) (l:List S2) (P:Sp w v l) (hl:l.length < 1099511627776) (n:Nat) (A R:Nat→Int) (S:Tk.Steps w u n A R) (g:GoodP n A R) (f t:Int) :
 Calls Tryz.prog 39 #[v,u,.int .i64 f,.int .i64 t] w (HearPost w l A R n f t):=by
 have P0:=Lib.hid P;have S0:=Lib.hid S;have G:=Lib.hid g;clear P S g
 go_enter Tryz.func39,Tryz.ntmps39
 go_wp2_with fail;refine (fall_any _ _ _ P0.out hl f t).mono ?_;rintro e w1 ⟨x,hx,rfl,b1⟩;have PX:=Lib.hid hx;have B1:=Lib.hid b1;have P1:=Lib.hid (P0.out.below b1);have S1:=Lib.hid (S0.out.below b1);clear b1 hx P0 S0;generalize hv:FallV x f t=q;obtain ⟨p,y⟩:=q
 cases y with
 | false =>
   have E:=Lib.hid (hear_no (l:=l) (A:=A) (R:=R) (n:=n) hv);clear hv;go_wp2
   go_ret3
   exact ⟨x,PX.out,ret_hear E.out,B1.out⟩
 | true =>
   have E:=Lib.hid (hear_yes (l:=l) (A:=A) (R:=R) (n:=n) hv);clear hv;go_wp2_with fail;refine (bits_any _ _ _ _ P1.out _ _ _ S1.out G.out p).mono ?_;rintro e w2 ⟨rfl,b2⟩;have B2:=Lib.hid (B1.out.trans (b2.mono B1.out.size));clear b2;generalize heard (lowB l) (Glo A R n) (Tk.Loc A R n p)=F at *;go_wp2_with fail;refine (take_any _ F).mono ?_;rintro e w3 ⟨rfl,b3⟩;have B3:=Lib.hid (B2.out.trans (b3.mono B2.out.size));clear b3;go_wp2
   go_ret3
   exact ⟨x,PX.out,ret_hear E.out,B3.out⟩
end Go.Proofs.YtljnkaodhfnbbaaGreatDoor.Sa
namespace Go.Proofs.YtljnkaodhfnbbaaGreatDoor.Bu
open Go.RowKit Go.Maps
open Sp (S2 fr tp Sp)
open Wi (Plain PlainOf Low)
open Tk (GoodP Glo global_any)
open Pa (Hr hput HBl HMap H1 hbl_new at_hput wf_of)
open Sa (hear_any HearPost)
attribute [local irreducible] Sd.wpSd wpQuiet
def HeardPost (w:World) (h:Hr) (e:Ending) (w':World):Prop:=∃ b,e = .returned (.map (some b))∧HMap w' (.map (some b)) h∧Below w.heap.size w w'
theorem hear_at {l:List S2} {r:Osc} (hp:Plain l) {W w':World} {e:Ending} {k:Nat} (h:HearPost W l r.A r.R r.n (Glo r.A r.R r.n (224 * (k:Int) - 20)) (Glo r.A r.R r.n (224 * (k:Int)+20)) e w') :
 e = .returned (.tuple #[.int .u8 (lisS l l r k).1,.bool (lisS l l r k).2.1,.int .i64 (lisS l l r k).2.2])∧Below W.heap.size W w':=by
 obtain ⟨x,hx,he,hb⟩:=h;obtain rfl:=hx.one ⟨hp,fun _=>Iff.rfl⟩;exact ⟨he,hb⟩
set_option maxHeartbeats 1000000 in
theorem heard_any {w:World} {v u:Value} {l:List S2} (P:Sp w v l) (hp:Plain l) (hl:l.length≤4294967297) {r:Osc} (S:Tk.Steps w u r.n r.A r.R) (c:r.calm):Calls Tryz.prog 83 #[v,u] w (HeardPost w (lis l l r)):=by
 have G:GoodP r.n r.A r.R:=Sa.Calm.good c;have GL:=Lib.hid (fun W b m=>global_any W u r.n r.A r.R m (S.below (w':=W) b) G);have HE:=Lib.hid (fun W b (k:Nat)=>(hear_any W v u l (P.below (w':=W) b) (by omega) r.n r.A r.R (S.below b) G (Glo r.A r.R r.n (224 * (k:Int) - 20)) (Glo r.A r.R r.n (224 * (k:Int)+20))).mono fun e w' h=>hear_at hp h);have YY:Hid (∀ k:Nat,1≤k→k≤16→(lisS l l r k).2.2=0→(lisS l l r k).2.1=false→hput (lowH (lis l l r) k) k (lisS l l r k).1=lowH (lis l l r) (k+1)):=Lib.hid (fun k h1 h2 e o=>low_yes h1 (lis_yes (by omega) (by omega) e o));have NN:Hid (∀ k:Nat,¬ ((lisS l l r k).2.2=0∧(lisS l l r k).2.1=false)→lowH (lis l l r) k=lowH (lis l l r) (k+1)):=Lib.hid (fun k h=>low_no (lis_no h));have EN:Hid (lowH (lis l l r) 17=lis l l r):=Lib.hid (low_end fun n h=>lis_out h);have M0:Hid (H1 w w.heap.size 1 (lowH (lis l l r) 1) (w.alloc (.map #[] 0))):=Lib.hid ⟨⟨0,by rw [low_one];exact hbl_new w,by omega⟩,Nat.le_refl _,(Below.refl w.heap.size w).alloc (Nat.le_refl _) _⟩;clear P hp hl S c G;generalize lis l l r=h at *;have hmm:=@run_makeMap Tryz.prog
 go_enter Tryz.func83,Tryz.ntmps83
 go_wp2;clear hmm;generalize (w.alloc (.map #[] 0))=W0 at *;generalize hb0:w.heap.size=b at M0 ⊢;have HB0:=Lib.hid hb0;clear hb0
 go_loopw [6] (fun i wr=>∃ k:Nat,1≤k∧k≤17∧i = .int .i64 k∧Hid (H1 w b k (lowH h k) wr)) (fun i _=>17 - (intOf i).toNat)
 case atStart=>exact ⟨1,by omega,by omega,rfl,M0⟩
 case round =>
  obtain ⟨k,hk1,hk,rfl,I⟩:=hrel;clear M0
  by_cases hlt:k < 17
  ·have K1:=Lib.hid (GL.out wr I.out.bel (224 * (k:Int) - 20))
   go_wp2_with fail;refine K1.out.mono ?_;rintro e w1 ⟨rfl,b1⟩;have I1:=Lib.hid (I.out.below b1);have K2:=Lib.hid (GL.out w1 I1.out.bel (224 * (k:Int)+20));clear b1 K1 I;go_wp2_with fail;refine K2.out.mono ?_;rintro e w2 ⟨rfl,b2⟩;have I2:=Lib.hid (I1.out.below b2);have K3:=Lib.hid (HE.out w2 I2.out.bel k);have YK:=Lib.hid (YY.out k hk1 (by omega));have NK:=Lib.hid (NN.out k);have WK:=Lib.hid (wf_of (n:=(k:Int)) ⟨by omega,by omega⟩);clear b2 K2 I1;generalize lisS l l r (k:Int)=q at *;obtain ⟨y,o,z⟩:=q;simp only at YK NK K3;go_wp2_with fail;refine K3.out.mono ?_;rintro e w3 ⟨rfl,b3⟩;have I3:=Lib.hid (I2.out.below b3);clear b3 K3 I2
   by_cases hz:z=0
   ·cases o with
    | false =>
      have EQ:=Lib.hid (YK.out hz rfl);clear YK NK;subst hz;obtain ⟨N,m,hN⟩:=I3.out.mp;have M2:=Lib.hid m;have LO:=Lib.hid I3.out.lo;have BE:=Lib.hid I3.out.bel;clear m I3
      go_wp2_with (first
       | (at_mapUpdate;refine at_hput rfl _ _ _ rfl rfl M2.out (by unfold maxLen;omega) (k:Int) y rfl rfl WK.out ?_;intro w4 m4 g4)
       | fail)
      have I4:Hid (H1 w b (k+1) (lowH h (k+1)) w4):=Lib.hid ⟨⟨N+1,by rw [← EQ.out];exact m4,by omega⟩,LO.out,BE.out.grown g4 BE.out.size (fun j e=>by injection e with e;have:=LO.out;omega)⟩;clear m4 g4 M2 EQ BE LO;go_wp2
      go_roundw
      case rel=>exact ⟨k+1,by omega,by omega,by go_num,I4⟩
      case measure=>simp [intOf];omega
    | true =>
      have EQ:=Lib.hid (NK.out (by simp));have I4:Hid (H1 w b (k+1) (lowH h (k+1)) w3):=Lib.hid ⟨by obtain ⟨N,m,hN⟩:=I3.out.mp;exact ⟨N,by rw [← EQ.out];exact m,by omega⟩,I3.out.lo,I3.out.bel⟩;clear YK NK EQ I3;subst hz;go_wp2
      go_roundw
      case rel=>exact ⟨k+1,by omega,by omega,by go_num,I4⟩
      case measure=>simp [intOf];omega
   ·have EQ:=Lib.hid (NK.out fun g=>hz g.1)
    have I4:Hid (H1 w b (k+1) (lowH h (k+1)) w3):=Lib.hid ⟨by obtain ⟨N,m,hN⟩:=I3.out.mp;exact ⟨N,by rw [← EQ.out];exact m,by omega⟩,I3.out.lo,I3.out.bel⟩;have d0:(z == 0)=false:=by simpa using hz
    clear YK NK EQ I3;go_wp2
    go_roundw
    case rel=>exact ⟨k+1,by omega,by omega,by go_num,I4⟩
    case measure=>simp [intOf];omega
  ·obtain rfl:k=17:=by omega
   rw [EN.out] at I;have RES:Hid (HeardPost w h (.returned (.map (some b))) wr):=Lib.hid ⟨b,rfl,by obtain ⟨⟨N,m,_⟩,_,_⟩:=I.out;exact ⟨b,N,rfl,m⟩,I.out.bel⟩;clear I;go_wp2
   go_ret
   exact RES.out
end Go.Proofs.YtljnkaodhfnbbaaGreatDoor.Bu
namespace Go.Proofs.YtljnkaodhfnbbaaGreatDoor.Cu
open Go.RowKit Go.Maps
open Sp (S2 fr tp Sp)
open Rw (Rd Ow At)
open Wi (Plain PlainOf Low Made)
open Fs (Glob CopySt)
open Ro (may_len)
open Ck (LL lat tE RdL may_all)
open Bu (Osc osc OsL buE buL buE_wild buE_ok buE_wrong rdE_zero calmLB of_calmLB calm_any Bn line_any LineP lis lis_is osc_calm plain_few lowL_at heard_any HeardPost)
open Pa (Sts Stl Ns K2 KB KN ptr sat vat hr rdE rdL rdS rdS_at rdS_len hr_ok round_any RoundPost apply_any ApPost copy_has infoN push_at wp_push_at HMap tab_each not_bad atB)
open Fl (row_cell)
attribute [local irreducible] Sd.wpSd wpQuiet
set_option maxHeartbeats 4000000 in
theorem broundF_any {w:World} {vs vt vl vp vo:Value} {S:Sts} {T:LL} {V:List Bool} {P:List S2} {O:List Osc} (HS:Stl w vs S) (HT:RdL w vt T) (HV:Rd KB w vl V) (RP:Rd K2 w vp P) (HO:OsL w vo O) (hg:Glob w) (hd:∀ i,i < S.length→0≤(sat S i).2∧(sat S i).2 < 900000) :
 Calls Tryz.prog 30 #[vs,vt,vl,vp,vo] w (BrP w (buE S T V O) (buL S T V P O)):=by
 have RO:=Lib.hid (round_any HS HT HV RP hg hd);unfold RoundPost at RO;obtain ⟨sa,cs,rfl,ms⟩:=HS.slice;obtain ⟨oa,co,rfl,mo1,mo⟩:=HO.slice;unfold maxLen at ms mo;have OS:=Lib.hid HO;have HS0:=Lib.hid HS;have HT0:=Lib.hid HT;have HV0:=Lib.hid HV;have RP0:=Lib.hid RP;have GG:=Lib.hid hg;have DD:=Lib.hid hd;clear HS HT HV RP HO hg hd
 by_cases hE:rdE S T V=0
 ·obtain ⟨f1,f2,f3,f4,f5⟩:=rdE_zero hE
  have WILD:Hid (¬ (O.length=S.length∧calmLB O=true)→∀ w',Below w.heap.size w w'→BrP w (buE S T V O) (buL S T V P O) (.returned (.tuple #[.slice none 0 0,.int .i64 1])) w'):=Lib.hid (fun h w' b=>by
   obtain ⟨e1,e2⟩:=buE_wild (P:=P) hE h;rw [e1]
   exact ⟨_,[],fun _ _=>False,rfl,fun e=>absurd e (by decide),fun _=>rfl,b⟩)
  by_cases hl:O.length=S.length
  ·have CA:=Lib.hid (fun W b=>calm_any W _ O (OS.out.below (w':=W) b))
   cases hc:calmLB O with
   | false =>
     have WL:=Lib.hid (WILD.out (by rw [hc];simp));rw [hE] at RO;rw [hc] at CA;generalize buE S T V O=be at *;generalize buL S T V P O=bl at *;generalize rdL S T V P=rl at *;rw [hl] at CA ⊢;clear WILD OS HS0;generalize S.length=n at *
     go_enter Tryz.func30,Tryz.ntmps30
     go_wp2_with fail;refine RO.out.mono ?_;rintro e w1 ⟨v1,rfl,_,b1⟩;have C1:=Lib.hid (CA.out w1 b1);have B1:=Lib.hid b1;clear b1 CA RO;go_wp2_with fail;refine C1.out.mono ?_;rintro e w2 ⟨rfl,b2⟩;have RES:=Lib.hid (WL.out w2 (B1.out.trans (b2.mono B1.out.size)));clear b2 C1 WL;go_wp2
     go_ret2
     exact RES.out
   | true =>
     obtain ⟨e1,e2⟩:=buE_ok (P:=P) hE hl hc;have cl:=of_calmLB hc;have BN:Hid (Bn w (.slice sa S.length cs) vt vl vp (.slice oa O.length co) S T V P O):=Lib.hid ⟨⟨HS0.out,HT0.out,HV0.out,f3,f4,f5⟩,RP0.out,OS.out,hl,f2,cl⟩;have LN:=Lib.hid (fun W b=>line_any (BN.out.below (w':=W) b));have LQ:Hid (∀ l,LineP S T V P O l→∀ k:Nat,k < S.length→lis l l (osc O k)=hr S T V P):=Lib.hid (fun l h k hk=>lis_is f5 (by rw [hl,f3]) cl ⟨h.1,fun _=>Iff.rfl⟩ h.2 (osc_calm cl (by omega)));have LF:Hid (∀ l,LineP S T V P O l→l.length≤4294967297):=Lib.hid (fun l h=>plain_few h.1 fun u hu=>lowL_at ((h.2 u).1 hu));have CO:Hid (∀ k:Nat,k < S.length→(osc O k).calm):=Lib.hid (fun k hk=>osc_calm cl (by omega));have OH:=Lib.hid (hr_ok S T V P);rw [hE] at RO;rw [hc] at CA;rw [e1,e2];clear WILD HT0 HV0 RP0;generalize hr S T V P=h at *;have AT:=Lib.hid (fun i hi=>rdS_at S T V h (i:=i) hi);have RL:=Lib.hid (rdS_len S T V h);generalize rdS S T V h=S' at *;generalize rdL S T V P=rl at *;have HL:=Lib.hid hl;have F3:=Lib.hid f3;have F4:=Lib.hid f4;rw [hl] at CA LN BN ⊢;clear hl f3 f4 f5 e1 e2 cl hc hE;generalize hn:S.length=n at *;have HN:=Lib.hid hn;clear hn
     go_enter Tryz.func30,Tryz.ntmps30
     go_wp2_with fail;refine RO.out.mono ?_;rintro e w1 ⟨v1,rfl,_,b1⟩;have C1:=Lib.hid (CA.out w1 b1);have B1:=Lib.hid b1;clear b1 CA RO;go_wp2_with fail;refine C1.out.mono ?_;rintro e w2 ⟨rfl,b2⟩;have B2:=Lib.hid (B1.out.trans (b2.mono B1.out.size));have L2:=Lib.hid (LN.out w2 B2.out);clear b2 C1 B1 LN;go_wp2_with fail;refine L2.out.mono ?_;rintro e w3 ⟨v3,l,rfl,own3,lp,b3⟩;have BW:=Lib.hid (B2.out.trans (b3.mono B2.out.size));have SL3:=Lib.hid own3.sp;have LP:=Lib.hid lp;obtain ⟨la,lc,rfl,_⟩:=SL3.out.slice;clear own3 lp b3 L2 B2;generalize hll:l.length=ln at *;have HLL:=Lib.hid hll;clear hll;go_wp2
     rename World=>wA
     go_loopw [47,15] (fun i o wr2=>∃ (k:Nat) (ps:List Nat) (Fs:Nat→Nat→Prop),k≤n∧i = .int .i64 k∧Hid (PJ 89 wA S' k o ps Fs wr2)) (fun i _ _=>n - (intOf i).toNat)
     case atStart=>exact ⟨0,[],fun _ _=>False,Nat.zero_le _,rfl,PJ.start (Below.refl _ _)⟩
     case round =>
      obtain ⟨k,ps,Fs,hk,rfl,I⟩:=hrel;have BI:=Lib.hid (BW.out.trans (I.out.bel.mono BW.out.size));obtain ⟨av,cv,ev,_⟩:=I.out.own.slice;have OWN:=Lib.hid I.out.own;generalize ps.length=Lp at ev;subst ev
      by_cases hlt:k < n
      ·obtain ⟨b1,o1,c1,s,e1,cS,hS⟩:=BN.out.ns.st.one (k:=k) (by have:=HN.out;omega)
       rw [HN.out] at e1;injection e1 with e1 _ e2;subst e1 e2;obtain ⟨b2,o2,c2,at',ct,e2,cT,_,_⟩:=BN.out.ns.tb.one (k:=k) (by have:=F3.out;omega);have RT:=Lib.hid (BN.out.ns.tb.rd (k:=k) (by have:=F3.out;omega) e2 cT);rw [F3.out] at e2;subst e2;obtain ⟨a3,c3,e3,_,_,h3⟩:=BN.out.ns.lv;rw [F4.out] at e3;subst e3;obtain ⟨b3,o3,rfl,A3⟩:=h3 (by have:=F4.out;omega);have cV:=atB (A3.below BI.out) (i:=k) (by have:=F4.out;omega);rw [show V.getD k false=vat V k from rfl] at cV;obtain ⟨b4,o4,c4,a4,d4,e4,cO,_,s4⟩:=BN.out.os.one (k:=k) (by have:=HL.out;omega);rw [HL.out] at e4;injection e4 with e4 _ e5;subst e4 e5;have S4:=Lib.hid s4;have EA:=Lib.hid (AT.out k (by have:=HN.out;omega));have OKT:=Lib.hid (tab_each BN.out.ns.ok (k:=k) (by have:=F3.out;omega));have ML:=Lib.hid (may_len (may_all (not_bad BN.out.ns.ok) k (by have:=F3.out;omega)));have HS2:Hid (∀ W,Below w.heap.size w W→Pa.Has W s (sat S k)):=Lib.hid (fun W b=>by obtain ⟨F,h⟩:=hS;exact ⟨F,h.below b⟩);have CT:=Lib.hid cT;have CC:=Lib.hid cO;have lT:=World.block_lt_of_cell? _ _ cT;have lO:=World.block_lt_of_cell? _ _ cO;unfold ptr at cS;have sS:=(BI.out.cell (World.block_lt_of_cell? _ _ cS)).trans cS;have LN:=Lib.hid I.out.len;clear hS h3 A3 s4 cS cT cO
       cases hv:vat V k with
       | true =>
         rw [hv] at cV;rw [hv,if_pos rfl] at EA;have EQ:=Lib.hid (LQ.out l LP.out k hlt);have CK:=Lib.hid (CO.out k hlt);generalize hlk:(lat T k).length=lk at *;go_upto_region 12 with fail;clear cV sS;have sT:=Sc.cell_in (C:=fun W=>Below w.heap.size w W) (a:=⟨b2,o2+k,none⟩) (fun W' h=>(h.cell lT).trans CT.out);have sO:=Sc.cell_in (C:=fun W=>Below w.heap.size w W) (a:=⟨b4,o4+k,none⟩) (fun W' h=>(h.cell lO).trans CC.out);have BD:=Lib.hid (BI.out.trans ((Below.refl wr.heap.size wr).drew.mono BI.out.size));have ne:Nonempty (Sc.In (fun W=>Below w.heap.size w W)):=⟨⟨_,BD.out⟩⟩;have ID:=Lib.hid (I.out.below ((Below.refl wr.heap.size wr).drew));refine Sc.start (fun W=>Below w.heap.size w W) [(false,0),(false,1),(false,2),(false,3),(false,4),(false,5),(false,6),(false,7),(false,8),(false,9),(false,10),(true,11),(true,12),(true,13),(true,14),(false,15)] (by kernel_rfl) (by kernel_rfl) (by kernel_rfl) BD.out ?_;dsimp only [Sd.picks,List.getElem?_cons_succ,List.getElem?_cons_zero]
         repeat (refine Sd.lit ?_;quiet_step (fail);refine wpQuiet_nil ?_)
         clear sT sO;generalize wr.drew=Wd at *;have HD:=Lib.hid (heard_any (l:=l) (r:=osc O k) (SL3.out.below ID.out.bel) LP.out.1 (LF.out l LP.out) (S4.out.below BD.out) CK.out);rw [EQ.out] at HD;unfold HeardPost at HD;generalize (osc O k).n=on at *;refine Sd.call (by rfl) (fun K hK=>?_);go_simp;refine HD.out.mono ?_;rintro e w4 ⟨mb,rfl,hm,b4'⟩;have HM:=Lib.hid hm;have B4:=Lib.hid (BD.out.trans (b4'.mono BD.out.size));have I4:=Lib.hid (ID.out.below b4');refine hK _ _ (Sc.Cl.of B4.out) ?_;clear hK K b4' hm HD ID;have AP:=Lib.hid (apply_any (HS2.out w4 B4.out) (GG.out.below B4.out) (DD.out k (by omega)) (RT.out.below B4.out) (fun y hy=>(OKT.out y hy).1) (by have:=ML.out;omega) HM.out OH.out);unfold ApPost at AP;refine Sd.call (by rfl) (fun K hK=>?_);go_simp;refine AP.out.mono ?_;rintro e w5 ⟨g,F5,rfl,st5,lo5,b5⟩;have B5:=Lib.hid (B4.out.trans (b5.mono B4.out.size));refine hK _ _ (Sc.Cl.of B5.out) ?_;clear hK K;unfold ptr;refine Sd.call (by rfl) (fun K hK=>?_);go_simp;have I5:=Lib.hid ((I4.out.pend b5 (by rw [EA.out];exact st5) lo5).below ((Below.refl w5.heap.size w5).alloc (Nat.le_refl _) (.cells #[.pointer (some ⟨g,0,none⟩)] 89)));have N6:=Lib.hid (heap_alloc_new w5 (.cells #[.pointer (some ⟨g,0,none⟩)] 89));have B6:=Lib.hid (B5.out.alloc B5.out.size (.cells #[.pointer (some ⟨g,0,none⟩)] 89));refine hK _ _ (Sc.Cl.of B6.out) ?_;clear hK K st5 lo5 b5 I OWN AP I4 BD;generalize w5.heap.size=g5 at *;generalize (w5.alloc (.cells #[.pointer (some ⟨g,0,none⟩)] 89))=W6 at *;refine Sd.call (by rfl) (fun K hK=>?_);refine wp_push_at (K:=KN) Tryz.underlying78 infoN rfl (by omega) _ _ rfl wA.heap.size _ _ rfl I5.out.old.own _ g rfl ?d1 ?d2 ?d3 ?_
         case d1 =>
          intro j u hu
          match j,hu with
          | 0,hu=>simp [KN] at hu;subst hu;exact row_cell N6.out 0
          | j+1,hu=>simp [KN] at hu
         case d2=>rw [LN.out];omega
         case d3=>have:=I5.out.old.bel.size;exact this
         intro v' w6 o6 g6 h6
         have NEW:=Lib.hid (I5.out.push o6 g6 h6);refine hK _ _ (Sc.Cl.of (BW.out.trans (NEW.out.bel.mono BW.out.size))) ?_;clear hK K o6 g6 h6 I5 B5 B6 N6;obtain ⟨av',cv',ev',_⟩:=NEW.out.own.slice;generalize (ps ++ [g]).length=Lp' at ev';subst ev'
         repeat (refine Sd.lit ?_;quiet_step (fail);refine wpQuiet_nil ?_)
         refine Sd.done ?_;go_wp2
         go_roundw
         case rel=>exact ⟨k+1,ps ++ [g],_,by omega,by go_num,NEW⟩
         case measure=>simp [intOf];omega
       | false =>
         rw [hv] at cV;rw [hv,if_neg Bool.false_ne_true] at EA;have AP:=Lib.hid (copy_has (HS2.out wr BI.out));unfold CopySt at AP;generalize (lat T k).length=lk at *;generalize (osc O k).n=on at *;go_wp2_with fail;refine AP.out.mono ?_;rintro e w5 ⟨g,F5,rfl,st5,lo5,b5⟩;have I5:=Lib.hid ((I.out.pend b5 (by rw [EA.out];exact st5) lo5).below ((Below.refl w5.heap.size w5).alloc (Nat.le_refl _) (.cells #[.pointer (some ⟨g,0,none⟩)] 89)));clear st5 lo5 b5 I OWN AP cV sS
         (try unfold ptr)
         go_wp2_with (at_builtin;refine push_at (K:=KN) Tryz.underlying78 infoN rfl (by omega) rfl _ _ rfl wA.heap.size _ _ rfl I5.out.old.own _ g rfl ?d1 ?d2 ?d3 ?_)
         case d1 =>
          intro j u hu
          match j,hu with
          | 0,hu=>simp [KN] at hu;subst hu;unfold ptr;go_simp
          | j+1,hu=>simp [KN] at hu
         case d2=>rw [LN.out];omega
         case d3=>have:=I5.out.old.bel.size;exact this
         intro v' w6 o6 g6 h6
         have NEW:=Lib.hid (I5.out.push o6 g6 (by simpa using h6));clear o6 g6 h6 I5;obtain ⟨av',cv',ev',_⟩:=NEW.out.own.slice;generalize (ps ++ [g]).length=Lp' at ev';subst ev';go_wp2
         go_roundw
         case rel=>exact ⟨k+1,ps ++ [g],_,by omega,by go_num,NEW⟩
         case measure=>simp [intOf];omega
      ·obtain rfl:k=n:=by omega
       have RES:Hid (BrP w 0 S' (.returned (.tuple #[.slice av Lp cv,.int .i64 0])) wr):=Lib.hid ⟨_,ps,Fs,rfl,fun _=>by rw [RL.out];exact I.out.low BW.out.size BI.out,fun e=>absurd rfl e,BI.out⟩;clear I OWN;go_wp2
       go_ret2
       exact RES.out
  ·have WL:=Lib.hid (WILD.out fun h=>hl h.1)
   rw [hE] at RO;generalize buE S T V O=be at *;generalize buL S T V P O=bl at *;generalize rdL S T V P=rl at *;clear WILD OS HS0 DD;generalize S.length=n at *;generalize O.length=no at *;have hne:((no:Int) != (n:Int))=true:=by simp;omega
   go_enter Tryz.func30,Tryz.ntmps30
   go_wp2_with fail;refine RO.out.mono ?_;rintro e w1 ⟨v1,rfl,_,b1⟩;have RES:=Lib.hid (WL.out w1 b1);clear b1 RO WL;go_wp2
   go_ret2
   exact RES.out
 ·obtain ⟨e1,e2⟩:=buE_wrong (O:=O) (P:=P) hE
  rw [e1,e2];have HEE:=Lib.hid hE;have hne:(rdE S T V != 0)=true:=by simpa using hE
  clear hE OS HS0 DD e1 e2;generalize rdE S T V=E at *;generalize rdL S T V P=rl at *;generalize S.length=n at *;generalize O.length=no at *
  go_enter Tryz.func30,Tryz.ntmps30
  go_wp2_with fail;refine RO.out.mono ?_;rintro e w1 ⟨v1,rfl,_,b1⟩;have RES:Hid (BrP w E [] (.returned (.tuple #[.slice none 0 0,.int .i64 E])) w1):=Lib.hid ⟨_,[],fun _ _=>False,rfl,fun e=>absurd e HEE.out,fun _=>rfl,b1⟩;clear b1 RO;go_wp2
  go_ret2
  exact RES.out
end Go.Proofs.YtljnkaodhfnbbaaGreatDoor.Cu
