import Derived.Test.YtpkipilggkbkeaaGreatDoorMg1
import Derived.Test.YtpkipilggkbkeaaGreatDoorMg8
import Derived.WideKeyEntry
import Derived.DeepKeys5
import Derived.Maps.AppendAt
import Derived.Deep.Cut
import Derived.Test.YtpkipilggkbkeaaGreatDoorMg4
import Derived.Maps.OwnOps
import Derived.Test.YtpkipilggkbkeaaGreatDoorMg5
import Derived.Maps.RangeWalk
import Derived.Test.YtpkipilggkbkeaaGreatDoorMg7
import Derived.Test.YtpkipilggkbkeaaGreatDoorMg2
namespace Go.Proofs.YtpkipilggkbkeaaGreatDoor.Bu
open Go.RowKit
open Sp (S2 fr tp)
open Wi (Plain PlainOf Low lowB FallV)
open Sa (heard)
open Ck (LL lat sN sE tE)
open Pa (Sts Hr sat vat snB snX sbN frF hrB hrV hr sender_is sq sq1 tn lowF)
open Ua (frm tb te)
instance:Inhabited Osc:=⟨⟨0,fun _=>0,fun _=>0⟩⟩
def osc (O:List Osc) (i:Int):Osc:=O.getD i.toNat default
def frs (S:Sts) (T:LL) (V:List Bool) (P:List (Int×Int)) (O:List Osc):Frs:=fun k=>if snB S T V k=true then some (osc O (sN k T),frF S T V P k) else none
theorem sq_zero_bit (P:List (Int×Int)) (s:Int) (F:Nat→Bool):sq P s F P.length 0=F 0:=by
 unfold sq;rw [List.take_length]
 induction P generalizing F with
 | nil=>rfl
 | cons x r ih =>
   rw [List.foldl_cons,ih];unfold sq1
   split
   ·rfl
   ·rfl
theorem frF_zero (S:Sts) (T:LL) (V:List Bool) (P:List (Int×Int)) (s:Int):frF S T V P s 0=false:=by
 unfold frF
 split
 ·rw [sq_zero_bit];rfl
 ·rfl
section
variable {S:Sts} {T:LL} {V:List Bool} {P:List (Int×Int)} {O:List Osc}
theorem frs_yes {k:Nat} (h:snB S T V k=true):frs S T V P O k=some (osc O (sN k T),frF S T V P k):=if_pos h
theorem frs_no {k:Nat} (h:snB S T V k=false):frs S T V P O k=none:=if_neg (by rw [h];exact Bool.false_ne_true)
theorem snB_is {k:Nat} (h:snB S T V k=true):0≤sN k T:=by
 unfold snB at h;simp only [Bool.and_eq_true,decide_eq_true_eq] at h;exact h.1.1
theorem osc_calm (hO:∀ o∈O,o.calm) {i:Nat} (hi:i < O.length):(osc O i).calm:=by
 unfold osc;rw [Int.toNat_natCast,List.getD_eq_getElem?_getD,List.getElem?_eq_getElem hi];exact hO _ (List.getElem_mem hi)
theorem frs_fit (ok:tE T=0) (hl:O.length=T.length) (hO:∀ o∈O,o.calm):Fit (frs S T V P O):=by
 refine ⟨fun k o F e=>?_,fun k o F e=>?_⟩
 all_goals
  cases hs:snB S T V k with
  | false=>rw [frs_no hs] at e;cases e
  | true =>
    rw [frs_yes hs] at e;injection e with e;injection e with e1 e2;subst e1 e2
    first
     | exact frF_zero S T V P k
     | (obtain ⟨n,en,hn,_⟩:=sender_is ok (snB_is hs)
        rw [en]
        exact osc_calm hO (by omega))
end
theorem bad_congr {F G:Nat→Bool} (h:∀ i,i < 11→F i=G i):Ua.bad F=Ua.bad G:=by unfold Ua.bad;rw [h 0 (by omega),h 10 (by omega)]
theorem tb_congr {F G:Nat→Bool} (h:∀ i,i < 11→F i=G i):tb F=tb G:=by unfold tb;rw [bad_congr h,Ua.val_congr 8 fun i _ hi=>h i (by omega)]
theorem tp_congr {F G:Nat→Bool} (h:∀ i,i < 11→F i=G i):Ua.tp F=Ua.tp G:=by unfold Ua.tp;rw [bad_congr h,Ua.par_congr 9 fun i _ hi=>h i (by omega)]
theorem te_congr {F G:Nat→Bool} (h:∀ i,i < 11→F i=G i):te F=te G:=by unfold te;rw [bad_congr h]
noncomputable def lisV (x l:List S2) (r:Osc) (f t:Int):Int×Bool×Int :=
 if (FallV x f t).2 then (tb (heard (lowB l) (Tk.Glo r.A r.R r.n) (Tk.Loc r.A r.R r.n (FallV x f t).1)),Ua.tp (heard (lowB l) (Tk.Glo r.A r.R r.n) (Tk.Loc r.A r.R r.n (FallV x f t).1)),te (heard (lowB l) (Tk.Glo r.A r.R r.n) (Tk.Loc r.A r.R r.n (FallV x f t).1))) else (0,false,3)
noncomputable def lisS (x l:List S2) (r:Osc) (s:Int):Int×Bool×Int:=lisV x l r (r.g (224 * s - 20)) (r.g (224 * s+20))
noncomputable def lis (x l:List S2) (r:Osc):Hr:=fun s=>if 1≤s∧s≤16∧(lisS x l r s).2.2=0∧(lisS x l r s).2.1=false then some (lisS x l r s).1 else none
section
variable {S:Sts} {T:LL} {V:List Bool} {P:List (Int×Int)} {O:List Osc} {x l:List S2} {r:Osc}
theorem lis_slot (ok:tE T=0) (hl:O.length=T.length) (hO:∀ o∈O,o.calm) (hx:PlainOf l x) (hL:∀ u,Low l u↔LowL (frs S T V P O) u) (hr':r.calm) {k:Nat} (h1:1≤k) (h2:k≤16) :
 lisS x l r k=if snB S T V k=true then (tb (frF S T V P k),Ua.tp (frF S T V P k),te (frF S T V P k)) else (0,false,3):=by
 have F:=frs_fit (S:=S) (V:=V) (P:=P) ok hl hO;have hX:∀ u,Low x u↔LowL (frs S T V P O) u:=fun u=>(hx.2 u).trans (hL u)
 cases hs:snB S T V k with
 | true =>
   have e:=frs_yes (P:=P) (O:=O) hs;have q:=fall_some F hx.1 hX hr' h1 h2 e;have g:=fun i hi=>heard_bus F hL hr' h1 h2 e (i:=i) hi;unfold lisS lisV;rw [q];simp only [if_true];rw [tb_congr g,tp_congr g,te_congr g]
 | false =>
   have q:=fall_none F hx.1 hX hr' h1 h2 (frs_no (P:=P) (O:=O) hs);unfold lisS lisV;rw [q]
   rfl
theorem lis_is (ok:tE T=0) (hl:O.length=T.length) (hO:∀ o∈O,o.calm) (hx:PlainOf l x) (hL:∀ u,Low l u↔LowL (frs S T V P O) u) (hr':r.calm):lis x l r=hr S T V P:=funext fun s=>by
 unfold lis hr
 by_cases hb:1≤s∧s≤16
 ·obtain ⟨k,rfl⟩:∃ k:Nat,s=k:=⟨s.toNat,by omega⟩
  rw [lis_slot ok hl hO hx hL hr' (k:=k) (by omega) (by omega)]
  cases hs:snB S T V k with
  | false =>
    have hB:hrB S T V P k=false:=by unfold hrB;rw [hs];rfl
    rw [hB]
    simp
  | true =>
    simp only [if_true];have hB:hrB S T V P k=(decide (te (frF S T V P k)=0) && !Ua.tp (frF S T V P k)):=by unfold hrB;rw [hs];rfl
    by_cases q:te (frF S T V P k)=0∧Ua.tp (frF S T V P k)=false
    ·have hT:hrB S T V P k=true:=by rw [hB,decide_eq_true q.1,q.2];rfl
     rw [if_pos ⟨hb.1,hb.2,q.1,q.2⟩,if_pos ⟨hb.1,hb.2,hT⟩];unfold hrV;rw [if_pos hT]
    ·rw [if_neg fun h=>q ⟨h.2.2.1,h.2.2.2⟩,if_neg fun h=>by
      have:=h.2.2;rw [hB] at this;simp only [Bool.and_eq_true,decide_eq_true_eq,Bool.not_eq_true'] at this
      exact q this]
 ·rw [if_neg fun h=>hb ⟨h.1,h.2.1⟩,if_neg fun h=>hb ⟨h.1,h.2.1⟩]
end
def LowJ (S:Sts) (T:LL) (V:List Bool) (P:List (Int×Int)) (O:List Osc) (j:Int) (u:Int):Prop:=∃ k:Nat,1≤k∧k≤16∧sbN S T V k=j∧LowK (frs S T V P O) k u
section
variable {S:Sts} {T:LL} {V:List Bool} {P:List (Int×Int)} {O:List Osc}
theorem lowJ_apart (ok:tE T=0) (hl:O.length=T.length) (hO:∀ o∈O,o.calm) {i j:Int} (h:i≠j) {u:Int} : ¬ (LowJ S T V P O i u∧LowJ S T V P O j u):=by
 rintro ⟨⟨k,_,h2,e,a⟩,⟨k',_,h4,e',b⟩⟩;have:=apart (frs_fit ok hl hO) h2 h4 a b;subst this;exact h (e.symm.trans e')
theorem lowL_iff (ok:tE T=0) {u:Int} : LowL (frs S T V P O) u↔∃ j:Nat,j < T.length∧LowJ S T V P O j u:=by
 constructor
 ·rintro ⟨k,h1,h2,h⟩
  obtain ⟨o,F,e⟩:=lowK_ex h;have hs:snB S T V k=true:=by
   rcases q:snB S T V k with _ | _
   ·rw [frs_no q] at e;cases e
   ·rfl
  obtain ⟨n,en,hn,_⟩:=sender_is ok (snB_is hs);exact ⟨n,hn,k,h1,h2,by unfold sbN;rw [if_pos hs,en],h⟩
 ·rintro ⟨j,_,k,h1,h2,_,h⟩
  exact ⟨k,h1,h2,h⟩
theorem high_early (ok:tE T=0) (hl:O.length=T.length) (hO:∀ o∈O,o.calm) {u:Int} (hu:u < 200):¬ LowL (frs S T V P O) u:=by
 rintro ⟨k,h1,h2,h⟩;obtain ⟨o,F,e⟩:=lowK_ex h;have a:=(lowK_in e h).1;have c:Sa.Calm o.n o.A o.R 2000:=(frs_fit ok hl hO).calm k o F e;have m:=o.mono (show (224:Int)≤224 * k by omega);have t:=(Sa.Glo_parts c (a:=224) (by omega) (by omega)).1;have t0:=(Tk.Glo_is o.A o.R o.n 224).lo;have s:=(Sa.PP_span c t0).2;rw [Tk.PP_zero c.good] at s;have g:o.g 224=Tk.Glo o.A o.R o.n 224:=rfl
 omega
end
end Go.Proofs.YtpkipilggkbkeaaGreatDoor.Bu
namespace Go.Proofs.YtpkipilggkbkeaaGreatDoor.Pa
open Go.RowKit Go.Maps
open Fs (Wf law keyI Rh)
open Rw (Rd Ow At)
open Ro (E5 z5 eat K5)
set_option maxRecDepth 100000
def bv (y:Int):Value:=.int .u8 y
structure HIs (D:DataW Value) (h:Hr):Prop where
 has:∀ n,Wf n→Maps.has D (.int .i64 n)=(h n).isSome
 val:∀ n y,Wf n→h n=some y→∀ z,D.atKey (.int .i64 n) z = .held (bv y)
def HBl (w:World) (b N:Nat) (h:Hr):Prop:=∃ D,w.ownsMap Tryz.prog 3 Rh b N D∧HIs D h
def HMap (w:World) (v:Value) (h:Hr):Prop:=∃ b N,v = .map (some b)∧HBl w b N h
theorem zeroB (w:World):(zeroValue 5).run Tryz.prog w = .ok (.int .u8 0) w:=by kernel_rfl
section
variable {w w':World} {v:Value} {h:Hr} {b N:Nat}
theorem HBl.lt (M:HBl w b N h):b < w.heap.size:=by obtain ⟨D,o,_⟩:=M;exact o.lt
theorem HBl.kept (M:HBl w b N h) (e:w'.heap[b]? = w.heap[b]?):HBl w' b N h:=by
 obtain ⟨D,⟨es,clock,hb,F,hs,hD⟩,I⟩:=M;exact ⟨D,⟨es,clock,e.trans hb,F,hs,hD⟩,I⟩
theorem HBl.below (M:HBl w b N h) (hb:Below w.heap.size w w'):HBl w' b N h:=M.kept (hb.block b M.lt)
theorem HMap.below (M:HMap w v h) (hb:Below w.heap.size w w'):HMap w' v h:=by
 obtain ⟨b,N,e,M⟩:=M;exact ⟨b,N,e,M.below hb⟩
theorem HMap.only {G:Nat→Prop} (M:HMap w v h) (ho:Fs.Only G w w') (hn:∀ b,v = .map (some b)→¬ G b):HMap w' v h:=by
 obtain ⟨b,N,e,M⟩:=M;exact ⟨b,N,e,M.kept (ho.block b M.lt (hn b e))⟩
theorem run_heard (M:HMap w v h) {n:Int} (hn:Wf n):(Instr.lookup 70 v (.int .i64 n) true).run Tryz.prog w = .ok (.tuple #[bv ((h n).getD 0),.bool (h n).isSome]) w:=by
 obtain ⟨b,N,rfl,D,o,I⟩:=M;obtain ⟨u,ps,hr,hu⟩:=o.look_ok law Tryz.underlying70 (zeroB w) (zd:=.held (bv 0)) (zp:=[]) rfl (keyI hn);rw [hr,I.has n hn];have:u=bv ((h n).getD 0):=by
  have e:DataW.held u=D.atKey (.int .i64 n) (.held (bv 0)):=by simp [Rh] at hu;exact hu.1
  rcases ey:h n with _ | y
  ·have:=I.has n hn
   rw [ey] at this;rw [atKey_of_not_has this] at e;injection e
  ·rw [I.val n y hn ey] at e
   injection e
 rw [this]
theorem at_heard {ops:Array Oper} {rest:List Oper} {o:Oper} {a:Act} {Q:Exit→Act→World→Prop} (hgd:Region.wanted o (yielded ops a.tmps)=true) (p x:Operand) (hop:o.op = .lookup 70 p x true) (hm:a.eval p=v) (M:HMap w v h) (n:Int) (hx:a.eval x = .int .i64 n) (hn:Wf n) (y:Int) (q:Bool) (hy:(h n).getD 0=y) (hq:(h n).isSome=q)
 (hK:wpList Tryz.prog ops Q rest (a.put o.dst (.tuple #[.int .u8 y,.bool q])) w):wpList Tryz.prog ops Q (o :: rest) a w:=by
 refine BigFrame.wpList_want hgd fun K' hK'=>?_;have hr:=run_heard M hn;rw [hy,hq] at hr;unfold Oper.wp
 simp [execOp,hop,hm,hx,hr,Result.andThen]
 exact hK' _ _ (by simpa [bv] using hK)
def hput (h:Hr) (n y:Int):Hr:=fun m=>if m=n then some y else h m
theorem HIs.put {D:DataW Value} (I:HIs D h) (hD:IsMap D) {n y:Int} (hn:Wf n):HIs (D.put (.int .i64 n) (.held (bv y))) (hput h n y) where
 has m hm:=by
  unfold hput
  by_cases e:m=n
  ·subst e
   rw [has_put_same hD (law.key (keyI hn)),if_pos rfl]
   rfl
  ·rw [has_put_other (fun e2=>e (by injection e2)),if_neg e]
   exact I.has m hm
 val m z hm hz u:=by
  unfold hput at hz
  by_cases e:m=n
  ·subst e
   rw [if_pos rfl] at hz;injection hz with hz;subst hz;exact atKey_put_same hD (law.key (keyI hn)) _ _
  ·rw [if_neg e] at hz
   rw [atKey_put_other (fun e2=>e (by injection e2))];exact I.val m z hm hz u
theorem run_hput (M:HBl w b N h) (hN:N < maxLen) {n y:Int} (hn:Wf n):∃ w',(Instr.mapUpdate 70 (.map (some b)) (.int .i64 n) (bv y)).run Tryz.prog w = .ok () w'∧HBl w' b (N+1) (hput h n y)∧w.grownBy w' (some b):=by
 obtain ⟨D,o,I⟩:=M;obtain ⟨w',hr,h',hg⟩:=o.update law Tryz.underlying70 hN (keyI hn) (val:=bv y) (d:=.held (bv y)) (ps:=[]) rfl;exact ⟨w',hr,⟨_,h',I.put o.isMap hn⟩,hg⟩
theorem at_hput {ops:Array Oper} {rest:List Oper} {o:Oper} {a:Act} {Q:Exit→Act→World→Prop} (hgd:Region.wanted o (yielded ops a.tmps)=true) (p x u:Operand) (hop:o.op = .mapUpdate 70 p x u) (hm:a.eval p = .map (some b)) (M:HBl w b N h) (hN:N < maxLen) (n y:Int) (hx:a.eval x = .int .i64 n) (hu:a.eval u = .int .u8 y) (hn:Wf n)
 (hK:∀ w',HBl w' b (N+1) (hput h n y)→w.grownBy w' (some b)→wpList Tryz.prog ops Q rest (a.put o.dst undef) w'):wpList Tryz.prog ops Q (o :: rest) a w:=by
 refine BigFrame.wpList_want hgd fun K' hK'=>?_;obtain ⟨w',hr,h1,h2⟩:=run_hput M hN (y:=y) hn;unfold bv at hr;unfold Oper.wp
 simp [execOp,hop,hm,hx,hu,hr,Result.andThen]
 exact hK' _ _ (hK w' h1 h2)
theorem hbl_new (w:World):HBl (w.alloc (.map #[] 0)) w.heap.size 0 (fun _=>none):=⟨_,World.ownsMap_made _ _ _ _,fun _ _=>rfl,fun _ _ _ h=>by cases h⟩
end
def plc (f r:Int):Value:=.agg #[.int .i64 f,.int .i64 r]
theorem laidOutP:laidOutB Tryz.prog=true:=by kernel_rfl
theorem lawP:WideMaps.KeyLaw Tryz.prog 132:=deep_law_laid laidOutP (m:=2) (by omega) (of_decide_eq_true (by kernel_rfl)) (by kernel_rfl) (by kernel_rfl)
theorem keyedP:Keyed Tryz.prog 132:=Keyed.of_law lawP
theorem cellsP:Tryz.prog.cellsOf 132=2:=by kernel_rfl
theorem cellsI:Tryz.prog.cellsOf 3=1:=by kernel_rfl
theorem sizeP:∃ m,Tryz.prog.types.size=m+1:=by
 have:0 < Tryz.prog.types.size:=of_decide_eq_true (by kernel_rfl);exact ⟨Tryz.prog.types.size - 1,(Nat.succ_pred_eq_of_pos this).symm⟩
theorem litsI (d:Nat) (f:Int):Tryz.prog.keyLits (d+1) 3 [.int .i64 f]=if (Lit.int .i64 f).wf=true then some [.int .i64 f] else none:=by
 unfold Program.keyLits
 simp [Tryz.underlying3]
theorem keyP {f r:Int} (hf:Wf f) (hr:Wf r):keyOf Tryz.prog 132 (plc f r)=some (.string (keyBytes [.int .i64 f,.int .i64 r])):=by
 have h1:Tryz.prog.keyType 132=true:=by kernel_rfl
 have h2:(plc f r).formed Tryz.prog 132=true:=by simp [plc,Value.formed,Tryz.underlying132,cellsP]
 obtain ⟨m,hm⟩:=sizeP;have h4:Tryz.prog.keyLits (Tryz.prog.types.size+1) 132 (plc f r).cells.toList=some [.int .i64 f,.int .i64 r]:=by
  have e:(plc f r).cells.toList = [.int .i64 f,.int .i64 r]:=rfl;have f1:(Lit.int .i64 f).wf=true:=hf;have f2:(Lit.int .i64 r).wf=true:=hr;have g1:=litsI m f;have g2:=litsI m r;rw [if_pos f1] at g1;rw [if_pos f2] at g2;rw [e,hm];unfold Program.keyLits
  simp [Tryz.underlying132,cellsP,cellsI,g1,g2]
 unfold keyOf;simp only [Tryz.underlying132,h1,h2,h4,Bool.and_self,if_true,Option.map_some]
theorem keyP_inv {v:Value} {kl:Lit} (h:keyOf Tryz.prog 132 v=some kl):∃ f r,v=plc f r∧Wf f∧Wf r:=by
 unfold keyOf at h;simp only [Tryz.underlying132] at h
 split at h
 ·rename_i hc
  rw [Bool.and_eq_true] at hc;obtain ⟨_,hfm⟩:=hc;obtain ⟨xs,rfl,hs⟩:∃ xs,v = .agg xs∧xs.size=2:=by
   cases v <;> simp [Value.formed,Tryz.underlying132,cellsP] at hfm
   exact ⟨_,rfl,hfm⟩
  obtain ⟨m,hm⟩:=sizeP;obtain ⟨l⟩:=xs
  match l,hs with
  | [a,b],_ =>
    have e:(Value.agg (Array.mk [a,b])).cells.toList = [a,b]:=rfl;rw [e,hm] at h;unfold Program.keyLits at h
    simp [Tryz.underlying132,cellsP,cellsI] at h
    rcases e1:Tryz.prog.keyLits (m+1) 3 [a] with _ | x
    ·rw [e1] at h
     simp at h
    ·rcases e2:Tryz.prog.keyLits (m+1) 3 [b] with _ | y
     ·rw [e1,e2] at h
      simp at h
     ·obtain ⟨n,h5,_⟩:=keyLits_int' Tryz.underlying3 e1
      obtain ⟨m',h8,_⟩:=keyLits_int' Tryz.underlying3 e2;obtain rfl:a = .int .i64 n:=by simpa using h5
      obtain rfl:b = .int .i64 m':=by simpa using h8
      refine ⟨n,m',rfl,?_,?_⟩
      ·rw [litsI] at e1
       by_cases g:(Lit.int .i64 n).wf=true
       ·exact g
       ·rw [if_neg g] at e1;cases e1
      ·rw [litsI] at e2
       by_cases g:(Lit.int .i64 m').wf=true
       ·exact g
       ·rw [if_neg g] at e2;cases e2
 ·cases h
def pk (f r:Int):Lit:=.string (keyBytes [.int .i64 f,.int .i64 r])
theorem pk_inj {f r f' r':Int} (h1:Wf f) (h2:Wf r) (h3:Wf f') (h4:Wf r') (e:pk f r=pk f' r'):f=f'∧r=r':=by
 have k1:=keyP h1 h2;have k2:=keyP h3 h4;rw [show Lit.string (keyBytes [.int .i64 f',.int .i64 r'])=pk f r from e.symm] at k2;have:=keyedP.inj k1 k2;unfold plc at this;injection this with this;have e1:=congrArg (fun t:Array Value=>t[0]?) this;have e2:=congrArg (fun t:Array Value=>t[1]?) this
 simp at e1 e2
 exact ⟨e1,e2⟩
structure Gm (w:World) (b N:Nat) (t:List E5) (vs:Int→Int→Value) (D:DataW Value):Prop where
 own:w.ownsMap Tryz.prog 132 Rh b N D
 has:∀ f r,Wf f→Wf r→Maps.has D (pk f r)=decide (grp t f r≠[])
 val:∀ f r,Wf f→Wf r→grp t f r≠[]→∀ z,D.atKey (pk f r) z = .held (vs f r)
 nil:∀ f r,grp t f r = []→vs f r = .slice none 0 0
 row:∀ f r,Ow K5 w (b+1) 98 (vs f r) (grp t f r)
 far:∀ f r f' r',¬ (f=f'∧r=r')→∀ k,(vs f r).ownBlock=some k→(vs f' r').ownBlock≠some k
theorem zeroS (w:World):(zeroValue 58).run Tryz.prog w = .ok (.slice none 0 0) w:=by kernel_rfl
section
variable {w w':World} {b N:Nat} {t:List E5} {vs:Int→Int→Value} {D:DataW Value}
theorem grp_nil (f r:Int):grp [] f r = []:=rfl
theorem gm_new (w:World):Gm (w.alloc (.map #[] 0)) w.heap.size 0 [] (fun _ _=>.slice none 0 0) (.map []) :=
 ⟨World.ownsMap_made _ _ _ _,fun _ _ _ _=>by simp [grp_nil,Maps.has],fun _ _ _ _ h=>absurd rfl h,fun _ _ _=>rfl,fun _ _=>Ow.nil _ _ _,fun _ _ _ _ _ k h=>by simp [Value.ownBlock] at h⟩
theorem Gm.below (G:Gm w b N t vs D) (hb:Below w.heap.size w w'):Gm w' b N t vs D :=
 ⟨G.own.kept (Fs.grown_of hb) (fun h=>by cases h),G.has,G.val,G.nil,fun f r=>(G.row f r).keep hb,G.far⟩
theorem grp_snoc (t:List E5) (x:E5) (f r:Int):grp (t ++ [x]) f r=if mt f r x=true then grp t f r ++ [x] else grp t f r:=by
 unfold grp;rw [List.filter_append]
 by_cases h:mt f r x=true
 ·simp [h]
 ·simp [h]
def upP (vs:Int→Int→Value) (f r:Int) (u:Value) (a c:Int):Value:=if a=f∧c=r then u else vs a c
theorem Gm.step (G:Gm w b N t vs D) (hN:N < maxLen) {x:E5} (h2:x.1=2) (hf:Wf x.2.2.1) (hr:Wf x.2.2.2.1) :
 ∃ st w1,(Instr.mapEntry 129 (.map (some b)) (plc x.2.2.1 x.2.2.2.1)).run Tryz.prog w = .ok (.tuple #[vs x.2.2.1 x.2.2.2.1,.int .i64 ((st:Nat):Int)]) w1∧w.grownBy w1 (some b)∧w1.heap.size=w.heap.size ∧
  ∀ w2 u,w1.grownBy w2 (vs x.2.2.1 x.2.2.2.1).ownBlock→Ow K5 w2 (b+1) 98 u (grp t x.2.2.1 x.2.2.2.1 ++ [x])→(u.ownBlock=(vs x.2.2.1 x.2.2.2.1).ownBlock∨∃ g,u.ownBlock=some g∧w1.heap.size≤g) →
   ∃ w3 D',(Instr.entryStore 129 (.map (some b)) (.int .i64 ((st:Nat):Int)) u).run Tryz.prog w2 = .ok () w3∧w2.grownBy w3 (some b)∧Gm w3 b (N+1) (t ++ [x]) (upP vs x.2.2.1 x.2.2.2.1 u) D':=by
 obtain ⟨k,s,f,r,y⟩:=x;simp only at h2 hf hr ⊢;subst h2;have hkey:=keyP hf hr;obtain ⟨es,clock,hb,F,hs,hD⟩:=G.own;obtain ⟨v0,st,es1,clock1,hE,hcase,hS⟩:=WideElems.entry_then_store (w:=w) lawP Tryz.underlying129 zeroS hb F hkey;have hv0:v0=vs f r:=by
  have hl:=Maps.fit_look false keyedP Tryz.underlying129 (zeroS w) hb F hkey;rw [← hD] at hl
  rcases hl with ⟨_,hno,hat⟩ | ⟨e1,y1,hm1,hk1,_,hR,hat,_⟩
  ·have h1:Maps.has D (pk f r)=false:=has_false_of_atKey hat
   rw [G.has f r hf hr,decide_eq_false_iff_not,Classical.not_not] at h1;rw [G.nil f r h1]
   rcases hcase with ⟨e0,hm0,hk0,_⟩ | ⟨_,hz⟩
   ·exact absurd hk0 (hno e0 hm0)
   ·exact hz
  ·have h1:Maps.has D (pk f r)=true:=has_true_of_atKey hat
   rw [G.has f r hf hr,decide_eq_true_eq] at h1;have h3:=(hat .nil).symm.trans (G.val f r hf hr h1 .nil);have h4:y1=(.held e1.val,[]):=by simp [Rh] at hR;exact hR.symm
   rw [h4] at h3;injection h3 with h3
   rcases hcase with ⟨e0,hm0,hk0,hv⟩ | ⟨hno,_⟩
   ·have he:=entry_eq_of_key ((MapKept.stamped_iff es clock).1 F.stamped).2.2 hm0 hm1 (hk0.trans hk1.symm)
    rw [hv,he,h3]
   ·exact absurd hk1 (hno e1 hm1)
 subst hv0;have hg1:w.grownBy (ChangeMaps.setBlock w b (.map es1 clock1)) (some b):=⟨rfl,rfl,rfl,by simp [ChangeMaps.setBlock],fun i _ hi=>ChangeMaps.heap_setBlock_other hb _ (fun e=>hi (by rw [e]))⟩;have hb1:(ChangeMaps.setBlock w b (.map es1 clock1)).heap[b]? = some (.map es1 clock1):=ChangeMaps.heap_setBlock_same hb _;have hz1:(ChangeMaps.setBlock w b (.map es1 clock1)).heap.size=w.heap.size:=by simp [ChangeMaps.setBlock]
 have hbl:b < w.heap.size:=G.own.lt;have ownb:∀ a c,(vs a c).ownBlock≠some b:=fun a c e=>by have:=World.ownsRow.lt (G.row a c) b e;omega
 refine ⟨st,_,hE,hg1,hz1,fun w2 u hg2 hu hub=>?_⟩;have hb2:w2.heap[b]? = some (.map es1 clock1):=(hg2.block b (by rw [hz1];exact hbl) (fun e=>ownb f r e.symm)).trans hb1;obtain ⟨es',clock',hS1,hS2⟩:=hS w2 u hb2;obtain ⟨w',hU,hO,_⟩:=G.own.update keyedP Tryz.underlying129 hN hkey (val:=u) (d:=.held u) (ps:=[]) rfl;have hw':w'=ChangeMaps.setBlock w b (.map es' clock'):=by
  rw [hU] at hS2;injection hS2
 subst hw';have hg3:w2.grownBy (ChangeMaps.setBlock w2 b (.map es' clock')) (some b):=⟨rfl,rfl,rfl,by simp [ChangeMaps.setBlock],fun i _ hi=>ChangeMaps.heap_setBlock_other hb2 _ (fun e=>hi (by rw [e]))⟩;have hO3:(ChangeMaps.setBlock w2 b (.map es' clock')).ownsMap Tryz.prog 132 Rh b (N+1) (D.put (pk f r) (.held u)):=by
  obtain ⟨es3,clock3,q1,q2,q3,q4⟩:=hO;rw [ChangeMaps.heap_setBlock_same hb] at q1;exact ⟨es3,clock3,(ChangeMaps.heap_setBlock_same hb2 _).trans q1,q2,q3,q4⟩
 have hself:mt f r (2,s,f,r,y)=true:=by simp [mt]
 have hoth:∀ a c,¬ (a=f∧c=r)→mt a c (2,s,f,r,y)=false:=fun a c h=>by
  unfold mt;rw [decide_eq_false];rintro ⟨_,h1,h2⟩;exact h ⟨h1.symm,h2.symm⟩
 have ownu:∀ k,u.ownBlock=some k→b+1≤k∧k < w2.heap.size:=fun k e=>World.ownsRow.lt hu k e;have hdiff:∀ a c,¬ (a=f∧c=r)→∀ k,(vs a c).ownBlock=some k→u.ownBlock≠some k:=fun a c h k hk e=>by
  rcases hub with e2 | ⟨g,e2,hg⟩
  ·exact G.far a c f r h k hk (e2.symm.trans e)
  ·rw [e2] at e
   injection e with e;have:=(World.ownsRow.lt (G.row a c) k hk).2
   omega
 refine ⟨_,_,hS1,hg3,hO3,fun a c ha hc=>?_,fun a c ha hc hne z=>?_,fun a c hn=>?_,fun a c=>?_,fun a c a' c' hne k hk=>?_⟩
 ·rw [grp_snoc]
  by_cases e:a=f∧c=r
  ·obtain ⟨rfl,rfl⟩:=e
   rw [show Maps.has (D.put (pk a c) (.held u)) (pk a c)=true from has_put_same G.own.isMap (keyedP.key hkey) _,hself,if_pos rfl]
   simp
  ·rw [has_put_other (fun e2=>e (pk_inj ha hc hf hr e2)),hoth a c e,if_neg (by simp)]
   exact G.has a c ha hc
 ·rw [grp_snoc] at hne
  unfold upP
  by_cases e:a=f∧c=r
  ·obtain ⟨rfl,rfl⟩:=e
   rw [if_pos ⟨rfl,rfl⟩];exact atKey_put_same G.own.isMap (keyedP.key hkey) _ _
  ·rw [hoth a c e,if_neg (by simp)] at hne
   rw [atKey_put_other (fun e2=>e (pk_inj ha hc hf hr e2)),if_neg e];exact G.val a c ha hc hne z
 ·rw [grp_snoc] at hn
  unfold upP
  by_cases e:a=f∧c=r
  ·obtain ⟨rfl,rfl⟩:=e
   rw [hself,if_pos rfl] at hn
   simp at hn
  ·rw [hoth a c e,if_neg (by simp)] at hn
   rw [if_neg e];exact G.nil a c hn
 ·rw [grp_snoc]
  unfold upP
  by_cases e:a=f∧c=r
  ·obtain ⟨rfl,rfl⟩:=e
   rw [hself,if_pos rfl,if_pos ⟨rfl,rfl⟩];exact World.ownsRow.kept hu hg3 (.inr fun e2=>by have:=(ownu b e2).1;omega)
  ·rw [hoth a c e,if_neg e,if_neg Bool.false_ne_true]
   have r1:=World.ownsRow.kept (G.row a c) hg1 (.inr (ownb a c))
   have r2:=World.ownsRow.kept r1 hg2 (by
    rcases e3:(vs a c).ownBlock with _ | k
    ·exact .inl rfl
    ·exact .inr fun e4=>G.far a c f r e k e3 e4.symm)
   exact World.ownsRow.kept r2 hg3 (.inr (ownb a c))
 ·unfold upP at hk ⊢
  by_cases e:a=f∧c=r
  ·rw [if_pos e] at hk
   by_cases e':a'=f∧c'=r
   ·exact absurd ⟨e.1.trans e'.1.symm,e.2.trans e'.2.symm⟩ hne
   ·rw [if_neg e']
    exact fun e4=>hdiff a' c' e' k e4 hk
  ·rw [if_neg e] at hk
   by_cases e':a'=f∧c'=r
   ·rw [if_pos e']
    exact hdiff a c e k hk
   ·rw [if_neg e']
    exact G.far a c a' c' hne k hk
end
theorem push_group {ops:Array Oper} {rest:List Oper} {o:Oper} {a:Act} {w:World} {Q:Exit→Act→World→Prop} (hgd:o.guard=none) (s x:Operand)
 (ho:o.op = .call { callee:=.builtin .append,args:=#[s,x],argTypes:=#[58,58] }) (B:Nat) (v:Value) (l:List E5) (hs:a.eval s=v) (hown:Ow K5 w B 98 v l)
 (ad:Addr) (c:E5) (hx:a.eval x = .slice (some ad) 1 1) (hc:∀ j u,(K5.enc c)[j]? = some u→w.cell? (ad.add j)=some u) (hlen:l.length < 100000) (hB:B≤w.heap.size)
 (h:∀ v' w',Ow K5 w' B 98 v' (l ++ [c])→w.grownBy w' v.ownBlock→(v'.ownBlock=v.ownBlock∨∃ g,v'.ownBlock=some g∧w.heap.size≤g)→wpList Tryz.prog ops Q rest (a.put o.dst v') w'):wpList Tryz.prog ops Q (o :: rest) a w:=by
 obtain ⟨i0,hi0,hz0,hz1,hz2⟩:=info_parts Ro.infoE;refine wpList_append_own_at _ hgd s x 58 ho B 98 i0 _ 5 40 Tryz.underlying58 hi0 hz0 hz1 hz2 rfl (by omega) v l.length (K5.flat l) hs hown ad 1 1 (K5.enc c) hx (by rw [K5.len];rfl) hc (K5.one c) (by unfold maxLen;omega) (by omega) hB ?_
 intro v' w' h2 h3 _ h5
 exact h v' w' (Rw.Ow.push h2) h3 (h5.imp id fun e=>⟨_,e,Nat.le_refl _⟩)
end Go.Proofs.YtpkipilggkbkeaaGreatDoor.Pa
namespace Go.Proofs.YtpkipilggkbkeaaGreatDoor.Pa
open Go.RowKit Go.Maps
open Fs (Wf law keyI Rh)
open Rw (Rd Ow At)
open Fl (row_cell row_frozen)
open Ro (E5 z5 eat K5 at5 okE okB ok_yes ent good_any okE_bounds)
set_option maxRecDepth 100000
attribute [local irreducible] Sd.wpSd wpQuiet
structure RcI (w:World) (t:List E5) (k:Nat) (N:Nat) (vs:Int→Int→Value) (D:DataW Value) (wr:World):Prop where
 gm:Gm wr w.heap.size N (t.take k) vs D
 le:N≤k
 bel:Below w.heap.size w wr
theorem RcI.below {w:World} {t:List E5} {k N:Nat} {vs:Int→Int→Value} {D:DataW Value} {wr wr':World} (h:Hid (RcI w t k N vs D wr)) (b:Below wr.heap.size wr wr'):Hid (RcI w t k N vs D wr'):=⟨h.out.gm.below b,h.out.le,h.out.bel.trans (b.mono h.out.bel.size)⟩
def RecdPost (w:World) (t:List E5) (e:Ending) (w':World):Prop:=∃ b N vs D,e = .returned (.map (some b))∧Gm w' b N t vs D∧w.heap.size≤b∧N≤t.length∧Below w.heap.size w w'
theorem Gm.to {w:World} {b N:Nat} {t t':List E5} {vs:Int→Int→Value} {D:DataW Value} (h:Gm w b N t vs D) (e:∀ f r,grp t f r=grp t' f r):Gm w b N t' vs D :=
 ⟨h.own,fun f r hf hr=>by rw [← e f r];exact h.has f r hf hr,fun f r hf hr hg=>h.val f r hf hr (by rw [e f r];exact hg),fun f r hg=>h.nil f r (by rw [e f r];exact hg),fun f r=>by rw [← e f r];exact h.row f r,h.far⟩
set_option maxHeartbeats 400000 in
theorem received_any (w:World) (v:Value) (t:List E5) (R:Rd K5 w v t) (ok:∀ x∈t,okE x) (hl:t.length≤1000):Calls Tryz.prog 62 #[v] w (RecdPost w t):=by
 have OK:Hid (∀ k,k < t.length→okE (eat t k)):=fun k hk=>ok _ (Ro.eat_mem hk);have hmm:=@run_makeMap Tryz.prog;have G0:Hid (RcI w t 0 0 (fun _ _=>.slice none 0 0) (.map []) (w.alloc (.map #[] 0))):=⟨gm_new w,Nat.le_refl _,(Below.refl w.heap.size w).alloc (Nat.le_refl _) _⟩;obtain ⟨a,cap,rfl,_,hm,hA⟩:=R;have HA:=Lib.hid hA;clear hA ok;generalize hn:t.length=n at *;have HN:=Lib.hid hn;clear hn
 go_enter Tryz.func62,Tryz.ntmps62
 go_wp2;clear hmm
 go_loopw [10] (fun i wr=>∃ (k:Nat) (N:Nat) (vs:Int→Int→Value) (D:DataW Value),k≤n∧i = .int .i64 k∧Hid (RcI w t k N vs D wr)) (fun i _=>n - (intOf i).toNat)
 case atStart=>exact ⟨0,0,_,_,Nat.zero_le _,rfl,G0⟩
 case round =>
  obtain ⟨k,N,vs,D,hk,rfl,I⟩:=hrel;clear G0
  by_cases hlt:k < n
  ·obtain ⟨b,off,rfl,A⟩:=HA.out (by omega)
   obtain ⟨c0,c1,c2,c3,c4⟩:=at5 (A.below I.out.bel) k (by have:=HN.out;omega);rw [show t.getD k z5=eat t k from rfl] at c0 c1 c2 c3 c4;have oke:=OK.out k (by have:=HN.out;omega);have TK:=Lib.hid (take_eat (t:=t) (j:=k) (by have:=HN.out;omega));have NO:Hid ((eat t k).1≠2→Hid (RcI w t (k+1) N vs D wr)):=fun h=>⟨I.out.gm.to (fun f r=>by rw [TK.out,grp_snoc,if_neg];simp [mt,h]),by have:=I.out.le;omega,I.out.bel⟩;clear A OK;generalize eat t k=x at *;obtain ⟨q,s,f,r,y⟩:=x;simp only at c0 c1 c2 c3 c4 NO;have GA:=Lib.hid (fun w=>good_any w (q,s,f,r,y));rw [ok_yes oke] at GA;unfold ent at GA;simp only at GA;have OKE:=Lib.hid oke;clear oke
   by_cases h2:q=2
   ·clear NO
    subst h2;obtain ⟨_,_,⟨f0,f1⟩,⟨r0,r1⟩,_⟩:=okE_bounds OKE.out;simp only at f0 f1 r0 r1;have WF:=Lib.hid (wf_of (n:=f) ⟨f0,by omega⟩);have WR:=Lib.hid (wf_of (n:=r) ⟨r0,by omega⟩);clear f0 f1 r0 r1;go_wp2_with fail;refine (GA.out _).mono ?_;rintro e w1 ⟨rfl,b1⟩;have X1:Hid (w1.heap[wr.heap.size]? = some (.cells #[.int .i64 2,.int .i64 s,.int .i64 f,.int .i64 r,.int .i64 y] 98 (0,0))):=Lib.hid ((b1.block _ (by simp)).trans (heap_alloc_new wr _));have B1:Hid (Below wr.heap.size wr w1):=Lib.hid (((Below.refl wr.heap.size wr).alloc (Nat.le_refl _) _).trans (b1.mono (by simp)));have x2:w1.cell? ⟨wr.heap.size,2,none⟩=some (.int .i64 f):=row_cell X1.out 2;have x3:w1.cell? ⟨wr.heap.size,3,none⟩=some (.int .i64 r):=row_cell X1.out 3;clear b1 c0 c1 c2 c3 c4 GA;go_upto_region 7 with fail;have P2:Hid ((w1.alloc (.cells #[.int .i64 f,.int .i64 r] 132)).heap[w1.heap.size]? = some (.cells #[.int .i64 f,.int .i64 r] 132 (0,0))):=Lib.hid (heap_alloc_new w1 _);have B2:Hid (Below w1.heap.size w1 (w1.alloc (.cells #[.int .i64 f,.int .i64 r] 132))):=Lib.hid ((Below.refl w1.heap.size w1).alloc (Nat.le_refl _) _);clear x2 x3;generalize (w1.alloc (.cells #[.int .i64 f,.int .i64 r] 132))=W at *;have X2:=Lib.hid ((B2.out.block _ (lt_of_block X1.out)).trans X1.out);have GB:=Lib.hid (B1.out.trans (B2.out.mono B1.out.size));have hgw:w1.heap.size < W.heap.size:=lt_of_block P2.out;generalize w1.heap.size=g2 at *;clear B1 B2 X1;have p0:W.cell? ⟨g2,0,none⟩=some (.int .i64 f):=row_cell P2.out 0;have p1:W.cell? ⟨g2,1,none⟩=some (.int .i64 r):=row_cell P2.out 1;have x0:W.cell? ⟨wr.heap.size,0,none⟩=some (.int .i64 2):=row_cell X2.out 0;have x1:W.cell? ⟨wr.heap.size,1,none⟩=some (.int .i64 s):=row_cell X2.out 1;have x2:W.cell? ⟨wr.heap.size,2,none⟩=some (.int .i64 f):=row_cell X2.out 2;have x3:W.cell? ⟨wr.heap.size,3,none⟩=some (.int .i64 r):=row_cell X2.out 3;have x4:W.cell? ⟨wr.heap.size,4,none⟩=some (.int .i64 y):=row_cell X2.out 4;have bL:=(Below.refl W.heap.size W).alloc (Nat.le_refl _) (.cells #[.int .i64 2,.int .i64 s,.int .i64 f,.int .i64 r,.int .i64 y] 98);have GM:=(I.out.gm.below (GB.out.trans (bL.mono (GB.out.size)))).step (x:=(2,s,f,r,y)) (by have:=I.out.le;unfold maxLen;omega) rfl WF.out WR.out;obtain ⟨st,w2,hE,hg2,hz2,hS⟩:=GM;simp only at hE hS;have hwb:w.heap.size < wr.heap.size:=I.out.gm.own.lt;have hr2:=World.ownsRow.kept (World.ownsRow.alloc ((I.out.gm.row f r).keep GB.out) (.cells #[.int .i64 2,.int .i64 s,.int .i64 f,.int .i64 r,.int .i64 y] 98)) hg2 (.inr fun e=>by have:=World.ownsRow.lt (I.out.gm.row f r) _ e;omega);have L2:Hid (w2.heap[W.heap.size]? = some (.cells #[.int .i64 2,.int .i64 s,.int .i64 f,.int .i64 r,.int .i64 y] 98 (0,0))):=Lib.hid ((hg2.block _ (by simp) (fun e=>by have:=Option.some.inj e;have:=GB.out.size;omega)).trans (heap_alloc_new W _));have hz3:W.heap.size+1=w2.heap.size:=by rw [hz2];simp
    have BW:Hid (Below w.heap.size w w2):=Lib.hid (((I.out.bel.trans (GB.out.mono I.out.bel.size)).alloc (by have:=GB.out.size;omega) (.cells #[.int .i64 2,.int .i64 s,.int .i64 f,.int .i64 r,.int .i64 y] 98)).grown hg2 (by have:=GB.out.size;simp;omega) (fun k e=>by injection e with e;omega));have O2:Hid (Ow K5 w2 (w.heap.size+1) 98 (vs f r) (grp (t.take k) f r)):=Lib.hid hr2;have gw:=GB.out.size;have HX:=Lib.hid (And.intro hwb (And.intro hz3 gw));have GX:=Lib.hid hS;obtain ⟨av,cv,ev,_⟩:=O2.out.slice;generalize hgl:(grp (t.take k) f r).length=gl at ev;have HGL:=Lib.hid hgl;have EV:=Lib.hid ev;unfold plc at hE;rw [ev] at hE O2;clear hg2 hz2 hS bL hr2 hwb hz3 gw ev hgl
    go_wp2_with (at_builtin;refine push_group rfl _ _ rfl (w.heap.size+1) _ _ rfl O2.out _ ((2,s,f,r,y):E5) rfl ?d1 ?d2 ?d3 ?_)
    case d1 =>
     intro j u hu
     match j,hu with
     | 0,hu=>simp [K5] at hu;subst hu;exact row_cell L2.out 0
     | 1,hu=>simp [K5] at hu;subst hu;exact row_cell L2.out 1
     | 2,hu=>simp [K5] at hu;subst hu;exact row_cell L2.out 2
     | 3,hu=>simp [K5] at hu;subst hu;exact row_cell L2.out 3
     | 4,hu=>simp [K5] at hu;subst hu;exact row_cell L2.out 4
     | j+5,hu=>simp [K5] at hu
    case d2 =>
     have:=List.length_filter_le (mt f r) (t.take k);have h2:(t.take k).length≤1000:=by rw [List.length_take];have:=HN.out;omega
     unfold grp
     omega
    case d3=>have:=HX.out;omega
    intro v' w3 o3 g3 h3
    have hS:=GX.out;rw [EV.out] at hS;obtain ⟨w4,D',hS4,g4,G4⟩:=hS w3 v' g3 o3 (h3.imp id fun ⟨g,e,h⟩=>⟨g,e,h⟩);obtain ⟨av',cv',ev',_⟩:=o3.slice;generalize (grp (t.take k) f r ++ [((2,s,f,r,y):E5)]).length=gl' at ev';subst ev';have NEW:Hid (RcI w t (k+1) (N+1) (upP vs f r (.slice av' gl' cv')) D' w4):=Lib.hid ⟨by rw [TK.out];exact G4,by have:=I.out.le;omega,(BW.out.grown g3 (by have:=HX.out;omega) (fun k e=>by have:=World.ownsRow.lt O2.out k e;omega)).grown g4 (by have:=HX.out;have:=g3.size;omega) (fun k e=>by injection e with e;omega)⟩;clear hS o3 g3 h3 g4 G4 hE;go_wp2
    go_roundw
    case rel=>exact ⟨k+1,N+1,_,D',by omega,by go_num,NEW⟩
    case measure=>simp [intOf];omega
   ·have NN:=NO.out h2
    clear NO;have d2:(q == 2)=false:=by simpa using h2
    clear h2;go_wp2
    go_roundw
    case rel=>exact ⟨k+1,N,vs,D,by omega,by go_num,RcI.below NN ((Below.refl wr.heap.size wr).alloc (Nat.le_refl _) _)⟩
    case measure=>simp [intOf];omega
  ·obtain rfl:k=n:=by omega
   have E:Hid (RecdPost w t (.returned (.map (some w.heap.size))) wr):=⟨_,N,vs,D,rfl,by have h:=I.out.gm;rw [← HN.out,List.take_length] at h;exact h,Nat.le_refl _,by have:=I.out.le;have:=HN.out;omega,I.out.bel⟩;go_wp2
   go_ret
   exact E.out
end Go.Proofs.YtpkipilggkbkeaaGreatDoor.Pa
namespace Go.Proofs.YtpkipilggkbkeaaGreatDoor.Pa
open Go.RowKit Go.Maps
open Fs (Abs St Only Fx Wf Rh gB gV sA sB set_any SetPost get_st GetPost)
open Rw (Rd Ow At)
open Ro (E5 z5 eat K5 at5 okE ent)
open Fl (R4 z4 rec4 okR arr4 row_cell row_frozen)
set_option maxRecDepth 100000
attribute [local irreducible] Sd.wpSd wpQuiet
theorem arr4_set (v:R4) (x:Int) {j:Nat} (hj:j < 4):(arr4 v).setIfInBounds j (.int .u8 x)=arr4 (rs v j x):=by
 obtain rfl | rfl | rfl | rfl:j=0∨j=1∨j=2∨j=3:=by omega
 all_goals rfl
theorem arr4_get (v:R4) {j:Nat} (hj:j < 4):(arr4 v)[j]? = some (.int .u8 (rb v j)):=by
 obtain rfl | rfl | rfl | rfl:j=0∨j=1∨j=2∨j=3:=by omega
 all_goals rfl
structure RvI (w:World) (f r:Int) (gv:Nat) (v:R4) (wr:World):Prop where
 bel:Below w.heap.size w wr
 box:wr.heap[w.heap.size]? = some (.cells #[.int .i64 f,.int .i64 r] 132 (0,0))
 cel:wr.heap[gv]? = some (.cells (arr4 v) 96 (0,0))
 gt:w.heap.size < gv
theorem RvI.below {w wr wr':World} {f r:Int} {gv:Nat} {v:R4} (h:RvI w f r gv v wr) (b:Below wr.heap.size wr wr'):RvI w f r gv v wr' :=
 ⟨h.bel.trans (b.mono h.bel.size),(b.block _ (lt_of_block h.box)).trans h.box,(b.block _ (lt_of_block h.cel)).trans h.cel,h.gt⟩
theorem RvI.put {w wr:World} {f r:Int} {gv:Nat} {v:R4} (h:RvI w f r gv v wr) {j:Nat} (hj:j < 4) (x:Int):RvI w f r gv (rs v j x) (wr.setCell ⟨gv,j,none⟩ (.int .u8 x)) :=
 ⟨h.bel.setCell (by have:=h.gt;simp;omega) _,(Below.heap_setCell _ _ _ _ (by have:=h.gt;simp;omega)).trans h.box,by rw [Rw.heap_setCell_same h.cel,arr4_set v x hj],h.gt⟩
def RcvPost (w:World) (s:Nat) (F:Nat→Prop) (d:Int) (A':Abs) (e:Ending) (w':World):Prop:=e = .returned (.tuple #[])∧St w' s (Fx F w w') A' d∧Only F w w'
theorem mix_next {h:Hr} {l:List E5} {k:Nat} (hk:k < l.length) (v:R4):mix h (l.take (k+1)) v=rs (mix h (l.take k) v) (eat l k).2.2.2.2 ((h (eat l k).2.1).getD 0):=by
 unfold mix;rw [take_eat hk,List.foldl_append]
 rfl
set_option maxHeartbeats 400000 in
theorem receive_any {w:World} {s:Nat} {F:Nat→Prop} {A:Abs} {d:Int} (S:St w s F A d) {f r:Int} (hf:Wf f) {v hv:Value} {l:List E5} (R:Rd K5 w v l) {h:Hr} (M:HMap w hv h) (hh:okH h) (hl:∀ x∈l,Wf x.2.1∧0≤x.2.2.2.2∧x.2.2.2.2≤3) :
 Calls Tryz.prog 63 #[.pointer (some ⟨s,0,none⟩),.agg #[.int .i64 f,.int .i64 r],v,hv] w (RcvPost w s F d (rcv1 h l f r A)):=by
 have HL:Hid (∀ k,k < l.length→Wf (eat l k).2.1∧0≤(eat l k).2.2.2.2∧(eat l k).2.2.2.2≤3):=fun k hk=>hl _ (Ro.eat_mem hk);have G1:=Lib.hid (fun W (b:Below w.heap.size w W)=>get_st (S.below b) hf r);have ok0:okR (gV A f r):=by
  have hA:=S.okA;unfold gV
  split
  ·exact Fl.okR_z
  ·rename_i e he
   split
   ·exact Fl.okR_at (hA.find he).2.2.1 _
   ·exact Fl.okR_z
 have FIN:Hid (gB A f r=true→(∀ k,k < l.length→(h (eat l k).2.1).isSome=true)→rcv1 h l f r A=sA A f r (mix h l (gV A f r))):=fun hg ha=>by
  unfold rcv1;rw [if_pos];rw [hg,Bool.true_and];unfold allH;rw [List.all_eq_true]
  intro x hx
  obtain ⟨k,hk,e⟩:=List.getElem_of_mem hx;have e':eat l k=x:=by rw [← e];unfold eat;rw [List.getD_eq_getElem?_getD,List.getElem?_eq_getElem hk];rfl
  rw [← e'];exact ha k hk
 have NOG:Hid (gB A f r=false→rcv1 h l f r A=A):=fun hg=>by unfold rcv1;rw [if_neg (by simp [hg])]
 have NOH:Hid (∀ k,k < l.length→h (eat l k).2.1=none→rcv1 h l f r A=A):=fun k hk e=>by
  unfold rcv1;rw [if_neg]
  intro ha
  rw [Bool.and_eq_true] at ha;have:=List.all_eq_true.1 ha.2 _ (Ro.eat_mem hk);rw [e] at this
  cases this
 have SET:=Lib.hid (fun W (b:Below w.heap.size w W)=>set_any (S.below b) hf r (mix h l (gV A f r)) (mix_ok hh l ok0));have SAME:Hid (∀ W,Below w.heap.size w W→rcv1 h l f r A=A→RcvPost w s F d (rcv1 h l f r A) (.returned (.tuple #[])) W):=fun W b e=>⟨rfl,by rw [e];exact S.fx b,Only.of_below b⟩;have END:Hid (∀ W W' x b,Below w.heap.size w W→rcv1 h l f r A=sA A f r x→SetPost W s F d b (sA A f r x) (.returned (.bool b)) W'→RcvPost w s F d (rcv1 h l f r A) (.returned (.tuple #[])) W'):=fun W W' x b hb e ⟨_,q1,q2⟩=>by
  have o:=(Only.of_below (G:=F) hb).trans q2 fun _ _ g=>g
  exact ⟨rfl,by rw [e];exact q1.wide (fun k hk=>by
   rcases hk with hk | ⟨hk,hk2⟩
   ·exact .inl hk
   ·exact .inr ⟨Nat.le_trans hb.size hk,hk2⟩) (Fx.low S.low o.size),o⟩
 have MM:=Lib.hid M;obtain ⟨a,cap,rfl,_,hm,hA⟩:=R;have HA:=Lib.hid hA;unfold maxLen at hm;clear hA hl S M hh ok0;generalize hn:l.length=n at *;have HN:=Lib.hid hn;clear hn;generalize gV A f r=v0 at *;have P0:Hid ((w.alloc (.cells #[.int .i64 f,.int .i64 r] 132)).heap[w.heap.size]? = some (.cells #[.int .i64 f,.int .i64 r] 132 (0,0))):=heap_alloc_new w _;have B0:Hid (Below w.heap.size w (w.alloc (.cells #[.int .i64 f,.int .i64 r] 132))):=(Below.refl w.heap.size w).alloc (Nat.le_refl _) _
 go_enter Tryz.func63,Tryz.ntmps63
 go_wp2_with fail;generalize (w.alloc (.cells #[.int .i64 f,.int .i64 r] 132))=W at *;unfold GetPost at G1;unfold rec4 at G1;refine (G1.out W B0.out).mono ?_;rintro e w1 ⟨rfl,b1⟩;have I0:Hid (RvI w f r w1.heap.size v0 (w1.alloc (.cells #[.int .u8 v0.1,.int .u8 v0.2.1,.int .u8 v0.2.2.1,.int .u8 v0.2.2.2] 96))):=by
  have b2:=B0.out.trans (b1.mono B0.out.size);have p1:=(b1.block _ (lt_of_block P0.out)).trans P0.out;exact ⟨b2.alloc b2.size _,((Below.refl w1.heap.size w1).alloc (Nat.le_refl _) _ |>.block _ (lt_of_block p1)).trans p1,heap_alloc_new w1 _,lt_of_block p1⟩
 clear P0 B0 b1 G1
 cases hg:gB A f r with
 | false =>
   have RES:=Lib.hid (fun W b=>SAME.out W b (NOG.out hg));clear SAME NOG FIN NOH END SET hg;go_wp2;refine bodyPost_ret (results_none rfl _ _ _) rfl ?_;exact RES.out _ I0.out.bel
 | true =>
   have FN:=Lib.hid (FIN.out hg);clear NOG FIN hg;go_upto_region 3 with fail;have hgv:=I0.out.gt;generalize (w1.alloc (.cells #[.int .u8 v0.1,.int .u8 v0.2.1,.int .u8 v0.2.2.1,.int .u8 v0.2.2.2] 96))=W0 at *;generalize w1.heap.size=gv at *;go_wp2
   go_loopw [27] (fun i wr=>∃ k:Nat,k≤n∧i = .int .i64 k∧Hid (RvI w f r gv (mix h (l.take k) v0) wr)∧Hid (∀ j,j < k→(h (eat l j).2.1).isSome=true)) (fun i _=>n - (intOf i).toNat)
   case atStart=>exact ⟨0,Nat.zero_le _,rfl,I0,fun j hj=>by omega⟩
   case round =>
    obtain ⟨k,hk,rfl,I,HS⟩:=hrel;clear I0
    by_cases hlt:k < n
    ·obtain ⟨b,off,rfl,A1⟩:=HA.out (by omega)
     obtain ⟨c0,c1,c2,c3,c4⟩:=at5 (A1.below I.out.bel) k (by have:=HN.out;omega);rw [show l.getD k z5=eat l k from rfl] at c0 c1 c2 c3 c4;obtain ⟨ws,y0,y3⟩:=HL.out k (by have:=HN.out;omega);have MX:=Lib.hid (mix_next (h:=h) (l:=l) (k:=k) (by have:=HN.out;omega) v0);have NH:Hid (h (eat l k).2.1=none→rcv1 h l f r A=A):=fun e=>NOH.out k (by have:=HN.out;omega) e;have SN:Hid ((h (eat l k).2.1).isSome=true→∀ j,j < k+1→(h (eat l j).2.1).isSome=true):=fun g j hj=>by
      by_cases e:j=k
      ·rw [e];exact g
      ·exact HS.out j (by omega)
     clear A1 HS;generalize eat l k=x at *;obtain ⟨q,s',f',r',y⟩:=x;simp only at c0 c1 c2 c3 c4 ws y0 y3 MX NH SN;obtain ⟨j,rfl⟩:∃ j:Nat,y=j:=⟨y.toNat,by omega⟩;have hj:j < 4:=by omega
     have WS:=Lib.hid ws;generalize mix h (l.take k) v0=vv at *;have I1:Hid (RvI w f r gv vv (wr.alloc (.cells #[.int .i64 q,.int .i64 s',.int .i64 f',.int .i64 r',.int .i64 (j:Int)] 98))):=I.out.below ((Below.refl wr.heap.size wr).alloc (Nat.le_refl _) _);have M1:=Lib.hid (MM.out.below I1.out.bel);have hfz:=row_frozen I1.out.cel j;have hcj:=(row_cell I1.out.cel j).trans (arr4_get vv hj);clear ws y0 y3
     cases hs:h s' with
     | none =>
       have RES:=Lib.hid (SAME.out _ I1.out.bel (NH.out hs));clear SAME NH NOH SN MX FN SET END
       go_wp2_with (at_lookup;refine at_heard rfl _ _ rfl rfl M1.out s' rfl WS.out 0 false (by rw [hs];rfl) (by rw [hs];rfl) ?_)
       refine bodyPost_ret (results_none rfl _ _ _) rfl ?_;exact RES.out
     | some y =>
       have SS:=Lib.hid (SN.out (by rw [hs];rfl));have MY:Hid (mix h (l.take (k+1)) v0=rs vv j y):=by rw [MX.out,hs];exact Lib.hid rfl
       have I2:=Lib.hid (I1.out.put hj y);clear NH NOH SN MX
       go_wp2_with (at_lookup;refine at_heard rfl _ _ rfl rfl M1.out s' rfl WS.out y true (by rw [hs];rfl) (by rw [hs];rfl) ?_)
       go_roundw
       case rel=>exact ⟨k+1,by omega,by go_num,by rw [MY.out];exact I2,SS⟩
       case measure=>simp [intOf];omega
    ·obtain rfl:k=n:=by omega
     have TK:l.take k=l:=by rw [← HN.out,List.take_length]
     rw [TK] at I;have EQ:=Lib.hid (FN.out (fun j hj=>HS.out j (by have:=HN.out;omega)));have ED:=Lib.hid (fun W' b q=>END.out wr W' (mix h l v0) b I.out.bel EQ.out q);have ST:=Lib.hid (SET.out wr I.out.bel);have p0:wr.cell? ⟨w.heap.size,0,none⟩=some (.int .i64 f):=row_cell I.out.box 0;have p1:wr.cell? ⟨w.heap.size,1,none⟩=some (.int .i64 r):=row_cell I.out.box 1;have q0:=row_cell I.out.cel 0;have q1:=row_cell I.out.cel 1;have q2:=row_cell I.out.cel 2;have q3:=row_cell I.out.cel 3;unfold arr4 at q0 q1 q2 q3;unfold rec4 at ST;clear HS FN NOH SAME SET END EQ TK;generalize mix h l v0=vv at *;go_wp2_with fail;refine ST.out.mono ?_;rintro e w2 ⟨rfl,q1,q2⟩;have RES:=Lib.hid (ED.out w2 false ⟨rfl,q1,q2⟩);clear q1 q2 ED;go_wp2
     go_end0
     exact RES.out
end Go.Proofs.YtpkipilggkbkeaaGreatDoor.Pa
namespace Go.Proofs.YtpkipilggkbkeaaGreatDoor.Pa
open Go.RowKit Go.Maps
open Fs (Abs St Only Fx Wf Rh gB gV sA sB dA dD dE OkA copy_any CopySt dos_any DoSPost Glob rd_only)
open Rw (Rd Ow At)
open Ro (E5 z5 eat K5 at5 okE ent okE_bounds)
open Fl (R4 z4 rec4 okR arr4 row_cell row_frozen)
set_option maxRecDepth 100000
attribute [local irreducible] Sd.wpSd wpQuiet
theorem ranges_kept {w w':World} {b r n:Nat} {D:DataW Value} {left:Lit→Bool} {cnt:Nat} (h:w.ranges Tryz.prog 132 Rh b r n D left cnt) (hb:w'.heap[b]? = w.heap[b]?) (hr:w'.heap[r]? = w.heap[r]?):w'.ranges Tryz.prog 132 Rh b r n D left cnt:=by
 obtain ⟨es,clock,since,seen,c0,q1,q2,q3,q4,q5,q6⟩:=h;exact ⟨es,clock,since,seen,c0,hb.trans q1,q2,q3,q4,hr.trans q5,q6⟩
def Vis (t:List E5) (left:Lit→Bool) (n k:Int):Bool:=decide (grp t n k≠[]) && !left (pk n k)
structure Fixed (w:World) (t:List E5) (b r N B0 B1:Nat) (vs:Int→Int→Value) (D:DataW Value):Prop where
 has:∀ f r,Wf f→Wf r→Maps.has D (pk f r)=decide (grp t f r≠[])
 val:∀ f r,Wf f→Wf r→grp t f r≠[]→∀ z,D.atKey (pk f r) z = .held (vs f r)
 in_:∀ f r k,(vs f r).ownBlock=some k→B0≤k∧k < B1
 inb:B0≤b∧b < B1
 inr:B0≤r∧r < B1
 le:w.heap.size≤B0
structure AI (w:World) (t:List E5) (h:Hr) (A:Abs) (d:Int) (b r N B0 B1:Nat) (vs:Int→Int→Value) (D:DataW Value) (g:Nat) (wr:World) (left:Lit→Bool) (cnt:Nat) (F:Nat→Prop):Prop where
 rg:wr.ranges Tryz.prog 132 Rh b r N D left cnt
 has:∀ kl,left kl=true→Maps.has D kl=true
 st:St wr g F (recV h t (Vis t left) A) d
 row:∀ f r,Rd K5 wr (vs f r) (grp t f r)
 lo:∀ k,F k→w.heap.size≤k
 off:∀ k,F k→k < B0∨B1≤k
 sz:B1≤wr.heap.size
 bel:Below w.heap.size w wr
def ApPost (w:World) (x:Abs×Int) (e:Ending) (w':World):Prop:=∃ g F,e = .returned (ptr g)∧St w' g F x.1 x.2∧(∀ k,F k→w.heap.size≤k)∧Below w.heap.size w w'
theorem grp_wf {t:List E5} (ok:∀ x∈t,okE x) {n k:Int} (h:grp t n k≠[]):Wf n∧Wf k:=by
 obtain ⟨x,hx⟩:=List.exists_mem_of_ne_nil _ h;obtain ⟨h1,h2⟩:=List.mem_filter.1 hx;obtain ⟨_,_,q1,q2,_⟩:=okE_bounds (ok x h1);simp only [mt,decide_eq_true_eq] at h2;rw [← h2.2.1,← h2.2.2];exact ⟨wf_of (by omega),wf_of (by omega)⟩
theorem grp_y {t:List E5} (ok:∀ x∈t,okE x) (n k:Int):okY (grp t n k):=fun x hx=>by
 obtain ⟨_,_,_,_,q⟩:=okE_bounds (ok x (List.mem_filter.1 hx).1);exact q
theorem grp_r {t:List E5} (ok:∀ x∈t,okE x) {n k:Int} (h:grp t n k≠[]):k≠0:=by
 obtain ⟨x,hx⟩:=List.exists_mem_of_ne_nil _ h;obtain ⟨h1,h2⟩:=List.mem_filter.1 hx;simp only [mt,decide_eq_true_eq] at h2;have:=ok x h1;unfold okE Ro.place at this
 omega
theorem grp_h {t:List E5} (ok:∀ x∈t,okE x) (n k:Int):∀ x∈grp t n k,Wf x.2.1∧0≤x.2.2.2.2∧x.2.2.2.2≤3:=fun x hx=>by
 obtain ⟨_,q1,_,_,q⟩:=okE_bounds (ok x (List.mem_filter.1 hx).1);exact ⟨wf_of (by omega),q⟩
theorem vis_next {t:List E5} (ok:∀ x∈t,okE x) {left:Lit→Bool} {f r:Int} (hf:Wf f) (hr:Wf r) (hl:left (pk f r)=true) (hg:grp t f r≠[]) {h:Hr} {A:Abs} (hA:OkA A) :
 rcv1 h (grp t f r) f r (recV h t (Vis t left) A)=recV h t (Vis t fun z=>left z && !z.sameKey (pk f r)) A:=by
 rw [rcv1_next hA (grp_r ok hg) (grp_y ok f r)];refine rec_congr fun n k hnk=>?_;obtain ⟨hn,hk⟩:=grp_wf ok hnk;unfold also Vis
 by_cases e:n=f∧k=r
 ·obtain ⟨rfl,rfl⟩:=e
  have:(pk n k).sameKey (pk n k)=true:=by simp [pk,Lit.sameKey]
  simp [hnk,this]
 ·have:(pk n k).sameKey (pk f r)=false:=sameKey_ne fun e2=>e (pk_inj hn hk hf hr e2)
  simp [this,e]
theorem vis_start {t:List E5} (ok:∀ x∈t,okE x) {D:DataW Value} (hD:∀ f r,Wf f→Wf r→Maps.has D (pk f r)=decide (grp t f r≠[])) (h:Hr) (A:Abs):recV h t (Vis t (Maps.has D)) A=A:=by
 rw [rec_congr (V':=fun _ _=>false) fun n k hnk=>?_]
 ·exact rec_none fun _ _=>rfl
 ·obtain ⟨hn,hk⟩:=grp_wf ok hnk
  unfold Vis;rw [hD n k hn hk]
  simp [hnk]
theorem vis_end {t:List E5} {left:Lit→Bool} (hl:∀ kl,left kl=false) (h:Hr) (A:Abs):recV h t (Vis t left) A=recA h t A:=rec_all fun n k hnk=>by
 unfold Vis;rw [hl]
 simp [hnk]
theorem copy_has {w:World} {s:Nat} {x:Abs×Int} (H:Has w s x):Calls Tryz.prog 27 #[.pointer (some ⟨s,0,none⟩)] w (CopySt w x.1 x.2):=by
 obtain ⟨F,S⟩:=H;exact copy_any S
theorem glob_lt {w:World} (hg:Glob w):0 < w.heap.size:=World.block_lt_of_cell? _ _ hg
structure XI (w:World) (g:Nat) (x:Abs×Int) (wr:World) (F:Nat→Prop):Prop where
 st:St wr g F x.1 x.2
 lo:∀ k,F k→w.heap.size≤k
 bel:Below w.heap.size w wr
theorem XI.below {w:World} {g:Nat} {x:Abs×Int} {wr wr':World} {F:Nat→Prop} (h:XI w g x wr F) (b:Below wr.heap.size wr wr'):XI w g x wr' F:=⟨h.st.below b,h.lo,h.bel.trans (b.mono h.bel.size)⟩
theorem XI.step {w:World} {g:Nat} {x:Abs×Int} {wr wr':World} {F:Nat→Prop} (h:XI w g x wr F) {x':Abs×Int} (st:St wr' g (Fx F wr wr') x'.1 x'.2) (o:Only F wr wr'):XI w g x' wr' (Fx F wr wr') :=
 ⟨st,fun k hk=>by
  rcases hk with hk | ⟨hk,_⟩
  ·exact h.lo k hk
  ·exact Nat.le_trans h.bel.size hk,h.bel.trans (o.below h.bel.size h.lo)⟩
theorem AI.step {w:World} {t:List E5} {h:Hr} {A A':Abs} {d:Int} {b r N B0 B1:Nat} {vs:Int→Int→Value} {D:DataW Value} {g:Nat} {wr w1 w2:World} {left left':Lit→Bool} {cnt cnt':Nat} {F:Nat→Prop}
 (I:AI w t h A d b r N B0 B1 vs D g wr left cnt F) (X:Fixed w t b r N B0 B1 vs D) (rg:w1.ranges Tryz.prog 132 Rh b r N D left' cnt') (has:∀ kl,left' kl=true→left kl=true) (g1:wr.grownBy w1 (some r)) (st:St w2 g (Fx F w1 w2) A' d) (o:Only F w1 w2) (e:A'=recV h t (Vis t left') A) :
 AI w t h A d b r N B0 B1 vs D g w2 left' cnt' (Fx F w1 w2):=by
 have off:∀ k,B0≤k→k < B1→¬ F k:=fun k h0 h1 hk=>by rcases I.off k hk with h | h <;> omega
 have z1:=g1.size;have hs:=I.sz;have ib:=X.inb;have ir:=X.inr;have le:=X.le;have eb:=o.block b (by omega) (off b ib.1 ib.2);have er:=o.block r (by omega) (off r ir.1 ir.2);have bw1:Below w.heap.size w w1:=I.bel.grown g1 I.bel.size (fun j hj=>by injection hj with hj;omega);refine ⟨ranges_kept rg eb er,fun kl hl=>I.has kl (has kl hl),by rw [← e];exact st,fun f r'=>?_,fun k hk=>?_,fun k hk=>?_,Nat.le_trans (Nat.le_trans hs z1) o.size,bw1.trans (o.below bw1.size I.lo)⟩
 ·have R:=I.row f r'
  obtain ⟨es,clock,since,seen,c0,_,_,_,_,hr,_⟩:=I.rg
  have R1:=rd_only R (G:=fun k=>k=r) (fun h0 k hk e=>by
   subst e;obtain ⟨a,cap,ea,_,_,h3⟩:=R;obtain ⟨b',off',rfl,hA⟩:=h3 h0;rw [ea] at hk;obtain rfl:b'=k:=by simpa [Value.ownBlock] using hk
   have c:=hA 0 h0 0 _ rfl
   simp [World.cell?,hr] at c) (Only.grown rfl g1)
  exact rd_only R1 (fun h0 k hk=>off k (X.in_ f r' k hk).1 (X.in_ f r' k hk).2) o
 ·rcases hk with hk | ⟨hk,_⟩
  ·exact I.lo k hk
  ·exact Nat.le_trans bw1.size hk
 ·rcases hk with hk | ⟨hk,_⟩
  ·exact I.off k hk
  ·exact .inr (by omega)
set_option maxHeartbeats 400000 in
theorem apply_any {w:World} {s:Nat} {x:Abs×Int} (H:Has w s x) (hg:Glob w) (hd:0≤x.2∧x.2 < 900000) {v hv:Value} {t:List E5} (R:Rd K5 w v t) (ok:∀ y∈t,okE y) (hl:t.length≤100) {h:Hr} (M:HMap w hv h) (hh:okH h) :
 Calls Tryz.prog 25 #[.pointer (some ⟨s,0,none⟩),v,hv] w (ApPost w (apS h t x)):=by
 have HG:=Lib.hid hg;have C0:=Lib.hid (copy_has H);have RR:=Lib.hid R;have MM:=Lib.hid M;have hA:=Lib.hid H.okA;obtain ⟨A,d⟩:=x;unfold CopySt at C0;simp only at C0 hd hA;obtain ⟨a,cap,rfl,_,hm,hA0⟩:=R;have HA0:=Lib.hid hA0;clear hA0;unfold maxLen at hm;clear H M hg;generalize hn:t.length=n at *;have HN:=Lib.hid hn;have OKT:=Lib.hid ok;have HH:=Lib.hid hh;clear hn ok hh
 go_enter Tryz.func25,Tryz.ntmps25
 go_wp2_with fail;refine C0.out.mono ?_;rintro e w1 ⟨g,F1,rfl,s1,lo1,b1⟩;have S1:=Lib.hid s1;have LO1:=Lib.hid lo1;have B1:=Lib.hid b1;clear s1 lo1 b1 C0;have RC:=Lib.hid (received_any w1 _ t (RR.out.below B1.out) OKT.out (by have:=HN.out;omega));go_wp2_with fail;refine RC.out.mono ?_;rintro e w2 ⟨b,N,vs,D,rfl,gm,hb,hN,b2⟩;have GM:=Lib.hid gm;have B2:=Lib.hid b2;have own2:=gm.own;have HB:=Lib.hid (And.intro hb hN);clear gm b2 RC hb hN
 go_wp2_with (first
  | (at_range;refine wpList_range_own _ rfl _ 129 rfl 132 58 keyedP Tryz.underlying129 _ b N _ rfl own2 ?_;intro w0 hrg0 hg0 hs0)
  | fail)
 go_frame
 have hz1:=B1.out.size;have hz2:=B2.out.size;have FX:Hid (Fixed w t b w2.heap.size N w1.heap.size w0.heap.size vs D):=Lib.hid ⟨GM.out.has,GM.out.val,fun f r k hk=>by have:=World.ownsRow.lt (GM.out.row f r) k hk;have:=HB.out.1;omega,⟨HB.out.1,by have:=GM.out.own.lt;omega⟩,⟨hz2,by omega⟩,hz1⟩;have G0:Hid (Below w2.heap.size w2 w0):=Lib.hid ((Below.refl _ _).grown hg0 (Nat.le_refl _) (fun j hj=>by cases hj));have I0:Hid (AI w t h A d b w2.heap.size N w1.heap.size w0.heap.size vs D g w0 (Maps.has D) (Maps.size D) F1):=Lib.hid
  ⟨hrg0,fun kl hk=>hk,by rw [vis_start OKT.out GM.out.has];exact (S1.out.below B2.out).below G0.out,fun f r=>((GM.out.row f r).rd).below G0.out,LO1.out,fun k hk=>.inl (S1.out.low k hk),Nat.le_refl _,(B1.out.trans (B2.out.mono hz1)).trans (G0.out.mono (by omega))⟩
 clear hrg0 hg0 hs0 own2 G0 GM B1 B2 S1 LO1 hz1 hz2 HB;generalize w2.heap.size=r0 at *;generalize w1.heap.size=B0 at *;generalize w0.heap.size=B1 at *
 go_loopw [9] (fun _ wr=>∃ left cnt F,Hid (AI w t h A d b r0 N B0 B1 vs D g wr left cnt F)) (fun _ wr=>wr.rangeLeft b r0)
 case atStart=>exact ⟨_,_,_,I0⟩
 case round =>
  obtain ⟨left,cnt,F,I⟩:=hrel;clear I0;have hrg:=I.out.rg
  go_wp2_with (first
   | (at_next;refine wpList_next_ranges _ rfl _ rfl 132 keyedP Rh (fun p:Int×Int=>plc p.1 p.2) id (fun key kl hkey=>by obtain ⟨f,r,e,_⟩:=keyP_inv hkey;exact ⟨(f,r),e⟩) (fun v y _=>⟨v,rfl⟩) b r0 N _ _ _ rfl hrg ?_ ?_)
   | fail)
  ·intro hc0 hl0
   have SA:Hid (Has wr g (recA h t A,d)):=Lib.hid ⟨F,by have:=I.out.st;rwa [vis_end hl0] at this⟩;have XI0:Hid (XI w g (exU t (recA h t A,d) 0) wr F):=Lib.hid ⟨by have:=I.out.st;rwa [vis_end hl0] at this,I.out.lo,I.out.bel⟩;have XD:=Lib.hid (fun k=>exU_d (t:=t) (recA h t A,d) k);have XE:=Lib.hid (exU_end (t:=t) h (A,d));have XY:=Lib.hid (fun k hk h3=>exU_yes (t:=t) (recA h t A,d) (j:=k) hk h3);have XN:=Lib.hid (fun k hk h3=>exU_no (t:=t) (recA h t A,d) (j:=k) hk h3);clear SA hl0 hrg FX I;generalize recA h t A=RA at *;go_wp2;clear hc0 cnt left
   go_loopw [29] (fun i wr=>∃ (k:Nat) (F:Nat→Prop),k≤n∧i = .int .i64 k∧Hid (XI w g (exU t (RA,d) k) wr F)) (fun i _=>n - (intOf i).toNat)
   case atStart=>exact ⟨0,F,Nat.zero_le _,rfl,XI0⟩
   case round =>
    rename_i wr0 wr
    obtain ⟨k,F',hk,rfl,I⟩:=hrel;clear XI0
    by_cases hlt:k < n
    ·obtain ⟨b1,off,rfl,A1⟩:=HA0.out (by omega)
     obtain ⟨c0,c1,c2,c3,c4⟩:=at5 (A1.below I.out.bel) k (by have:=HN.out;omega);rw [show t.getD k z5=eat t k from rfl] at c0 c1 c2 c3 c4;have okx:=OKT.out _ (Ro.eat_mem (l:=t) (i:=k) (by have:=HN.out;omega));have Y3:=Lib.hid (XY.out k (by have:=HN.out;omega));have N3:=Lib.hid (XN.out k (by have:=HN.out;omega));have DD:=XD.out k;generalize eat t k=x at *;obtain ⟨q,s',f',r',y⟩:=x;simp only at c0 c1 c2 c3 c4 Y3 N3;have I1:=Lib.hid (I.out.below ((Below.refl wr.heap.size wr).alloc (Nat.le_refl _) (.cells #[.int .i64 q,.int .i64 s',.int .i64 f',.int .i64 r',.int .i64 y] 98)));clear A1 I
     by_cases h3:q=3
     ·subst h3
      have Y4:=Lib.hid (Y3.out rfl);have DO:=Lib.hid (dos_any I1.out.st (HG.out.below I1.out.bel) (fun hk=>by have:=I1.out.lo _ hk;have:=glob_lt HG.out;omega) (by have:=HN.out;omega) 2 f' r' z4 Fl.okR_z);unfold Ad.addr rec4 z4 at DO;clear Y3 N3 okx DD;go_wp2_with fail;refine DO.out.mono ?_;rintro e w5 ⟨rfl,q1,q2⟩;have I2:=Lib.hid (I1.out.step (x':=exU t (RA,d) (k+1)) (by rw [Y4.out];exact q1) q2);clear q1 q2 DO I1;go_wp2
      go_roundw
      case rel=>exact ⟨k+1,_,by omega,by go_num,I2⟩
      case measure=>simp [intOf];omega
     ·have d3:(q == 3)=false:=by simpa using h3
      have N4:=N3.out h3;have I2:Hid (XI w g (exU t (RA,d) (k+1)) (wr.alloc (.cells #[.int .i64 q,.int .i64 s',.int .i64 f',.int .i64 r',.int .i64 y] 98)) F'):=by rw [N4];exact I1
      clear Y3 N3 okx DD N4 I1;go_wp2
      go_roundw
      case rel=>exact ⟨k+1,_,by omega,by go_num,I2⟩
      case measure=>simp [intOf];omega
    ·obtain rfl:k=n:=by omega
     have RES:Hid (ApPost w (apS h t (A,d)) (.returned (ptr g)) wr):=Lib.hid ⟨g,F',rfl,by have:=I.out.st;rw [← HN.out] at this;rw [← XE.out];exact this,I.out.lo,I.out.bel⟩;go_wp2
     go_ret
     exact RES.out
  ·intro f r u kl y y2 w1 cnt1 hkey hlk hv hat hrg1 hlt hg1 hs1 hen
   obtain ⟨f',r',e1,hf,hr⟩:=keyP_inv hkey;obtain ⟨rfl,rfl⟩:f=f'∧r=r':=by
    unfold plc at e1;injection e1 with e1;have h1:=congrArg (fun t:Array Value=>t[0]?) e1;have h2:=congrArg (fun t:Array Value=>t[1]?) e1
    simp at h1 h2
    exact ⟨h1,h2⟩
   obtain rfl:kl=pk f r:=by
    have:=keyP hf hr;rw [hkey] at this;exact Option.some.inj this
   have hg:=I.out.has _ hlk;rw [FX.out.has f r hf hr,decide_eq_true_eq] at hg;have hv':u=vs f r:=by
    obtain ⟨h2,_⟩:DataW.held u=y∧[]=y2:=by simpa [Rh] using hv
    have h1:=hat .nil;rw [FX.out.val f r hf hr hg,← h2] at h1;injection h1 with h1;exact h1.symm
   subst hv';have hsz:=I.out.sz;have g1:=hg1;have bw1:Below w.heap.size w w1:=I.out.bel.grown hg1 I.out.bel.size (fun j hj=>by injection hj with hj;have:=FX.out.inr.1;have:=FX.out.le;omega);have off:∀ k,B0≤k→k < B1→¬ F k:=fun k h0 h1 hk=>by rcases I.out.off k hk with h | h <;> omega
   have st1:St w1 g F (recV h t (Vis t left) A) d:=I.out.st.only (G:=fun k=>k=r0) (fun k hk e=>by subst e;exact off k FX.out.inr.1 FX.out.inr.2 hk) (Only.grown rfl hg1)
   have R1:Rd K5 w1 (vs f r) (grp t f r):=rd_only (I.out.row f r) (G:=fun k=>k=r0) (fun h0 k hk e=>by
    subst e;obtain ⟨es,clock,since,seen,c0,_,_,_,_,hr0,_⟩:=I.out.rg;obtain ⟨a',cap',ea,_,_,h3⟩:=I.out.row f r;obtain ⟨b',off',rfl,hA'⟩:=h3 h0;rw [ea] at hk;obtain rfl:b'=k:=by simpa [Value.ownBlock] using hk
    have c:=hA' 0 h0 0 _ rfl
    simp [World.cell?,hr0] at c) (Only.grown rfl hg1)
   have bx:Below w1.heap.size w1 (w1.alloc (.cells #[.int .i64 f,.int .i64 r] 132)):=(Below.refl _ _).alloc (Nat.le_refl _) _;have RV:=Lib.hid (receive_any (st1.below bx) hf (r:=r) (R1.below bx) ((MM.out.below bw1).below bx) HH.out (grp_h OKT.out f r));have EQ:Hid (rcv1 h (grp t f r) f r (recV h t (Vis t left) A)=recV h t (Vis t fun z=>left z && !z.sameKey (pk f r)) A):=Lib.hid (vis_next OKT.out hf hr hlk hg hA.out);have STEP:Hid (∀ w3 A',St w3 g (Fx F w1 w3) A' d→Only F w1 w3→A'=recV h t (Vis t fun z=>left z && !z.sameKey (pk f r)) A→AI w t h A d b r0 N B0 B1 vs D g w3 (fun z=>left z && !z.sameKey (pk f r)) cnt1 (Fx F w1 w3)):=Lib.hid (fun w3 A' st o e=>I.out.step FX.out hrg1 (fun kl hl=>by simp at hl;exact hl.1) hg1 st o e);have BX:=Lib.hid bx;have LT:=Lib.hid hlt;have RG:=Lib.hid I.out.rg;obtain ⟨au,cu,ev,_⟩:=R1.slice;rw [ev] at hen RV ⊢;generalize (grp t f r).length=gl at *;unfold plc at hen ⊢;clear st1 R1 bx off bw1 hrg1 hlt hg1 g1 hs1 hat hv hlk hkey hg hrg hsz I e1 ev;go_wp2_with fail;refine RV.out.mono ?_;rintro e w3 ⟨rfl,q1,q2⟩;have o3:=(Only.of_below (G:=F) BX.out).trans q2 fun _ _ g=>g
   have NEW:=Lib.hid (STEP.out w3 _ (by
    refine q1.wide (fun k hk=>?_) (fun k hk=>?_)
    ·rcases hk with hk | ⟨hk,hk2⟩
     ·exact .inl hk
     ·exact .inr ⟨Nat.le_trans BX.out.size hk,hk2⟩
    ·rcases hk with hk | ⟨_,hk⟩
     ·exact q1.low k (.inl hk)
     ·exact hk) o3 EQ.out)
   have MS:Hid (w3.rangeLeft b r0 < wr.rangeLeft b r0):=by
    show _ < _
    rw [NEW.out.rg.left_eq,RG.out.left_eq];exact LT.out
   clear q1 q2 o3 STEP EQ RG LT RV hen;go_wp2
   go_roundw
   case rel=>exact ⟨_,_,_,NEW⟩
   case measure=>exact MS.out
end Go.Proofs.YtpkipilggkbkeaaGreatDoor.Pa
namespace Go.Proofs.YtpkipilggkbkeaaGreatDoor.Ua
open Go.RowKit
theorem place_any (w:World) (k:Nat) (h:k < 8):Calls Tryz.prog 129 #[.int .i64 (k+1:Nat)] w fun e w'=>e = .returned (.int .u8 (2 ^ k))∧w=w':=by
 rcases (by omega:k=0∨k=1∨k=2∨k=3∨k=4∨k=5∨k=6∨k=7) with rfl | rfl | rfl | rfl | rfl | rfl | rfl | rfl
 all_goals
  go_enter Tryz.func129,Tryz.ntmps129
  go_wp2
  go_ret
  exact ⟨ret_int (by decide),rfl⟩
theorem isOdd_any (w:World) (F:Nat→Bool):Calls Tryz.prog 130 #[.agg (arr F)] w fun e w'=>e = .returned (.bool (par F 9))∧Below w.heap.size w w':=by
 have R0:=Lib.hid (Row.new w F);have B0:=Lib.hid ((Below.refl w.heap.size w).alloc (Nat.le_refl _) (.cells (arr F) 114))
 go_enter Tryz.func130,Tryz.ntmps130
 go_wp2
 go_loop [3,8] (fun o i=>∃ k:Nat,k≤9∧i = .int .i64 k∧o = .bool (par F k)) (fun _ i=>9 - (intOf i).toNat)
 case atStart=>exact ⟨0,by omega,rfl,rfl⟩
 case round =>
  obtain ⟨k,hk,rfl,rfl⟩:=hrel
  by_cases hlt:k < 9
  ·have c:=R0.out.cell (1+k) (by omega)
   have e:par F (k+1)=(par F k != F (1+k)):=by rw [par,Nat.add_comm 1 k]
   have E:=Lib.hid e;clear e;go_wp2
   go_round
   case rel=>exact ⟨k+1,by omega,by go_num,by rw [E.out];cases par F k <;> cases F (1+k) <;> rfl⟩
   case measure=>simp [intOf];omega
  ·obtain rfl:k=9:=by omega
   go_wp2
   go_ret
   exact ⟨rfl,B0.out⟩
end Go.Proofs.YtpkipilggkbkeaaGreatDoor.Ua
namespace Go.Proofs.YtpkipilggkbkeaaGreatDoor.Ua
open Go.RowKit
theorem put_1 (b:Int) (i:Nat):put b 1 i=false:=by unfold put;rw [if_neg (by omega)]
theorem put_step (b:Int) (k:Nat) (h:1≤k) (i:Nat):upd (put b k) k (bit b (k - 1)) i=put b (k+1) i:=by
 unfold upd put
 by_cases e:i=k
 ·subst e;rw [if_pos rfl,if_pos (by omega)]
 ·rw [if_neg e]
  by_cases c:1≤i∧i < k
  ·rw [if_pos c,if_pos (by omega)]
  ·rw [if_neg c,if_neg (by omega)]
def no (_:Nat):Bool:=false
def Two (w wr:World) (F:Nat→Bool):Prop:=Row wr w.heap.size no∧Row wr (w.heap.size+1) F∧Below w.heap.size w wr
theorem Two.frame {w wr:World} {F:Nat→Bool} (h:Two w wr F):Row wr (w.heap.size+1) F:=h.2.1
theorem Two.res {w wr:World} {F:Nat→Bool} (h:Two w wr F):Row wr w.heap.size no:=h.1
theorem two_new (w:World) (F:Nat→Bool) (h:∀ i,i < 11→false=F i):Two w ((w.alloc (.cells (arr no) 114)).alloc (.cells (arr no) 114)) F:=by
 refine ⟨(Row.new w no).alloc _,?_,((Below.refl _ _).alloc (Nat.le_refl _) _).alloc (by simp) _⟩;have:=Row.new (w.alloc (.cells (arr no) 114)) no;have e:(w.alloc (.cells (arr no) 114)).heap.size=w.heap.size+1:=by simp
 rw [e] at this;exact this.to h
theorem Two.set_ {w wr:World} {F:Nat→Bool} (h:Two w wr F) (k:Nat) (hk:k < 11) (x:Bool):Two w (wr.setCell ⟨w.heap.size+1,k,none⟩ (.bool x)) (upd F k x) :=
 ⟨h.1.far (by simp) _,h.2.1.set_ k hk x,h.2.2.setCell (by simp) _⟩
theorem Two.below {w wr w1:World} {F:Nat→Bool} (h:Two w wr F) (hb:Below wr.heap.size wr w1):Two w w1 F :=
 ⟨h.1.below hb h.1.lt,h.2.1.below hb h.2.1.lt,h.2.2.trans (hb.mono h.2.2.size)⟩
theorem Two.to {w wr:World} {F G:Nat→Bool} (h:Two w wr F) (e:∀ i,i < 11→F i=G i):Two w wr G:=⟨h.1,h.2.1.to e,h.2.2⟩
set_option maxHeartbeats 400000 in
theorem put_any (w:World) (b:Int) (odd:Bool) (h0:0≤b) (h1:b≤255):Calls Tryz.prog 91 #[.int .u8 b,.bool odd] w fun e w'=>e = .returned (.agg (arr (frm b odd)))∧Below w.heap.size w w':=by
 have T0:=Lib.hid (two_new w (put b 1) (fun i _=>(put_1 b i).symm))
 go_enter Tryz.func91,Tryz.ntmps91
 go_wp2
 go_loopw [6] (fun i wr=>∃ k:Nat,1≤k∧k≤9∧i = .int .i64 k∧Hid (Two w wr (put b k))) (fun i _=>9 - (intOf i).toNat)
 case atStart=>exact ⟨1,by omega,by omega,rfl,T0⟩
 case round =>
  obtain ⟨k,k1,k9,rfl,T⟩:=hrel
  by_cases hlt:k < 9
  ·obtain ⟨j,rfl⟩:∃ j,k=j+1:=⟨k - 1,by omega⟩
   have c:=T.out.2.1.cell (j+1) (by omega);have f:=T.out.2.1.frozen (j+1);go_wp2_with fail;refine (place_any _ j (by omega)).mono ?_;rintro e w' ⟨rfl,rfl⟩;go_wp2
   go_roundw
   case rel=>exact ⟨j+1+1,by omega,by omega,by go_num,by rw [and_bit b j h0 h1 (by omega)];exact (T.out.set_ (j+1) (by omega) _).to (fun i _=>put_step b (j+1) (by omega) i)⟩
   case measure=>simp [intOf];omega
  ·obtain rfl:k=9:=by omega
   go_wp2_with (refine wpList_load_row rfl 114 _ rfl _ rfl _ _ _ _ T.out.2.1 Tryz.underlying114 rfl (info_of _) ?_)
   refine (isOdd_any _ _).mono ?_;rintro e w1 ⟨rfl,b1⟩;have T1:=Lib.hid (T.out.below b1);have c9:=T1.out.2.1.cell 9 (by omega);have c10:=T1.out.2.1.cell 10 (by omega);have f9:=T1.out.2.1.frozen 9;have f10:=T1.out.2.1.frozen 10;clear b1;have T2:=Lib.hid ((T1.out.set_ 9 (by omega) (par (put b 9) 9 != odd)).set_ 10 (by omega) true)
   go_wp2_with (first
    | (refine wpList_load_row rfl 114 _ rfl _ rfl _ _ _ _ T2.out.2.1 Tryz.underlying114 rfl (info_of _) ?_)
    | (refine wpList_store_row rfl 114 _ _ rfl _ _ rfl rfl _ _ T2.out.1 (info_of _) rfl (arr_one _) ?_))
   refine bodyPost_ret (results_cell_row rfl _ _ _ _ _ _ _ rfl (T2.out.1.row _) Tryz.underlying114 rfl (info_of _)) rfl ⟨rfl,?_⟩;exact below_setRow T2.out.2.2 _ _ (Nat.le_refl _)
end Go.Proofs.YtpkipilggkbkeaaGreatDoor.Ua
namespace Go.Proofs.YtpkipilggkbkeaaGreatDoor.Ua
open Go.RowKit
theorem ret_three {a b:Int} {p q:Bool} {c d:Int} {k:IntKind} (h1:a=b) (h2:p=q) (h3:c=d):Ending.returned (.tuple #[.int k a,.bool p,.int .i64 c]) = .returned (.tuple #[.int k b,.bool q,.int .i64 d]):=by rw [h1,h2,h3]
theorem of_bad {F:Nat→Bool} (h:bad F=true):0=tb F∧false=tp F∧2=te F:=by unfold tb tp te;rw [h];exact ⟨rfl,rfl,rfl⟩
theorem of_good {F:Nat→Bool} (h:bad F=false):(val F 8:Int)=tb F∧par F 9=tp F∧0=te F:=by unfold tb tp te;rw [h];exact ⟨rfl,rfl,rfl⟩
set_option maxHeartbeats 400000 in
theorem take_bad (w:World) (F:Nat→Bool) (hb:bad F=true):Calls Tryz.prog 89 #[.agg (arr F)] w fun e w'=>e = .returned (.tuple #[.int .u8 (tb F),.bool (tp F),.int .i64 (te F)])∧Below w.heap.size w w':=by
 have R0:=Lib.hid (Row.new w F);have B0:=Lib.hid ((Below.refl w.heap.size w).alloc (Nat.le_refl _) (.cells (arr F) 114));have c0:=R0.out.cell 0 (by omega);have c10:=R0.out.cell 10 (by omega);have OB:=Lib.hid (of_bad hb);unfold bad at hb
 cases h0:F 0 with
 | true =>
   rw [h0] at c0;clear hb
   go_enter Tryz.func89,Tryz.ntmps89
   go_wp2
   go_ret3
   exact ⟨ret_three OB.out.1 OB.out.2.1 OB.out.2.2,B0.out⟩
 | false =>
   have h10:F 10=false:=by rw [h0] at hb;simpa using hb
   rw [h0] at c0;rw [h10] at c10;clear hb
   go_enter Tryz.func89,Tryz.ntmps89
   go_wp2
   go_ret3
   exact ⟨ret_three OB.out.1 OB.out.2.1 OB.out.2.2,B0.out⟩
set_option maxHeartbeats 400000 in
theorem take_good (w:World) (F:Nat→Bool) (hb:bad F=false):Calls Tryz.prog 89 #[.agg (arr F)] w fun e w'=>e = .returned (.tuple #[.int .u8 (tb F),.bool (tp F),.int .i64 (te F)])∧Below w.heap.size w w':=by
 have R0:=Lib.hid (Row.new w F);have B0:=Lib.hid ((Below.refl w.heap.size w).alloc (Nat.le_refl _) (.cells (arr F) 114));have c0:=R0.out.cell 0 (by omega);have c10:=R0.out.cell 10 (by omega);have OB:=Lib.hid (of_good hb);unfold bad at hb
 simp at hb
 obtain ⟨h0,h10⟩:=hb;rw [h0] at c0;rw [h10] at c10;clear h0 h10
 go_enter Tryz.func89,Tryz.ntmps89
 go_wp2
 go_loop [2,5] (fun x i=>∃ k:Nat,k≤8∧i = .int .i64 (k+1:Nat)∧x = .int .u8 (val F k:Nat)) (fun _ i=>9 - (intOf i).toNat)
 case atStart=>exact ⟨0,by omega,rfl,rfl⟩
 case round =>
  obtain ⟨k,hk,rfl,rfl⟩:=hrel
  by_cases hlt:k < 8
  ·have c:=R0.out.cell (k+1) (by omega)
   have hv:=val_lt F k
   cases hF:F (k+1) with
   | true =>
     rw [hF] at c;have E:=Lib.hid (or_bit (val F k) k hlt hv);have V:Hid (val F (k+1)=val F k+2 ^ k):=by show val F (k+1)=_;rw [val,hF];rfl
     clear hF hv;go_wp2_with fail;refine (place_any _ k hlt).mono ?_;rintro e w' ⟨rfl,rfl⟩;go_wp2
     go_round
     case rel=>exact ⟨k+1,by omega,by go_num,by rw [V.out,E.out]⟩
     case measure=>simp [intOf];omega
   | false =>
     rw [hF] at c;have V:Hid (val F (k+1)=val F k):=by show val F (k+1)=_;rw [val,hF];rfl
     clear hF hv;go_wp2
     go_round
     case rel=>exact ⟨k+1,by omega,by go_num,by rw [V.out]⟩
     case measure=>simp [intOf];omega
  ·obtain rfl:k=8:=by omega
   go_wp2_with (refine wpList_load_row rfl 114 _ rfl _ rfl _ _ _ _ R0.out Tryz.underlying114 rfl (info_of _) ?_)
   refine (isOdd_any _ _).mono ?_;rintro e w1 ⟨rfl,b1⟩;have B1:=Lib.hid (B0.out.trans (b1.mono B0.out.size));clear b1;go_wp2
   go_ret3
   exact ⟨ret_three OB.out.1 OB.out.2.1 OB.out.2.2,B1.out⟩
theorem take_any (w:World) (F:Nat→Bool):Calls Tryz.prog 89 #[.agg (arr F)] w fun e w'=>e = .returned (.tuple #[.int .u8 (tb F),.bool (tp F),.int .i64 (te F)])∧Below w.heap.size w w':=by
 cases h:bad F with
 | true=>exact take_bad w F h
 | false=>exact take_good w F h
end Go.Proofs.YtpkipilggkbkeaaGreatDoor.Ua
namespace Go.Proofs.YtpkipilggkbkeaaGreatDoor.Ua
open Go.RowKit
theorem turn_0 (F:Nat→Bool) (m:Int) (i:Nat):turn F m 0 i=F i:=by unfold turn;rw [if_neg (by omega)]
theorem turn_yes {F:Nat→Bool} {m:Int} {k:Nat} (h:bit m k=true) (i:Nat):upd (turn F m k) k (!turn F m k k) i=turn F m (k+1) i:=by
 unfold upd turn
 by_cases e:i=k
 ·subst e;rw [if_pos rfl,if_neg (by omega),if_pos (by omega),h];simp
 ·rw [if_neg e]
  by_cases c:i < k
  ·rw [if_pos c,if_pos (by omega)]
  ·rw [if_neg c,if_neg (by omega)]
theorem turn_no {F:Nat→Bool} {m:Int} {k:Nat} (h:bit m k=false) (i:Nat):turn F m k i=turn F m (k+1) i:=by
 unfold turn
 by_cases e:i=k
 ·subst e;rw [if_neg (by omega),if_pos (by omega),h];simp
 ·by_cases c:i < k
  ·rw [if_pos c,if_pos (by omega)]
  ·rw [if_neg c,if_neg (by omega)]
def Own2 (w wr:World) (F:Nat→Bool):Prop:=Row wr w.heap.size F∧Row wr (w.heap.size+1) no∧Below w.heap.size w wr
theorem own2_new (w:World) (F:Nat→Bool):Own2 w ((w.alloc (.cells (arr F) 114)).alloc (.cells (arr no) 114)) F:=by
 refine ⟨(Row.new w F).alloc _,?_,((Below.refl _ _).alloc (Nat.le_refl _) _).alloc (by simp) _⟩;have:=Row.new (w.alloc (.cells (arr F) 114)) no;have e:(w.alloc (.cells (arr F) 114)).heap.size=w.heap.size+1:=by simp
 rw [e] at this;exact this
theorem Own2.set_ {w wr:World} {F:Nat→Bool} (h:Own2 w wr F) (k:Nat) (hk:k < 11) (x:Bool):Own2 w (wr.setCell ⟨w.heap.size,k,none⟩ (.bool x)) (upd F k x) :=
 ⟨h.1.set_ k hk x,h.2.1.far (by simp) _,h.2.2.setCell (by simp) _⟩
theorem Own2.to {w wr:World} {F G:Nat→Bool} (h:Own2 w wr F) (e:∀ i,i < 11→F i=G i):Own2 w wr G:=⟨h.1.to e,h.2.1,h.2.2⟩
set_option maxHeartbeats 400000 in
theorem turn_any (w:World) (F:Nat→Bool) (m:Int):Calls Tryz.prog 92 #[.agg (arr F),.int .i64 m] w fun e w'=>e = .returned (.agg (arr (turn F m 11)))∧Below w.heap.size w w':=by
 have T0:=Lib.hid ((own2_new w F).to (fun i _=>(turn_0 F m i).symm))
 go_enter Tryz.func92,Tryz.ntmps92
 go_wp2
 go_loopw [6] (fun i wr=>∃ k:Nat,k≤11∧i = .int .i64 k∧Hid (Own2 w wr (turn F m k))) (fun i _=>11 - (intOf i).toNat)
 case atStart=>exact ⟨0,by omega,rfl,T0⟩
 case round =>
  obtain ⟨k,hk,rfl,T⟩:=hrel
  by_cases hlt:k < 11
  ·have c:=T.out.1.cell k hlt
   have f:=T.out.1.frozen k
   cases hb:bit m k with
   | true =>
     have TY:=Lib.hid (turn_yes (F:=F) hb);have tt:=(test_one m k).trans hb;clear hb;go_wp2
     go_roundw
     case rel=>exact ⟨k+1,by omega,by go_num,(T.out.set_ k hlt _).to (fun i _=>TY.out i)⟩
     case measure=>simp [intOf];omega
   | false =>
     have TN:=Lib.hid (turn_no (F:=F) hb);have tt:=(test_one m k).trans hb;clear hb;go_wp2
     go_roundw
     case rel=>exact ⟨k+1,by omega,by go_num,T.out.to (fun i _=>TN.out i)⟩
     case measure=>simp [intOf];omega
  ·obtain rfl:k=11:=by omega
   go_wp2_with (first
    | (refine wpList_load_row rfl 114 _ rfl _ rfl _ _ _ _ T.out.1 Tryz.underlying114 rfl (info_of _) ?_)
    | (refine wpList_store_row rfl 114 _ _ rfl _ _ rfl rfl _ _ T.out.2.1 (info_of _) rfl (arr_one _) ?_))
   refine bodyPost_ret (results_cell_row rfl _ _ _ _ _ _ _ rfl (T.out.2.1.row _) Tryz.underlying114 rfl (info_of _)) rfl ⟨rfl,?_⟩;exact below_setRow T.out.2.2 _ _ (by omega)
end Go.Proofs.YtpkipilggkbkeaaGreatDoor.Ua
namespace Go.Proofs.YtpkipilggkbkeaaGreatDoor.Pa
open Go.RowKit Go.Maps
open Rw (Rd Ow At)
open Fl (row_cell row_frozen)
open Ck (LL lat sN sE tE RdL)
open Ua (arr Row frm tb tp te put_any take_any turn_any info_of arr_one arr_congr below_setRow load_frame store_frame)
set_option maxRecDepth 100000
attribute [local irreducible] Sd.wpSd wpQuiet Sf.wpSf
def FramePost (w:World) (n:Int) (F:Nat→Bool) (b:Bool) (e:Ending) (w':World):Prop:=e = .returned (.tuple #[.int .i64 n,.agg (arr F),.bool b])∧Below w.heap.size w w'
theorem results_fr {fn:Func} {a p c:Tmp} (h:fn.results=#[.tmp a,.cell p 114,.tmp c]) (tmps:Array Value) (w:World) (g:Nat) (n:Value) (F:Nat→Bool) (b:Value)
 (ha:tmps.getD a undef=n) (hp:tmps.getD p undef = .pointer (some ⟨g,0,none⟩)) (hc:tmps.getD c undef=b) (h1:Row w g F) :
 (results fn tmps).run Tryz.prog w = .ok (.tuple #[n,.agg (arr F),b]) w:=by
 have e1:=h1.load;have hp':tmps[p]?.getD undef = .pointer (some ⟨g,0,none⟩):=by simpa using hp
 have ha':tmps[a]?.getD undef=n:=by simpa using ha
 have hc':tmps[c]?.getD undef=b:=by simpa using hc
 simp only [results,h]
 simp [Result.andThen,hp',ha',hc',asAddr,e1]
structure FrI (w wr:World) (F:Nat→Bool):Prop where
 row:Row wr w.heap.size F
 bel:Below w.heap.size w wr
theorem FrI.below {w wr wr':World} {F:Nat→Bool} (h:FrI w wr F) (b:Below wr.heap.size wr wr'):FrI w wr' F:=⟨h.row.below b h.row.lt,h.bel.trans (b.mono h.bel.size)⟩
theorem FrI.set {w wr:World} {F:Nat→Bool} (h:FrI w wr F) (G:Nat→Bool):FrI w (wr.setRow w.heap.size (arr G)) G:=⟨h.row.row G,below_setRow h.bel _ _ (Nat.le_refl _)⟩
theorem FrI.to {w wr:World} {F G:Nat→Bool} (h:FrI w wr F) (e:∀ i,i < 11→F i=G i):FrI w wr G:=⟨h.row.to e,h.bel⟩
theorem fr_new (w:World):FrI w (w.alloc (.cells (arr lowF) 114)) lowF:=⟨Row.new w lowF,(Below.refl w.heap.size w).alloc (Nat.le_refl _) _⟩
theorem sbX_byt {w:World} {vs vt vl:Value} {S:Sts} {T:LL} {V:List Bool} (H:Ns w vs vt vl S T V) (s:Int):byt (sbX S T V s):=by
 unfold sbX
 split
 ·rename_i h
  have h0:0≤sN s T:=by
   unfold snB at h;simp only [Bool.and_eq_true,decide_eq_true_eq] at h;exact h.1.1
  obtain ⟨n,hn,hlt,_⟩:=sender_is H.ok h0;obtain ⟨_,_,_,_,_,_,hS⟩:=H.st.one (k:=n) (by rw [← H.lt];exact hlt);unfold snX;rw [hn];exact rb_ok (gV_ok hS.okA _ _) _
 ·unfold byt;omega
set_option maxHeartbeats 1000000 in
theorem frame_any {w:World} {vs vt vl vp:Value} {S:Sts} {T:LL} {V:List Bool} {P:List S2} (H:Ns w vs vt vl S T V) (RP:Rd K2 w vp P) (s:Int):Calls Tryz.prog 46 #[vs,vt,vl,vp,.int .i64 s] w (FramePost w (sbN S T V s) (frF S T V P s) (snB S T V s)):=by
 have SA:=Lib.hid (fun W b=>sent_any (H.below (w':=W) b) s);unfold SentPost at SA;have F0:=Lib.hid (fr_new w);have RR:=Lib.hid RP;obtain ⟨ap,cp,rfl,_,hm,hA⟩:=RP;have HA:=Lib.hid hA;unfold maxLen at hm
 have XB:Hid (snB S T V s=true→byt (sbX S T V s)∧frF S T V P s=sq P s (frm (sbX S T V s) false) P.length):=Lib.hid (fun h=>⟨sbX_byt H s,by
  unfold frF sbX
  rw [if_pos h,if_pos h]⟩)
 have LO:Hid (snB S T V s=false→frF S T V P s=lowF∧sbN S T V s = -1):=Lib.hid (fun h=>by unfold frF sbN;rw [h];exact ⟨rfl,rfl⟩);clear hA H;generalize hn:P.length=n at *;have HN:=Lib.hid hn;clear hn;generalize frF S T V P s=FF at *;generalize sbN S T V s=m at *;generalize sbX S T V s=x at *;generalize snB S T V s=bb at *
 go_enter Tryz.func46,Tryz.ntmps46
 go_wp2_with fail;have F1:Hid (FrI w (w.alloc (.cells #[.bool false,.bool false,.bool false,.bool false,.bool false,.bool false,.bool false,.bool false,.bool false,.bool false,.bool false] 114)) lowF):=F0;clear F0;generalize (w.alloc (.cells #[.bool false,.bool false,.bool false,.bool false,.bool false,.bool false,.bool false,.bool false,.bool false,.bool false,.bool false] 114))=W at *;refine (SA.out W F1.out.bel).mono ?_;rintro e w1 ⟨rfl,b1⟩;have F2:=Lib.hid (F1.out.below b1);clear b1 F1 SA
 cases hb:bb with
 | false =>
   have EF:=Lib.hid (LO.out hb);clear LO XB;have F3:=Lib.hid (F2.out.set lowF)
   go_wp2_with ((with_reducible refine store_frame (o:=⟨none,_,_,_,_,_⟩) rfl _ _ rfl w.heap.size lowF lowF ?_ ?_ F2.out.row ?_);(exact rfl);(exact rfl))
   (try simp only [Exit.inBlock,Exit.then])
   refine bodyPost_ret (results_fr rfl _ _ _ _ lowF _ rfl rfl rfl F3.out.row) rfl ?_;exact ⟨by rw [EF.out.1,EF.out.2,hb];exact rfl,F3.out.bel⟩
 | true =>
   have EF:=Lib.hid (XB.out hb);clear LO XB;obtain ⟨x0,x1⟩:=EF.out.1;go_wp2_with fail;refine (put_any w1 x false x0 x1).mono ?_;rintro e w2 ⟨rfl,b2⟩;have F3:=Lib.hid ((F2.out.below b2).set (frm x false));have F4:=Lib.hid (F2.out.below b2);clear b2 F2 x0 x1
   go_wp2_with (refine wpList_store_row rfl 114 _ _ rfl _ _ rfl rfl _ _ F4.out.row (info_of (frm x false)) rfl (arr_one _) ?_)
   clear F4;generalize w2.setRow w.heap.size (arr (frm x false))=W2 at *
   go_loopw [32] (fun i wr=>∃ k:Nat,k≤n∧i = .int .i64 k∧Hid (FrI w wr (sq P s (frm x false) k))) (fun i _=>n - (intOf i).toNat)
   case atStart=>exact ⟨0,Nat.zero_le _,rfl,F3⟩
   case round =>
    obtain ⟨k,hk,rfl,I⟩:=hrel;clear F3
    by_cases hlt:k < n
    ·obtain ⟨b,off,rfl,A1⟩:=HA.out (by omega)
     obtain ⟨c0,c1⟩:=at2 (A1.below I.out.bel) (i:=k) (by have:=HN.out;omega);have Y:=Lib.hid (sq_yes P s (frm x false) (j:=k) (by have:=HN.out;omega));have N:=Lib.hid (sq_no P s (frm x false) (j:=k) (by have:=HN.out;omega));generalize pat P k=z at *;obtain ⟨z1,z2⟩:=z;simp only at c0 c1 Y N;generalize hG:sq P s (frm x false) (k+1)=G' at *;have EG:=Lib.hid hG;clear hG;generalize sq P s (frm x false) k=G at *;have I1:=Lib.hid (I.out.below ((Below.refl wr.heap.size wr).alloc (Nat.le_refl _) (.cells #[.int .i64 z1,.int .i64 z2] 164)));clear A1 I
     by_cases h1:z1=s
     ·subst h1
      have YY:=Y.out rfl;have TA:=Lib.hid (turn_any (wr.alloc (.cells #[.int .i64 z1,.int .i64 z2] 164)) G (bits BinOp.and .i64 z2 2046));have TE:Hid (∀ i,i < 11→Ua.turn G (bits BinOp.and .i64 z2 2046) 11 i=G' i):=Lib.hid (fun i hi=>by rw [YY];exact tn_code G z2 i hi);clear Y N YY;have SP:Hid ((wr.alloc (.cells #[.int .i64 z1,.int .i64 z2] 164)).heap[wr.heap.size]? = some (.cells #[.int .i64 z1,.int .i64 z2] 164 (0,0))):=Lib.hid (heap_alloc_new wr _);go_upto_region 9 with fail;generalize (wr.alloc (.cells #[.int .i64 z1,.int .i64 z2] 164))=W4 at *;have s1:W4.cell? ⟨wr.heap.size,1,none⟩=some (.int .i64 z2):=row_cell SP.out 1
      go_wp2_with (with_reducible refine load_frame (o:=⟨some 40,_,_,_,_,_⟩) rfl _ rfl w.heap.size G ?_ I1.out.row ?_);(exact rfl)
      refine TA.out.mono ?_;rintro e w5 ⟨rfl,b5⟩;have I5:=Lib.hid (I1.out.below b5);have I6:=Lib.hid ((I5.out.set (Ua.turn G (bits BinOp.and .i64 z2 2046) 11)).to TE.out);clear b5 I1 TA TE SP s1
      go_wp2_with ((with_reducible refine store_frame (o:=⟨none,_,_,_,_,_⟩) rfl _ _ rfl w.heap.size (Ua.turn G (bits BinOp.and .i64 z2 2046) 11) G ?_ ?_ I5.out.row ?_);(exact rfl);(exact rfl))
      go_roundw
      case rel=>exact ⟨k+1,by omega,by go_num,by rw [EG.out];exact I6⟩
      case measure=>simp [intOf];omega
     ·have I2:Hid (FrI w (wr.alloc (.cells #[.int .i64 z1,.int .i64 z2] 164)) (sq P s (frm x false) (k+1))):=by rw [EG.out,N.out h1];exact I1
      have d1:(z1 == s)=false:=by simpa using h1
      clear Y N I1;go_wp2
      go_roundw
      case rel=>exact ⟨k+1,by omega,by go_num,I2⟩
      case measure=>simp [intOf];omega
    ·obtain rfl:k=n:=by omega
     have EE:=Lib.hid EF.out.2;have FE:Hid (arr FF=arr (sq P s (frm x false) k)):=Lib.hid (by rw [EE.out]);go_upto_region 11 with fail;clear EF EE;generalize sq P s (frm x false) k=G at *;have C0:FrI w wr.drew G:=⟨I.out.row,I.out.bel.trans ((Below.refl wr.heap.size wr).drew.mono I.out.bel.size)⟩;have k0:=Sc.cell_in (C:=fun W=>FrI w W G) (a:=⟨w.heap.size,0,none⟩) (fun W' h=>h.row.cell 0 (by omega));have k1:=Sc.cell_in (C:=fun W=>FrI w W G) (a:=⟨w.heap.size,1,none⟩) (fun W' h=>h.row.cell 1 (by omega));have k2:=Sc.cell_in (C:=fun W=>FrI w W G) (a:=⟨w.heap.size,2,none⟩) (fun W' h=>h.row.cell 2 (by omega));have k3:=Sc.cell_in (C:=fun W=>FrI w W G) (a:=⟨w.heap.size,3,none⟩) (fun W' h=>h.row.cell 3 (by omega));have k4:=Sc.cell_in (C:=fun W=>FrI w W G) (a:=⟨w.heap.size,4,none⟩) (fun W' h=>h.row.cell 4 (by omega));have k5:=Sc.cell_in (C:=fun W=>FrI w W G) (a:=⟨w.heap.size,5,none⟩) (fun W' h=>h.row.cell 5 (by omega));have k6:=Sc.cell_in (C:=fun W=>FrI w W G) (a:=⟨w.heap.size,6,none⟩) (fun W' h=>h.row.cell 6 (by omega));have k7:=Sc.cell_in (C:=fun W=>FrI w W G) (a:=⟨w.heap.size,7,none⟩) (fun W' h=>h.row.cell 7 (by omega));have k8:=Sc.cell_in (C:=fun W=>FrI w W G) (a:=⟨w.heap.size,8,none⟩) (fun W' h=>h.row.cell 8 (by omega));have k9:=Sc.cell_in (C:=fun W=>FrI w W G) (a:=⟨w.heap.size,9,none⟩) (fun W' h=>h.row.cell 9 (by omega));have k10:=Sc.cell_in (C:=fun W=>FrI w W G) (a:=⟨w.heap.size,10,none⟩) (fun W' h=>h.row.cell 10 (by omega));have ne:Nonempty (Sc.In (fun W=>FrI w W G)):=⟨⟨_,C0⟩⟩;refine Sc.start (fun W=>FrI w W G) [(false,0),(false,1),(false,2),(true,3),(false,4)] (by kernel_rfl) (by kernel_rfl) (by kernel_rfl) C0 ?_;dsimp only [Sd.picks,List.getElem?_cons_succ,List.getElem?_cons_zero]
     repeat (refine Sd.lit ?_;quiet_step (fail);refine wpQuiet_nil ?_)
     refine Sd.call (by rfl) (fun K hK=>?_);refine wp_store_row 114 _ _ rfl w.heap.size (arr G) rfl rfl 114 _ C0.row (info_of G) rfl (arr_one G) ?_;have C1:=C0.set G;refine hK _ _ (Sc.Cl.of C1) ?_;clear hK K k0 k1 k2 k3 k4 k5 k6 k7 k8 k9 k10 C0 I;generalize wr.drew.setRow w.heap.size (arr G)=W9 at *;refine Sd.lit ?_
     quiet_step (fail)
     refine wpQuiet_nil ?_;refine Sd.done ?_;have C2:=Lib.hid C1;clear C1;go_wp2
     (try simp only [Exit.inBlock,Exit.then])
     refine bodyPost_ret (results_fr rfl _ _ _ _ G _ rfl rfl rfl C2.out.row) rfl ?_;exact ⟨by rw [FE.out,hb];exact rfl,C2.out.bel⟩
end Go.Proofs.YtpkipilggkbkeaaGreatDoor.Pa
namespace Go.Proofs.YtpkipilggkbkeaaGreatDoor.Pa
open Go.RowKit Go.Maps
open Rw (Rd Ow At)
open Fl (row_cell row_frozen)
open Ck (LL lat sN sE tE RdL)
open Ua (arr Row frm tb tp te take_any info_of arr_one store_new load_frame)
set_option maxRecDepth 100000
attribute [local irreducible] Sd.wpSd wpQuiet Sf.wpSf
def HrdPost (w:World) (x:Int) (b:Bool) (e:Ending) (w':World):Prop:=e = .returned (.tuple #[.int .u8 x,.bool b])∧Below w.heap.size w w'
theorem hrd_no {S:Sts} {T:LL} {V:List Bool} {P:List S2} {s:Int} {w w':World} (h:hrB S T V P s=false) (b:Below w.heap.size w w'):HrdPost w (hrV S T V P s) (hrB S T V P s) (.returned (.tuple #[.int .u8 0,.bool false])) w':=by
 refine ⟨?_,b⟩;unfold hrV;rw [h]
 rfl
theorem hrd_yes {S:Sts} {T:LL} {V:List Bool} {P:List S2} {s:Int} {w w':World} (h:hrB S T V P s=true) (b:Below w.heap.size w w'):HrdPost w (hrV S T V P s) (hrB S T V P s) (.returned (.tuple #[.int .u8 (tb (frF S T V P s)),.bool true])) w':=by
 refine ⟨?_,b⟩;unfold hrV;rw [h]
 rfl
set_option maxHeartbeats 1000000 in
theorem heard_any {w:World} {vs vt vl vp:Value} {S:Sts} {T:LL} {V:List Bool} {P:List S2} (H:Ns w vs vt vl S T V) (RP:Rd K2 w vp P) (s:Int):Calls Tryz.prog 45 #[vs,vt,vl,vp,.int .i64 s] w (HrdPost w (hrV S T V P s) (hrB S T V P s)):=by
 have FA:=Lib.hid (frame_any H RP s);unfold FramePost at FA;have NO:=Lib.hid (fun h w' b=>hrd_no (S:=S) (T:=T) (V:=V) (P:=P) (s:=s) (w:=w) (w':=w') h b);have YES:=Lib.hid (fun h w' b=>hrd_yes (S:=S) (T:=T) (V:=V) (P:=P) (s:=s) (w:=w) (w':=w') h b);have HB:Hid (hrB S T V P s=(snB S T V s && decide (te (frF S T V P s)=0) && !tp (frF S T V P s))):=Lib.hid rfl;clear H RP;generalize hrV S T V P s=x at *;generalize hrB S T V P s=hb at *;generalize frF S T V P s=F at *;generalize sbN S T V s=m at *;generalize snB S T V s=bb at *
 go_enter Tryz.func45,Tryz.ntmps45
 go_wp2_with fail;refine FA.out.mono ?_;rintro e w1 ⟨rfl,b1⟩;have B1:=Lib.hid (b1.alloc b1.size (.cells (arr F) 114));have R1:=Lib.hid (Row.new w1 F);clear b1 FA;have TA:=Lib.hid (take_any (w1.alloc (.cells (arr F) 114)) F)
 cases bb with
 | false =>
   have N2:=Lib.hid (NO.out (by rw [HB.out];rfl) _ B1.out);clear NO YES HB TA
   go_wp2_with ((with_reducible refine store_new (o:=⟨none,_,_,_,_,_⟩) rfl _ _ rfl F ?_ ?_ ?_);(exact rfl);(exact rfl))
   go_ret2
   exact N2.out
 | true =>
   go_wp2_with (first
    | ((with_reducible refine store_new (o:=⟨none,_,_,_,_,_⟩) rfl _ _ rfl F ?_ ?_ ?_);(exact rfl);(exact rfl))
    | ((with_reducible refine load_frame (o:=⟨some 31,_,_,_,_,_⟩) rfl _ rfl w1.heap.size F ?_ R1.out ?_);(exact rfl)))
   refine TA.out.mono ?_;rintro e w2 ⟨rfl,b2⟩;have B2:=Lib.hid (B1.out.trans (b2.mono B1.out.size));clear b2 TA B1 R1;generalize tp F=p at *
   by_cases he:te F=0
   ·cases p with
    | true =>
      have N2:=Lib.hid (NO.out (by rw [HB.out];simp) _ B2.out);clear NO YES HB;generalize tb F=y at *;generalize te F=z at *;go_wp2
      go_ret2
      exact N2.out
    | false =>
      have N2:=Lib.hid (YES.out (by rw [HB.out,decide_eq_true he];rfl) _ B2.out);clear NO YES HB;generalize tb F=y at *;generalize te F=z at *;subst he;go_wp2
      go_ret2
      exact N2.out
   ·have N2:=Lib.hid (NO.out (by rw [HB.out,decide_eq_false he];rfl) _ B2.out)
    clear NO YES HB;generalize tb F=y at *;generalize te F=z at *;have d0:(z != 0)=true:=by simpa using he
    go_wp2
    go_ret2
    exact N2.out
end Go.Proofs.YtpkipilggkbkeaaGreatDoor.Pa
namespace Go.Proofs.YtpkipilggkbkeaaGreatDoor.Ck
open Go.RowKit
open Ro (E5 z5 eat ent K5 at5 eat_mem mayB mayP)
open Rw (Rd Ow At)
open Fl (ret_bool at_bool row_cell row_frozen file)
attribute [local irreducible] Sd.wpSd wpQuiet
def TabPost (w:World) (L:LL) (e:Ending) (w':World):Prop:=e = .returned (.tuple #[.int .i64 (tN L),.int .i64 (tE L)])∧Below w.heap.size w w'
set_option maxHeartbeats 2000000 in
theorem tables_any (w:World) (v:Value) (L:LL) (R:RdL w v L):Calls Tryz.prog 88 #[v] w (TabPost w L):=by
 have en:∀ args w,(callFunc 124 args).run Tryz.prog w = .ok (.enter 124 args) w:=enters_of Tryz.func124 (by kernel_rfl) rfl;have IA:=Lib.hid (index_any w v L 124 bad en R (fun W u l r=>isno_any W u l r));rw [show idx bad 0 L=bI L from rfl] at IA;have SA:=Lib.hid (fun (W:World) (hb:Below w.heap.size w W)=>senders_any W v L (R.below hb));have TF:=Lib.hid (fun h=>t_form (L:=L) h);have TC:=Lib.hid (fun h h2=>t_clash (L:=L) h h2);have TG:=Lib.hid (fun h h2 h3=>t_gap (L:=L) h h2 h3);have TO:=Lib.hid (fun h h2 h3=>t_ok (L:=L) h h2 h3);have IS:Hid (¬ 0≤bI L→InSlots L):=fun h k hk x hx=>may_slot (may_all h k hk) hx;have CS:=Lib.hid (fun h=>clash_same (L:=L) h);have GS:=Lib.hid (fun h=>gap_same (L:=L) h);have RL:=Lib.hid R;obtain ⟨a,cap,rfl,_⟩:=R.slice;clear R en;unfold TabPost
 by_cases h1:0≤bI L
 ·obtain ⟨e1,e2⟩:=TF.out h1
  rw [e1,e2];clear TF TC TG TO IS CS GS e1 e2;generalize bI L=r at *;generalize L.length=n at *
  go_enter Tryz.func88,Tryz.ntmps88
  go_wp2_with fail;refine IA.out.mono ?_;rintro e w1 ⟨rfl,b1⟩;go_wp2
  go_ret2
  exact ⟨rfl,b1⟩
 ·have is_:=IS.out h1
  have cs:=CS.out h1;have gs:=GS.out h1;have ec:∀ args w,(callFunc 157 args).run Tryz.prog w = .ok (.enter 157 args) w:=enters_of Tryz.func157 (by kernel_rfl) rfl;have eg:∀ args w,(callFunc 158 args).run Tryz.prog w = .ok (.enter 158 args) w:=enters_of Tryz.func158 (by kernel_rfl) rfl;have FC:Hid (∀ W B,Below w.heap.size w W→RowI W B (sF L)→∃ x,Calls Tryz.prog 126 #[.slice a L.length cap,.func (.func 157) #[] #[.pointer (some ⟨B,0,none⟩)]] W (WhoPost W (clN L) x)):=fun W B hb hr=>by
   have:=find_any W _ L 157 #[.pointer (some ⟨B,0,none⟩)] (qc (sF L)) ec (RL.out.below hb) (cclos_any W B (sF L) L is_ hr);rw [cs] at this;exact ⟨_,this⟩
  have FG:Hid (∀ W B,Below w.heap.size w W→RowI W B (sF L)→∃ x,Calls Tryz.prog 126 #[.slice a L.length cap,.func (.func 158) #[] #[.pointer (some ⟨B,0,none⟩)]] W (WhoPost W (gaN L) x)):=fun W B hb hr=>by
   have:=find_any W _ L 158 #[.pointer (some ⟨B,0,none⟩)] (qg (sF L)) eg (RL.out.below hb) (gclos_any W B (sF L) L is_ hr);rw [gs] at this;exact ⟨_,this⟩
  have TC':=Lib.hid (TC.out h1);have TG':=Lib.hid (TG.out h1);have TO':=Lib.hid (TO.out h1);clear is_ cs gs ec eg TF IS CS GS TC TG TO RL;generalize sF L=F at *;generalize bI L=r at *;generalize clN L=rc at *;generalize gaN L=rg at *;generalize tN L=rn at *;generalize tE L=re at *;generalize L.length=n at *
  go_enter Tryz.func88,Tryz.ntmps88
  go_wp2_with fail;refine IA.out.mono ?_;rintro e w1 ⟨rfl,b1⟩;have SB:=Lib.hid (SA.out w1 b1);have B1:=Lib.hid b1;clear b1 SA IA;go_wp2_with fail;refine SB.out.mono ?_;rintro e w2 ⟨rfl,b2⟩;have B2:=Lib.hid (B1.out.trans (b2.mono B1.out.size));clear b2 B1 SB
  go_upto_region 5 with (with_reducible refine store_ar_new rfl (.tmp 4) (.tmp 11) rfl F rfl rfl ?_)
  have R3:=Lib.hid (RowI.new w2 F);have B3:=Lib.hid (B2.out.alloc B2.out.size (.cells (ar F) 193));generalize w2.alloc (.cells (ar F) 193)=V at *;generalize w2.heap.size=g at *;clear B2
  go_wp2_with (with_reducible refine load_ar rfl (.tmp 4) rfl g F rfl R3.out ?_)
  refine (clash_any V F).mono ?_;rintro e w4 ⟨rfl,rfl⟩;have b4:=(Below.refl V.heap.size V).alloc (Nat.le_refl _) (.cells (ar F) 193);have R4:=Lib.hid (R3.out.below b4 R3.out.lt);have B4:=Lib.hid (B3.out.trans (b4.mono B3.out.size));obtain ⟨xc,fc⟩:=FC.out (V.alloc (.cells (ar F) 193)) V.heap.size B4.out (RowI.new V F);have CC:=Lib.hid fc;clear b4 R3 B3 fc FC;generalize V.heap.size=gv at *;generalize V.alloc (.cells (ar F) 193)=V4 at *;unfold WhoPost ent at CC;go_wp2_with fail;refine CC.out.mono ?_;rintro e w5 ⟨rfl,b5⟩;have R5:=Lib.hid (R4.out.below b5 R4.out.lt);have B5:=Lib.hid (B4.out.trans (b5.mono B4.out.size));clear b5 R4 B4 CC
  by_cases h2:0≤rc
  ·obtain ⟨rfl,rfl⟩:=TC'.out h2
   clear TC' TG' TO';go_wp2
   go_ret2
   exact ⟨rfl,B5.out⟩
  ·have TG2:=Lib.hid (TG'.out (by omega))
   have TO2:=Lib.hid (TO'.out (by omega));clear TC' TG' TO';go_upto_region 8 with fail
   go_wp2_with (with_reducible refine load_ar rfl (.tmp 4) rfl g F rfl R5.out ?_)
   refine (gap_any w5 F).mono ?_;rintro e w6 ⟨rfl,rfl⟩;have b6:=(Below.refl w5.heap.size w5).alloc (Nat.le_refl _) (.cells (ar F) 193);have B6:=Lib.hid (B5.out.trans (b6.mono B5.out.size));obtain ⟨xg,fg⟩:=FG.out (w5.alloc (.cells (ar F) 193)) w5.heap.size B6.out (RowI.new w5 F);have CC:=Lib.hid fg;clear b6 R5 B5 fg FG;generalize w5.heap.size=g5 at *;generalize w5.alloc (.cells (ar F) 193)=V6 at *;unfold WhoPost ent at CC;go_wp2_with fail;refine CC.out.mono ?_;rintro e w7 ⟨rfl,b7⟩;have B7:=Lib.hid (B6.out.trans (b7.mono B6.out.size));clear b7 B6 CC
   by_cases h3:0≤rg
   ·obtain ⟨rfl,rfl⟩:=TG2.out h3
    clear TG2 TO2;go_wp2
    go_ret2
    exact ⟨rfl,B7.out⟩
   ·obtain ⟨rfl,rfl⟩:=TO2.out (by omega)
    clear TG2 TO2;go_wp2
    go_ret2
    exact ⟨rfl,B7.out⟩
end Go.Proofs.YtpkipilggkbkeaaGreatDoor.Ck
namespace Go.Proofs.YtpkipilggkbkeaaGreatDoor.Pa
open Go.RowKit Go.Maps
open Rw (Rd Ow At)
open Fl (row_cell row_frozen ret_bool)
open Ck (LL lat sN sE tE tN RdL tables_any TabPost)
set_option maxRecDepth 100000
def nI (ps:List (Option Nat)):Int:=match ps.findIdx? Option.isNone with | some k=>k | none=>-1
def nB (ps:List (Option Nat)):Bool:=ps.any Option.isNone
theorem nI_hit {ps:List (Option Nat)} {k:Nat} (hk:k < ps.length) (h:∀ j,j < k→(ps.getD j none).isSome=true) (hn:ps.getD k none=none):nI ps=k:=by
 have e:ps.findIdx? Option.isNone=some k:=by
  rw [List.findIdx?_eq_some_iff_getElem];refine ⟨hk,?_,fun j hj=>?_⟩
  ·rw [List.getD_eq_getElem?_getD,List.getElem?_eq_getElem hk] at hn
   have:ps[k]=none:=hn;rw [this];rfl
  ·have:=h j hj
   rw [List.getD_eq_getElem?_getD,List.getElem?_eq_getElem (by omega)] at this;have h2:(ps[j]'(by omega)).isSome=true:=this
   cases e2:ps[j]'(by omega) with
   | none=>rw [e2] at h2;cases h2
   | some q=>simp
 unfold nI;rw [e]
theorem nI_miss {ps:List (Option Nat)} (h:∀ j,j < ps.length→(ps.getD j none).isSome=true):nI ps = -1:=by
 have e:ps.findIdx? Option.isNone=none:=by
  rw [List.findIdx?_eq_none_iff]
  intro x hx
  obtain ⟨j,hj,e⟩:=List.getElem_of_mem hx;have:=h j hj;rw [List.getD_eq_getElem?_getD,List.getElem?_eq_getElem hj] at this;have h2:(ps[j]).isSome=true:=this;rw [e] at h2
  cases x with
  | none=>cases h2
  | some q=>rfl
 unfold nI;rw [e]
theorem nB_is (ps:List (Option Nat)):decide (0≤nI ps)=nB ps:=by
 unfold nI nB
 rcases e:ps.findIdx? Option.isNone with _ | k
 ·have:=List.findIdx?_eq_none_iff.1 e
  rw [show ps.any Option.isNone=false from List.any_eq_false.2 fun x hx=>by have h:=this x hx;cases x <;> simp_all]
  rfl
 ·obtain ⟨hk,h,_⟩:=List.findIdx?_eq_some_iff_getElem.1 e
  rw [show ps.any Option.isNone=true from List.any_eq_true.2 ⟨_,List.getElem_mem hk,h⟩];exact decide_eq_true (Int.natCast_nonneg k)
theorem nB_some (l:List Nat):nB (l.map some)=false:=by
 unfold nB;rw [List.any_eq_false]
 intro x hx
 obtain ⟨y,_,rfl⟩:=List.mem_map.1 hx
 simp
theorem eqIn_nil {P:Program} (W:World) (d:Nat) (t te:TypeId) (a:Addr) (h:P.underlying t=some (.pointer te)):(Op.equalIn (d+1) t (.pointer none) (.pointer (some a))).run P W = .ok false W:=by
 simp [Op.equalIn,run_underlying h]
theorem eq_nil {P:Program} (W:World) (t te:TypeId) (a:Addr) (h:P.underlying t=some (.pointer te)):(Op.equal t (.pointer none) (.pointer (some a))).run P W = .ok false W:=eqIn_nil W 9999 t te a h
theorem eql_nil {P:Program} (W:World) (t te:TypeId) (a:Addr) (h:P.underlying t=some (.pointer te)):(binOp .eql t (.pointer none) (.pointer (some a))).run P W = .ok (.bool false) W:=by
 simp only [binOp]
 simp [eq_nil W t te a h]
theorem pt_eql (q:Nat) (W:World):(binOp .eql 39 (.pointer none) (.pointer (some ⟨q,0,none⟩))).run Tryz.prog W = .ok (.bool false) W:=eql_nil W _ _ _ Tryz.underlying39
set_option maxHeartbeats 400000 in
theorem index_any (w:World) (v:Value) (ps:List (Option Nat)) (R:Rd KP w v ps):Calls Tryz.prog 122 #[v,.pointer none] w fun e w'=>e = .returned (.int .i64 (nI ps))∧Below w.heap.size w w':=by
 have HIT:Hid (∀ k,k < ps.length→(∀ j,j < k→(ps.getD j none).isSome=true)→ps.getD k none=none→nI ps=k):=Lib.hid (fun k hk h hn=>nI_hit hk h hn);have MISS:Hid ((∀ j,j < ps.length→(ps.getD j none).isSome=true)→nI ps = -1):=Lib.hid nI_miss;obtain ⟨a,cap,rfl,_,hm,hA⟩:=R;have HA:=Lib.hid hA;unfold maxLen at hm;clear hA;generalize hn:ps.length=n at *;have HN:=Lib.hid hn;clear hn;generalize nI ps=r at *
 go_enter Tryz.func122,Tryz.ntmps122
 go_wp2
 go_loopw [8] (fun i wr=>∃ k:Nat,k≤n∧i = .int .i64 k∧Hid (Below w.heap.size w wr)∧Hid (∀ j,j < k→(ps.getD j none).isSome=true)) (fun i _=>n - (intOf i).toNat)
 case atStart=>exact ⟨0,Nat.zero_le _,rfl,Below.refl _ _,fun j hj=>by omega⟩
 case round =>
  obtain ⟨k,hk,rfl,bw,hs⟩:=hrel
  by_cases hlt:k < n
  ·obtain ⟨b,off,rfl,A1⟩:=HA.out (by omega)
   have c:=atP (A1.below bw.out) (i:=k) (by have:=HN.out;omega);have HT:=Lib.hid (HIT.out k hlt hs.out)
   have NX:Hid ((ps.getD k none).isSome=true→∀ j,j < k+1→(ps.getD j none).isSome=true):=Lib.hid (fun g j hj=>by
    by_cases e:j=k
    ·rw [e];exact g
    ·exact hs.out j (by omega))
   clear A1
   cases hp:ps.getD k none with
   | none =>
     rw [hp] at c;have E:=Lib.hid (HT.out hp);unfold pv at c;simp only [Option.map_none] at c;clear HT NX HIT MISS;go_wp2
     go_ret
     exact ⟨by rw [E.out];rfl,bw.out⟩
   | some q =>
     rw [hp] at c;have S1:=Lib.hid (NX.out (by rw [hp];rfl));unfold pv at c;simp only [Option.map_some] at c;have hN:=pt_eql q;clear HT NX;go_wp2
     go_roundw
     case rel=>exact ⟨k+1,by omega,by go_num,bw,S1⟩
     case measure=>simp [intOf];omega
  ·obtain rfl:k=n:=by omega
   have E:=Lib.hid (MISS.out hs.out);go_wp2
   go_ret
   exact ⟨by rw [E.out];rfl,bw.out⟩
theorem contains_any (w:World) (v:Value) (ps:List (Option Nat)) (R:Rd KP w v ps):Calls Tryz.prog 87 #[v,.pointer none] w fun e w'=>e = .returned (.bool (nB ps))∧Below w.heap.size w w':=by
 have C:=Lib.hid (index_any w v ps R);have E:=Lib.hid (nB_is ps);clear R;generalize nI ps=r at *;generalize nB ps=q at *
 go_enter Tryz.func87,Tryz.ntmps87
 go_wp2_with fail;refine C.out.mono ?_;rintro e w1 ⟨rfl,b1⟩;go_wp2
 go_ret
 exact ⟨by rw [← E.out];rfl,b1⟩
def fE (ps:List (Option Nat)) (T:LL) (V:List Bool):Int:=if 1≤ps.length∧ps.length≤32∧nB ps=false∧T.length=ps.length∧V.length=ps.length then tE T else 1
set_option maxHeartbeats 1000000 in
theorem fault_any (w:World) (vs vt vl:Value) (ps:List (Option Nat)) (T:LL) (V:List Bool) (RS:Rd KP w vs ps) (RT:RdL w vt T) (RV:Rd KB w vl V):Calls Tryz.prog 44 #[vs,vt,vl] w fun e w'=>e = .returned (.int .i64 (fE ps T V))∧Below w.heap.size w w':=by
 have CA:=Lib.hid (contains_any w vs ps RS);have TA:=Lib.hid (fun W b=>tables_any W vt T (RT.below b));unfold TabPost at TA;have NO:Hid (¬ (1≤ps.length∧ps.length≤32∧nB ps=false∧T.length=ps.length∧V.length=ps.length)→fE ps T V=1):=Lib.hid (fun h=>if_neg h);have YES:Hid ((1≤ps.length∧ps.length≤32∧nB ps=false∧T.length=ps.length∧V.length=ps.length)→fE ps T V=tE T):=Lib.hid (fun h=>if_pos h);obtain ⟨a1,c1,rfl,m1⟩:=RS.slice;obtain ⟨a2,c2,rfl,m2⟩:=RT.slice;obtain ⟨a3,c3,rfl,m3⟩:=RV.slice;unfold maxLen at m1 m2 m3;clear RS RT RV;generalize ps.length=n at *;generalize T.length=nt at *;generalize V.length=nv at *;generalize fE ps T V=r at *;generalize nB ps=q at *;generalize tE T=te at *;generalize tN T=tn at *
 by_cases h1:n < 1
 ·have E:=Lib.hid (NO.out (by omega))
  clear NO YES
  go_enter Tryz.func44,Tryz.ntmps44
  go_wp2
  go_ret
  exact ⟨by rw [E.out];rfl,Below.refl _ _⟩
 ·by_cases h2:32 < n
  ·have E:=Lib.hid (NO.out (by omega))
   clear NO YES
   go_enter Tryz.func44,Tryz.ntmps44
   go_wp2
   go_ret
   exact ⟨by rw [E.out];rfl,Below.refl _ _⟩
  ·cases q with
   | true =>
     have E:=Lib.hid (NO.out (by rintro ⟨_,_,h,_⟩;cases h));clear NO YES
     go_enter Tryz.func44,Tryz.ntmps44
     go_wp2_with fail;refine CA.out.mono ?_;rintro e w1 ⟨rfl,b1⟩;go_wp2
     go_ret
     exact ⟨by rw [E.out];rfl,b1⟩
   | false =>
     by_cases h3:nt=n
     ·by_cases h4:nv=n
      ·have E:=Lib.hid (YES.out ⟨by omega,by omega,rfl,h3,h4⟩)
       clear NO YES;subst h3;subst h4
       go_enter Tryz.func44,Tryz.ntmps44
       go_wp2_with fail;refine CA.out.mono ?_;rintro e w1 ⟨rfl,b1⟩;go_wp2_with fail;refine (TA.out w1 b1).mono ?_;rintro e w2 ⟨rfl,b2⟩;go_wp2
       go_ret
       exact ⟨by rw [E.out];rfl,b1.trans (b2.mono b1.size)⟩
      ·have E:=Lib.hid (NO.out (by rintro ⟨_,_,_,_,h⟩;exact h4 h))
       clear NO YES;subst h3;have h5:((nv:Int) != (nt:Int))=true:=by simp;omega
       go_enter Tryz.func44,Tryz.ntmps44
       go_wp2_with fail;refine CA.out.mono ?_;rintro e w1 ⟨rfl,b1⟩;go_wp2
       go_ret
       exact ⟨by rw [E.out];rfl,b1⟩
     ·have E:=Lib.hid (NO.out (by rintro ⟨_,_,_,h,_⟩;exact h3 h))
      clear NO YES;have h5:((nt:Int) != (n:Int))=true:=by simp;omega
      go_enter Tryz.func44,Tryz.ntmps44
      go_wp2_with fail;refine CA.out.mono ?_;rintro e w1 ⟨rfl,b1⟩;go_wp2
      go_ret
      exact ⟨by rw [E.out];rfl,b1⟩
end Go.Proofs.YtpkipilggkbkeaaGreatDoor.Pa
namespace Go.Proofs.YtpkipilggkbkeaaGreatDoor.Pa
open Go.RowKit Go.Maps
open Fs (Abs St Rs Rst Only Fx Lst)
open Rw (Rd Ow At Kind)
set_option maxRecDepth 100000
theorem push_at {α:Type} {K:Kind α} {P:Program} {E:TypeId} {ops:Array Oper} {rest:List Oper} {o:Oper} {a:Act} {w:World} {Q:Exit→Act→World→Prop} {T:TypeId} {z:Value} {bytes:Nat} (ht:P.underlying T=some (.slice E))
 (hi:(P.info? E).map (fun i=>(i.zero,i.size,i.bytes))=some (some z,K.n,bytes)) (hz:z.cells.size=K.n) (hby:bytes≤64) (hgd:o.guard=none) (s x:Operand)
 (ho:o.op = .call { callee:=.builtin .append,args:=#[s,x],argTypes:=#[T,T] }) (B:Nat) (v:Value) (l:List α) (hs:a.eval s=v) (hown:Ow K w B E v l)
 (ad:Addr) (c:α) (hx:a.eval x = .slice (some ad) 1 1) (hc:∀ j u,(K.enc c)[j]? = some u→w.cell? (ad.add j)=some u) (hlen:l.length < 2199023255552) (hB:B≤w.heap.size)
 (h:∀ v' w',Ow K w' B E v' (l ++ [c])→w.grownBy w' v.ownBlock→(v'.ownBlock=v.ownBlock∨∃ g,v'.ownBlock=some g∧w.heap.size≤g)→wpList P ops Q rest (a.put o.dst v') w'):wpList P ops Q (o :: rest) a w:=by
 obtain ⟨i0,hi0,hz0,hz1,hz2⟩:=info_parts hi;have hb:(l.length+1) * bytes≤140737488355328:=Nat.le_trans (Nat.mul_le_mul (show l.length+1≤2199023255552 by omega) hby) (by omega);refine wpList_append_own_at _ hgd s x T ho B E i0 z K.n bytes ht hi0 hz0 hz1 hz2 hz K.pos v l.length (K.flat l) hs hown ad 1 1 (K.enc c) hx (by rw [K.len,Nat.one_mul]) hc (K.one c) (by unfold maxLen;omega) hb hB ?_
 intro v' w' h2 h3 _ h5
 exact h v' w' (Rw.Ow.push h2) h3 (h5.imp id fun e=>⟨_,e,Nat.le_refl _⟩)
theorem wp_push_at {α:Type} {K:Kind α} {P:Program} {E:TypeId} {o:Oper} {a:Act} {w:World} {KK:Act→World→Prop} {Q:Exit→Act→World→Prop} {T:TypeId} {z:Value} {bytes:Nat} (ht:P.underlying T=some (.slice E))
 (hi:(P.info? E).map (fun i=>(i.zero,i.size,i.bytes))=some (some z,K.n,bytes)) (hz:z.cells.size=K.n) (hby:bytes≤64) (s x:Operand)
 (ho:o.op = .call { callee:=.builtin .append,args:=#[s,x],argTypes:=#[T,T] }) (B:Nat) (v:Value) (l:List α) (hs:a.eval s=v) (hown:Ow K w B E v l)
 (ad:Addr) (c:α) (hx:a.eval x = .slice (some ad) 1 1) (hc:∀ j u,(K.enc c)[j]? = some u→w.cell? (ad.add j)=some u) (hlen:l.length < 2199023255552) (hB:B≤w.heap.size)
 (h:∀ v' w',Ow K w' B E v' (l ++ [c])→w.grownBy w' v.ownBlock→(v'.ownBlock=v.ownBlock∨∃ g,v'.ownBlock=some g∧w.heap.size≤g)→KK (a.put o.dst v') w'):o.wp P a w KK Q:=by
 obtain ⟨i0,hi0,hz0,hz1,hz2⟩:=info_parts hi;have hb:(l.length+1) * bytes≤140737488355328:=Nat.le_trans (Nat.mul_le_mul (show l.length+1≤2199023255552 by omega) hby) (by omega);obtain ⟨v',w',hr,h2,h3,_,h5⟩:=run_append_own_at (P:=P) w B T o.type E i0 z K.n bytes ht hi0 hz0 hz1 hz2 hz K.pos v l.length (K.flat l) hown ad 1 1 (K.enc c) (by rw [K.len,Nat.one_mul]) hc (K.one c) (by unfold maxLen;omega) hb hB;unfold Oper.wp execOp;simp only [ho,resolve,invoke,builtin,Sem.run_bind,Sem.run_pure,Result.andThen_ok,List.map_toArray,List.map_cons,List.map_nil,hs,hx,hr];exact h v' w' (Rw.Ow.push h2) h3 (h5.imp id fun e=>⟨_,e,Nat.le_refl _⟩)
def SAp (w:World) (s:Nat) (x:Abs×Int) (q:Option Nat):Prop:=∃ F,St w s F x.1 x.2∧∀ k,F k→q≠some k
def RAp (w:World) (r:Nat) (x:Abs×Int) (q:Option Nat):Prop:=Rs w r (fun k=>q=some k) x.1 x.2
structure Good (Ap:World→Nat→Abs×Int→Option Nat→Prop):Prop where
 below:∀ {w w' s x q},Ap w s x q→Below w.heap.size w w'→Ap w' s x q
 grow:∀ {w w' s x q q'},Ap w s x q→w.grownBy w' q→(q'=q∨∃ g,q'=some g∧w.heap.size≤g)→(∀ g,q'=some g→g < w'.heap.size)→Ap w' s x q'
theorem only_grown {w w':World} {q:Option Nat} (h:w.grownBy w' q):Only (fun k=>q=some k) w w':=⟨h.os,h.tape,h.output,h.size,fun k hk hn=>h.block k hk fun e=>hn e.symm⟩
theorem sap_good:Good SAp where
 below:=fun ⟨F,h,d⟩ b=>⟨F,h.below b,d⟩
 grow:=fun ⟨F,h,d⟩ g hq _=>⟨F,h.only (G:=fun k=>_=some k) (fun k hk e=>d k hk e) (only_grown g),fun k hk e=>by
  rcases hq with rfl | ⟨j,rfl,hj⟩
  ·exact d k hk e
  ·injection e with e
   have:=h.low k hk
   omega⟩
theorem rs_mono {w:World} {r:Nat} {F G:Nat→Prop} {A:Abs} {d:Int} (h:Rs w r F A d) (hg:∀ k,k < w.heap.size→G k→F k):Rs w r G A d:=by
 obtain ⟨v,L,h,e⟩:=h;refine ⟨v,L,⟨h.row,fun g=>h.off (hg r (lt_of_block h.row) g),h.list.mono fun k hk g=>?_,h.ok⟩,e⟩
 rcases g with g | g
 ·exact .inl (hg k hk g)
 ·exact .inr g
theorem rap_good:Good RAp where
 below:=fun h b=>Fs.Rs.below h b
 grow:=fun {w w' r x q q'} h g hq hl=>by
  refine rs_mono (Fs.Rs.only h (only_grown g)) fun k _ e=>?_
  rcases hq with rfl | ⟨j,rfl,hj⟩
  ·exact .inl e
  ·injection e with e
   subst e;exact .inr ⟨hj,hl _ rfl⟩
theorem SAp.has {w:World} {s:Nat} {x:Abs×Int} {q:Option Nat} (h:SAp w s x q):Has w s x:=by obtain ⟨F,h,_⟩:=h;exact ⟨F,h⟩
theorem RAp.hrf {w:World} {s:Nat} {x:Abs×Int} {q:Option Nat} (h:RAp w s x q):Hrf w s x:=rs_mono h nofun
theorem sap_new {w w':World} {s:Nat} {F:Nat→Prop} {x:Abs×Int} {q:Option Nat} (h:St w' s F x.1 x.2) (lo:∀ k,F k→w.heap.size≤k) (hq:∀ k,q=some k→k < w.heap.size):SAp w' s x q :=
 ⟨F,h,fun k hk e=>by have:=lo k hk;have:=hq k e;omega⟩
section
variable {Ap:World→Nat→Abs×Int→Option Nat→Prop} {E:TypeId} {w wr w1 w2:World} {S:Sts} {k:Nat} {o o':Value} {ps:List Nat} {g:Nat}
structure PI (Ap:World→Nat→Abs×Int→Option Nat→Prop) (E:TypeId) (w:World) (S:Sts) (k:Nat) (o:Value) (ps:List Nat) (wr:World):Prop where
 own:Ow KN wr w.heap.size E o ps
 len:ps.length=k
 each:∀ i,i < k→Ap wr (ps.getD i 0) (sat S i) o.ownBlock
 bel:Below w.heap.size w wr
theorem PI.start (w:World) (hb:Below w.heap.size w wr):PI Ap E w S 0 (.slice none 0 0) [] wr:=⟨Rw.Ow.nil _ _ _,rfl,fun i hi=>by omega,hb⟩
theorem PI.made (hb:Below w.heap.size w wr):PI Ap E w S 0 (.slice (some ⟨wr.heap.size,0,none⟩) 0 0) [] (wr.alloc (.cells #[] E)):=⟨Rw.Ow.made _ _ _ hb.size,rfl,fun i hi=>by omega,hb.alloc hb.size _⟩
theorem PI.below (G:Good Ap) (h:PI Ap E w S k o ps wr) (b:Below wr.heap.size wr w1):PI Ap E w S k o ps w1:=⟨h.own.keep b,h.len,fun i hi=>G.below (h.each i hi) b,h.bel.trans (b.mono h.bel.size)⟩
theorem PI.lt (h:PI Ap E w S k o ps wr):∀ k,o.ownBlock=some k→k < wr.heap.size:=fun k e=>(World.ownsRow.lt h.own k e).2
theorem PI.push (G:Good Ap) (h:PI Ap E w S k o ps wr) (own:Ow KN w1 w.heap.size E o' (ps ++ [g])) (gr:wr.grownBy w1 o.ownBlock) (hq:o'.ownBlock=o.ownBlock∨∃ g,o'.ownBlock=some g∧wr.heap.size≤g) (hg:Ap wr g (sat S k) o.ownBlock):PI Ap E w S (k+1) o' (ps ++ [g]) w1:=by
 have hl:∀ j,o'.ownBlock=some j→j < w1.heap.size:=fun j e=>(World.ownsRow.lt own j e).2;refine ⟨own,by rw [List.length_append,h.len];rfl,fun i hi=>?_,h.bel.grown gr h.bel.size fun j e=>(World.ownsRow.lt h.own j e).1⟩
 by_cases e:i=k
 ·subst e
  have:(ps ++ [g]).getD i 0=g:=by rw [List.getD_eq_getElem?_getD,List.getElem?_append_right (by rw [h.len];exact Nat.le_refl _),h.len];simp
  rw [this];exact G.grow hg gr hq hl
 ·have:(ps ++ [g]).getD i 0=ps.getD i 0:=by rw [List.getD_eq_getElem?_getD,List.getElem?_append_left (by rw [h.len];omega),List.getD_eq_getElem?_getD]
  rw [this];exact G.grow (h.each i (by omega)) gr hq hl
theorem PI.congr {S':Sts} (h:PI Ap E w S k o ps wr) (e:∀ i,i < k→sat S i=sat S' i):PI Ap E w S' k o ps wr:=⟨h.own,h.len,fun i hi=>by rw [← e i hi];exact h.each i hi,h.bel⟩
end
theorem PI.stl {w wr:World} {S:Sts} {o:Value} {ps:List Nat} {E:TypeId} (h:PI SAp E w S S.length o ps wr):Stl wr o S:=⟨ps,h.own.rd,h.len,fun i hi=>(h.each i hi).has⟩
theorem PI.rfl_ {w wr:World} {S:Sts} {o:Value} {ps:List Nat} {E:TypeId} (h:PI RAp E w S S.length o ps wr):Rfl wr o S:=⟨ps,h.own.rd,h.len,fun i hi=>(h.each i hi).hrf⟩
theorem infoN:(Tryz.prog.info? 39).map (fun i=>(i.zero,i.size,i.bytes))=some (some (.pointer none),1,8):=by kernel_rfl
theorem infoM:(Tryz.prog.info? 43).map (fun i=>(i.zero,i.size,i.bytes))=some (some (.pointer none),1,8):=by kernel_rfl
end Go.Proofs.YtpkipilggkbkeaaGreatDoor.Pa
