import Derived.Test.YtljnkaodhfnbbaaGreatDoorPi9
import Derived.Test.YtljnkaodhfnbbaaGreatDoorPi5
import Derived.Deep.Cut
import Derived.Test.YtljnkaodhfnbbaaGreatDoorPi8
import Derived.BigQuiet
import Derived.Deep.QuietTactic
import Derived.WalkSmall
import Derived.Test.YtljnkaodhfnbbaaGreatDoorPi6
import Derived.Test.YtljnkaodhfnbbaaGreatDoorPi7
import Derived.Test.YtljnkaodhfnbbaaGreatDoorPi4
set_option maxRecDepth 100000
namespace Go.Proofs.YtljnkaodhfnbbaaGreatDoor.Bu
open Go.RowKit
open Sp (S2 fr tp Sp)
open Rw (Rd Ow At)
open Wi (Plain PlainOf Low Made join_any own_low)
open Ck (LL lat sN sE tE RdL Hd sl zh KS)
open Pa (Sts Ns K2 snB sbN frF frame_any FramePost sender_is push_at wp_push_at)
open Ua (arr Row store_new info_of)
open Se (lows spans_any)
open Fl (row_cell row_frozen)
attribute [local irreducible] Sd.wpSd wpQuiet
structure Bn (w:World) (vs vt vl vp vo:Value) (S:Sts) (T:LL) (V:List Bool) (P:List S2) (O:List Osc):Prop where
 ns:Ns w vs vt vl S T V
 sp:Rd K2 w vp P
 os:OsL w vo O
 lo:O.length=S.length
 few:S.length≤32
 calm:calmL O
theorem Bn.below {w w':World} {vs vt vl vp vo:Value} {S:Sts} {T:LL} {V:List Bool} {P:List S2} {O:List Osc} (h:Bn w vs vt vl vp vo S T V P O) (b:Below w.heap.size w w'):Bn w' vs vt vl vp vo S T V P O:=⟨h.ns.below b,h.sp.below b,h.os.below b,h.lo,h.few,h.calm⟩
set_option maxHeartbeats 2000000 in
theorem sends_any {w:World} {vs vt vl vp vo:Value} {S:Sts} {T:LL} {V:List Bool} {P:List S2} {O:List Osc} (H:Bn w vs vt vl vp vo S T V P O) (j:Int) :
 Calls Tryz.prog 33 #[vs,vt,vl,vp,vo,.int .i64 j] w (Made w (SendP S T V P O j)):=by
 have FA:=Lib.hid (fun W b s=>frame_any (H.ns.below (w':=W) b) (H.sp.below b) s);unfold FramePost at FA;have WHO:Hid (∀ k:Nat,snB S T V k=true→∃ n:Nat,sbN S T V k=n∧n < O.length∧frs S T V P O k=some (osc O n,frF S T V P k)∧(osc O n).calm):=Lib.hid (fun k h=>who_sends H.ns.ok (by rw [H.lo,H.ns.lt]) H.calm h);have YES:Hid (∀ k:Nat,1≤k→sbN S T V k=j→∀ u,LowUp S T V P O j (k+1) u↔LowUp S T V P O j k u∨LowK (frs S T V P O) k u):=Lib.hid (fun k h e u=>lowUp_yes h e);have NO:Hid (∀ k:Nat,¬ (snB S T V k=true∧sbN S T V k=j)→∀ u,LowUp S T V P O j (k+1) u↔LowUp S T V P O j k u):=Lib.hid (fun k h u=>lowUp_no h);have END:Hid (∀ u,LowUp S T V P O j 17 u↔LowJ S T V P O j u):=Lib.hid (fun u=>lowUp_end);have I0:Hid (HdI w (.slice none 0 0) [] [] (LowUp S T V P O j 1) 1 w):=Lib.hid ⟨Ow.nil _ _ _,fun _ hi=>absurd hi (Nat.not_lt_zero _),rfl,fun _ hi=>absurd hi (Nat.not_lt_zero _),fun u=>⟨fun ⟨_,hi,_⟩=>absurd hi (Nat.not_lt_zero _),fun h=>absurd h lowUp_one⟩,by simp,Below.refl _ _⟩;have OS:=Lib.hid H.os;obtain ⟨ao,co,rfl,mo1,mo⟩:=H.os.slice;unfold maxLen at mo;clear H;generalize hno:O.length=no at *;have HNO:=Lib.hid hno;clear hno;unfold SendP
 go_enter Tryz.func33,Tryz.ntmps33
 go_wp2
 go_loopw [14,13] (fun i v wr=>∃ (k:Nat) (hs:List Hd) (ls:List (List S2)),1≤k∧k≤17∧i = .int .i64 k∧Hid (HdI w v hs ls (LowUp S T V P O j k) k wr)) (fun i _ _=>17 - (intOf i).toNat)
 case atStart=>exact ⟨1,[],[],by omega,by omega,rfl,I0⟩
 case round =>
  obtain ⟨k,hs,ls,hk1,hk,rfl,I⟩:=hrel;clear I0;obtain ⟨av,cv,rfl,_⟩:=I.out.slice
  by_cases hlt:k < 17
  ·have FK:=Lib.hid (FA.out wr I.out.bel (k:Int))
   have WK:=Lib.hid (WHO.out k);have YK:=Lib.hid (YES.out k hk1);have NK:=Lib.hid (NO.out k);generalize hF:frF S T V P (k:Int)=F at *;generalize hm:sbN S T V (k:Int)=m at *;generalize hok:snB S T V (k:Int)=ok at *;clear hF hm hok;go_wp2_with fail;refine FK.out.mono ?_;rintro e w1 ⟨rfl,b1⟩;have I2:=Lib.hid ((I.out.below b1).below ((Below.refl w1.heap.size w1).alloc (Nat.le_refl _) (.cells (arr F) 113)));have R2:=Lib.hid (Row.new w1 F);clear b1 FK I
   by_cases hall:ok=true∧m=j
   ·obtain ⟨rfl,rfl⟩:=hall
    obtain ⟨n,rfl,hn,hf,hcal⟩:=WK.out rfl;have YY:=Lib.hid (YK.out rfl);have CA:=Lib.hid hcal;have HF:=Lib.hid hf;clear YK NK WK hcal hf;obtain ⟨b5,o5,c5,a5,d5,e5,x5,_,s5⟩:=OS.out.one (k:=n) (by have:=HNO.out;omega);rw [HNO.out] at e5;injection e5 with e5 _ e6;subst e5 e6;have S5:=Lib.hid s5;clear s5
    go_upto_region 7 with ((with_reducible refine store_new (o:=⟨none,_,_,_,_,_⟩) rfl _ _ rfl F ?_ ?_ ?_);(exact rfl);(exact rfl))
    generalize (w1.alloc (.cells (arr F) 113))=W1 at *;generalize w1.heap.size=g1 at *;have BD:=Lib.hid (I2.out.bel.trans ((Below.refl W1.heap.size W1).drew.mono I2.out.bel.size));have lo:=World.block_lt_of_cell? _ _ x5;have wk:IntKind.i64.wrap (224 * (k:Int))=224 * (k:Int):=IntWalk.i64_in _ (by omega);have sO:=Sc.cell_in (C:=fun W=>Below w.heap.size w W) (a:=⟨b5,o5+n,none⟩) (fun W' h=>(h.cell lo).trans x5);have ne:Nonempty (Sc.In (fun W=>Below w.heap.size w W)):=⟨⟨_,BD.out⟩⟩;have ID:=Lib.hid (I2.out.below ((Below.refl W1.heap.size W1).drew));have RD:=Lib.hid (R2.out.below ((Below.refl W1.heap.size W1).drew) R2.out.lt);refine Sc.start (fun W=>Below w.heap.size w W) [(false,0),(false,1),(false,2),(false,3),(false,4),(false,5),(false,6),(true,7),(true,8),(true,9),(true,10),(false,11)] (by kernel_rfl) (by kernel_rfl) (by kernel_rfl) BD.out ?_;dsimp only [Sd.picks,List.getElem?_cons_succ,List.getElem?_cons_zero]
    repeat (refine Sd.lit ?_;quiet_step (fail);refine wpQuiet_nil ?_)
    clear sO I2 R2;generalize W1.drew=Wd at *;refine Sd.call (by rfl) (fun K hK=>?_);refine wp_load_row 113 _ rfl g1 rfl _ _ _ _ RD.out Tryz.underlying113 rfl (info_of F) ?_;refine hK _ _ (Sc.Cl.of BD.out) ?_;clear hK K;have SA:=Lib.hid (spans_any Wd _ _ _ _ (S5.out.below BD.out) CA.out.good (224 * (k:Int)) (by omega) (by omega) F);refine Sd.call (by rfl) (fun K hK=>?_);go_simp;refine SA.out.mono ?_;rintro e w5 ⟨v5,l,rfl,own5,p5,b5'⟩;have LK:=Lib.hid (low_spans HF.out p5);have PL:=Lib.hid p5.1;have B5:=Lib.hid (BD.out.trans (b5'.mono BD.out.size));obtain ⟨la,lc,rfl,_,_⟩:=own5.slice;refine hK _ _ (Sc.Cl.of B5.out) ?_;clear hK K p5 SA;refine Sd.call (by rfl) (fun K hK=>?_);go_simp;have BL:=b5'.alloc b5'.size (.cells #[.slice la l.length lc] 95);have I5:=Lib.hid (ID.out.below BL);have O5:=Lib.hid ((own_low own5 BD.out.size).alloc (.cells #[.slice la l.length lc] 95));have N6:=Lib.hid (heap_alloc_new w5 (.cells #[.slice la l.length lc] 95));have B6:=Lib.hid (B5.out.alloc B5.out.size (.cells #[.slice la l.length lc] 95));refine hK _ _ (Sc.Cl.of B6.out) ?_;clear hK K own5 b5' BL ID BD RD B5;have FEW:=Lib.hid (made_few PL.out (fun u h=>(LK.out u).1 h) (fun u h=>lowK_at h));have hh:Hid (Value.slice la l.length lc=sl (la,l.length,lc)):=Lib.hid rfl;generalize hln:l.length=ln at *;have HLN:=Lib.hid hln;clear hln;generalize w5.heap.size=g5 at *;generalize (w5.alloc (.cells #[.slice la ln lc] 95))=W6 at *;refine Sd.call (by rfl) (fun K hK=>?_);refine wp_push_at (K:=KS) Tryz.underlying182 infoP rfl (by omega) _ _ rfl w.heap.size _ _ rfl I5.out.own _ (la,ln,lc) rfl ?d1 ?d2 ?d3 ?_
    case d1 =>
     intro j u hu
     match j,hu with
     | 0,hu=>simp [KS] at hu;subst hu;exact row_cell N6.out 0
     | j+1,hu=>simp [KS] at hu
    case d2=>have:=I5.out.len;omega
    case d3=>have:=I5.out.bel.size;exact this
    intro v' w6 o6 g6 h6
    have NEW:Hid (HdI w v' (hs ++ [(la,ln,lc)]) (ls ++ [l]) (LowUp S T V P O n (k+1)) (k+1) w6):=Lib.hid (I5.out.push (by rw [← hh.out];exact O5.out) (by rw [HLN.out];exact FEW.out) o6 g6 (fun u=>by rw [YY.out u,LK.out u]));refine hK _ _ (Sc.Cl.of NEW.out.bel) ?_;clear hK K o6 g6 h6 I5 O5 B6 N6;obtain ⟨av',cv',rfl,_⟩:=NEW.out.slice;generalize (hs ++ [(la,ln,lc)]).length=Lp' at *
    repeat (refine Sd.lit ?_;quiet_step (fail);refine wpQuiet_nil ?_)
    refine Sd.done ?_;go_wp2
    go_roundw
    case rel=>exact ⟨k+1,_,_,by omega,by omega,by go_num,NEW⟩
    case measure=>simp [intOf];omega
   ·have I3:=Lib.hid (I2.out.to (NK.out hall))
    clear YK NK WK I2 R2
    cases ok with
    | false =>
      clear hall
      go_wp2_with ((with_reducible refine store_new (o:=⟨none,_,_,_,_,_⟩) rfl _ _ rfl F ?_ ?_ ?_);(exact rfl);(exact rfl))
      go_roundw
      case rel=>exact ⟨k+1,_,_,by omega,by omega,by go_num,I3⟩
      case measure=>simp [intOf];omega
    | true =>
      have hmj:(m == j)=false:=by simpa using hall
      clear hall
      go_wp2_with ((with_reducible refine store_new (o:=⟨none,_,_,_,_,_⟩) rfl _ _ rfl F ?_ ?_ ?_);(exact rfl);(exact rfl))
      go_roundw
      case rel=>exact ⟨k+1,_,_,by omega,by omega,by go_num,I3⟩
      case measure=>simp [intOf];omega
  ·obtain rfl:k=17:=by omega
   have J:=Lib.hid (join_any wr _ ls I.out.rows (I.out.tot (by omega)));have BI:=Lib.hid I.out.bel;have IJ:=Lib.hid (fun x hx=>I.out.join (x:=x) hx);clear I;generalize hs.length=Lp at *;go_wp2_with fail;refine J.out.mono ?_;rintro e w1 ⟨v1,l,rfl,own1,hj,b1⟩;have OW:=Lib.hid (own_low own1 BI.out.size);have PO:=Lib.hid (IJ.out l hj);have B1:=Lib.hid (BI.out.trans (b1.mono BI.out.size));clear own1 hj b1 J;go_wp2
   go_ret
   exact ⟨_,l,rfl,OW.out,⟨PO.out.1,fun u=>(PO.out.2 u).trans (END.out u)⟩,B1.out⟩
set_option maxHeartbeats 1000000 in
theorem line_any {w:World} {vs vt vl vp vo:Value} {S:Sts} {T:LL} {V:List Bool} {P:List S2} {O:List Osc} (H:Bn w vs vt vl vp vo S T V P O) :
 Calls Tryz.prog 81 #[vs,vt,vl,vp,vo] w (Made w (LineP S T V P O)):=by
 have SA:=Lib.hid (fun W b j=>sends_any (H.below (w':=W) b) j);have END:Hid (∀ u,LowTo S T V P O S.length u↔LowL (frs S T V P O) u):=Lib.hid (fun u=>by rw [lowL_iff H.ns.ok,H.ns.lt];exact Iff.rfl);have NX:Hid (∀ k u,LowTo S T V P O (k+1) u↔LowTo S T V P O k u∨LowJ S T V P O k u):=Lib.hid lowTo_next;have I0:Hid (HdI w (.slice none 0 0) [] [] (LowTo S T V P O 0) 0 w):=Lib.hid (HdI.start w (Below.refl _ _) fun u h=>by obtain ⟨j,hj,_⟩:=h;omega);have few:=H.few;obtain ⟨sa,cs,rfl,ms⟩:=H.ns.st.slice;unfold maxLen at ms;clear H;generalize S.length=n at *;unfold LineP
 go_enter Tryz.func81,Tryz.ntmps81
 go_wp2
 go_loopw [15,11] (fun i v wr=>∃ (k:Nat) (hs:List Hd) (ls:List (List S2)),k≤n∧i = .int .i64 k∧Hid (HdI w v hs ls (LowTo S T V P O k) k wr)) (fun i _ _=>n - (intOf i).toNat)
 case atStart=>exact ⟨0,[],[],Nat.zero_le _,rfl,I0⟩
 case round =>
  obtain ⟨k,hs,ls,hk,rfl,I⟩:=hrel;clear I0;obtain ⟨av,cv,rfl,_⟩:=I.out.slice
  by_cases hlt:k < n
  ·have SK:=Lib.hid (SA.out wr I.out.bel (k:Int))
   have NK:=Lib.hid (NX.out k);have IL:=Lib.hid I.out.len;generalize hs.length=lh at *;go_wp2_with fail;refine SK.out.mono ?_;rintro e w5 ⟨v5,l,rfl,own5,p5,b5⟩;have PL:=Lib.hid p5.1;have LK:=Lib.hid p5.2;have B5:=Lib.hid (I.out.bel.trans (b5.mono I.out.bel.size));obtain ⟨la,lc,rfl,_,_⟩:=own5.slice;have BL:=b5.alloc b5.size (.cells #[.slice la l.length lc] 95);have I5:=Lib.hid (I.out.below BL);have O5:=Lib.hid ((own_low own5 I.out.bel.size).alloc (.cells #[.slice la l.length lc] 95));have FEW:=Lib.hid (made_few PL.out (fun u h=>(LK.out u).1 h) (fun u h=>lowJ_at h));have hh:Hid (Value.slice la l.length lc=sl (la,l.length,lc)):=Lib.hid rfl;clear own5 p5 b5 BL SK;generalize hln:l.length=ln at *;have HLN:=Lib.hid hln;clear hln
   go_wp2_with (at_builtin;refine push_at (K:=KS) Tryz.underlying182 infoP rfl (by omega) rfl _ _ rfl w.heap.size _ _ rfl I5.out.own _ (la,ln,lc) rfl ?d1 ?d2 ?d3 ?_)
   case d1 =>
    intro j u hu
    match j,hu with
    | 0,hu=>simp [KS] at hu;subst hu;unfold sl;go_simp
    | j+1,hu=>simp [KS] at hu
   case d2=>have:=I5.out.len;omega
   case d3=>have:=I5.out.bel.size;exact this
   intro v' w6 o6 g6 h6
   have NEW:Hid (HdI w v' (hs ++ [(la,ln,lc)]) (ls ++ [l]) (LowTo S T V P O (k+1)) (k+1) w6):=Lib.hid (I5.out.push (by rw [← hh.out];exact O5.out) (by rw [HLN.out];exact FEW.out) o6 g6 (fun u=>by rw [NK.out u,LK.out u]));clear o6 g6 h6 I5 O5 I;obtain ⟨av',cv',rfl,_⟩:=NEW.out.slice;generalize (hs ++ [(la,ln,lc)]).length=Lp' at *;go_wp2
   go_roundw
   case rel=>exact ⟨k+1,_,_,by omega,by go_num,NEW⟩
   case measure=>simp [intOf];omega
  ·obtain rfl:k=n:=by omega
   have J:=Lib.hid (join_any wr _ ls I.out.rows (I.out.tot (by omega)));have BI:=Lib.hid I.out.bel;have IJ:=Lib.hid (fun x hx=>I.out.join (x:=x) hx);clear I;generalize hs.length=Lp at *;go_wp2_with fail;refine J.out.mono ?_;rintro e w1 ⟨v1,l,rfl,own1,hj,b1⟩;have OW:=Lib.hid (own_low own1 BI.out.size);have PO:=Lib.hid (IJ.out l hj);have B1:=Lib.hid (BI.out.trans (b1.mono BI.out.size));clear own1 hj b1 J;go_wp2
   go_ret
   exact ⟨_,l,rfl,OW.out,⟨PO.out.1,fun u=>(PO.out.2 u).trans (END.out u)⟩,B1.out⟩
end Go.Proofs.YtljnkaodhfnbbaaGreatDoor.Bu
namespace Go.Proofs.YtljnkaodhfnbbaaGreatDoor.Sa
open Go.RowKit Go.Proofs.YtljnkaodhfnbbaaGreatDoor.Sp
open Tk (GoodP Glo goodB goodB_true)
open Wi (PlainOf lowB Made push_step)
open Ua (arr upd Row no copy_frame results_frame ret_arr below_setRow store_new)
def hf (low:Int→Bool) (g:Int→Int) (N:Int) (k i:Nat):Bool:=if i < k then heard low g N i else false
theorem hf_0 (low:Int→Bool) (g:Int→Int) (N:Int) (i:Nat):false=hf low g N 0 i:=by unfold hf;rw [if_neg (by omega)]
theorem hf_all (low:Int→Bool) (g:Int→Int) (N:Int) (i:Nat) (h:i < 11):hf low g N 11 i=heard low g N i:=by unfold hf;rw [if_pos h]
theorem hf_step (low:Int→Bool) (g:Int→Int) (N:Int) (k:Nat) {x:Bool} (e:x=heard low g N k) (i:Nat):upd (hf low g N k) k x i=hf low g N (k+1) i:=by
 unfold upd hf
 by_cases c:i=k
 ·subst c;rw [if_pos rfl,if_pos (by omega),e]
 ·rw [if_neg c]
  by_cases d:i < k
  ·rw [if_pos d,if_pos (by omega)]
  ·rw [if_neg d,if_neg (by omega)]
end Go.Proofs.YtljnkaodhfnbbaaGreatDoor.Sa
namespace Go.Proofs.YtljnkaodhfnbbaaGreatDoor.Sa
open Go.RowKit Go.Proofs.YtljnkaodhfnbbaaGreatDoor.Sp
open Tk (GoodP Glo global_any local_any)
open Wi (PlainOf lowB high_any fall_any FallV FallPost)
open Ua (arr upd Row Two two_new no tb tp te take_any copy_frame results_frame ret_arr ret_three below_setRow store_new)
def hi (low:Int→Bool) (g:Int→Int) (b:Int):Nat→Nat
 | 0=>0
 | k+1=>hi low g b k+(if low (g (b+7+k)) then 0 else 1)
theorem hi_le (low:Int→Bool) (g:Int→Int) (b:Int):∀ k,hi low g b k≤k
 | 0=>Nat.le_refl _
 | k+1=>by have:=hi_le low g b k;unfold hi;split <;> omega
theorem hi_low {low:Int→Bool} {g:Int→Int} {b:Int} {k:Nat} (h:low (g (b+7+k))=true):hi low g b (k+1)=hi low g b k:=by rw [hi,if_pos h,Nat.add_zero]
theorem hi_high {low:Int→Bool} {g:Int→Int} {b:Int} {k:Nat} (h:low (g (b+7+k))=false):hi low g b (k+1)=hi low g b k+1:=by rw [hi,if_neg (by simp [h])]
theorem hi_maj (low:Int→Bool) (g:Int→Int) (b:Int):decide ((1:Int) < (hi low g b 3:Nat))=maj (!low (g (b+7))) (!low (g (b+8))) (!low (g (b+9))):=by
 have e:hi low g b 3=0+(if low (g (b+7)) then 0 else 1)+(if low (g (b+8)) then 0 else 1)+(if low (g (b+9)) then 0 else 1):=by
  show 0+(if low (g (b+7+(0:Nat))) then 0 else 1)+(if low (g (b+7+(1:Nat))) then 0 else 1)+(if low (g (b+7+(2:Nat))) then 0 else 1)=_
  rw [show b+7+((0:Nat):Int)=b+7 by omega,show b+7+((1:Nat):Int)=b+8 by omega,show b+7+((2:Nat):Int)=b+9 by omega]
 rw [e]
 cases low (g (b+7)) <;> cases low (g (b+8)) <;> cases low (g (b+9)) <;> rfl
set_option maxHeartbeats 400000 in
theorem mostly_any (w:World) (v u:Value) (l:List S2) (P:Sp w v l) (n:Nat) (A R:Nat→Int) (S:Tk.Steps w u n A R) (g:GoodP n A R) (b:Int) (b0:0≤b) (b1:b≤5000000000) :
 Calls Tryz.prog 152 #[v,u,.int .i64 b] w fun e w'=>e = .returned (.bool (maj (!lowB l (Glo A R n (b+7))) (!lowB l (Glo A R n (b+8))) (!lowB l (Glo A R n (b+9)))))∧Below w.heap.size w w':=by
 have P0:=Lib.hid P;have S0:=Lib.hid S;have G:=Lib.hid g;have HM:=Lib.hid (hi_maj (lowB l) (Glo A R n) b);clear P S g
 go_enter Tryz.func152,Tryz.ntmps152
 go_wp2
 go_loopw [7,9] (fun h i wr=>∃ k:Nat,k≤3∧i = .int .i64 k∧h = .int .i64 (hi (lowB l) (Glo A R n) b k:Nat)∧Below w.heap.size w wr) (fun _ i _=>3 - (intOf i).toNat)
 case atStart=>exact ⟨0,by omega,rfl,rfl,Below.refl _ _⟩
 case round =>
  obtain ⟨k,hk,rfl,rfl,hb⟩:=hrel;have q:=hi_le (lowB l) (Glo A R n) b k;have HB:=Lib.hid hb
  by_cases hlt:k < 3
  ·have s1:=Lib.hid (S0.out.below hb)
   have p1:=Lib.hid (P0.out.below hb);clear hb;go_wp2_with fail;refine (global_any _ _ _ _ _ (b+7+k) s1.out G.out).mono ?_;rintro e w1 ⟨rfl,c1⟩;have p2:=Lib.hid (p1.out.below c1);have B1:=Lib.hid (HB.out.trans (c1.mono HB.out.size));clear c1
   cases hL:lowB l (Glo A R n (b+7+k)) with
   | true =>
     have E:=Lib.hid (hi_low hL);have HA:=Lib.hid (high_any _ _ _ p2.out (Glo A R n (b+7+k)));rw [hL] at HA;clear hL;go_wp2_with fail;refine HA.out.mono ?_;rintro e w2 ⟨rfl,c2⟩;have B2:=Lib.hid (B1.out.trans (c2.mono B1.out.size));clear c2;go_wp2
     go_roundw
     case rel=>exact ⟨k+1,by omega,by go_num,by rw [E.out],B2.out⟩
     case measure=>simp [intOf];omega
   | false =>
     have E:=Lib.hid (hi_high hL);have HA:=Lib.hid (high_any _ _ _ p2.out (Glo A R n (b+7+k)));rw [hL] at HA;clear hL;go_wp2_with fail;refine HA.out.mono ?_;rintro e w2 ⟨rfl,c2⟩;have B2:=Lib.hid (B1.out.trans (c2.mono B1.out.size));clear c2;go_wp2
     go_roundw
     case rel=>exact ⟨k+1,by omega,by go_num,by rw [E.out];go_num,B2.out⟩
     case measure=>simp [intOf];omega
  ·obtain rfl:k=3:=by omega
   clear hb;generalize hi (lowB l) (Glo A R n) b 3=h at *;go_wp2
   go_ret
   exact ⟨Ua.ret_bool HM.out,HB.out⟩
set_option maxHeartbeats 400000 in
theorem bits_any (w:World) (v u:Value) (l:List S2) (P:Sp w v l) (n:Nat) (A R:Nat→Int) (S:Tk.Steps w u n A R) (g:GoodP n A R) (t:Int) :
 Calls Tryz.prog 97 #[v,u,.int .i64 t] w fun e w'=>e = .returned (.agg (arr (heard (lowB l) (Glo A R n) (Tk.Loc A R n t))))∧Below w.heap.size w w':=by
 have T0:=Lib.hid (two_new w (hf (lowB l) (Glo A R n) (Tk.Loc A R n t) 0) (fun i _=>hf_0 _ _ _ i));have P0:=Lib.hid P;have S0:=Lib.hid S;have G:=Lib.hid g;have N:=Loc_all A R n g t;have z2:((w.alloc (.cells (arr no) 113)).alloc (.cells (arr no) 113)).heap.size=w.heap.size+1+1:=by simp
 have LA:=Lib.hid (local_any _ u n A R (S.below T0.out.2.2) g t);clear P S g
 go_enter Tryz.func97,Tryz.ntmps97
 go_wp2_with fail;refine LA.out.mono ?_;rintro e w1 ⟨rfl,b1⟩;have T1:=Lib.hid (T0.out.below b1);clear b1 LA T0;generalize hL:Tk.Loc A R n t=L at *;have HL:=Lib.hid hL;clear hL;obtain ⟨N0,N1⟩:=N;go_wp2
 go_loopw [13] (fun i wr=>∃ k:Nat,k≤11∧i = .int .i64 k∧Hid (Two w wr (hf (lowB l) (Glo A R n) L k))) (fun i _=>11 - (intOf i).toNat)
 case atStart=>exact ⟨0,by omega,rfl,T1⟩
 case round =>
  obtain ⟨k,hk,rfl,T⟩:=hrel
  by_cases hlt:k < 11
  ·have HS:=Lib.hid (fun x (e:x=heard (lowB l) (Glo A R n) L k)=>hf_step (lowB l) (Glo A R n) L k e)
   have M:=Lib.hid (mostly_any wr v u l (P0.out.below T.out.2.2) n A R (S0.out.below T.out.2.2) G.out (L+16 * k) (by omega) (by omega));go_wp2_with fail;refine M.out.mono ?_;rintro e w2 ⟨rfl,b2⟩;have T2:=Lib.hid (T.out.below b2);have c:=T2.out.2.1.cell k (by omega);have f:=T2.out.2.1.frozen k;clear b2 M;go_wp2
   go_roundw
   case rel=>exact ⟨k+1,by omega,by go_num,Lib.hid ((T2.out.set_ k (by omega) _).to (fun i _=>HS.out _ rfl i))⟩
   case measure=>simp [intOf];omega
  ·obtain rfl:k=11:=by omega
   go_wp2_with ((with_reducible refine copy_frame (o:=⟨some 26,_,_,_,_,_⟩) rfl rfl _ _ _ rfl rfl rfl _ _ _ _ ?_ ?_ ?_ T.out.frame T.out.res ?_);(exact rfl);(exact rfl);(exact rfl))
   refine bodyPost_ret (results_frame rfl _ _ _ _ rfl (T.out.1.row _)) rfl ⟨ret_arr fun i hi=>by rw [HL.out];exact hf_all _ _ _ i hi,?_⟩;exact below_setRow T.out.2.2 _ _ (Nat.le_refl _)
noncomputable def HearV (x l:List S2) (A R:Nat→Int) (n:Nat) (f t:Int):Int×Bool×Int :=
 if (FallV x f t).2 then (tb (heard (lowB l) (Glo A R n) (Tk.Loc A R n (FallV x f t).1)),tp (heard (lowB l) (Glo A R n) (Tk.Loc A R n (FallV x f t).1)),te (heard (lowB l) (Glo A R n) (Tk.Loc A R n (FallV x f t).1))) else (0,false,3)
theorem hear_no {x l:List S2} {A R:Nat→Int} {n:Nat} {f t p:Int} (h:FallV x f t=(p,false)):(0,false,3)=HearV x l A R n f t:=by
 unfold HearV;rw [h];rfl
theorem hear_yes {x l:List S2} {A R:Nat→Int} {n:Nat} {f t p:Int} (h:FallV x f t=(p,true)):(tb (heard (lowB l) (Glo A R n) (Tk.Loc A R n p)),tp (heard (lowB l) (Glo A R n) (Tk.Loc A R n p)),te (heard (lowB l) (Glo A R n) (Tk.Loc A R n p)))=HearV x l A R n f t:=by
 unfold HearV;rw [h];rfl
def HearPost (w:World) (l:List S2) (A R:Nat→Int) (n:Nat) (f t:Int) (e:Ending) (w':World):Prop :=
 ∃ x,PlainOf l x∧e = .returned (.tuple #[.int .u8 (HearV x l A R n f t).1,.bool (HearV x l A R n f t).2.1,.int .i64 (HearV x l A R n f t).2.2])∧Below w.heap.size w w'
theorem ret_hear {a c:Int} {b:Bool} {q:Int×Bool×Int} (h:(a,b,c)=q):Ending.returned (.tuple #[.int .u8 a,.bool b,.int .i64 c]) = .returned (.tuple #[.int .u8 q.1,.bool q.2.1,.int .i64 q.2.2]):=by rw [← h]
set_option maxHeartbeats 400000 in
theorem hear_any (w:World) (v u:Value) (l:List S2) (P:Sp w v l) (hl:l.length < 1099511627776) (n:Nat) (A R:Nat→Int) (S:Tk.Steps w u n A R) (g:GoodP n A R) (f t:Int) :
 Calls Tryz.prog 39 #[v,u,.int .i64 f,.int .i64 t] w (HearPost w l A R n f t):=by
 have P0:=Lib.hid P;have S0:=Lib.hid S;have G:=Lib.hid g;clear P S g
 go_enter Tryz.func39,Tryz.ntmps39
 go_wp2_with fail;refine (fall_any _ _ _ P0.out hl f t).mono ?_;rintro e w1 ⟨x,hx,rfl,b1⟩;have PX:=Lib.hid hx;have B1:=Lib.hid b1;have P1:=Lib.hid (P0.out.below b1);have S1:=Lib.hid (S0.out.below b1);clear b1 hx P0 S0;generalize hv:FallV x f t=q;obtain ⟨p,y⟩:=q
 cases y with
 | false =>
   have E:=Lib.hid (hear_no (l:=l) (A:=A) (R:=R) (n:=n) hv);clear hv;go_wp2
   go_ret3
   exact ⟨x,PX.out,ret_hear E.out,B1.out⟩
 | true =>
   have E:=Lib.hid (hear_yes (l:=l) (A:=A) (R:=R) (n:=n) hv);clear hv;go_wp2_with fail;refine (bits_any _ _ _ _ P1.out _ _ _ S1.out G.out p).mono ?_;rintro e w2 ⟨rfl,b2⟩;have B2:=Lib.hid (B1.out.trans (b2.mono B1.out.size));clear b2;generalize heard (lowB l) (Glo A R n) (Tk.Loc A R n p)=F at *;go_wp2_with fail;refine (take_any _ F).mono ?_;rintro e w3 ⟨rfl,b3⟩;have B3:=Lib.hid (B2.out.trans (b3.mono B2.out.size));clear b3;go_wp2
   go_ret3
   exact ⟨x,PX.out,ret_hear E.out,B3.out⟩
end Go.Proofs.YtljnkaodhfnbbaaGreatDoor.Sa
namespace Go.Proofs.YtljnkaodhfnbbaaGreatDoor.Bu
open Go.RowKit Go.Maps
open Sp (S2 fr tp Sp)
open Wi (Plain PlainOf Low)
open Tk (GoodP Glo global_any)
open Pa (Hr hput HBl HMap H1 hbl_new at_hput wf_of)
open Sa (hear_any HearPost)
attribute [local irreducible] Sd.wpSd wpQuiet
def HeardPost (w:World) (h:Hr) (e:Ending) (w':World):Prop:=∃ b,e = .returned (.map (some b))∧HMap w' (.map (some b)) h∧Below w.heap.size w w'
theorem hear_at {l:List S2} {r:Osc} (hp:Plain l) {W w':World} {e:Ending} {k:Nat} (h:HearPost W l r.A r.R r.n (Glo r.A r.R r.n (224 * (k:Int) - 20)) (Glo r.A r.R r.n (224 * (k:Int)+20)) e w') :
 e = .returned (.tuple #[.int .u8 (lisS l l r k).1,.bool (lisS l l r k).2.1,.int .i64 (lisS l l r k).2.2])∧Below W.heap.size W w':=by
 obtain ⟨x,hx,he,hb⟩:=h;obtain rfl:=hx.one ⟨hp,fun _=>Iff.rfl⟩;exact ⟨he,hb⟩
set_option maxHeartbeats 1000000 in
theorem heard_any {w:World} {v u:Value} {l:List S2} (P:Sp w v l) (hp:Plain l) (hl:l.length≤4294967297) {r:Osc} (S:Tk.Steps w u r.n r.A r.R) (c:r.calm):Calls Tryz.prog 83 #[v,u] w (HeardPost w (lis l l r)):=by
 have G:GoodP r.n r.A r.R:=Sa.Calm.good c;have GL:=Lib.hid (fun W b m=>global_any W u r.n r.A r.R m (S.below (w':=W) b) G);have HE:=Lib.hid (fun W b (k:Nat)=>(hear_any W v u l (P.below (w':=W) b) (by omega) r.n r.A r.R (S.below b) G (Glo r.A r.R r.n (224 * (k:Int) - 20)) (Glo r.A r.R r.n (224 * (k:Int)+20))).mono fun e w' h=>hear_at hp h);have YY:Hid (∀ k:Nat,1≤k→k≤16→(lisS l l r k).2.2=0→(lisS l l r k).2.1=false→hput (lowH (lis l l r) k) k (lisS l l r k).1=lowH (lis l l r) (k+1)):=Lib.hid (fun k h1 h2 e o=>low_yes h1 (lis_yes (by omega) (by omega) e o));have NN:Hid (∀ k:Nat,¬ ((lisS l l r k).2.2=0∧(lisS l l r k).2.1=false)→lowH (lis l l r) k=lowH (lis l l r) (k+1)):=Lib.hid (fun k h=>low_no (lis_no h));have EN:Hid (lowH (lis l l r) 17=lis l l r):=Lib.hid (low_end fun n h=>lis_out h);have M0:Hid (H1 w w.heap.size 1 (lowH (lis l l r) 1) (w.alloc (.map #[] 0))):=Lib.hid ⟨⟨0,by rw [low_one];exact hbl_new w,by omega⟩,Nat.le_refl _,(Below.refl w.heap.size w).alloc (Nat.le_refl _) _⟩;clear P hp hl S c G;generalize lis l l r=h at *;have hmm:=@run_makeMap Tryz.prog
 go_enter Tryz.func83,Tryz.ntmps83
 go_wp2;clear hmm;generalize (w.alloc (.map #[] 0))=W0 at *;generalize hb0:w.heap.size=b at M0 ⊢;have HB0:=Lib.hid hb0;clear hb0
 go_loopw [6] (fun i wr=>∃ k:Nat,1≤k∧k≤17∧i = .int .i64 k∧Hid (H1 w b k (lowH h k) wr)) (fun i _=>17 - (intOf i).toNat)
 case atStart=>exact ⟨1,by omega,by omega,rfl,M0⟩
 case round =>
  obtain ⟨k,hk1,hk,rfl,I⟩:=hrel;clear M0
  by_cases hlt:k < 17
  ·have K1:=Lib.hid (GL.out wr I.out.bel (224 * (k:Int) - 20))
   go_wp2_with fail;refine K1.out.mono ?_;rintro e w1 ⟨rfl,b1⟩;have I1:=Lib.hid (I.out.below b1);have K2:=Lib.hid (GL.out w1 I1.out.bel (224 * (k:Int)+20));clear b1 K1 I;go_wp2_with fail;refine K2.out.mono ?_;rintro e w2 ⟨rfl,b2⟩;have I2:=Lib.hid (I1.out.below b2);have K3:=Lib.hid (HE.out w2 I2.out.bel k);have YK:=Lib.hid (YY.out k hk1 (by omega));have NK:=Lib.hid (NN.out k);have WK:=Lib.hid (wf_of (n:=(k:Int)) ⟨by omega,by omega⟩);clear b2 K2 I1;generalize lisS l l r (k:Int)=q at *;obtain ⟨y,o,z⟩:=q;simp only at YK NK K3;go_wp2_with fail;refine K3.out.mono ?_;rintro e w3 ⟨rfl,b3⟩;have I3:=Lib.hid (I2.out.below b3);clear b3 K3 I2
   by_cases hz:z=0
   ·cases o with
    | false =>
      have EQ:=Lib.hid (YK.out hz rfl);clear YK NK;subst hz;obtain ⟨N,m,hN⟩:=I3.out.mp;have M2:=Lib.hid m;have LO:=Lib.hid I3.out.lo;have BE:=Lib.hid I3.out.bel;clear m I3
      go_wp2_with (first
       | (at_mapUpdate;refine at_hput rfl _ _ _ rfl rfl M2.out (by unfold maxLen;omega) (k:Int) y rfl rfl WK.out ?_;intro w4 m4 g4)
       | fail)
      have I4:Hid (H1 w b (k+1) (lowH h (k+1)) w4):=Lib.hid ⟨⟨N+1,by rw [← EQ.out];exact m4,by omega⟩,LO.out,BE.out.grown g4 BE.out.size (fun j e=>by injection e with e;have:=LO.out;omega)⟩;clear m4 g4 M2 EQ BE LO;go_wp2
      go_roundw
      case rel=>exact ⟨k+1,by omega,by omega,by go_num,I4⟩
      case measure=>simp [intOf];omega
    | true =>
      have EQ:=Lib.hid (NK.out (by simp));have I4:Hid (H1 w b (k+1) (lowH h (k+1)) w3):=Lib.hid ⟨by obtain ⟨N,m,hN⟩:=I3.out.mp;exact ⟨N,by rw [← EQ.out];exact m,by omega⟩,I3.out.lo,I3.out.bel⟩;clear YK NK EQ I3;subst hz;go_wp2
      go_roundw
      case rel=>exact ⟨k+1,by omega,by omega,by go_num,I4⟩
      case measure=>simp [intOf];omega
   ·have EQ:=Lib.hid (NK.out fun g=>hz g.1)
    have I4:Hid (H1 w b (k+1) (lowH h (k+1)) w3):=Lib.hid ⟨by obtain ⟨N,m,hN⟩:=I3.out.mp;exact ⟨N,by rw [← EQ.out];exact m,by omega⟩,I3.out.lo,I3.out.bel⟩;have d0:(z == 0)=false:=by simpa using hz
    clear YK NK EQ I3;go_wp2
    go_roundw
    case rel=>exact ⟨k+1,by omega,by omega,by go_num,I4⟩
    case measure=>simp [intOf];omega
  ·obtain rfl:k=17:=by omega
   rw [EN.out] at I;have RES:Hid (HeardPost w h (.returned (.map (some b))) wr):=Lib.hid ⟨b,rfl,by obtain ⟨⟨N,m,_⟩,_,_⟩:=I.out;exact ⟨b,N,rfl,m⟩,I.out.bel⟩;clear I;go_wp2
   go_ret
   exact RES.out
end Go.Proofs.YtljnkaodhfnbbaaGreatDoor.Bu
namespace Go.Proofs.YtljnkaodhfnbbaaGreatDoor.Cu
open Go.RowKit Go.Maps
open Sp (S2 fr tp Sp)
open Rw (Rd Ow At)
open Wi (Plain PlainOf Low Made)
open Fs (Glob CopySt)
open Ro (may_len)
open Ck (LL lat tE RdL may_all)
open Bu (Osc osc OsL buE buL buE_wild buE_ok buE_wrong rdE_zero calmLB of_calmLB calm_any Bn line_any LineP lis lis_is osc_calm plain_few lowL_at heard_any HeardPost)
open Pa (Sts Stl Ns K2 KB KN ptr sat vat hr rdE rdL rdS rdS_at rdS_len hr_ok round_any RoundPost apply_any ApPost copy_has infoN push_at wp_push_at HMap tab_each not_bad atB)
open Fl (row_cell)
attribute [local irreducible] Sd.wpSd wpQuiet
set_option maxHeartbeats 4000000 in
theorem broundF_any {w:World} {vs vt vl vp vo:Value} {S:Sts} {T:LL} {V:List Bool} {P:List S2} {O:List Osc} (HS:Stl w vs S) (HT:RdL w vt T) (HV:Rd KB w vl V) (RP:Rd K2 w vp P) (HO:OsL w vo O) (hg:Glob w) (hd:∀ i,i < S.length→0≤(sat S i).2∧(sat S i).2 < 900000) :
 Calls Tryz.prog 30 #[vs,vt,vl,vp,vo] w (BrP w (buE S T V O) (buL S T V P O)):=by
 have RO:=Lib.hid (round_any HS HT HV RP hg hd);unfold RoundPost at RO;obtain ⟨sa,cs,rfl,ms⟩:=HS.slice;obtain ⟨oa,co,rfl,mo1,mo⟩:=HO.slice;unfold maxLen at ms mo;have OS:=Lib.hid HO;have HS0:=Lib.hid HS;have HT0:=Lib.hid HT;have HV0:=Lib.hid HV;have RP0:=Lib.hid RP;have GG:=Lib.hid hg;have DD:=Lib.hid hd;clear HS HT HV RP HO hg hd
 by_cases hE:rdE S T V=0
 ·obtain ⟨f1,f2,f3,f4,f5⟩:=rdE_zero hE
  have WILD:Hid (¬ (O.length=S.length∧calmLB O=true)→∀ w',Below w.heap.size w w'→BrP w (buE S T V O) (buL S T V P O) (.returned (.tuple #[.slice none 0 0,.int .i64 1])) w'):=Lib.hid (fun h w' b=>by
   obtain ⟨e1,e2⟩:=buE_wild (P:=P) hE h;rw [e1]
   exact ⟨_,[],fun _ _=>False,rfl,fun e=>absurd e (by decide),fun _=>rfl,b⟩)
  by_cases hl:O.length=S.length
  ·have CA:=Lib.hid (fun W b=>calm_any W _ O (OS.out.below (w':=W) b))
   cases hc:calmLB O with
   | false =>
     have WL:=Lib.hid (WILD.out (by rw [hc];simp));rw [hE] at RO;rw [hc] at CA;generalize buE S T V O=be at *;generalize buL S T V P O=bl at *;generalize rdL S T V P=rl at *;rw [hl] at CA ⊢;clear WILD OS HS0;generalize S.length=n at *
     go_enter Tryz.func30,Tryz.ntmps30
     go_wp2_with fail;refine RO.out.mono ?_;rintro e w1 ⟨v1,rfl,_,b1⟩;have C1:=Lib.hid (CA.out w1 b1);have B1:=Lib.hid b1;clear b1 CA RO;go_wp2_with fail;refine C1.out.mono ?_;rintro e w2 ⟨rfl,b2⟩;have RES:=Lib.hid (WL.out w2 (B1.out.trans (b2.mono B1.out.size)));clear b2 C1 WL;go_wp2
     go_ret2
     exact RES.out
   | true =>
     obtain ⟨e1,e2⟩:=buE_ok (P:=P) hE hl hc;have cl:=of_calmLB hc;have BN:Hid (Bn w (.slice sa S.length cs) vt vl vp (.slice oa O.length co) S T V P O):=Lib.hid ⟨⟨HS0.out,HT0.out,HV0.out,f3,f4,f5⟩,RP0.out,OS.out,hl,f2,cl⟩;have LN:=Lib.hid (fun W b=>line_any (BN.out.below (w':=W) b));have LQ:Hid (∀ l,LineP S T V P O l→∀ k:Nat,k < S.length→lis l l (osc O k)=hr S T V P):=Lib.hid (fun l h k hk=>lis_is f5 (by rw [hl,f3]) cl ⟨h.1,fun _=>Iff.rfl⟩ h.2 (osc_calm cl (by omega)));have LF:Hid (∀ l,LineP S T V P O l→l.length≤4294967297):=Lib.hid (fun l h=>plain_few h.1 fun u hu=>lowL_at ((h.2 u).1 hu));have CO:Hid (∀ k:Nat,k < S.length→(osc O k).calm):=Lib.hid (fun k hk=>osc_calm cl (by omega));have OH:=Lib.hid (hr_ok S T V P);rw [hE] at RO;rw [hc] at CA;rw [e1,e2];clear WILD HT0 HV0 RP0;generalize hr S T V P=h at *;have AT:=Lib.hid (fun i hi=>rdS_at S T V h (i:=i) hi);have RL:=Lib.hid (rdS_len S T V h);generalize rdS S T V h=S' at *;generalize rdL S T V P=rl at *;have HL:=Lib.hid hl;have F3:=Lib.hid f3;have F4:=Lib.hid f4;rw [hl] at CA LN BN ⊢;clear hl f3 f4 f5 e1 e2 cl hc hE;generalize hn:S.length=n at *;have HN:=Lib.hid hn;clear hn
     go_enter Tryz.func30,Tryz.ntmps30
     go_wp2_with fail;refine RO.out.mono ?_;rintro e w1 ⟨v1,rfl,_,b1⟩;have C1:=Lib.hid (CA.out w1 b1);have B1:=Lib.hid b1;clear b1 CA RO;go_wp2_with fail;refine C1.out.mono ?_;rintro e w2 ⟨rfl,b2⟩;have B2:=Lib.hid (B1.out.trans (b2.mono B1.out.size));have L2:=Lib.hid (LN.out w2 B2.out);clear b2 C1 B1 LN;go_wp2_with fail;refine L2.out.mono ?_;rintro e w3 ⟨v3,l,rfl,own3,lp,b3⟩;have BW:=Lib.hid (B2.out.trans (b3.mono B2.out.size));have SL3:=Lib.hid own3.sp;have LP:=Lib.hid lp;obtain ⟨la,lc,rfl,_⟩:=SL3.out.slice;clear own3 lp b3 L2 B2;generalize hll:l.length=ln at *;have HLL:=Lib.hid hll;clear hll;go_wp2
     rename World=>wA
     go_loopw [47,15] (fun i o wr2=>∃ (k:Nat) (ps:List Nat) (Fs:Nat→Nat→Prop),k≤n∧i = .int .i64 k∧Hid (PJ 89 wA S' k o ps Fs wr2)) (fun i _ _=>n - (intOf i).toNat)
     case atStart=>exact ⟨0,[],fun _ _=>False,Nat.zero_le _,rfl,PJ.start (Below.refl _ _)⟩
     case round =>
      obtain ⟨k,ps,Fs,hk,rfl,I⟩:=hrel;have BI:=Lib.hid (BW.out.trans (I.out.bel.mono BW.out.size));obtain ⟨av,cv,ev,_⟩:=I.out.own.slice;have OWN:=Lib.hid I.out.own;generalize ps.length=Lp at ev;subst ev
      by_cases hlt:k < n
      ·obtain ⟨b1,o1,c1,s,e1,cS,hS⟩:=BN.out.ns.st.one (k:=k) (by have:=HN.out;omega)
       rw [HN.out] at e1;injection e1 with e1 _ e2;subst e1 e2;obtain ⟨b2,o2,c2,at',ct,e2,cT,_,_⟩:=BN.out.ns.tb.one (k:=k) (by have:=F3.out;omega);have RT:=Lib.hid (BN.out.ns.tb.rd (k:=k) (by have:=F3.out;omega) e2 cT);rw [F3.out] at e2;subst e2;obtain ⟨a3,c3,e3,_,_,h3⟩:=BN.out.ns.lv;rw [F4.out] at e3;subst e3;obtain ⟨b3,o3,rfl,A3⟩:=h3 (by have:=F4.out;omega);have cV:=atB (A3.below BI.out) (i:=k) (by have:=F4.out;omega);rw [show V.getD k false=vat V k from rfl] at cV;obtain ⟨b4,o4,c4,a4,d4,e4,cO,_,s4⟩:=BN.out.os.one (k:=k) (by have:=HL.out;omega);rw [HL.out] at e4;injection e4 with e4 _ e5;subst e4 e5;have S4:=Lib.hid s4;have EA:=Lib.hid (AT.out k (by have:=HN.out;omega));have OKT:=Lib.hid (tab_each BN.out.ns.ok (k:=k) (by have:=F3.out;omega));have ML:=Lib.hid (may_len (may_all (not_bad BN.out.ns.ok) k (by have:=F3.out;omega)));have HS2:Hid (∀ W,Below w.heap.size w W→Pa.Has W s (sat S k)):=Lib.hid (fun W b=>by obtain ⟨F,h⟩:=hS;exact ⟨F,h.below b⟩);have CT:=Lib.hid cT;have CC:=Lib.hid cO;have lT:=World.block_lt_of_cell? _ _ cT;have lO:=World.block_lt_of_cell? _ _ cO;unfold ptr at cS;have sS:=(BI.out.cell (World.block_lt_of_cell? _ _ cS)).trans cS;have LN:=Lib.hid I.out.len;clear hS h3 A3 s4 cS cT cO
       cases hv:vat V k with
       | true =>
         rw [hv] at cV;rw [hv,if_pos rfl] at EA;have EQ:=Lib.hid (LQ.out l LP.out k hlt);have CK:=Lib.hid (CO.out k hlt);generalize hlk:(lat T k).length=lk at *;go_upto_region 12 with fail;clear cV sS;have sT:=Sc.cell_in (C:=fun W=>Below w.heap.size w W) (a:=⟨b2,o2+k,none⟩) (fun W' h=>(h.cell lT).trans CT.out);have sO:=Sc.cell_in (C:=fun W=>Below w.heap.size w W) (a:=⟨b4,o4+k,none⟩) (fun W' h=>(h.cell lO).trans CC.out);have BD:=Lib.hid (BI.out.trans ((Below.refl wr.heap.size wr).drew.mono BI.out.size));have ne:Nonempty (Sc.In (fun W=>Below w.heap.size w W)):=⟨⟨_,BD.out⟩⟩;have ID:=Lib.hid (I.out.below ((Below.refl wr.heap.size wr).drew));refine Sc.start (fun W=>Below w.heap.size w W) [(false,0),(false,1),(false,2),(false,3),(false,4),(false,5),(false,6),(false,7),(false,8),(false,9),(false,10),(true,11),(true,12),(true,13),(true,14),(false,15)] (by kernel_rfl) (by kernel_rfl) (by kernel_rfl) BD.out ?_;dsimp only [Sd.picks,List.getElem?_cons_succ,List.getElem?_cons_zero]
         repeat (refine Sd.lit ?_;quiet_step (fail);refine wpQuiet_nil ?_)
         clear sT sO;generalize wr.drew=Wd at *;have HD:=Lib.hid (heard_any (l:=l) (r:=osc O k) (SL3.out.below ID.out.bel) LP.out.1 (LF.out l LP.out) (S4.out.below BD.out) CK.out);rw [EQ.out] at HD;unfold HeardPost at HD;generalize (osc O k).n=on at *;refine Sd.call (by rfl) (fun K hK=>?_);go_simp;refine HD.out.mono ?_;rintro e w4 ⟨mb,rfl,hm,b4'⟩;have HM:=Lib.hid hm;have B4:=Lib.hid (BD.out.trans (b4'.mono BD.out.size));have I4:=Lib.hid (ID.out.below b4');refine hK _ _ (Sc.Cl.of B4.out) ?_;clear hK K b4' hm HD ID;have AP:=Lib.hid (apply_any (HS2.out w4 B4.out) (GG.out.below B4.out) (DD.out k (by omega)) (RT.out.below B4.out) (fun y hy=>(OKT.out y hy).1) (by have:=ML.out;omega) HM.out OH.out);unfold ApPost at AP;refine Sd.call (by rfl) (fun K hK=>?_);go_simp;refine AP.out.mono ?_;rintro e w5 ⟨g,F5,rfl,st5,lo5,b5⟩;have B5:=Lib.hid (B4.out.trans (b5.mono B4.out.size));refine hK _ _ (Sc.Cl.of B5.out) ?_;clear hK K;unfold ptr;refine Sd.call (by rfl) (fun K hK=>?_);go_simp;have I5:=Lib.hid ((I4.out.pend b5 (by rw [EA.out];exact st5) lo5).below ((Below.refl w5.heap.size w5).alloc (Nat.le_refl _) (.cells #[.pointer (some ⟨g,0,none⟩)] 89)));have N6:=Lib.hid (heap_alloc_new w5 (.cells #[.pointer (some ⟨g,0,none⟩)] 89));have B6:=Lib.hid (B5.out.alloc B5.out.size (.cells #[.pointer (some ⟨g,0,none⟩)] 89));refine hK _ _ (Sc.Cl.of B6.out) ?_;clear hK K st5 lo5 b5 I OWN AP I4 BD;generalize w5.heap.size=g5 at *;generalize (w5.alloc (.cells #[.pointer (some ⟨g,0,none⟩)] 89))=W6 at *;refine Sd.call (by rfl) (fun K hK=>?_);refine wp_push_at (K:=KN) Tryz.underlying78 infoN rfl (by omega) _ _ rfl wA.heap.size _ _ rfl I5.out.old.own _ g rfl ?d1 ?d2 ?d3 ?_
         case d1 =>
          intro j u hu
          match j,hu with
          | 0,hu=>simp [KN] at hu;subst hu;exact row_cell N6.out 0
          | j+1,hu=>simp [KN] at hu
         case d2=>rw [LN.out];omega
         case d3=>have:=I5.out.old.bel.size;exact this
         intro v' w6 o6 g6 h6
         have NEW:=Lib.hid (I5.out.push o6 g6 h6);refine hK _ _ (Sc.Cl.of (BW.out.trans (NEW.out.bel.mono BW.out.size))) ?_;clear hK K o6 g6 h6 I5 B5 B6 N6;obtain ⟨av',cv',ev',_⟩:=NEW.out.own.slice;generalize (ps ++ [g]).length=Lp' at ev';subst ev'
         repeat (refine Sd.lit ?_;quiet_step (fail);refine wpQuiet_nil ?_)
         refine Sd.done ?_;go_wp2
         go_roundw
         case rel=>exact ⟨k+1,ps ++ [g],_,by omega,by go_num,NEW⟩
         case measure=>simp [intOf];omega
       | false =>
         rw [hv] at cV;rw [hv,if_neg Bool.false_ne_true] at EA;have AP:=Lib.hid (copy_has (HS2.out wr BI.out));unfold CopySt at AP;generalize (lat T k).length=lk at *;generalize (osc O k).n=on at *;go_wp2_with fail;refine AP.out.mono ?_;rintro e w5 ⟨g,F5,rfl,st5,lo5,b5⟩;have I5:=Lib.hid ((I.out.pend b5 (by rw [EA.out];exact st5) lo5).below ((Below.refl w5.heap.size w5).alloc (Nat.le_refl _) (.cells #[.pointer (some ⟨g,0,none⟩)] 89)));clear st5 lo5 b5 I OWN AP cV sS
         (try unfold ptr)
         go_wp2_with (at_builtin;refine push_at (K:=KN) Tryz.underlying78 infoN rfl (by omega) rfl _ _ rfl wA.heap.size _ _ rfl I5.out.old.own _ g rfl ?d1 ?d2 ?d3 ?_)
         case d1 =>
          intro j u hu
          match j,hu with
          | 0,hu=>simp [KN] at hu;subst hu;unfold ptr;go_simp
          | j+1,hu=>simp [KN] at hu
         case d2=>rw [LN.out];omega
         case d3=>have:=I5.out.old.bel.size;exact this
         intro v' w6 o6 g6 h6
         have NEW:=Lib.hid (I5.out.push o6 g6 (by simpa using h6));clear o6 g6 h6 I5;obtain ⟨av',cv',ev',_⟩:=NEW.out.own.slice;generalize (ps ++ [g]).length=Lp' at ev';subst ev';go_wp2
         go_roundw
         case rel=>exact ⟨k+1,ps ++ [g],_,by omega,by go_num,NEW⟩
         case measure=>simp [intOf];omega
      ·obtain rfl:k=n:=by omega
       have RES:Hid (BrP w 0 S' (.returned (.tuple #[.slice av Lp cv,.int .i64 0])) wr):=Lib.hid ⟨_,ps,Fs,rfl,fun _=>by rw [RL.out];exact I.out.low BW.out.size BI.out,fun e=>absurd rfl e,BI.out⟩;clear I OWN;go_wp2
       go_ret2
       exact RES.out
  ·have WL:=Lib.hid (WILD.out fun h=>hl h.1)
   rw [hE] at RO;generalize buE S T V O=be at *;generalize buL S T V P O=bl at *;generalize rdL S T V P=rl at *;clear WILD OS HS0 DD;generalize S.length=n at *;generalize O.length=no at *;have hne:((no:Int) != (n:Int))=true:=by simp;omega
   go_enter Tryz.func30,Tryz.ntmps30
   go_wp2_with fail;refine RO.out.mono ?_;rintro e w1 ⟨v1,rfl,_,b1⟩;have RES:=Lib.hid (WL.out w1 b1);clear b1 RO WL;go_wp2
   go_ret2
   exact RES.out
 ·obtain ⟨e1,e2⟩:=buE_wrong (O:=O) (P:=P) hE
  rw [e1,e2];have HEE:=Lib.hid hE;have hne:(rdE S T V != 0)=true:=by simpa using hE
  clear hE OS HS0 DD e1 e2;generalize rdE S T V=E at *;generalize rdL S T V P=rl at *;generalize S.length=n at *;generalize O.length=no at *
  go_enter Tryz.func30,Tryz.ntmps30
  go_wp2_with fail;refine RO.out.mono ?_;rintro e w1 ⟨v1,rfl,_,b1⟩;have RES:Hid (BrP w E [] (.returned (.tuple #[.slice none 0 0,.int .i64 E])) w1):=Lib.hid ⟨_,[],fun _ _=>False,rfl,fun e=>absurd e HEE.out,fun _=>rfl,b1⟩;clear b1 RO;go_wp2
  go_ret2
  exact RES.out
end Go.Proofs.YtljnkaodhfnbbaaGreatDoor.Cu
namespace Go.Proofs.YtljnkaodhfnbbaaGreatDoor.Cu
open Go.RowKit Go.Maps
open Rw (Rd Ow At)
open Fl (row_cell row_frozen)
open Fs (Abs St OkA Only Fx ow_only Glob)
open Pa (Sts S2 sat vat KN KB K2 ptr Stl rdE rdL rdS hr push_at infoN)
open Ck (LL lat RdL KS Hd sl zh infoS)
open Ro (E5 K5)
open Bu (Osc osc OsL ofS calmLB buE buL buE_ok buE_wrong)
attribute [local irreducible] Sd.wpSd wpQuiet
theorem infoB1:(Tryz.prog.info? 4).map (fun i=>(i.zero,i.size,i.bytes))=some (some (.bool false),1,1):=by kernel_rfl
theorem infoT1:(Tryz.prog.info? 103).map (fun i=>(i.zero,i.size,i.bytes))=some (some (.slice none 0 0),1,24):=by kernel_rfl
def caS (S:Sts) (T:LL) (V:List Bool) (P:List S2):Sts:=if rdE S T V=0 then rdL S T V P else S
theorem bu_calm {S:Sts} {T:LL} {V:List Bool} {P:List S2} {O:List Osc} (hl:O.length=S.length) (hc:calmLB O=true):buE S T V O=rdE S T V∧(rdE S T V=0→buL S T V P O=rdL S T V P):=by
 by_cases h:rdE S T V=0
 ·obtain ⟨a,b⟩:=buE_ok (P:=P) h hl hc
  exact ⟨a.trans h.symm,fun _=>by rw [b];exact (if_pos h).symm⟩
 ·obtain ⟨a,b⟩:=buE_wrong (O:=O) (P:=P) h
  exact ⟨a,fun g=>absurd g h⟩
theorem rdL_len {S:Sts} {T:LL} {V:List Bool} {P:List S2} (h:rdE S T V=0):(rdL S T V P).length=S.length:=by
 have e:rdL S T V P=rdS S T V (hr S T V P):=if_pos h;rw [e,Pa.rdS_len]
set_option maxHeartbeats 8000000 in
theorem ccarry_any {s t p:Nat} {F:Nat→Prop} {c:Cs} {vn vq:Value} {L:List Nd} {Fs:Nat→Nat→Prop} {w:World} (h:Cl w s F c t vn L p vq Fs) (hlen:2≤c.S.length∧c.S.length≤32) (hlv:c.V.length=c.S.length) (hst:∀ i:Nat,i < c.S.length→0≤(sat c.S i).2∧(sat c.S i).2 < 900000) (hg:Glob w) {r:Int} (hr:0≤r∧r≤5) {vp:Value} {P:List S2} (RP:Rd K2 w vp P) :
 Calls Tryz.prog 118 #[ptr s,.int .i64 r,vp] w (DoC w s F { c with S:=caS c.S (tbs c.S r) c.V P } t (rdE c.S (tbs c.S r) c.V)):=by
 obtain ⟨g,cap,rfl,-,hm,-⟩:=h.one (i:=0) (by omega);have H:=Lib.hid h;have HL:=Lib.hid h.len;have HT:=Lib.hid (tbs_len c.S r);have OK:=Lib.hid hlv;have GG:=Lib.hid hg;have R:=Lib.hid RP
 have CT:Hid (∀ wr,Below w.heap.size w wr→∀ k:Nat,k < c.S.length→Calls Tryz.prog 164 #[ptr s,.int .i64 k,.int .i64 r] wr (TbC wr (lat (tbs c.S r) k))):=Lib.hid (fun wr b k hk=>by
  have:=ctable_any (H.out.below b) hk (k:=r) ⟨hr.1,by omega⟩;rw [← tbs_at c.S r hk] at this
  exact this)
 have ND:Hid (∀ wr,Below w.heap.size w wr→∀ k:Nat,k < c.S.length→wr.cell? ⟨s,0,none⟩=some (.slice (some ⟨g,0,none⟩) c.S.length cap)∧wr.cell? ⟨g,k * 3,none⟩=some (ptr (nda L k).s)∧wr.cell? ⟨g,k * 3+1,none⟩=some (.bool (nda L k).live)∧wr.cell? ⟨g,k * 3+2,none⟩=some (.int .i64 (nda L k).rate)):=Lib.hid (fun wr b k hk=>⟨(H.out.below b).cells.1,(H.out.below b).nod hk⟩);have CC:=Lib.hid (rosc_calm h.rt);have OL:=Lib.hid ((rosc_len L).trans h.len);have DV:Hid (∀ i:Nat,i < c.S.length→0≤(sat c.S i).2∧(sat c.S i).2 < 900000):=Lib.hid hst;have BE:=Lib.hid (fun S T V P=>bu_calm (S:=S) (T:=T) (V:=V) (P:=P) (O:=rosc L));have N32:Hid (2≤c.S.length∧c.S.length≤32):=Lib.hid hlen;have d0:=h.cells.1;obtain ⟨pa,pc,rfl,_⟩:=RP.slice;have C0:=Lib.hid (CI.start w (tbs c.S r) L);clear h hlen hlv hst hg RP hr;generalize hT:tbs c.S r=T at *;generalize hPl:P.length=pl at *;generalize hn:c.S.length=n at *;have HN:=Lib.hid hn;have HPL:=Lib.hid hPl;generalize hRE:rdE c.S T c.V=re at *;generalize hCS:caS c.S T c.V P=S2 at *;have RE:=Lib.hid hRE;have CS:=Lib.hid hCS;clear hn hPl hT hRE hCS;unfold ptr at *
 go_enter Tryz.func118,Tryz.ntmps118
 go_wp2;clear d0
 go_loopw [22,7,8,9,10] (fun i o1 o2 o3 o4 wr=>∃ (k:Nat) (l1:List Nat) (l2:List Hd) (l3:List Bool) (l4:List Hd) (p1 p2 p3 p4:Value),k≤n∧i = .int .i64 k∧p1=o1∧p2=o2∧p3=o3∧p4=o4∧Hid (CI w T L k k k k o1 l1 o2 l2 o3 l3 o4 l4 wr)) (fun i _ _ _ _ _=>n - (intOf i).toNat)
 case atStart=>exact ⟨0,[],[],[],[],_,_,_,_,Nat.zero_le _,rfl,rfl,rfl,rfl,rfl,C0⟩
 case round =>
  clear C0;obtain ⟨k,l1,l2,l3,l4,p1,p2,p3,p4,hk,rfl,rfl,rfl,rfl,rfl,I⟩:=hrel;obtain ⟨a1,c1,e1,_,_⟩:=I.out.w1.slice;obtain ⟨a2,c2,e2,_,_⟩:=I.out.w2.slice;obtain ⟨a3,c3,e3,_,_⟩:=I.out.w3.slice;obtain ⟨a4,c4,e4,_,_⟩:=I.out.w4.slice;have N1:=Lib.hid I.out.n1;have N2:=Lib.hid I.out.n2;have N3:=Lib.hid I.out.n3;have N4:=Lib.hid I.out.n4;generalize l1.length=m1 at e1;generalize l2.length=m2 at e2;generalize l3.length=m3 at e3;generalize l4.length=m4 at e4;subst e1 e2 e3 e4
  by_cases hlt:k < n
  ·have HLT:=Lib.hid hlt
   obtain ⟨d0,y0,y1,y2⟩:=ND.out wr I.out.bel k hlt;generalize hx:nda L k=x at *;have HX:=Lib.hid hx;clear hx;have Z0:=Lib.hid (heap_alloc_new wr (.cells #[.pointer (some ⟨x.s,0,none⟩),.bool x.live,.int .i64 x.rate] 139));have BN:=Lib.hid ((Below.refl wr.heap.size wr).alloc (Nat.le_refl _) (.cells #[.pointer (some ⟨x.s,0,none⟩),.bool x.live,.int .i64 x.rate] 139));go_upto_region 8 with fail;clear y0 y1 y2 d0;generalize wr.alloc (.cells #[.pointer (some ⟨x.s,0,none⟩),.bool x.live,.int .i64 x.rate] 139)=W at *;have I1:=Lib.hid (I.out.below BN.out);generalize wr.heap.size=gx at *;have y0:W.cell? ⟨gx,0,none⟩=some (.pointer (some ⟨x.s,0,none⟩)):=row_cell Z0.out 0;have I2:=Lib.hid (I1.out.below ((Below.refl W.heap.size W).alloc (Nat.le_refl _) (.cells #[.pointer (some ⟨x.s,0,none⟩)] 89)));have BX:=Lib.hid I2.out.bel.size;clear I BN
   go_wp2_with (at_builtin;refine push_at (K:=KN) Tryz.underlying78 infoN rfl (by omega) rfl _ _ rfl w.heap.size _ _ rfl I2.out.w1 _ x.s rfl ?d1 ?d2 ?d3 ?_)
   case d1 =>
    intro j u hu
    match j,hu with
    | 0,hu=>simp [KN] at hu;subst hu;unfold ptr;go_simp
    | j+1,hu=>simp [KN] at hu
   case d2=>rw [N1.out];have:=N32.out;omega
   case d3=>exact BX.out
   intro v1 w1 o1 g1 h1
   have NEW1:=Lib.hid (I2.out.push1 o1 (by simpa using g1) (by rw [HX.out]));have Z1:=Lib.hid ((((Below.refl W.heap.size W).alloc (Nat.le_refl _) (.cells #[.pointer (some ⟨x.s,0,none⟩)] 89)).block gx (lt_of_block Z0.out)).trans Z0.out);have Y1:Hid (w1.heap[gx]? = some (.cells #[.pointer (some ⟨x.s,0,none⟩),.bool x.live,.int .i64 x.rate] 139 (0,0))):=Lib.hid ((g1.block gx (lt_of_block Z1.out) (fun e=>I2.out.w1.apart Z1.out (by decide) e.symm)).trans Z1.out);clear o1 g1 h1 I1 I2 BX y0 Z0 Z1;obtain ⟨av1,cv1,ev1,_⟩:=NEW1.out.w1.slice;generalize (l1 ++ [x.s]).length=Lp1 at ev1;subst ev1;have C2:=Lib.hid (CT.out w1 NEW1.out.bel k hlt);unfold TbC at C2;go_upto_region 9 with fail;go_wp2_with fail;refine C2.out.mono ?_;rintro e w2 ⟨u2,rfl,o2,b2⟩;have I3:=Lib.hid (NEW1.out.below b2);have U2:=Lib.hid (o2.low NEW1.out.bel.size);have Y2:=Lib.hid ((b2.block gx (lt_of_block Y1.out)).trans Y1.out);obtain ⟨a6,c6,e6,_,_⟩:=U2.out.slice;generalize (lat T k).length=lk at e6;subst e6;have B3:=Lib.hid ((Below.refl w2.heap.size w2).alloc (Nat.le_refl _) (.cells #[.slice a6 lk c6] 85));have I4:=Lib.hid (I3.out.below B3.out);have U3:=Lib.hid (U2.out.keep B3.out);have Y3:=Lib.hid ((B3.out.block gx (lt_of_block Y2.out)).trans Y2.out);have BX:=Lib.hid I4.out.bel.size;clear o2 b2 C2 NEW1 U2 I3 Y1 Y2 B3
   go_wp2_with (at_builtin;refine push_at (K:=KS) Tryz.underlying79 infoS rfl (by omega) rfl _ _ rfl w.heap.size _ _ rfl I4.out.w2 _ (a6,lk,c6) rfl ?d1 ?d2 ?d3 ?_)
   case d1 =>
    intro j u hu
    match j,hu with
    | 0,hu=>simp [KS] at hu;subst hu;unfold sl;go_simp
    | j+1,hu=>simp [KS] at hu
   case d2=>rw [N2.out];have:=N32.out;omega
   case d3=>exact BX.out
   intro v3 w3 o3 g3 h3
   have NEW2:=Lib.hid (I4.out.push2 (x:=(a6,lk,c6)) o3 (by simpa using g3) U3.out);have Y4:Hid (w3.heap[gx]? = some (.cells #[.pointer (some ⟨x.s,0,none⟩),.bool x.live,.int .i64 x.rate] 139 (0,0))):=Lib.hid ((g3.block gx (lt_of_block Y3.out) (fun e=>I4.out.w2.apart Y3.out (by decide) e.symm)).trans Y3.out);clear o3 g3 h3 I4 U3 BX Y3;obtain ⟨av2,cv2,ev2,_⟩:=NEW2.out.w2.slice;generalize (l2 ++ [(a6,lk,c6)]).length=Lp2 at ev2;subst ev2;go_upto_region 10 with fail;have y1:w3.cell? ⟨gx,1,none⟩=some (.bool x.live):=row_cell Y4.out 1;have B5:=Lib.hid ((Below.refl w3.heap.size w3).alloc (Nat.le_refl _) (.cells #[.bool x.live] 4));have I5:=Lib.hid (NEW2.out.below B5.out);have Y5:=Lib.hid ((B5.out.block gx (lt_of_block Y4.out)).trans Y4.out);have BX:=Lib.hid I5.out.bel.size;clear NEW2 Y4 B5
   go_wp2_with (at_builtin;refine push_at (K:=KB) Tryz.underlying35 infoB1 rfl (by omega) rfl _ _ rfl w.heap.size _ _ rfl I5.out.w3 _ x.live rfl ?d1 ?d2 ?d3 ?_)
   case d1 =>
    intro j u hu
    match j,hu with
    | 0,hu=>simp [KB] at hu;subst hu;go_simp
    | j+1,hu=>simp [KB] at hu
   case d2=>rw [N3.out];have:=N32.out;omega
   case d3=>exact BX.out
   intro v5 w5 o5 g5 h5
   have NEW3:=Lib.hid (I5.out.push3 o5 (by simpa using g5) (by rw [HX.out]));have Y6:Hid (w5.heap[gx]? = some (.cells #[.pointer (some ⟨x.s,0,none⟩),.bool x.live,.int .i64 x.rate] 139 (0,0))):=Lib.hid ((g5.block gx (lt_of_block Y5.out) (fun e=>I5.out.w3.apart Y5.out (by decide) e.symm)).trans Y5.out);clear o5 g5 h5 I5 BX Y5 y1;obtain ⟨av3,cv3,ev3,_⟩:=NEW3.out.w3.slice;generalize (l3 ++ [x.live]).length=Lp3 at ev3;subst ev3;go_upto_region 11 with fail;have y2:w5.cell? ⟨gx,2,none⟩=some (.int .i64 x.rate):=row_cell Y6.out 2;have LT:Hid (Ow K2 (w5.alloc (.cells #[.int .i64 0,.int .i64 x.rate] 108)) w.heap.size 108 (.slice (some ⟨w5.heap.size,0,none⟩) 1 1) [(0,x.rate)]):=Lib.hid (Rw.Ow.lit (K:=K2) w5 w.heap.size 108 [(0,x.rate)] NEW3.out.bel.size (by unfold maxLen;simp));have B7:=Lib.hid ((Below.refl w5.heap.size w5).alloc (Nat.le_refl _) (.cells #[.int .i64 0,.int .i64 x.rate] 108));generalize hg7:w5.heap.size=g7 at *;have B8:=Lib.hid ((Below.refl (w5.alloc (.cells #[.int .i64 0,.int .i64 x.rate] 108)).heap.size (w5.alloc (.cells #[.int .i64 0,.int .i64 x.rate] 108))).alloc (Nat.le_refl _) (.cells #[.slice (some ⟨g7,0,none⟩) 1 1] 103));have I7:=Lib.hid ((NEW3.out.below (by have:=B7.out;rw [← hg7] at this;exact this)).below B8.out);have U8:=Lib.hid (LT.out.keep B8.out);have BX:=Lib.hid I7.out.bel.size;clear NEW3 Y6 LT B7 B8
   go_wp2_with (at_builtin;refine push_at (K:=KS) Tryz.underlying80 infoT1 rfl (by omega) rfl _ _ rfl w.heap.size _ _ rfl I7.out.w4 _ (some ⟨g7,0,none⟩,1,1) rfl ?d1 ?d2 ?d3 ?_)
   case d1 =>
    intro j u hu
    match j,hu with
    | 0,hu=>simp [KS] at hu;subst hu;unfold sl;go_simp
    | j+1,hu=>simp [KS] at hu
   case d2=>rw [N4.out];have:=N32.out;omega
   case d3=>exact BX.out
   intro v7 w7 o7 g7' h7
   have NEW4:=Lib.hid (I7.out.push4 (x:=(some ⟨g7,0,none⟩,1,1)) o7 (by simpa using g7') (by rw [HX.out];exact U8.out));clear o7 g7' h7 I7 BX y2 U8;obtain ⟨av4,cv4,ev4,_⟩:=NEW4.out.w4.slice;generalize List.length _=Lp4 at ev4;subst ev4;have n32:=N32.out.2;go_wp2
   go_roundw
   case rel=>exact ⟨k+1,_,_,_,_,_,_,_,_,by have:=HLT.out;omega,by go_num,rfl,rfl,rfl,rfl,NEW4⟩
   case measure=>have:=HLT.out;simp [intOf];omega
  ·obtain rfl:k=n:=by omega
   have CR:=Lib.hid (broundF_any (w:=wr) (S:=c.S) (T:=T) (V:=c.V) (P:=P) (O:=rosc L) (CI.stl (by rw [HN.out];exact I.out) H.out) (CI.tab I.out (by rw [HT.out])) (CI.liv (by rw [HN.out];exact I.out) H.out (by rw [OK.out,HN.out])) (R.out.below I.out.bel) (CI.osl (by rw [HL.out];exact I.out)) (GG.out.below I.out.bel) (by rw [HN.out];exact DV.out));obtain ⟨q1,q2⟩:=BE.out c.S T c.V P (by rw [HN.out];exact OL.out) CC.out;rw [q1,RE.out] at CR;have Q2:=Lib.hid q2;have BW:=Lib.hid I.out.bel;have HW:=Lib.hid (H.out.below I.out.bel);have LOW:=Lib.hid H.out.low;clear q1 q2 I N1 N2 N3 N4 CT ND DV BE R;unfold BrP at CR
   by_cases hE:re=0
   ·have HS:Hid (S2=rdL c.S T c.V P):=Lib.hid (by rw [← CS.out];exact if_pos (RE.out.trans hE))
    have HR:Hid (S2.length=k):=Lib.hid (by rw [HS.out,rdL_len (RE.out.trans hE),HN.out]);rw [Q2.out (RE.out.trans hE),← HS.out] at CR;subst hE;clear Q2 HS;go_wp2_with fail;refine CR.out.mono ?_;rintro e w2 ⟨v,ps,Gs,rfl,hpj,_,b2⟩;have PJ2:=Lib.hid (hpj trivial);have H2:=Lib.hid (HW.out.below b2);have P0:Hid (PL w2 g cap k L ps 0 w2):=Lib.hid ⟨by rw [put1_zero];exact H2.out.no,Only.refl _ _⟩;have D0:=Lib.hid H2.out.cells.1;have NS:Hid (s≠g):=Lib.hid (fun e=>H2.out.vs.1 (by rw [e];rfl));have PLN:Hid (ps.length=k):=Lib.hid (by rw [PJ2.out.len,HR.out]);obtain ⟨gb,cb,ev,_,_,_,_,_,hA⟩:=PJ2.out.own.form (by have:=PLN.out;have:=N32.out;omega);rw [PLN.out] at ev
    have AT:Hid (∀ i,i < k→w2.cell? ⟨gb,i,none⟩=some (.pointer (some ⟨ps.getD i 0,0,none⟩))):=Lib.hid (fun i hi=>by
     have:=Pa.atN hA (i:=i) (by rw [PLN.out];exact hi);rw [Nat.zero_add] at this
     exact this)
    have NB:Hid (gb≠g):=Lib.hid (fun e=>by
     obtain ⟨_,q⟩:=H2.out.no
     rcases q with ⟨q,_⟩ | ⟨b,cap',cur,q,_,hh,_⟩
     ·cases q
     ·injection q with q1 _ _
      injection q1 with q1;injection q1 with q1 _ _
      exact PJ2.out.own.apart hh (by decide) (by rw [ev,e,q1];rfl))
    have FIN:Hid (∀ w',PL w2 g cap k L ps k w'→DoC w s F { c with S:=S2 } t 0 (.returned (.int .i64 0)) w'):=Lib.hid (fun w' pp=>by
     have q:=Cl.carry HW.out (g:=g) (cap:=cap) (by rw [HN.out]) PJ2.out (by rw [HR.out,HN.out]) (by rw [HN.out];exact pp)
     exact (show DoC wr s F { c with S:=S2 } t 0 (.returned (.int .i64 0)) w' from ⟨rfl,⟨_,_,_,_,_,q.1⟩,q.2⟩).pre BW.out LOW.out)
    subst ev;clear hpj b2 hA CR;obtain ⟨wo,hwo⟩:∃ x,x=wr:=⟨_,rfl⟩;subst hwo;go_wp2
    go_loopw [63] (fun i wr3=>∃ j:Nat,j≤k∧i = .int .i64 j∧Hid (PL w2 g cap k L ps j wr3)) (fun i _=>k - (intOf i).toNat)
    case atStart=>exact ⟨0,Nat.zero_le _,rfl,P0⟩
    case round =>
     clear P0;obtain ⟨j,hj,rfl,PP⟩:=hrel
     by_cases hlj:j < k
     ·have y0:=PP.out.only.cell (AT.out j hlj) NB.out
      have y1:wr.cell? ⟨s,0,none⟩=some (.slice (some ⟨g,0,none⟩) k cap):=PP.out.only.cell D0.out NS.out;have hpl:(put1 L ps j).length=k:=by rw [put1_len];exact HL.out
      have PO:=PP.out.own;obtain ⟨g',cap',e',_,_,_,_,fz,hA⟩:=PO.form (by omega);injection e' with e1 _ e3;injection e1 with e1;injection e1 with e1 _ _;subst e1 e3;have y2:=(atD hA (i:=j) (by omega)).1;have f2:=fz (j * 3);rw [Nat.zero_add] at y2;unfold ptr at y2;have P1:=Lib.hid (PP.out.step HL.out hlj);unfold ptr at P1;have HLJ:=Lib.hid hlj;clear PP hA fz PO hpl;generalize ps.getD j 0=nj at *;generalize (nda (put1 L ps j) j).s=oj at *;have n32:=N32.out.2;go_wp2
      go_roundw
      case rel=>exact ⟨j+1,by have:=HLJ.out;omega,by go_num,P1⟩
      case measure=>have:=HLJ.out;simp [intOf];omega
     ·obtain rfl:j=k:=by omega
      have E:=Lib.hid (FIN.out wr PP.out);clear FIN PP;go_wp2
      go_ret
      exact E.out
   ·have HS:Hid (S2=c.S):=Lib.hid (by rw [← CS.out];exact if_neg (fun e=>hE (RE.out.symm.trans e)))
    clear Q2;go_wp2_with fail;refine CR.out.mono ?_;rintro e w2 ⟨v,ps,Gs,rfl,_,hv,b2⟩;obtain rfl:=hv hE
    have E:Hid (DoC w s F { c with S:=S2 } t re (.returned (.int .i64 re)) w2):=Lib.hid (by
     rw [HS.out]
     exact (doc_below HW.out b2 re).pre BW.out LOW.out)
    clear b2 hv CR;obtain ⟨wo,hwo⟩:∃ x,x=wr:=⟨_,rfl⟩;subst hwo;go_wp2
    go_loopw [63] (fun i wr3=>i = .int .i64 0∧w2=wr3) (fun _ _=>0)
    case atStart=>exact ⟨rfl,rfl⟩
    case round =>
     obtain ⟨rfl,rfl⟩:=hrel;go_wp2
     go_ret
     exact E.out
end Go.Proofs.YtljnkaodhfnbbaaGreatDoor.Cu
namespace Go.Proofs.YtljnkaodhfnbbaaGreatDoor.Wt
open Go.RowKit
open Fl (ret_bool at_bool row_cell row_frozen)
open Fs (Only)
attribute [local irreducible] Sd.wpSd wpQuiet
def hZ (r z:Int):Int:=if r=2∨r=3 then 0 else z
def wZ (r z:Int):Int:=if r=2∨r=3 then z+1 else z
theorem wait0 {w:World} {s:Nat} {r0 z0 r1 z1:Int} (h:RowM w s r0 z0 r1 z1) (hz:0≤z0∧z0≤1000000):Calls Tryz.prog 161 #[.pointer (some ⟨s,0,none⟩)] w fun e w'=>e = .returned (.tuple #[])∧RowM w' s r0 (wZ r0 z0) r1 z1∧Only (fun b=>b=s) w w':=by
 have c0:w.cell? ⟨s,0,none⟩=some (.int .i64 r0):=row_cell h 0;have c1:w.cell? ⟨s,1,none⟩=some (.int .i64 z0):=row_cell h 1;have f0:=row_frozen h 0;have f1:=row_frozen h 1;have R:=Lib.hid h;clear h
 by_cases h2:r0=2
 ·subst h2
  have wr:IntKind.i64.wrap (z0+1)=z0+1:=IntWalk.i64_in _ (by omega);have F:Hid (RowM (w.setCell ⟨s,1,none⟩ (.int .i64 (z0+1))) s 2 (wZ 2 z0) r1 z1∧Only (fun b=>b=s) w (w.setCell ⟨s,1,none⟩ (.int .i64 (z0+1)))):=Lib.hid ⟨R.out.set1 _,only_set s 1 _ _⟩;clear R hz
  go_enter Tryz.func161,Tryz.ntmps161
  go_wp2
  first | go_end0 | refine bodyPost_ret (results_none rfl _ _ _) rfl ?_
  exact ⟨rfl,F.out⟩
 ·by_cases h3:r0=3
  ·subst h3
   clear h2;have wr:IntKind.i64.wrap (z0+1)=z0+1:=IntWalk.i64_in _ (by omega);have F:Hid (RowM (w.setCell ⟨s,1,none⟩ (.int .i64 (z0+1))) s 3 (wZ 3 z0) r1 z1∧Only (fun b=>b=s) w (w.setCell ⟨s,1,none⟩ (.int .i64 (z0+1)))):=Lib.hid ⟨R.out.set1 _,only_set s 1 _ _⟩;clear R hz
   go_enter Tryz.func161,Tryz.ntmps161
   go_wp2
   first | go_end0 | refine bodyPost_ret (results_none rfl _ _ _) rfl ?_
   exact ⟨rfl,F.out⟩
  ·have e1:wZ r0 z0=z0:=if_neg (by omega)
   have F:Hid (RowM w s r0 (wZ r0 z0) r1 z1∧Only (fun b=>b=s) w w):=Lib.hid ⟨by rw [e1];exact R.out,Only.refl _ _⟩;have q2:(r0 == 2)=false:=beq_eq_false_iff_ne.2 h2;have q3:(r0 == 3)=false:=beq_eq_false_iff_ne.2 h3;clear R h2 h3 e1
   go_enter Tryz.func161,Tryz.ntmps161
   go_wp2
   first | go_end0 | refine bodyPost_ret (results_none rfl _ _ _) rfl ?_
   exact ⟨rfl,F.out⟩
theorem wait1 {w:World} {s:Nat} {r0 z0 r1 z1:Int} (h:RowM w s r0 z0 r1 z1) (hz:0≤z1∧z1≤1000000):Calls Tryz.prog 161 #[.pointer (some ⟨s,2,none⟩)] w fun e w'=>e = .returned (.tuple #[])∧RowM w' s r0 z0 r1 (wZ r1 z1)∧Only (fun b=>b=s) w w':=by
 have c0:w.cell? ⟨s,2,none⟩=some (.int .i64 r1):=row_cell h 2;have c1:w.cell? ⟨s,3,none⟩=some (.int .i64 z1):=row_cell h 3;have f0:=row_frozen h 2;have f1:=row_frozen h 3;have R:=Lib.hid h;clear h
 by_cases h2:r1=2
 ·subst h2
  have wr:IntKind.i64.wrap (z1+1)=z1+1:=IntWalk.i64_in _ (by omega);have F:Hid (RowM (w.setCell ⟨s,3,none⟩ (.int .i64 (z1+1))) s r0 z0 2 (wZ 2 z1)∧Only (fun b=>b=s) w (w.setCell ⟨s,3,none⟩ (.int .i64 (z1+1)))):=Lib.hid ⟨R.out.set3 _,only_set s 3 _ _⟩;clear R hz
  go_enter Tryz.func161,Tryz.ntmps161
  go_wp2
  first | go_end0 | refine bodyPost_ret (results_none rfl _ _ _) rfl ?_
  exact ⟨rfl,F.out⟩
 ·by_cases h3:r1=3
  ·subst h3
   clear h2;have wr:IntKind.i64.wrap (z1+1)=z1+1:=IntWalk.i64_in _ (by omega);have F:Hid (RowM (w.setCell ⟨s,3,none⟩ (.int .i64 (z1+1))) s r0 z0 3 (wZ 3 z1)∧Only (fun b=>b=s) w (w.setCell ⟨s,3,none⟩ (.int .i64 (z1+1)))):=Lib.hid ⟨R.out.set3 _,only_set s 3 _ _⟩;clear R hz
   go_enter Tryz.func161,Tryz.ntmps161
   go_wp2
   first | go_end0 | refine bodyPost_ret (results_none rfl _ _ _) rfl ?_
   exact ⟨rfl,F.out⟩
  ·have e1:wZ r1 z1=z1:=if_neg (by omega)
   have F:Hid (RowM w s r0 z0 r1 (wZ r1 z1)∧Only (fun b=>b=s) w w):=Lib.hid ⟨by rw [e1];exact R.out,Only.refl _ _⟩;have q2:(r1 == 2)=false:=beq_eq_false_iff_ne.2 h2;have q3:(r1 == 3)=false:=beq_eq_false_iff_ne.2 h3;clear R h2 h3 e1
   go_enter Tryz.func161,Tryz.ntmps161
   go_wp2
   first | go_end0 | refine bodyPost_ret (results_none rfl _ _ _) rfl ?_
   exact ⟨rfl,F.out⟩
theorem hear0 {w:World} {s:Nat} {r0 z0 r1 z1:Int} (h:RowM w s r0 z0 r1 z1):Calls Tryz.prog 162 #[.pointer (some ⟨s,0,none⟩)] w fun e w'=>e = .returned (.tuple #[])∧RowM w' s (hdN r0) (hZ r0 z0) r1 z1∧Only (fun b=>b=s) w w':=by
 have c0:w.cell? ⟨s,0,none⟩=some (.int .i64 r0):=row_cell h 0;have c1:w.cell? ⟨s,1,none⟩=some (.int .i64 z0):=row_cell h 1;have f0:=row_frozen h 0;have f1:=row_frozen h 1;have R:=Lib.hid h;clear h
 by_cases h2:r0=2
 ·subst h2
  have F:Hid (RowM (w.setCell ⟨s,1,none⟩ (.int .i64 0)) s (hdN 2) (hZ 2 z0) r1 z1∧Only (fun b=>b=s) w (w.setCell ⟨s,1,none⟩ (.int .i64 0))):=Lib.hid ⟨R.out.set1 _,only_set s 1 _ _⟩;clear R
  go_enter Tryz.func162,Tryz.ntmps162
  go_wp2
  first | go_end0 | refine bodyPost_ret (results_none rfl _ _ _) rfl ?_
  exact ⟨rfl,F.out⟩
 ·by_cases h3:r0=3
  ·subst h3
   clear h2;have F:Hid (RowM ((w.setCell ⟨s,0,none⟩ (.int .i64 2)).setCell ⟨s,1,none⟩ (.int .i64 0)) s (hdN 3) (hZ 3 z0) r1 z1∧Only (fun b=>b=s) w ((w.setCell ⟨s,0,none⟩ (.int .i64 2)).setCell ⟨s,1,none⟩ (.int .i64 0))):=Lib.hid ⟨(R.out.set0 _).set1 _,(only_set s 0 _ _).trans (only_set s 1 _ _) (fun _ _ q=>q)⟩;clear R
   go_enter Tryz.func162,Tryz.ntmps162
   go_wp2
   first | go_end0 | refine bodyPost_ret (results_none rfl _ _ _) rfl ?_
   exact ⟨rfl,F.out⟩
  ·have e1:hZ r0 z0=z0:=if_neg (by omega)
   have e2:hdN r0=r0:=if_neg h3;have F:Hid (RowM w s (hdN r0) (hZ r0 z0) r1 z1∧Only (fun b=>b=s) w w):=Lib.hid ⟨by rw [e1,e2];exact R.out,Only.refl _ _⟩;have q2:(r0 == 2)=false:=beq_eq_false_iff_ne.2 h2;have q3:(r0 == 3)=false:=beq_eq_false_iff_ne.2 h3;clear R h2 h3 e1 e2
   go_enter Tryz.func162,Tryz.ntmps162
   go_wp2
   first | go_end0 | refine bodyPost_ret (results_none rfl _ _ _) rfl ?_
   exact ⟨rfl,F.out⟩
theorem hear1 {w:World} {s:Nat} {r0 z0 r1 z1:Int} (h:RowM w s r0 z0 r1 z1):Calls Tryz.prog 162 #[.pointer (some ⟨s,2,none⟩)] w fun e w'=>e = .returned (.tuple #[])∧RowM w' s r0 z0 (hdN r1) (hZ r1 z1)∧Only (fun b=>b=s) w w':=by
 have c0:w.cell? ⟨s,2,none⟩=some (.int .i64 r1):=row_cell h 2;have c1:w.cell? ⟨s,3,none⟩=some (.int .i64 z1):=row_cell h 3;have f0:=row_frozen h 2;have f1:=row_frozen h 3;have R:=Lib.hid h;clear h
 by_cases h2:r1=2
 ·subst h2
  have F:Hid (RowM (w.setCell ⟨s,3,none⟩ (.int .i64 0)) s r0 z0 (hdN 2) (hZ 2 z1)∧Only (fun b=>b=s) w (w.setCell ⟨s,3,none⟩ (.int .i64 0))):=Lib.hid ⟨R.out.set3 _,only_set s 3 _ _⟩;clear R
  go_enter Tryz.func162,Tryz.ntmps162
  go_wp2
  first | go_end0 | refine bodyPost_ret (results_none rfl _ _ _) rfl ?_
  exact ⟨rfl,F.out⟩
 ·by_cases h3:r1=3
  ·subst h3
   clear h2;have F:Hid (RowM ((w.setCell ⟨s,2,none⟩ (.int .i64 2)).setCell ⟨s,3,none⟩ (.int .i64 0)) s r0 z0 (hdN 3) (hZ 3 z1)∧Only (fun b=>b=s) w ((w.setCell ⟨s,2,none⟩ (.int .i64 2)).setCell ⟨s,3,none⟩ (.int .i64 0))):=Lib.hid ⟨(R.out.set2 _).set3 _,(only_set s 2 _ _).trans (only_set s 3 _ _) (fun _ _ q=>q)⟩;clear R
   go_enter Tryz.func162,Tryz.ntmps162
   go_wp2
   first | go_end0 | refine bodyPost_ret (results_none rfl _ _ _) rfl ?_
   exact ⟨rfl,F.out⟩
  ·have e1:hZ r1 z1=z1:=if_neg (by omega)
   have e2:hdN r1=r1:=if_neg h3;have F:Hid (RowM w s r0 z0 (hdN r1) (hZ r1 z1)∧Only (fun b=>b=s) w w):=Lib.hid ⟨by rw [e1,e2];exact R.out,Only.refl _ _⟩;have q2:(r1 == 2)=false:=beq_eq_false_iff_ne.2 h2;have q3:(r1 == 3)=false:=beq_eq_false_iff_ne.2 h3;clear R h2 h3 e1 e2
   go_enter Tryz.func162,Tryz.ntmps162
   go_wp2
   first | go_end0 | refine bodyPost_ret (results_none rfl _ _ _) rfl ?_
   exact ⟨rfl,F.out⟩
theorem opn_du (a:A) (z0 z1:Int) (t:Nat) (v:Vm a z0 z1 t):(a.r0=1→opn a=0)∧(a.r0≠1→a.r1=1→opn a=1)∧(a.r0≠1→a.r1≠1→(du a.r0 z0 0=true→opn a=0)∧(du a.r0 z0 0=false→(du a.r1 z1 1=true→opn a=1)∧(du a.r1 z1 1=false→opn a = -1))):=by
 have e0:=v.e0;have e1:=v.e1;have D0:du a.r0 z0 0=true↔d0 a:=by
  unfold du d0;simp only [Bool.or_eq_true,Bool.and_eq_true,decide_eq_true_eq]
  by_cases h2:a.r0=2
  ·rw [e0 (.inl h2)];omega
  ·by_cases h3:a.r0=3
   ·rw [e0 (.inr h3)];omega
   ·omega
 have D1:du a.r1 z1 1=true↔d1 a:=by
  unfold du d1;simp only [Bool.or_eq_true,Bool.and_eq_true,decide_eq_true_eq]
  by_cases h2:a.r1=2
  ·rw [e1 (.inl h2)];omega
  ·by_cases h3:a.r1=3
   ·rw [e1 (.inr h3)];omega
   ·omega
 rcases opn_parts a with ⟨e,g,_⟩ | ⟨e,g0,g,_⟩ | ⟨e,g0,g1,g2,g3,_⟩
 ·refine ⟨fun _=>e,fun n0 y=>?_,fun n0 n1=>⟨fun _=>e,fun y=>?_⟩⟩
  ·rcases g with g | ⟨_,g,_⟩
   ·exact absurd g n0
   ·exact absurd y g
  ·rcases g with g | ⟨_,_,g⟩
   ·exact absurd g n0
   ·rw [D0.2 g] at y;exact Bool.noConfusion y
 ·refine ⟨fun y=>absurd y g0,fun _ _=>e,fun _ n1=>⟨fun y=>?_,fun _=>⟨fun _=>e,fun y=>?_⟩⟩⟩
  ·rcases g with g | ⟨_,g,_⟩
   ·exact absurd g n1
   ·exact absurd (D0.1 y) g
  ·rcases g with g | ⟨_,_,g⟩
   ·exact absurd g n1
   ·rw [D1.2 g] at y;exact Bool.noConfusion y
 ·refine ⟨fun y=>absurd y g0,fun _ y=>absurd y g1,fun _ _=>⟨fun y=>absurd (D0.1 y) g2,fun _=>⟨fun y=>absurd (D1.1 y) g3,fun _=>e⟩⟩⟩
set_option maxHeartbeats 4000000 in
theorem opener_any {w:World} {s t:Nat} {a:A} (P:Pr w s a t):Calls Tryz.prog 160 #[.pointer (some ⟨s,0,none⟩)] w fun e w'=>e = .returned (.int .i64 (opn a))∧Below w.heap.size w w':=by
 obtain ⟨z0,z1,hr,hv⟩:=P;have O:=Lib.hid (opn_du a z0 z1 t hv);have c0:w.cell? ⟨s,0,none⟩=some (.int .i64 a.r0):=row_cell hr 0;have c1:w.cell? ⟨s,1,none⟩=some (.int .i64 z0):=row_cell hr 1;have c2:w.cell? ⟨s,2,none⟩=some (.int .i64 a.r1):=row_cell hr 2;have c3:w.cell? ⟨s,3,none⟩=some (.int .i64 z1):=row_cell hr 3;have R:=Lib.hid hr;clear hr hv;generalize opn a=o at *;generalize a.r0=x0 at *;generalize a.r1=x1 at *;have i0:∀ W:World,(Instr.index 210 (.agg #[.int .i64 x0,.int .i64 z0,.int .i64 x1,.int .i64 z1]) (.int .i64 0)).run Tryz.prog W = .ok (.agg #[.int .i64 x0,.int .i64 z0]) W:=fun W=>rfl;have i1:∀ W:World,(Instr.index 210 (.agg #[.int .i64 x0,.int .i64 z0,.int .i64 x1,.int .i64 z1]) (.int .i64 1)).run Tryz.prog W = .ok (.agg #[.int .i64 x1,.int .i64 z1]) W:=fun W=>rfl
 go_enter Tryz.func160,Tryz.ntmps160
 go_wp2
 go_loopw [11] (fun i wr=>∃ k:Nat,k≤2∧i = .int .i64 k∧Hid (Below w.heap.size w wr)∧Hid (1≤k→x0≠1)∧Hid (2≤k→x1≠1)) (fun i _=>2 - (intOf i).toNat)
 case atStart=>exact ⟨0,by omega,rfl,Lib.hid (Below.refl _ _),Lib.hid (fun h=>by omega),Lib.hid (fun h=>by omega)⟩
 case round =>
  obtain ⟨k,hk,rfl,BB,N0,N1⟩:=hrel
  rcases (by omega:k=0∨k=1∨k=2) with rfl | rfl | h2
  ·have B1:Hid (Below w.heap.size w (wr.alloc (.cells #[.int .i64 x0,.int .i64 z0] 209))):=Lib.hid (BB.out.alloc BB.out.size _)
   by_cases h:x0=1
   ·have E:=Lib.hid (O.out.1 h)
    clear O N0 N1 c0 c1 c2 c3;subst h;go_wp2
    go_ret
    exact ⟨congrArg (fun z=>Ending.returned (.int .i64 z)) E.out.symm,B1.out⟩
   ·have q:(x0 == 1)=false:=beq_eq_false_iff_ne.2 h
    have N:=Lib.hid (fun _:1≤1=>h);clear N0 c0 c1 c2 c3 h;go_wp2
    go_roundw
    case rel=>exact ⟨1,by omega,rfl,B1,N,Lib.hid (fun h=>by omega)⟩
    case measure=>simp [intOf]
  ·have B1:Hid (Below w.heap.size w (wr.alloc (.cells #[.int .i64 x1,.int .i64 z1] 209))):=Lib.hid (BB.out.alloc BB.out.size _)
   by_cases h:x1=1
   ·have E:=Lib.hid (O.out.2.1 (N0.out (by omega)) h)
    clear O N0 N1 c0 c1 c2 c3;subst h;go_wp2
    go_ret
    exact ⟨congrArg (fun z=>Ending.returned (.int .i64 z)) E.out.symm,B1.out⟩
   ·have q:(x1 == 1)=false:=beq_eq_false_iff_ne.2 h
    have N:=Lib.hid (fun _:2≤2=>h);have N':=Lib.hid (fun _:1≤2=>N0.out (by omega));clear N0 c0 c1 c2 c3 h;go_wp2
    go_roundw
    case rel=>exact ⟨2,by omega,rfl,B1,N',N⟩
    case measure=>simp [intOf]
  ·have O2:=Lib.hid (O.out.2.2 (N0.out (by omega)) (N1.out (by omega)))
   have R1:=Lib.hid (R.out.below BB.out);have c0:wr.cell? ⟨s,0,none⟩=some (.int .i64 x0):=row_cell R1.out 0;have c1:wr.cell? ⟨s,1,none⟩=some (.int .i64 z0):=row_cell R1.out 1;have c2:wr.cell? ⟨s,2,none⟩=some (.int .i64 x1):=row_cell R1.out 2;have c3:wr.cell? ⟨s,3,none⟩=some (.int .i64 z1):=row_cell R1.out 3;have hk2:¬ (k:Int) < 2:=by omega
   clear O N0 N1 R R1 h2 hk;go_upto_region 7 with fail;clear hk2;generalize (k:Int)=k2 at *;go_wp2
   go_loopw [24] (fun i wr=>∃ k:Nat,k≤2∧i = .int .i64 k∧Hid (Below w.heap.size w wr)∧Hid (1≤k→du x0 z0 0=false)∧Hid (2≤k→du x1 z1 1=false)) (fun i _=>2 - (intOf i).toNat)
   case atStart=>exact ⟨0,by omega,rfl,BB,Lib.hid (fun h=>by omega),Lib.hid (fun h=>by omega)⟩
   case round =>
    clear BB c0 c1 c2 c3;obtain ⟨k,hk,rfl,BB,N0,N1⟩:=hrel
    rcases (by omega:k=0∨k=1∨k=2) with rfl | rfl | rfl
    ·have B1:Hid (Below w.heap.size w (wr.alloc (.cells #[.int .i64 x0,.int .i64 z0] 209))):=Lib.hid (BB.out.alloc BB.out.size _)
     have D:=Lib.hid (due_any (wr.alloc (.cells #[.int .i64 x0,.int .i64 z0] 209)) x0 z0 0 (by omega));clear N0 N1;generalize hd:du x0 z0 0=d at *;have HD:=Lib.hid hd;clear hd;go_wp2_with fail;refine D.out.mono ?_;rintro e w2 ⟨rfl,b2⟩;have B2:=Lib.hid (B1.out.trans (b2.mono B1.out.size));clear b2 D B1 BB
     cases d with
     | true =>
       have E:=Lib.hid (O2.out.1 rfl);clear O2 HD;go_wp2
       go_ret
       exact ⟨congrArg (fun z=>Ending.returned (.int .i64 z)) E.out.symm,B2.out⟩
     | false =>
       go_wp2
       go_roundw
       case rel=>exact ⟨1,by omega,rfl,B2,Lib.hid (fun _=>trivial),Lib.hid (fun h=>by omega)⟩
       case measure=>simp [intOf]
    ·have B1:Hid (Below w.heap.size w (wr.alloc (.cells #[.int .i64 x1,.int .i64 z1] 209))):=Lib.hid (BB.out.alloc BB.out.size _)
     have D:=Lib.hid (due_any (wr.alloc (.cells #[.int .i64 x1,.int .i64 z1] 209)) x1 z1 1 (by omega));have O3:=Lib.hid (O2.out.2 (N0.out (by omega)));have N':=Lib.hid (fun _:1≤2=>N0.out (by omega));clear N0 N1 O2;generalize hd:du x1 z1 1=d at *;have HD:=Lib.hid hd;clear hd;go_wp2_with fail;refine D.out.mono ?_;rintro e w2 ⟨rfl,b2⟩;have B2:=Lib.hid (B1.out.trans (b2.mono B1.out.size));clear b2 D B1 BB
     cases d with
     | true =>
       have E:=Lib.hid (O3.out.1 rfl);clear O3 HD N';go_wp2
       go_ret
       exact ⟨congrArg (fun z=>Ending.returned (.int .i64 z)) E.out.symm,B2.out⟩
     | false =>
       clear O3;go_wp2
       go_roundw
       case rel=>exact ⟨2,by omega,rfl,B2,N',Lib.hid (fun _=>trivial)⟩
       case measure=>simp [intOf]
    ·have E:=Lib.hid ((O2.out.2 (N0.out (by omega))).2 (N1.out (by omega)))
     clear O2 N0 N1;go_wp2
     go_ret
     exact ⟨congrArg (fun z=>Ending.returned (.int .i64 z)) E.out.symm,BB.out⟩
end Go.Proofs.YtljnkaodhfnbbaaGreatDoor.Wt
namespace Go.Proofs.YtljnkaodhfnbbaaGreatDoor.Wt
open Go.RowKit
open Fl (ret_bool at_bool row_cell row_frozen)
open Fs (Only)
attribute [local irreducible] Sd.wpSd wpQuiet
section
variable {T:A} {s0 s1 n la:Int} {t:Nat} (hv:Vf T s0 s1 n la t)
include hv
theorem Vf.none:Vf ⟨T.r0,T.q0+1,T.r1,T.q1+1⟩ s0 s1 (n+1) la (t+1):=by
 have b0:=hv.b0;have b1:=hv.b1;have bl:=hv.bl;have bn:=hv.bn;exact ⟨by omega,by omega,by omega,by omega,fun g=>by have:=hv.e0 g;show T.q0+1=_;omega,fun g=>by have:=hv.e1 g;show T.q1+1=_;omega⟩
theorem Vf.hear0 (x:Int):Vf ⟨1,x,2,0⟩ s0 (n+1) (n+1) (n+1) (t+1):=by
 have b0:=hv.b0;have bl:=hv.bl;have bn:=hv.bn;exact ⟨by omega,by omega,by omega,by omega,(fun g=>absurd g (by show ¬ ((1:Int)=2∨(1:Int)=3);decide)),fun g=>by show (0:Int)=n+1 - (if n+1 < n+1 then n+1 else n+1);rw [if_neg (by omega)];omega⟩
theorem Vf.hear1 (x:Int):Vf ⟨2,0,1,x⟩ (n+1) s1 (n+1) (n+1) (t+1):=by
 have b1:=hv.b1;have bl:=hv.bl;have bn:=hv.bn;exact ⟨by omega,by omega,by omega,by omega,fun g=>by show (0:Int)=n+1 - (if n+1 < n+1 then n+1 else n+1);rw [if_neg (by omega)];omega,(fun g=>absurd g (by show ¬ ((1:Int)=2∨(1:Int)=3);decide))⟩
end
end Go.Proofs.YtljnkaodhfnbbaaGreatDoor.Wt
namespace Go.Proofs.YtljnkaodhfnbbaaGreatDoor.Wt
open Go.RowKit
open Fl (ret_bool at_bool row_cell row_frozen)
open Fs (Only)
attribute [local irreducible] Sd.wpSd wpQuiet
theorem rnd_cases (a:A):(opn a=0∧rnd a=⟨1,0,hdN a.r1,0⟩)∨(opn a=1∧rnd a=⟨hdN a.r0,0,1,0⟩)∨(opn a = -1∧a.r0≠1∧a.r1≠1∧rnd a=⟨a.r0,a.q0+1,a.r1,a.q1+1⟩):=by
 obtain ⟨r0,q0,r1,q1⟩:=a;unfold opn rnd tk t1 t2 op hd
 by_cases e0:r0=1
 ·exact .inl (by simp [e0])
 ·by_cases e1:r1=1
  ·exact .inr (.inl (by simp [e0,e1]))
  ·by_cases g0:(r0=2∧4≤q0)∨(r0=3∧8≤q0)
   ·exact .inl (by simp [e0,e1,g0])
   ·by_cases g1:(r1=2∧4≤q1)∨(r1=3∧9≤q1)
    ·exact .inr (.inl (by simp [e0,e1,g0,g1]))
    ·exact .inr (.inr (by simp [e0,e1,g0,g1]))
def HM (w:World) (s:Nat) (r0 z0 r1 z1:Int):Nat→Prop
 | 0=>RowM w s r0 z0 r1 z1
 | 1=>RowM w s (hdN r0) (hZ r0 z0) r1 z1
 | _=>RowM w s (hdN r0) (hZ r0 z0) (hdN r1) (hZ r1 z1)
def WM (w:World) (s:Nat) (r0 z0 r1 z1:Int):Nat→Prop
 | 0=>RowM w s r0 z0 r1 z1
 | 1=>RowM w s r0 (wZ r0 z0) r1 z1
 | _=>RowM w s r0 (wZ r0 z0) r1 (wZ r1 z1)
theorem hZ_in {r z:Int} {t:Nat} (h:0≤z∧z≤t):0≤hZ r z∧hZ r z≤((t+1:Nat):Int):=by unfold hZ;split <;> omega
theorem wZ_in {r z:Int} {t:Nat} (h:0≤z∧z≤t):0≤wZ r z∧wZ r z≤((t+1:Nat):Int):=by unfold wZ;split <;> omega
theorem hdN_zero {r z:Int} (h:hdN r=2∨hdN r=3):(0:Int)=hZ r z:=by
 unfold hdN at h;unfold hZ
 split
 ·rfl
 ·rename_i g
  exfalso
  split at h <;> omega
theorem wZ_next {r q z:Int} (e:r=2∨r=3→q=z) (h:r=2∨r=3):q+1=wZ r z:=by
 unfold wZ;rw [if_pos h,e h]
set_option maxHeartbeats 4000000 in
theorem round_any {w:World} {s t:Nat} {a:A} (P:Pr w s a t) (ht:t≤90000):Calls Tryz.prog 116 #[.pointer (some ⟨s,0,none⟩)] w (CdeedPost w s (opn a) (rnd a) (t+1)):=by
 have OP:=Lib.hid (opener_any P);obtain ⟨z0,z1,hr,hv⟩:=P;have R:=Lib.hid hr;have V:=Lib.hid hv;have v0:=hv.b0;have v1:=hv.b1;clear hr hv
 rcases rnd_cases a with ⟨eo,er⟩ | ⟨eo,er⟩ | ⟨eo,g0,g1,er⟩
 ·have FIN:Hid (∀ w',HM w' s 1 0 a.r1 z1 2→Only (fun b=>b=s) w w'→CdeedPost w s (opn a) (rnd a) (t+1) (.returned (.int .i64 0)) w'):=Lib.hid fun w' hh oo=>⟨by rw [eo],by rw [er];exact ⟨_,_,hh,⟨hZ_in ⟨by decide,by omega⟩,hZ_in V.out.b1,(fun g=>absurd g (by show ¬ ((1:Int)=2∨(1:Int)=3);decide)),fun g=>hdN_zero g⟩⟩,oo⟩
  rw [eo] at OP;clear eo er V v0 v1;generalize opn a=op_ at *;generalize rnd a=a' at *;generalize a.r0=x0 at *;generalize a.r1=x1 at *
  go_enter Tryz.func116,Tryz.ntmps116
  go_wp2_with fail;refine OP.out.mono ?_;rintro e w1 ⟨rfl,b1⟩;have R1:=Lib.hid (R.out.below b1);have c0:w1.cell? ⟨s,0,none⟩=some (.int .i64 x0):=row_cell R1.out 0;have c1:w1.cell? ⟨s,1,none⟩=some (.int .i64 z0):=row_cell R1.out 1;have f0:=row_frozen R1.out 0;have f1:=row_frozen R1.out 1;have M0:Hid (HM ((w1.setCell ⟨s,0,none⟩ (.int .i64 1)).setCell ⟨s,1,none⟩ (.int .i64 0)) s 1 0 x1 z1 0):=Lib.hid ((R1.out.set0 1).set1 0);have O0:Hid (Only (fun b=>b=s) w ((w1.setCell ⟨s,0,none⟩ (.int .i64 1)).setCell ⟨s,1,none⟩ (.int .i64 0))):=Lib.hid (((Only.of_below b1).trans (only_set s 0 _ _) (fun _ _ q=>q)).trans (only_set s 1 _ _) (fun _ _ q=>q));clear R R1 OP b1;go_wp2
  go_loopw [17] (fun i wr=>∃ k:Nat,k≤2∧i = .int .i64 k∧Hid (HM wr s 1 0 x1 z1 k)∧Hid (Only (fun b=>b=s) w wr)) (fun i _=>2 - (intOf i).toNat)
  case atStart=>exact ⟨0,by omega,rfl,M0,O0⟩
  case round =>
   clear M0 O0 c0 c1 f0 f1;obtain ⟨k,hk,rfl,M,OO⟩:=hrel
   rcases (by omega:k=0∨k=1∨k=2) with rfl | rfl | rfl
   ·have C:=Lib.hid (hear0 (show RowM wr s 1 0 x1 z1 from M.out))
    clear M;go_wp2_with fail;refine C.out.mono ?_;rintro e w2 ⟨rfl,m2,o2⟩;have M2:Hid (HM w2 s 1 0 x1 z1 1):=Lib.hid m2;have O2:=Lib.hid (only_two OO.out o2);clear m2 o2 C OO;go_wp2
    go_roundw
    case rel=>exact ⟨1,by omega,rfl,M2,O2⟩
    case measure=>simp [intOf]
   ·have C:=Lib.hid (hear1 (show RowM wr s (hdN 1) (hZ 1 0) x1 z1 from M.out))
    clear M;go_wp2_with fail;refine C.out.mono ?_;rintro e w2 ⟨rfl,m2,o2⟩;have M2:Hid (HM w2 s 1 0 x1 z1 2):=Lib.hid m2;have O2:=Lib.hid (only_two OO.out o2);clear m2 o2 C OO;go_wp2
    go_roundw
    case rel=>exact ⟨2,by omega,rfl,M2,O2⟩
    case measure=>simp [intOf]
   ·have F:=Lib.hid (FIN.out wr M.out OO.out)
    clear FIN M OO;go_wp2
    go_ret
    exact F.out
 ·have FIN:Hid (∀ w',HM w' s a.r0 z0 1 0 2→Only (fun b=>b=s) w w'→CdeedPost w s (opn a) (rnd a) (t+1) (.returned (.int .i64 1)) w'):=Lib.hid fun w' hh oo=>⟨by rw [eo],by rw [er];exact ⟨_,_,hh,⟨hZ_in V.out.b0,hZ_in ⟨by decide,by omega⟩,fun g=>hdN_zero g,(fun g=>absurd g (by show ¬ ((1:Int)=2∨(1:Int)=3);decide))⟩⟩,oo⟩
  rw [eo] at OP;clear eo er V v0 v1;generalize opn a=op_ at *;generalize rnd a=a' at *;generalize a.r0=x0 at *;generalize a.r1=x1 at *
  go_enter Tryz.func116,Tryz.ntmps116
  go_wp2_with fail;refine OP.out.mono ?_;rintro e w1 ⟨rfl,b1⟩;have R1:=Lib.hid (R.out.below b1);have c0:w1.cell? ⟨s,2,none⟩=some (.int .i64 x1):=row_cell R1.out 2;have c1:w1.cell? ⟨s,3,none⟩=some (.int .i64 z1):=row_cell R1.out 3;have f0:=row_frozen R1.out 2;have f1:=row_frozen R1.out 3;have M0:Hid (HM ((w1.setCell ⟨s,2,none⟩ (.int .i64 1)).setCell ⟨s,3,none⟩ (.int .i64 0)) s x0 z0 1 0 0):=Lib.hid ((R1.out.set2 1).set3 0);have O0:Hid (Only (fun b=>b=s) w ((w1.setCell ⟨s,2,none⟩ (.int .i64 1)).setCell ⟨s,3,none⟩ (.int .i64 0))):=Lib.hid (((Only.of_below b1).trans (only_set s 2 _ _) (fun _ _ q=>q)).trans (only_set s 3 _ _) (fun _ _ q=>q));clear R R1 OP b1;go_wp2
  go_loopw [17] (fun i wr=>∃ k:Nat,k≤2∧i = .int .i64 k∧Hid (HM wr s x0 z0 1 0 k)∧Hid (Only (fun b=>b=s) w wr)) (fun i _=>2 - (intOf i).toNat)
  case atStart=>exact ⟨0,by omega,rfl,M0,O0⟩
  case round =>
   clear M0 O0 c0 c1 f0 f1;obtain ⟨k,hk,rfl,M,OO⟩:=hrel
   rcases (by omega:k=0∨k=1∨k=2) with rfl | rfl | rfl
   ·have C:=Lib.hid (hear0 (show RowM wr s x0 z0 1 0 from M.out))
    clear M;go_wp2_with fail;refine C.out.mono ?_;rintro e w2 ⟨rfl,m2,o2⟩;have M2:Hid (HM w2 s x0 z0 1 0 1):=Lib.hid m2;have O2:=Lib.hid (only_two OO.out o2);clear m2 o2 C OO;go_wp2
    go_roundw
    case rel=>exact ⟨1,by omega,rfl,M2,O2⟩
    case measure=>simp [intOf]
   ·have C:=Lib.hid (hear1 (show RowM wr s (hdN x0) (hZ x0 z0) 1 0 from M.out))
    clear M;go_wp2_with fail;refine C.out.mono ?_;rintro e w2 ⟨rfl,m2,o2⟩;have M2:Hid (HM w2 s x0 z0 1 0 2):=Lib.hid m2;have O2:=Lib.hid (only_two OO.out o2);clear m2 o2 C OO;go_wp2
    go_roundw
    case rel=>exact ⟨2,by omega,rfl,M2,O2⟩
    case measure=>simp [intOf]
   ·have F:=Lib.hid (FIN.out wr M.out OO.out)
    clear FIN M OO;go_wp2
    go_ret
    exact F.out
 ·have FIN:Hid (∀ w',WM w' s a.r0 z0 a.r1 z1 2→Only (fun b=>b=s) w w'→CdeedPost w s (opn a) (rnd a) (t+1) (.returned (.int .i64 (-1))) w'):=Lib.hid fun w' hh oo=>⟨by rw [eo],by rw [er];exact ⟨_,_,hh,⟨wZ_in V.out.b0,wZ_in V.out.b1,fun g=>wZ_next V.out.e0 g,fun g=>wZ_next V.out.e1 g⟩⟩,oo⟩
  rw [eo] at OP;have V0:Hid (0≤z0∧z0≤1000000):=Lib.hid (by omega);have V1:Hid (0≤z1∧z1≤1000000):=Lib.hid (by omega);clear eo er V v0 v1 g0 g1;generalize opn a=op_ at *;generalize rnd a=a' at *;generalize a.r0=x0 at *;generalize a.r1=x1 at *
  go_enter Tryz.func116,Tryz.ntmps116
  go_wp2_with fail;refine OP.out.mono ?_;rintro e w1 ⟨rfl,b1⟩;have M0:Hid (WM w1 s x0 z0 x1 z1 0):=Lib.hid (R.out.below b1);have O0:Hid (Only (fun b=>b=s) w w1):=Lib.hid (Only.of_below b1);clear R OP b1;go_wp2
  go_loopw [17] (fun i wr=>∃ k:Nat,k≤2∧i = .int .i64 k∧Hid (WM wr s x0 z0 x1 z1 k)∧Hid (Only (fun b=>b=s) w wr)) (fun i _=>2 - (intOf i).toNat)
  case atStart=>exact ⟨0,by omega,rfl,M0,O0⟩
  case round =>
   clear M0 O0;obtain ⟨k,hk,rfl,M,OO⟩:=hrel
   rcases (by omega:k=0∨k=1∨k=2) with rfl | rfl | rfl
   ·have C:=Lib.hid (wait0 (show RowM wr s x0 z0 x1 z1 from M.out) V0.out)
    clear M;go_wp2_with fail;refine C.out.mono ?_;rintro e w2 ⟨rfl,m2,o2⟩;have M2:Hid (WM w2 s x0 z0 x1 z1 1):=Lib.hid m2;have O2:=Lib.hid (only_two OO.out o2);clear m2 o2 C OO;go_wp2
    go_roundw
    case rel=>exact ⟨1,by omega,rfl,M2,O2⟩
    case measure=>simp [intOf]
   ·have C:=Lib.hid (wait1 (show RowM wr s x0 (wZ x0 z0) x1 z1 from M.out) V1.out)
    clear M;go_wp2_with fail;refine C.out.mono ?_;rintro e w2 ⟨rfl,m2,o2⟩;have M2:Hid (WM w2 s x0 z0 x1 z1 2):=Lib.hid m2;have O2:=Lib.hid (only_two OO.out o2);clear m2 o2 C OO;go_wp2
    go_roundw
    case rel=>exact ⟨2,by omega,rfl,M2,O2⟩
    case measure=>simp [intOf]
   ·have F:=Lib.hid (FIN.out wr M.out OO.out)
    clear FIN M OO;go_wp2
    go_ret
    exact F.out
end Go.Proofs.YtljnkaodhfnbbaaGreatDoor.Wt
namespace Go.Proofs.YtljnkaodhfnbbaaGreatDoor.Cu
open Go.RowKit Go.Maps
open Rw (Rd Ow At)
open Fl (row_cell row_frozen)
open Fs (Abs St OkA Only Fx ow_only Glob)
open Pa (Sts S2 sat vat KN KB K2 ptr rdE rdL)
open Re (KI iat seqP)
attribute [local irreducible] Sd.wpSd wpQuiet
theorem opn_casesC (a:Wt.A):Wt.opn a = -1∨Wt.opn a=0∨Wt.opn a=1:=by
 unfold Wt.opn Wt.op
 split
 ·exact .inr (.inl rfl)
 ·split
  ·exact .inr (.inr rfl)
  ·exact .inl rfl
theorem at0_lt {c:Cs} {l:List Int} (h:seqP l):at0 c l < l.length:=by
 unfold at0;have:=h.1
 split <;> omega
set_option maxHeartbeats 4000000 in
theorem cround_silent {s t p:Nat} {F:Nat→Prop} {c:Cs} {vn vq:Value} {L:List Nd} {Fs:Nat→Nat→Prop} {w:World} (h:Cl w s F c t vn L p vq Fs) (ok:OkC c t) (ht:t≤1000) (hg:Glob w) (hG:¬ F 1) (ho:Wt.opn c.P = -1) :
 Calls Tryz.prog 59 #[ptr s] w (DoC w s F (rC c) (t+1) (rE c)):=by
 generalize hRC:rC c=cR;generalize hRE:rE c=eR;have RC:=Lib.hid hRC;have RE:=Lib.hid hRE;clear hRC hRE;have d3:=h.cells.2.2.2;have f3:=h.frz 3;have H1:=Lib.hid (h.spoils (v:=.slice none 0 0) (Q:=[]) (Rw.Ow.nil _ _ _) (fun k e=>by simp [Value.ownBlock] at e) (fun i hi k _ e=>by simp [Value.ownBlock] at e));have O1:Hid (Only F w (w.setCell ⟨s,3,none⟩ (.slice none 0 0))):=Lib.hid (Only.set F w (a:=⟨s,3,none⟩) h.fs _);have Q1:Hid (Ow K2 (w.setCell ⟨s,3,none⟩ (.slice none 0 0)) 0 155 vq c.Q):=Lib.hid (ow_only h.sp (fun k e g=>h.vs.2 (by rw [e,g])) (Only.set (fun k=>k=s) w (a:=⟨s,3,none⟩) rfl _));have k1:=H1.out.cells.2.1;have CR:=Lib.hid (Wt.round_any H1.out.pr (by omega));have QF:Hid (∀ k,vq.ownBlock=some k→k≠s∧k≠p):=Lib.hid (fun k e=>⟨fun g=>h.vs.2 (by rw [e,g]),fun g=>h.vp.2 (by rw [e,g])⟩);have HS:=Lib.hid h.fs;have LW:=Lib.hid h.low;have GG:=Lib.hid hg;have HG:=Lib.hid hG;have OK:=Lib.hid ok;obtain ⟨qa,qc,rfl,_⟩:=h.sp.slice;clear h ok hg hG;unfold Wt.CdeedPost at CR;rw [show Wt.opn ({ c with Q:=[] } : Cs).P=_ from ho,show Wt.rnd ({ c with Q:=[] } : Cs).P=Wt.rnd c.P from rfl] at CR;unfold ptr at *;generalize hql:c.Q.length=ql at *;clear hql
 go_enter Tryz.func59,Tryz.ntmps59
 go_upto_region 3 with fail;clear d3 f3;generalize (w.setCell ⟨s,3,none⟩ (.slice none 0 0))=w1 at *;go_wp2_with fail;refine CR.out.mono ?_;rintro e w2 ⟨rfl,pr2,o2⟩;have H2:=Lib.hid (H1.out.pair o2 pr2);have O2:=Lib.hid (O1.out.trans o2 fun k _ e=>by rw [e];exact H1.out.fp);have Q2:=Lib.hid (ow_only Q1.out (fun k e g=>(QF.out k e).2 g) o2);have G2:=Lib.hid (GG.out.only HG.out O2.out);clear pr2 o2 CR H1 O1 Q1 k1;have e1:rE c=0:=by unfold rE;rw [if_pos (by omega)]
 have e2:rC c = { c with P:=Wt.rnd c.P,Q:=[] }:=by unfold rC;rw [if_pos (by omega)]
 rw [RE.out] at e1;rw [RC.out] at e2;subst e1 e2;have C3:=Lib.hid (chas_out H2.out (n:=-1) (Or.inl (by decide)));have E:=Lib.hid (fun w' (b:Below w2.heap.size w2 w')=>doc_of (w:=w) (H2.out.below b) (O2.out.then b) 0);unfold ptr at C3;clear H2 O2 Q2 G2 ho;go_wp2_with fail;refine C3.out.mono ?_;rintro e w3 ⟨rfl,b3⟩;have G:=Lib.hid (E.out w3 b3);clear E C3 b3;go_wp2
 go_ret
 exact G.out
set_option maxHeartbeats 4000000 in
theorem cround_open {s t p:Nat} {F:Nat→Prop} {c:Cs} {vn vq:Value} {L:List Nd} {Fs:Nat→Nat→Prop} {w:World} (h:Cl w s F c t vn L p vq Fs) (ok:OkC c t) (ht:t≤1000) (hg:Glob w) (hG:¬ F 1) {nn:Nat} (ho:Wt.opn c.P=nn) (hn:nn < 2) :
 Calls Tryz.prog 59 #[ptr s] w (DoC w s F (rC c) (t+1) (rE c)):=by
 generalize hRC:rC c=cR;generalize hRE:rE c=eR;have RC:=Lib.hid hRC;have RE:=Lib.hid hRE;clear hRC hRE;have d3:=h.cells.2.2.2;have f3:=h.frz 3;have H1:=Lib.hid (h.spoils (v:=.slice none 0 0) (Q:=[]) (Rw.Ow.nil _ _ _) (fun k e=>by simp [Value.ownBlock] at e) (fun i hi k _ e=>by simp [Value.ownBlock] at e));have O1:Hid (Only F w (w.setCell ⟨s,3,none⟩ (.slice none 0 0))):=Lib.hid (Only.set F w (a:=⟨s,3,none⟩) h.fs _);have Q1:Hid (Ow K2 (w.setCell ⟨s,3,none⟩ (.slice none 0 0)) 0 155 vq c.Q):=Lib.hid (ow_only h.sp (fun k e g=>h.vs.2 (by rw [e,g])) (Only.set (fun k=>k=s) w (a:=⟨s,3,none⟩) rfl _));have k1:=H1.out.cells.2.1;have CR:=Lib.hid (Wt.round_any H1.out.pr (by omega));have QF:Hid (∀ k,vq.ownBlock=some k→k≠s∧k≠p):=Lib.hid (fun k e=>⟨fun g=>h.vs.2 (by rw [e,g]),fun g=>h.vp.2 (by rw [e,g])⟩);have HS:=Lib.hid h.fs;have LW:=Lib.hid h.low;have GG:=Lib.hid hg;have HG:=Lib.hid hG;have OK:=Lib.hid ok;obtain ⟨qa,qc,rfl,_⟩:=h.sp.slice;clear h ok hg hG;unfold Wt.CdeedPost at CR;rw [show Wt.opn ({ c with Q:=[] } : Cs).P=_ from ho,show Wt.rnd ({ c with Q:=[] } : Cs).P=Wt.rnd c.P from rfl] at CR;unfold ptr at *;generalize hql:c.Q.length=ql at *;clear hql
 go_enter Tryz.func59,Tryz.ntmps59
 go_upto_region 3 with fail;clear d3 f3;generalize (w.setCell ⟨s,3,none⟩ (.slice none 0 0))=w1 at *;go_wp2_with fail;refine CR.out.mono ?_;rintro e w2 ⟨rfl,pr2,o2⟩;have H2:=Lib.hid (H1.out.pair o2 pr2);have O2:=Lib.hid (O1.out.trans o2 fun k _ e=>by rw [e];exact H1.out.fp);have Q2:=Lib.hid (ow_only Q1.out (fun k e g=>(QF.out k e).2 g) o2);have G2:=Lib.hid (GG.out.only HG.out O2.out);clear pr2 o2 CR H1 O1 Q1 k1;have hnl:nn < c.S.length:=by have:=OK.out.len;omega
 have OW:own c=(sat c.S nn).1:=by unfold own;rw [ho]
 have C3:=Lib.hid (chas_in H2.out (n:=nn) hnl);have HO:=Lib.hid ho;have HN:=Lib.hid hnl;unfold ptr at C3;go_wp2_with fail;refine C3.out.mono ?_;rintro e w3 ⟨rfl,b3⟩;have H3:=Lib.hid (H2.out.below b3);have O3:=Lib.hid (O2.out.then b3);have Q3:=Lib.hid (Q2.out.keep b3);have C4:=Lib.hid (csequence_any H3.out (nn:=nn) HN.out);rw [show (sat ({ c with Q:=[],P:=Wt.rnd c.P } : Cs).S nn).1=own c from OW.symm] at C4;have OWH:=Lib.hid OW;unfold SqC ptr at C4;clear H2 O2 Q2 G2 C3 b3 OW ho hnl;go_wp2_with fail;refine C4.out.mono ?_;rintro e w4 ⟨b4,hc⟩;have H4:=Lib.hid (H3.out.below b4);have O4:=Lib.hid (O3.out.then b4);have Q4:=Lib.hid (Q3.out.keep b4);have G4:=Lib.hid (GG.out.only HG.out O4.out);clear H3 O3 Q3 C4 b4
 rcases hc with ⟨hs,u,rfl,ru⟩ | ⟨hs,rfl⟩
 ·have SQ:=Lib.hid (sqL_seq hs)
  have er:rE c=rdE c.S (rT c) c.V:=by unfold rE;rw [if_neg (by rw [HO.out];omega),if_pos hs]
  have ec:rC c=⟨caS c.S (rT c) c.V c.Q,c.V,Wt.rnd c.P,at1 c (sqL (own c)),[]⟩:=by unfold rC caS;rw [if_neg (by rw [HO.out];omega),if_pos hs]
  rw [RE.out] at er;rw [RC.out] at ec;have C5:Hid (Calls Tryz.prog 119 #[ptr s,u] w4 (NxC w4 s (iat (sqL (own c)) (at0 c (sqL (own c)))) (at1 c (sqL (own c))))):=Lib.hid (cnext_any H4.out ru SQ.out);have RR:Hid (0≤iat (sqL (own c)) (at0 c (sqL (own c)))∧iat (sqL (own c)) (at0 c (sqL (own c)))≤5):=Lib.hid (SQ.out.2 _ (at0_lt SQ.out));have RT:Hid (rT c=tbs c.S (iat (sqL (own c)) (at0 c (sqL (own c))))):=Lib.hid rfl;obtain ⟨ua,uc,rfl,_⟩:=ru.slice;unfold NxC ptr at C5;have EC:=Lib.hid ec;have ER:=Lib.hid er;clear ru er ec hs;generalize (sqL (own c)).length=ul at *;go_wp2_with fail;refine C5.out.mono ?_;rintro e w5 ⟨rfl,w6,b6,rfl⟩;have H5:=Lib.hid ((H4.out.below b6).place (at1 c (sqL (own c))));have O5:=Lib.hid ((O4.out.then b6).trans (Only.set F w6 (a:=⟨s,2,none⟩) HS.out (.int .i64 (at1 c (sqL (own c))))) fun _ _ g=>g);have Q5:=Lib.hid (ow_only (Q4.out.keep b6) (fun k e g=>(QF.out k e).1 g) (Only.set (fun k=>k=s) w6 (a:=⟨s,2,none⟩) rfl (.int .i64 (at1 c (sqL (own c))))));have G5:=Lib.hid (GG.out.only HG.out O5.out);clear H4 O4 Q4 G4 b6 C5;generalize (w6.setCell ⟨s,2,none⟩ (.int .i64 (at1 c (sqL (own c)))))=w7 at *;have C6:=Lib.hid (ccarry_any H5.out OK.out.len OK.out.lv (fun i hi=>by have:=OK.out.st i hi;exact ⟨this.2.1,Int.lt_of_le_of_lt this.2.2 (by omega)⟩) G5.out RR.out Q5.out.rd);unfold ptr at C6;rw [← RT.out] at C6;clear H5 Q5 G5 RR;generalize iat (sqL (own c)) (at0 c (sqL (own c)))=r at *;go_wp2_with fail;refine C6.out.mono ?_;rintro e w8 d8;have G:Hid (DoC w s F cR (t+1) eR e w8):=Lib.hid (by rw [EC.out,ER.out];exact d8.preO O5.out LW.out);obtain ⟨rfl,_,_⟩:=d8;clear C6;go_wp2
  go_ret
  exact G.out
 ·have er:rE c=2:=by unfold rE;rw [if_neg (by rw [HO.out];omega),if_neg (by rw [hs];decide)]
  have ec:rC c = { c with P:=Wt.rnd c.P,Q:=[] }:=by unfold rC;rw [if_neg (by rw [HO.out];omega),if_neg (by rw [hs];decide)]
  rw [RE.out] at er;rw [RC.out] at ec;subst er ec;have C5:=Lib.hid (cnumber_any nn 2 w4 G4.out);have E:=Lib.hid (fun w' (b:Below w4.heap.size w4 w')=>doc_of (w:=w) (H4.out.below b) (O4.out.then b) 2);unfold flaw flw at *;clear H4 O4 Q4 G4 hs;go_wp2_with fail;refine C5.out.mono ?_;rintro e w5 ⟨rfl,b5⟩;have G:=Lib.hid (E.out w5 b5);clear E C5 b5;go_wp2
  go_ret
  exact G.out
theorem cround_any {s t p:Nat} {F:Nat→Prop} {c:Cs} {vn vq:Value} {L:List Nd} {Fs:Nat→Nat→Prop} {w:World} (h:Cl w s F c t vn L p vq Fs) (ok:OkC c t) (ht:t≤1000) (hg:Glob w) (hG:¬ F 1) :
 Calls Tryz.prog 59 #[ptr s] w (DoC w s F (rC c) (t+1) (rE c)):=by
 rcases opn_casesC c.P with ho | ho | ho
 ·exact cround_silent h ok ht hg hG ho
 ·exact cround_open h ok ht hg hG (nn:=0) ho (by decide)
 ·exact cround_open h ok ht hg hG (nn:=1) ho (by decide)
end Go.Proofs.YtljnkaodhfnbbaaGreatDoor.Cu
namespace Go.Proofs.YtljnkaodhfnbbaaGreatDoor.Cu
open Go.RowKit Go.Maps
open Rw (Rd Ow At)
open Fl (R4 K4 okL okR z4 rec4 arr4 row_cell row_frozen)
open Fs (Abs St OkA Only Fx ow_only Wf Glob sA sB)
open Pa (Sts S2 sat vat KN KB K2 ptr)
attribute [local irreducible] Sd.wpSd wpQuiet Sz.wpSz
section
variable {s t p:Nat} {F G:Nat→Prop} {c:Cs} {vn vq:Value} {L:List Nd} {Fs:Nat→Nat→Prop} {w w1 w':World}
theorem act_write {x:Ac} (hk:x.k=2) (hn:¬ no c x.n):(vat c.V x.n=true→actE x c=(if sB (sat c.S x.n).1 x.f x.r=true then 0 else 3)∧actC x c = { c with S:=setS c.S x.n (sA (sat c.S x.n).1 x.f x.r x.v,(sat c.S x.n).2) })∧(vat c.V x.n=false→actE x c=10∧actC x c=c):=by
 have hin:0≤x.n∧x.n < c.S.length:=by unfold no at hn;omega
 have he:actE x c=if vat c.V x.n=true then (if sB (sat c.S x.n).1 x.f x.r=true then 0 else 3) else 10:=by
  unfold actE;rw [if_neg (by omega),if_neg (by omega),if_neg (by rintro (g | g | g);omega;omega;exact hn g),if_pos hk]
 refine ⟨fun hv=>?_,fun hv=>?_⟩
 ·rw [hv,if_pos rfl] at he
  refine ⟨he,?_⟩;unfold actC
  cases g:sB (sat c.S x.n).1 x.f x.r with
  | true =>
    rw [g,if_pos rfl] at he;rw [if_neg (by omega),if_neg (by rw [he];simp),if_neg (by omega),if_pos hk]
  | false =>
    rw [g,if_neg Bool.false_ne_true] at he;rw [if_neg (by omega),if_pos (by rw [he];decide)];have e1:sA (sat c.S x.n).1 x.f x.r x.v=(sat c.S x.n).1:=by
     unfold sA
     split
     ·rfl
     ·rw [g];rfl
    have e2:setS c.S x.n (sA (sat c.S x.n).1 x.f x.r x.v,(sat c.S x.n).2)=c.S:=by
     rw [e1];unfold setS
     show c.S.set x.n.toNat (sat c.S x.n)=c.S
     unfold sat;rw [List.getD_eq_getElem?_getD,List.getElem?_eq_getElem (by omega)];exact List.set_getElem_self (by omega)
    rw [e2]
 ·rw [hv,if_neg Bool.false_ne_true] at he
  refine ⟨he,?_⟩;unfold actC;rw [if_neg (by omega),if_pos (by rw [he];decide)]
theorem act_drift {x:Ac} (hk:x.k=6) (hn:¬ no c x.n):actE x c=(if x.t < -2000∨2000 < x.t then 1 else 0)∧actC x c=c:=by
 have he:actE x c=if x.t < -2000∨2000 < x.t then 1 else 0:=by
  unfold actE;rw [if_neg (by omega),if_neg (by omega),if_neg (by rintro (g | g | g);omega;omega;exact hn g),if_neg (by omega),if_neg (by omega),if_neg (by omega)]
 refine ⟨he,?_⟩;unfold actC;rw [if_neg (by omega)]
 by_cases e:actE x c≠0
 ·rw [if_pos e]
 ·rw [if_neg e,if_neg (by omega),if_neg (by omega),if_neg (by omega),if_neg (by omega)]
theorem Cl.wr {nn:Nat} (h:Cl w s F c t vn L p vq Fs) (hn:nn < c.S.length) {q:Nat} (hq:q=(nda L nn).s) {f r:Int} {x:R4} {e:Ending} (hw:WrC w q (Fs nn) (sat c.S nn).1 (sat c.S nn).2 f r x e w'):DoC w s F { c with S:=setS c.S nn (sA (sat c.S nn).1 f r x,(sat c.S nn).2) } t (if sB (sat c.S nn).1 f r=true then 0 else 3) e w':=by
 subst hq;obtain ⟨h1,h2,h3⟩:=hw;have hl:=h.len;exact ⟨h1,⟨_,_,_,_,_,h.store (i:=nn) (by omega) (x:=(sA (sat c.S nn).1 f r x,(sat c.S nn).2)) h2 h3⟩,h3.mono fun k _ g=>h.ff nn (by omega) k g⟩
set_option maxHeartbeats 2000000 in
theorem cdo_write (h:Cl w s F c t vn L p vq Fs) (x:Ac) (hk:x.k=2) (hn:¬ no c x.n) (hx:okR x.v) (hf:Wf x.f):Calls Tryz.prog 17 #[ptr s,actV x] w (DoC w s F (actC x c) (t+1) (actE x c)):=by
 have B0:=Lib.hid ((Below.refl w.heap.size w).alloc (Nat.le_refl _) (.cells (actA x) 44));have X0:=Lib.hid (heap_alloc_new w (.cells (actA x) 44));have hn':0≤x.n∧x.n < c.S.length:=by unfold no at hn;omega
 obtain ⟨nn,hnn⟩:∃ nn:Nat,(nn:Int)=x.n:=⟨x.n.toNat,by omega⟩;have hnl:nn < c.S.length:=by omega
 obtain ⟨g,cap,rfl,hcap,hm,-⟩:=h.one hnl;have hL:=h.len;have C1:=Lib.hid (chas_in (h.below B0.out) (n:=nn) hnl);rw [hnn] at C1
 have CW:Hid (∀ W,Below (w.alloc (.cells (actA x) 44)).heap.size (w.alloc (.cells (actA x) 44)) W→Calls Tryz.prog 62 #[.pointer (some ⟨g,nn * 3,none⟩),.int .i64 x.f,.int .i64 x.r,rec4 x.v] W (fun e w'=>DoC W s F (actC x c) t (actE x c) e w'∧Only (Fs nn) W w')):=Lib.hid (fun W b=>by
  have hh:=(h.below B0.out).below b;obtain ⟨q0,q1,_⟩:=hh.nod hnl;rw [hh.lv nn (by omega),hnn] at q1;obtain ⟨a1,a2⟩:=act_write hk hn
  cases hv:vat c.V x.n with
  | true =>
    rw [(a1 hv).1,(a1 hv).2];rw [hv] at q1;refine (cwrite_yes (hh.sto hnl) g (nn * 3) q0 q1 (fun e=>(h.off nn (by omega) g e).2.2.1 rfl) hf x.r x.v hx).mono fun e w' hw=>⟨?_,hw.2.2⟩;rw [← hnn];exact hh.wr hnl rfl hw
  | false =>
    rw [(a2 hv).1,(a2 hv).2];rw [hv] at q1;refine (cwrite_no W g (nn * 3) x.f x.r x.v q1).mono fun e w' hw=>?_;obtain ⟨rfl,b'⟩:=hw
    exact ⟨doc_below hh b' 10,Only.of_below b'⟩)
 have NG:Hid (¬ (Fs nn) s∧¬ (Fs nn) w.heap.size):=Lib.hid ⟨fun e=>(h.off nn (by omega) s e).1 rfl,fun e=>by have:=(h.st nn (by omega)).low _ e;omega⟩;have E:=Lib.hid (fun w1 (b:Below w.heap.size w w1) e w' (d:DoC w1 s F (actC x c) t (actE x c) e w')=>(d.pre b h.low).late);have D0:=Lib.hid (fun w1 b=>(h.below (w':=w1) b).cells.1);clear h hn hn' hL;generalize actC x c=c' at *;generalize actE x c=ae at *;generalize hGG:(Fs nn)=GG at *;clear hGG;have HNL:=Lib.hid hnl;have p5:decide (c.S.length≤nn)=false:=decide_eq_false (by omega);generalize c.S.length=ln at *;unfold actV actA at *;unfold ptr at *;obtain ⟨k,n,f,rr,v,s',m,tt⟩:=x;simp only at hk hnn B0 X0 C1 CW E ⊢;subst hk hnn
 (try unfold rec4 at CW)
 go_enter Tryz.func17,Tryz.ntmps17
 go_wp2_with fail;refine C1.out.mono ?_;rintro e w1 ⟨rfl,b1⟩;have BW:=Lib.hid (B0.out.trans (b1.mono B0.out.size));have X1:=Lib.hid ((b1.block _ (lt_of_block X0.out)).trans X0.out);have CX:=Lib.hid (fun W (b:Below w1.heap.size w1 W)=>CW.out W (b1.trans (b.mono b1.size)));have d0:=D0.out w1 BW.out;clear b1 C1 CW D0 X0 B0;generalize hgx:w.heap.size=gx at X1 NG ⊢;have HGX:=Lib.hid hgx;clear hgx;have y0:w1.cell? ⟨gx,0,none⟩=some (.int .i64 2):=row_cell X1.out 0;have Q0:=Lib.hid d0;go_upto_region 12 with fail;clear y0 d0;have BD:=Lib.hid (Below.refl w1.heap.size w1).drew;have OD:Hid (Only GG w1 w1.drew):=Lib.hid (Only.of_below BD.out);have s0:=Sc.cell_in (C:=fun W'=>Only GG w1 W') (a:=⟨s,0,none⟩) (fun W' o=>o.cell Q0.out NG.out.1);have x1:=Sc.cell_in (C:=fun W'=>Only GG w1 W') (a:=⟨gx,1,none⟩) (fun W' o=>o.cell (row_cell X1.out 1) NG.out.2);have x2:=Sc.cell_in (C:=fun W'=>Only GG w1 W') (a:=⟨gx,2,none⟩) (fun W' o=>o.cell (row_cell X1.out 2) NG.out.2);have x3:=Sc.cell_in (C:=fun W'=>Only GG w1 W') (a:=⟨gx,3,none⟩) (fun W' o=>o.cell (row_cell X1.out 3) NG.out.2);have x4:=Sc.cell_in (C:=fun W'=>Only GG w1 W') (a:=⟨gx,4,none⟩) (fun W' o=>o.cell (row_cell X1.out 4) NG.out.2);have x5:=Sc.cell_in (C:=fun W'=>Only GG w1 W') (a:=⟨gx,5,none⟩) (fun W' o=>o.cell (row_cell X1.out 5) NG.out.2);have x6:=Sc.cell_in (C:=fun W'=>Only GG w1 W') (a:=⟨gx,6,none⟩) (fun W' o=>o.cell (row_cell X1.out 6) NG.out.2);have x7:=Sc.cell_in (C:=fun W'=>Only GG w1 W') (a:=⟨gx,7,none⟩) (fun W' o=>o.cell (row_cell X1.out 7) NG.out.2);have ne:Nonempty (Sc.In (fun W'=>Only GG w1 W')):=⟨⟨_,OD.out⟩⟩;have CY:=Lib.hid (CX.out w1.drew BD.out);clear CX Q0;refine Sc.start (fun W'=>Only GG w1 W') [(false,0),(false,1),(false,2),(false,3),(false,4),(false,5),(false,6),(false,7),(false,8),(false,9),(false,10),(false,11),(false,12),(true,13),(false,14)] (by kernel_rfl) (by kernel_rfl) (by kernel_rfl) OD.out ?_;dsimp only [Sd.picks,List.getElem?_cons_succ,List.getElem?_cons_zero]
 iterate 13 (refine Sd.lit ?_;quiet_step (fail);refine wpQuiet_nil ?_)
 clear s0 x1 x2 x3 x4 x5 x6 x7;refine Sd.call (by rfl) (fun K hK=>?_);go_simp;refine CY.out.mono ?_;rintro e w5 ⟨d5,o5⟩;have R:=Lib.hid (E.out w1.drew (BW.out.trans (BD.out.mono BW.out.size)) e w5 d5);obtain ⟨rfl,_,_⟩:=d5;refine hK _ _ (Sc.Cl.of (OD.out.trans o5 fun k _ g=>g)) ?_;clear hK K o5 CY E
 iterate 1 (refine Sd.lit ?_;quiet_step (fail);refine wpQuiet_nil ?_)
 refine Sd.done ?_;go_wp2
 go_ret
 exact R.out
set_option maxHeartbeats 2000000 in
theorem cdo_drift (h:Cl w s F c t vn L p vq Fs) (x:Ac) (hk:x.k=6) (hn:¬ no c x.n):Calls Tryz.prog 17 #[ptr s,actV x] w (DoC w s F (actC x c) (t+1) (actE x c)):=by
 have B0:=Lib.hid ((Below.refl w.heap.size w).alloc (Nat.le_refl _) (.cells (actA x) 44));have X0:=Lib.hid (heap_alloc_new w (.cells (actA x) 44));have hn':0≤x.n∧x.n < c.S.length:=by unfold no at hn;omega
 obtain ⟨nn,hnn⟩:∃ nn:Nat,(nn:Int)=x.n:=⟨x.n.toNat,by omega⟩;have hnl:nn < c.S.length:=by omega
 obtain ⟨g,cap,rfl,hcap,hm,-⟩:=h.one hnl;have hL:=h.len;have C1:=Lib.hid (chas_in (h.below B0.out) (n:=nn) hnl);rw [hnn] at C1
 have CW:Hid (∀ W,Below (w.alloc (.cells (actA x) 44)).heap.size (w.alloc (.cells (actA x) 44)) W→Calls Tryz.prog 65 #[.pointer (some ⟨g,nn * 3,none⟩),.int .i64 x.t] W (fun e w'=>DoC W s F (actC x c) t (actE x c) e w'∧Only (fun k=>k=g) W w')):=Lib.hid (fun W b=>by
  have hh:=(h.below B0.out).below b;obtain ⟨_,_,q2⟩:=hh.nod hnl;obtain ⟨a1,a2⟩:=act_drift hk hn;rw [a1,a2];have fz:W.frozen? ⟨g,nn * 3+2,none⟩=false:=by
   obtain ⟨g',cap',e',_,_,_,_,_,fz⟩:=hh.one hnl;injection e' with e1 _ _;injection e1 with e1;injection e1 with e1 _ _;subst e1;exact fz _
  by_cases hx : -2000≤x.t∧x.t≤2000
  ·rw [if_neg (by omega)]
   refine (cdrift_yes W g (nn * 3) x.t _ q2 fz (cal_of.2 hx)).mono fun e w' hw=>?_;obtain ⟨rfl,rfl⟩:=hw;have z:=hh.setRate rfl hnl hx;exact ⟨doc_of z.1 z.2 0,Only.set (fun k=>k=g) W (a:=⟨g,nn * 3+2,none⟩) rfl _⟩
  ·rw [if_pos (by omega)]
   have hc:cal x.t=false:=by
    cases hc:cal x.t with
    | false=>rfl
    | true=>exact absurd (cal_of.1 hc) hx
   refine (cdrift_no W g (nn * 3) x.t hc).mono fun e w' hw=>?_;obtain ⟨rfl,rfl⟩:=hw
   exact ⟨doc_below hh (Below.refl _ _) 1,Only.refl _ _⟩)
 have NG:Hid (¬ (fun k=>k=g) s∧¬ (fun k=>k=g) w.heap.size):=Lib.hid ⟨fun e=>h.vs.1 (by rw [e];rfl),fun e=>by have:=h.low g (h.fv g (.inl rfl));omega⟩;have E:=Lib.hid (fun w1 (b:Below w.heap.size w w1) e w' (d:DoC w1 s F (actC x c) t (actE x c) e w')=>(d.pre b h.low).late);have D0:=Lib.hid (fun w1 b=>(h.below (w':=w1) b).cells.1);clear h hn hn' hL;generalize actC x c=c' at *;generalize actE x c=ae at *;generalize hGG:(fun k=>k=g)=GG at *;clear hGG;have HNL:=Lib.hid hnl;have p5:decide (c.S.length≤nn)=false:=decide_eq_false (by omega);generalize c.S.length=ln at *;unfold actV actA at *;unfold ptr at *;obtain ⟨k,n,f,rr,v,s',m,tt⟩:=x;simp only at hk hnn B0 X0 C1 CW E ⊢;subst hk hnn
 (try unfold rec4 at CW)
 go_enter Tryz.func17,Tryz.ntmps17
 go_wp2_with fail;refine C1.out.mono ?_;rintro e w1 ⟨rfl,b1⟩;have BW:=Lib.hid (B0.out.trans (b1.mono B0.out.size));have X1:=Lib.hid ((b1.block _ (lt_of_block X0.out)).trans X0.out);have CX:=Lib.hid (fun W (b:Below w1.heap.size w1 W)=>CW.out W (b1.trans (b.mono b1.size)));have d0:=D0.out w1 BW.out;clear b1 C1 CW D0 X0 B0;generalize hgx:w.heap.size=gx at X1 NG ⊢;have HGX:=Lib.hid hgx;clear hgx;have y0:w1.cell? ⟨gx,0,none⟩=some (.int .i64 6):=row_cell X1.out 0;have Q0:=Lib.hid d0;go_upto_region 18 with fail;clear y0 d0;have BD:=Lib.hid (Below.refl w1.heap.size w1).drew;have OD:Hid (Only GG w1 w1.drew):=Lib.hid (Only.of_below BD.out);have s0:=Sc.cell_in (C:=fun W'=>Only GG w1 W') (a:=⟨s,0,none⟩) (fun W' o=>o.cell Q0.out NG.out.1);have x1:=Sc.cell_in (C:=fun W'=>Only GG w1 W') (a:=⟨gx,1,none⟩) (fun W' o=>o.cell (row_cell X1.out 1) NG.out.2);have x10:=Sc.cell_in (C:=fun W'=>Only GG w1 W') (a:=⟨gx,10,none⟩) (fun W' o=>o.cell (row_cell X1.out 10) NG.out.2);have ne:Nonempty (Sc.In (fun W'=>Only GG w1 W')):=⟨⟨_,OD.out⟩⟩;have CY:=Lib.hid (CX.out w1.drew BD.out);clear CX Q0;refine Sc.start (fun W'=>Only GG w1 W') [(false,0),(false,1),(false,2),(false,3),(false,4),(false,5),(false,6),(false,7),(false,8),(true,9),(false,10)] (by kernel_rfl) (by kernel_rfl) (by kernel_rfl) OD.out ?_;dsimp only [Sd.picks,List.getElem?_cons_succ,List.getElem?_cons_zero]
 iterate 9 (refine Sd.lit ?_;quiet_step (fail);refine wpQuiet_nil ?_)
 clear s0 x1 x10;refine Sd.call (by rfl) (fun K hK=>?_);go_simp;refine CY.out.mono ?_;rintro e w5 ⟨d5,o5⟩;have R:=Lib.hid (E.out w1.drew (BW.out.trans (BD.out.mono BW.out.size)) e w5 d5);obtain ⟨rfl,_,_⟩:=d5;refine hK _ _ (Sc.Cl.of (OD.out.trans o5 fun k _ g=>g)) ?_;clear hK K o5 CY E
 iterate 1 (refine Sd.lit ?_;quiet_step (fail);refine wpQuiet_nil ?_)
 refine Sd.done ?_;go_wp2
 go_ret
 exact R.out
theorem cdo_round (h:Cl w s F c t vn L p vq Fs) (ok:OkC c t) (ht:t≤1000) (hg:Glob w) (hG:¬ F 1) (x:Ac) (hk:x.k=1):Calls Tryz.prog 17 #[ptr s,actV x] w (DoC w s F (actC x c) (t+1) (actE x c)):=by
 have B0:=Lib.hid ((Below.refl w.heap.size w).alloc (Nat.le_refl _) (.cells (actA x) 44));have e1:actE x c=rE c:=if_pos hk;have e2:actC x c=rC c:=if_pos hk;rw [e1,e2];have C2:=Lib.hid (cround_any (h.below B0.out) ok ht (hg.below B0.out) hG);have E:=Lib.hid (fun e w' (d:DoC (w.alloc (.cells (actA x) 44)) s F (rC c) (t+1) (rE c) e w')=>d.pre B0.out h.low);clear h ok hg e1 e2;generalize rC c=c' at *;generalize rE c=ae at *;unfold actV actA at *;unfold ptr at *;obtain ⟨k,n,f,rr,v,s',m,tt⟩:=x;simp only at hk B0 C2 E ⊢;subst hk
 go_enter Tryz.func17,Tryz.ntmps17
 go_wp2_with fail;refine C2.out.mono ?_;rintro e w2 d;have G:=Lib.hid (E.out e w2 d);obtain ⟨rfl,_,_⟩:=d;clear E C2;go_wp2
 go_ret
 exact G.out
theorem cdo_any (h:Cl w s F c t vn L p vq Fs) (ok:OkC c t) (sy:Syn c) (ht:t≤1000) (hg:Glob w) (hG:¬ F 1) (x:Ac) (hx:okR x.v) (hf:Wf x.f):Calls Tryz.prog 17 #[ptr s,actV x] w (DoC w s F (actC x c) (t+1) (actE x c)):=by
 by_cases h1:x.k=1
 ·exact cdo_round h ok ht hg hG x h1
 by_cases h3:x.k=3
 ·exact cdo_spoil h ok x h3
 by_cases hn:no c x.n
 ·exact cdo_none h x h1 h3 hn
 by_cases h2:x.k=2
 ·exact cdo_write h x h2 hn hx hf
 by_cases h4:x.k=4
 ·exact cdo_crash h ok sy x h4 hn
 by_cases h5:x.k=5
 ·exact cdo_restart h ok sy x h5 hn
 by_cases h6:x.k=6
 ·exact cdo_drift h x h6 hn
 ·exact cdo_kind h x h1 h3 (by omega) hn
end
end Go.Proofs.YtljnkaodhfnbbaaGreatDoor.Cu
namespace Go.Proofs.YtljnkaodhfnbbaaGreatDoor.Cu
open Go.RowKit
open Rw (Rd Ow At)
open Fl (R4 K4 okL okR z4)
open Fs (Ent Abs St OkA Only Fx E3 Glob Wf FilesPost)
open Pa (ptr sat vat Fls eatF)
open Ck (Hd sl zh)
def CH (w0:World) (s:Nat) (c:Cs) (t:Nat) (W:World):Prop:=∃ F,ClE W s F c t∧(∀ k,F k→w0.heap.size≤k)∧Below w0.heap.size w0 W
section
variable {w0 W w':World} {s t:Nat} {c:Cs}
theorem CH.below (h:CH w0 s c t W) (b:Below W.heap.size W w'):CH w0 s c t w':=by
 obtain ⟨F,⟨vn,L,p,vq,Fs,h1⟩,h2,h3⟩:=h;exact ⟨F,⟨vn,L,p,vq,Fs,h1.below b⟩,h2,h3.trans (b.mono h3.size)⟩
theorem CH.bel (h:CH w0 s c t W):Below w0.heap.size w0 W:=by obtain ⟨_,_,_,h⟩:=h;exact h
theorem ch_do (h:CH w0 s c t W) (hg:Glob w0) (ok:OkC c t) (sy:Syn c) (ht:t≤1000) (x:Ac) (hx:okR x.v) (hf:Wf x.f):Calls Tryz.prog 17 #[ptr s,actV x] W fun e w'=>e = .returned (.int .i64 (actE x c))∧CH w0 s (actC x c) (t+1) w':=by
 obtain ⟨F,⟨vn,L,p,vq,Fs,h1⟩,h2,h3⟩:=h;have gl:=World.block_lt_of_cell? _ _ hg;refine (cdo_any h1 ok sy ht (hg.below h3) (fun g=>by have:=h2 _ g;exact absurd gl (by show ¬ 1 < _;omega)) x hx hf).mono fun e w' d=>⟨d.1,Fx F W w',d.2.1,fun k g=>?_,h3.trans (d.2.2.below h3.size h2)⟩;have:=h3.size
 rcases g with g | g
 ·exact h2 k g
 ·omega
theorem ch_files (h:CH w0 s c t W) {n:Nat} (hn:n < c.S.length):Calls Tryz.prog 21 #[ptr s,.int .i64 n] W (FilesPost W (sat c.S n).1):=by
 obtain ⟨F,⟨vn,L,p,vq,Fs,h1⟩,_,_⟩:=h;exact cfiles_in h1 hn
theorem ch_live (h:CH w0 s c t W) {n:Nat} (hn:n < c.S.length):Calls Tryz.prog 22 #[ptr s,.int .i64 n] W fun e w'=>e = .returned (.bool (vat c.V n))∧Below W.heap.size W w':=by
 obtain ⟨F,⟨vn,L,p,vq,Fs,h1⟩,_,_⟩:=h;exact clive_in h1 hn
theorem ch_role (h:CH w0 s c t W) (n:Int):Calls Tryz.prog 23 #[ptr s,.int .i64 n] W fun e w'=>e = .returned (.int .i64 (Wt.rl c.P n))∧Below W.heap.size W w':=by
 obtain ⟨F,⟨vn,L,p,vq,Fs,h1⟩,_,_⟩:=h;exact crole_any h1 n
theorem ch_place (h:CH w0 s c t W):Calls Tryz.prog 19 #[ptr s] W fun e w'=>e = .returned (.int .i64 c.pl)∧Below W.heap.size W w':=by
 obtain ⟨F,⟨vn,L,p,vq,Fs,h1⟩,_,_⟩:=h;exact cplace_any h1
theorem ch_nodes (h:CH w0 s c t W):Calls Tryz.prog 16 #[ptr s] W fun e w'=>e = .returned (.int .i64 c.S.length)∧Below W.heap.size W w':=by
 obtain ⟨F,⟨vn,L,p,vq,Fs,h1⟩,_,_⟩:=h;exact cnodes_any h1
theorem ch_new {v:Value} {L:List PlD} {B:Nat} (H:Pls W v L B) (e0:newE (pls L)=0) (b:Below w0.heap.size w0 W):Calls Tryz.prog 12 #[v] W fun e w'=>∃ s,e = .returned (.tuple #[.pointer (some ⟨s,0,none⟩),.int .i64 0])∧CH w0 s (newC (pls L)) 0 w':=by
 refine (cnew_any H).mono fun e w' d=>?_;obtain ⟨b',⟨_,s,F,rfl,cl,lo⟩ | ⟨h,_⟩⟩:=d
 ·exact ⟨s,rfl,F,cl,fun k g=>Nat.le_trans b.size (lo k g),b.trans (b'.mono b.size)⟩
 ·exact absurd e0 h
theorem new_no {v:Value} {L:List PlD} {B:Nat} {z:Int} (H:Pls W v L B) (e0:newE (pls L)=z) (hz:z≠0):Calls Tryz.prog 12 #[v] W fun e w'=>e = .returned (.tuple #[.pointer none,.int .i64 z])∧Below W.heap.size W w':=by
 refine (cnew_any H).mono fun e w' d=>?_;obtain ⟨b',⟨h,_⟩ | ⟨_,rfl⟩⟩:=d
 ·exact absurd (e0.symm.trans h) hz
 ·exact ⟨by rw [e0],b'⟩
end
theorem fls_of {w:World} {v:Value} {L:List Ent} (rd:Rd E3 w v L) (each:∀ c∈L,Rd K4 w c.sl c.l∧okL c.l):Fls w v L w.heap.size:=by
 have at_:∀ i,i < L.length→eatF L i∈L:=fun i hi=>by
  unfold eatF;rw [List.getD_eq_getElem?_getD,List.getElem?_eq_getElem hi];exact List.getElem_mem hi
 exact ⟨rd,fun i hi=>each _ (at_ i hi),fun i hi h0 k hk=>Fs.rd_low (each _ (at_ i hi)).1 h0 k hk⟩
theorem pls_of {w:World} {v:Value} {L:List PlD} (rd:Rd KP w v L) (each:∀ c∈L,Fls w (sl c.files) c.F w.heap.size):Pls w v L w.heap.size:=by
 refine ⟨rd,fun i hi=>each _ ?_⟩;unfold pld;rw [List.getD_eq_getElem?_getD,List.getElem?_eq_getElem hi];exact List.getElem_mem hi
theorem run_buildB (k:Int) (w:World):(Instr.build 44 #[(0,.int .i64 k)]).run Tryz.prog w = .ok (.agg #[.int .i64 k,.int .i64 0,.int .i64 0,.int .i64 0,.int .u8 0,.int .u8 0,.int .u8 0,.int .u8 0,.int .i64 0,.int .i64 0,.int .i64 0]) w:=by kernel_rfl
end Go.Proofs.YtljnkaodhfnbbaaGreatDoor.Cu
namespace Go.Proofs.YtljnkaodhfnbbaaGreatDoor.Cu
open Go.RowKit Go.Maps
open Rw (Rd Ow At)
open Fl (R4 K4 okL okR z4 rec4 arr4 sto4 sto4_row row_cell row_frozen)
open Fs (Abs St OkA Only Fx ow_only Wf Glob dA dE dV dD DoSPost dos_any results_rec o_sto4)
open Pa (Sts S2 sat vat KN KB K2 ptr)
attribute [local irreducible] Sd.wpSd wpQuiet Sz.wpSz
def SvC (w:World) (s:Nat) (F:Nat→Prop) (c:Cs) (t:Nat) (y:R4) (x:Int) (e:Ending) (w':World):Prop:=e = .returned (.tuple #[rec4 y,.int .i64 x])∧ClE w' s (Fx F w w') c t∧Only F w w'
section
variable {s t p:Nat} {F G:Nat→Prop} {c:Cs} {vn vq:Value} {L:List Nd} {Fs:Nat→Nat→Prop} {w w1 w':World}
theorem svc_below (h:Cl w s F c t vn L p vq Fs) (b:Below w.heap.size w w') (y:R4) (x:Int):SvC w s F c t y x (.returned (.tuple #[rec4 y,.int .i64 x])) w':=⟨rfl,⟨vn,L,p,vq,Fs,(h.below b).fx w⟩,Only.of_below b⟩
structure Sv0 (w:World) (o f r:Int) (x:R4) (W:World):Prop where
 adr:W.heap[w.heap.size]? = some (.cells #[.int .i64 o,.int .i64 f,.int .i64 r] 66 (0,0))
 arg:W.heap[w.heap.size+1]? = some (.cells (arr4 x) 42 (0,0))
 res:W.heap[w.heap.size+2]? = some (.cells (arr4 z4) 42 (0,0))
 bel:Below w.heap.size w W
theorem Sv0.mono {W W':World} {o f r:Int} {x:R4} (h:Sv0 w o f r x W) (b:Below W.heap.size W W'):Sv0 w o f r x W' :=
 ⟨(b.block _ (lt_of_block h.adr)).trans h.adr,(b.block _ (lt_of_block h.arg)).trans h.arg,(b.block _ (lt_of_block h.res)).trans h.res,h.bel.trans (b.mono h.bel.size)⟩
theorem sv0_of (w:World) (o f r:Int) (x:R4):Sv0 w o f r x (((w.alloc (.cells #[.int .i64 o,.int .i64 f,.int .i64 r] 66)).alloc (.cells #[.int .u8 x.1,.int .u8 x.2.1,.int .u8 x.2.2.1,.int .u8 x.2.2.2] 42)).alloc (.cells #[.int .u8 0,.int .u8 0,.int .u8 0,.int .u8 0] 42)):=by
 have q:=Fs.ask0_of w o f r x;exact ⟨q.adr,q.arg,q.res,q.bel⟩
theorem Sv0.sto {W:World} {o f r:Int} {x y:R4} (h:Sv0 w o f r x W):(sto4 W (w.heap.size+2) 0 y).heap[w.heap.size+2]? = some (.cells (arr4 y) 42 (0,0))∧Below w.heap.size w (sto4 W (w.heap.size+2) 0 y) :=
 ⟨sto4_row h.res y,h.bel.trans ((o_sto4 W (w.heap.size+2) y).below h.bel.size fun k e=>by omega)⟩
theorem sr_no {n o f r:Int} {x:R4} (hn:no c n):srE c n o f r=1∧srV c n o f r x=z4∧srC c n o f r x=c:=by
 have e:srE c n o f r=1:=if_pos hn;refine ⟨e,?_,if_pos (.inl hn)⟩;unfold srV;rw [e,if_neg (by decide)]
theorem sr_down {n o f r:Int} {x:R4} (hn:¬ no c n) (hv:vat c.V n=false):srE c n o f r=13∧srV c n o f r x=z4∧srC c n o f r x=c:=by
 have e:srE c n o f r=13:=by unfold srE;rw [if_neg hn,hv,if_neg Bool.false_ne_true]
 refine ⟨e,?_,if_pos (.inr hv)⟩;unfold srV;rw [e,if_neg (by decide)]
theorem dV_z {A:Abs} {o f r:Int} {x:R4} (h:dE A o f r≠0):dV A o f r x=z4:=by
 unfold dV
 split
 ·rfl
 ·rw [if_neg h]
theorem sr_live {n o f r:Int} {x:R4} (hn:¬ no c n) (hv:vat c.V n=true):srE c n o f r=dE (sat c.S n).1 o f r∧srV c n o f r x=dV (sat c.S n).1 o f r x∧srC c n o f r x = { c with S:=setS c.S n (dA (sat c.S n).1 o f r x,dD (sat c.S n).1 o f r (sat c.S n).2) }:=by
 have e:srE c n o f r=dE (sat c.S n).1 o f r:=by unfold srE;rw [if_neg hn,hv,if_pos rfl]
 refine ⟨e,?_,?_⟩
 ·unfold srV
  rw [e]
  by_cases h:dE (sat c.S n).1 o f r=0
  ·rw [if_pos h]
  ·rw [if_neg h,dV_z h]
 ·unfold srC
  rw [if_neg (by rw [hv];rintro (g | g);exact hn g;cases g)]
set_option maxHeartbeats 1000000 in
theorem cserve_no (h:Cl w s F c t vn L p vq Fs) {n:Int} (o f r:Int) (x:R4) (hn:no c n):Calls Tryz.prog 24 #[ptr s,.int .i64 n,Ad.addr o f r,rec4 x] w (SvC w s F c t z4 1):=by
 have S0:=Lib.hid (sv0_of w o f r x);have C1:=Lib.hid (chas_out (h.below S0.out.bel) hn);have E:=Lib.hid (fun w' b=>svc_below h (w':=w') b z4 1);clear h hn;unfold ptr rec4 at *;unfold Ad.addr at *
 go_enter Tryz.func24,Tryz.ntmps24
 go_wp2_with fail;generalize (((w.alloc (.cells #[.int .i64 o,.int .i64 f,.int .i64 r] 66)).alloc (.cells #[.int .u8 x.1,.int .u8 x.2.1,.int .u8 x.2.2.1,.int .u8 x.2.2.2] 42)).alloc (.cells #[.int .u8 0,.int .u8 0,.int .u8 0,.int .u8 0] 42))=W at *;refine C1.out.mono ?_;rintro e w1 ⟨rfl,b1⟩;have S2:=Lib.hid (S0.out.mono b1);clear b1 C1 S0;have d0:w1.cell? ⟨w.heap.size+2,0,none⟩=some (.int .u8 0):=row_cell S2.out.res 0;have d1:w1.cell? ⟨w.heap.size+2,1,none⟩=some (.int .u8 0):=row_cell S2.out.res 1;have d2:w1.cell? ⟨w.heap.size+2,2,none⟩=some (.int .u8 0):=row_cell S2.out.res 2;have d3:w1.cell? ⟨w.heap.size+2,3,none⟩=some (.int .u8 0):=row_cell S2.out.res 3;have k0:=row_frozen S2.out.res 0;have k1:=row_frozen S2.out.res 1;have k2:=row_frozen S2.out.res 2;have k3:=row_frozen S2.out.res 3;have R3:=Lib.hid (S2.out.sto (y:=z4)).1;have G:=Lib.hid (E.out _ (S2.out.sto (y:=z4)).2);clear S2 E;unfold rec4 at G;go_wp2
 (try simp only [Exit.inBlock,Exit.then])
 exact bodyPost_ret (results_rec (p:=8) (r:=9) rfl _ _ (w.heap.size+2) z4 (.int .i64 1) rfl rfl R3.out) rfl G.out
set_option maxHeartbeats 1000000 in
theorem cserve_down (h:Cl w s F c t vn L p vq Fs) {n:Nat} (o f r:Int) (x:R4) (hn:n < c.S.length) (hv:vat c.V n=false):Calls Tryz.prog 24 #[ptr s,.int .i64 n,Ad.addr o f r,rec4 x] w (SvC w s F c t z4 13):=by
 have S0:=Lib.hid (sv0_of w o f r x);have C1:=Lib.hid (chas_in (h.below S0.out.bel) hn);have E:=Lib.hid (fun w' b=>svc_below h (w':=w') b z4 13);obtain ⟨g,cap,rfl,-,hm,-⟩:=h.one hn;have D:=Lib.hid (fun w1 (b:Below w.heap.size w w1)=>And.intro (h.below b).cells.1 ((h.below b).nod hn).2.1);have lv:(nda L n).live=false:=by rw [h.lv n (by rw [h.len];exact hn)];exact hv
 rw [lv] at D;have p5:decide (c.S.length≤n)=false:=decide_eq_false (by omega);clear h hv lv;generalize c.S.length=ln at *;unfold ptr rec4 at *;unfold Ad.addr at *
 go_enter Tryz.func24,Tryz.ntmps24
 go_wp2_with fail;generalize (((w.alloc (.cells #[.int .i64 o,.int .i64 f,.int .i64 r] 66)).alloc (.cells #[.int .u8 x.1,.int .u8 x.2.1,.int .u8 x.2.2.1,.int .u8 x.2.2.2] 42)).alloc (.cells #[.int .u8 0,.int .u8 0,.int .u8 0,.int .u8 0] 42))=W at *;refine C1.out.mono ?_;rintro e w1 ⟨rfl,b1⟩;have S2:=Lib.hid (S0.out.mono b1);obtain ⟨y0,y1⟩:=D.out w1 S2.out.bel;clear b1 C1 S0 D;have d0:w1.cell? ⟨w.heap.size+2,0,none⟩=some (.int .u8 0):=row_cell S2.out.res 0;have d1:w1.cell? ⟨w.heap.size+2,1,none⟩=some (.int .u8 0):=row_cell S2.out.res 1;have d2:w1.cell? ⟨w.heap.size+2,2,none⟩=some (.int .u8 0):=row_cell S2.out.res 2;have d3:w1.cell? ⟨w.heap.size+2,3,none⟩=some (.int .u8 0):=row_cell S2.out.res 3;have k0:=row_frozen S2.out.res 0;have k1:=row_frozen S2.out.res 1;have k2:=row_frozen S2.out.res 2;have k3:=row_frozen S2.out.res 3;have R3:=Lib.hid (S2.out.sto (y:=z4)).1;have G:=Lib.hid (E.out _ (S2.out.sto (y:=z4)).2);clear S2 E;unfold rec4 at G;go_wp2
 (try simp only [Exit.inBlock,Exit.then])
 exact bodyPost_ret (results_rec (p:=8) (r:=9) rfl _ _ (w.heap.size+2) z4 (.int .i64 13) rfl rfl R3.out) rfl G.out
set_option maxHeartbeats 4000000 in
theorem cserve_live (h:Cl w s F c t vn L p vq Fs) {n:Nat} (o f r:Int) (x:R4) (hx:okR x) (hg:Glob w) (hG:¬ F 1) (hd:0≤(sat c.S n).2∧(sat c.S n).2 < 1000000) (hn:n < c.S.length) (hv:vat c.V n=true):Calls Tryz.prog 24 #[ptr s,.int .i64 n,Ad.addr o f r,rec4 x] w (SvC w s F { c with S:=setS c.S n (dA (sat c.S n).1 o f r x,dD (sat c.S n).1 o f r (sat c.S n).2) } t (dV (sat c.S n).1 o f r x) (dE (sat c.S n).1 o f r)):=by
 have S0:=Lib.hid (sv0_of w o f r x);have C1:=Lib.hid (chas_in (h.below S0.out.bel) hn);have hL:n < L.length:=by rw [h.len];exact hn
 obtain ⟨g,cap,rfl,-,hm,-⟩:=h.one hn;have D:=Lib.hid (fun w1 (b:Below w.heap.size w w1)=>And.intro (h.below b).cells.1 ((h.below b).nod hn));have lv:(nda L n).live=true:=by rw [h.lv n hL];exact hv
 rw [lv] at D;have p5:decide (c.S.length≤n)=false:=decide_eq_false (by omega);have SD:=Lib.hid (fun w1 (b:Below w.heap.size w w1)=>dos_any ((h.below b).sto hn) (hg.below b) (fun e=>hG (h.ff n hL _ e)) hd o f r x hx);have LOWF:=Lib.hid (h.st n hL).low;have NG:Hid (¬ Fs n s∧¬ Fs n g∧(∀ k,w.heap.size≤k→¬ Fs n k)):=Lib.hid ⟨fun e=>(h.off n hL s e).1 rfl,fun e=>(h.off n hL g e).2.2.1 rfl,fun k hk e=>by have:=(h.st n hL).low k e;omega⟩;have NL:Hid (s < w.heap.size∧g < w.heap.size):=Lib.hid ⟨h.slt,h.low g (h.fv g (.inl rfl))⟩
 have FIN:Hid (∀ w1 w2 w3 e,Below w.heap.size w w1→DoSPost w1 (nda L n).s (Fs n) (dD (sat c.S n).1 o f r (sat c.S n).2) (dV (sat c.S n).1 o f r x) (dE (sat c.S n).1 o f r) (dA (sat c.S n).1 o f r x) e w2→Only (fun k=>k=w.heap.size+2) w2 w3→w.heap.size+2 < w1.heap.size→SvC w s F { c with S:=setS c.S n (dA (sat c.S n).1 o f r x,dD (sat c.S n).1 o f r (sat c.S n).2) } t (dV (sat c.S n).1 o f r x) (dE (sat c.S n).1 o f r) (.returned (.tuple #[rec4 (dV (sat c.S n).1 o f r x),.int .i64 (dE (sat c.S n).1 o f r)])) w3):=Lib.hid (fun w1 w2 w3 e b1 ⟨_,d2,o2⟩ o3 hl=>by
  have z:=(h.below b1).store (i:=n) hL (x:=(dA (sat c.S n).1 o f r x,dD (sat c.S n).1 o f r (sat c.S n).2)) d2 o2;have hb:∀ k,Fx F w1 w2 k→¬ k=w.heap.size+2:=fun k q e=>by
   rcases q with q | q
   ·have:=h.low k q;omega
   ·omega
  have z3:=z.only (G:=fun k=>k=w.heap.size+2) hb o3;have z1:=b1.size;have z2:=o2.size;have z4:=o3.size;have oo:Only F w w3:=((Only.of_below b1).trans (o2.mono fun k _ q=>h.ff n hL k q) fun _ _ q=>q).trans (G':=fun k=>k=w.heap.size+2) o3 fun k hk q=>by omega
  exact ⟨rfl,⟨_,_,_,_,_,z3.wide (fun k q=>by
   rcases q with q | q
   ·exact .inl q
   ·exact .inr ⟨by omega,by omega⟩) (Fx.low h.low oo.size)⟩,oo⟩)
 clear h hv lv hg hG hd hL;unfold DoSPost at SD;have SDP:Hid (∀ w1,Below w.heap.size w w1→Calls Tryz.prog 72 #[.pointer (some ⟨(nda L n).s,0,none⟩),Ad.addr o f r,rec4 x] w1 (DoSPost w1 (nda L n).s (Fs n) (dD (sat c.S n).1 o f r (sat c.S n).2) (dV (sat c.S n).1 o f r x) (dE (sat c.S n).1 o f r) (dA (sat c.S n).1 o f r x))):=Lib.hid (fun w1 b=>SD.out w1 b);clear SD;generalize ({ c with S:=setS c.S n (dA (sat c.S n).1 o f r x,dD (sat c.S n).1 o f r (sat c.S n).2) } : Cs)=c' at *;generalize dD (sat c.S n).1 o f r (sat c.S n).2=d' at *;generalize dV (sat c.S n).1 o f r x=y at *;generalize dE (sat c.S n).1 o f r=ee at *;generalize dA (sat c.S n).1 o f r x=A' at *;generalize c.S.length=ln at *;generalize (nda L n).s=q at *;unfold ptr rec4 at *;unfold Ad.addr at *
 go_enter Tryz.func24,Tryz.ntmps24
 go_wp2_with fail;generalize (((w.alloc (.cells #[.int .i64 o,.int .i64 f,.int .i64 r] 66)).alloc (.cells #[.int .u8 x.1,.int .u8 x.2.1,.int .u8 x.2.2.1,.int .u8 x.2.2.2] 42)).alloc (.cells #[.int .u8 0,.int .u8 0,.int .u8 0,.int .u8 0] 42))=W at *;refine C1.out.mono ?_;rintro e w1 ⟨rfl,b1⟩;have S2:=Lib.hid (S0.out.mono b1);obtain ⟨y0,y1,y2,-⟩:=D.out w1 S2.out.bel;have Y0:=Lib.hid y0;have Y1:=Lib.hid y1;clear b1 C1 S0 D y1;go_upto_region 5 with fail;clear y0 y2;have BD:=Lib.hid (Below.refl w1.heap.size w1).drew;have hl2:=lt_of_block S2.out.res;have CD:=Lib.hid (SDP.out w1.drew (S2.out.bel.trans (BD.out.mono S2.out.bel.size)));have S3:=Lib.hid (S2.out.mono BD.out);have NX:Hid (¬ (fun k=>Fs n k∨k=w.heap.size+2) s∧¬ (fun k=>Fs n k∨k=w.heap.size+2) g∧¬ (fun k=>Fs n k∨k=w.heap.size+2) w.heap.size∧¬ (fun k=>Fs n k∨k=w.heap.size+2) (w.heap.size+1)):=Lib.hid ⟨fun e=>e.elim NG.out.1 (fun e=>by have:=NL.out.1;omega),fun e=>e.elim NG.out.2.1 (fun e=>by have:=NL.out.2;omega),fun e=>e.elim (NG.out.2.2 _ (Nat.le_refl _)) (fun e=>by omega),fun e=>e.elim (NG.out.2.2 _ (by omega)) (fun e=>by omega)⟩;generalize hGG:(fun k=>Fs n k∨k=w.heap.size+2)=GG at NX;have HGG:=Lib.hid hGG;clear hGG;have OD:Hid (Only GG w1 w1.drew):=Lib.hid (Only.of_below BD.out);have s0:=Sc.cell_in (C:=fun W'=>Only GG w1 W') (a:=⟨s,0,none⟩) (fun W' oo=>oo.cell Y0.out NX.out.1);have s1:=Sc.cell_in (C:=fun W'=>Only GG w1 W') (a:=⟨g,n * 3,none⟩) (fun W' oo=>oo.cell Y1.out NX.out.2.1);have a0:=Sc.cell_in (C:=fun W'=>Only GG w1 W') (a:=⟨w.heap.size,0,none⟩) (fun W' oo=>oo.cell (row_cell S2.out.adr 0) NX.out.2.2.1);have a1:=Sc.cell_in (C:=fun W'=>Only GG w1 W') (a:=⟨w.heap.size,1,none⟩) (fun W' oo=>oo.cell (row_cell S2.out.adr 1) NX.out.2.2.1);have a2:=Sc.cell_in (C:=fun W'=>Only GG w1 W') (a:=⟨w.heap.size,2,none⟩) (fun W' oo=>oo.cell (row_cell S2.out.adr 2) NX.out.2.2.1);have x0:=Sc.cell_in (C:=fun W'=>Only GG w1 W') (a:=⟨w.heap.size+1,0,none⟩) (fun W' oo=>oo.cell (row_cell S2.out.arg 0) NX.out.2.2.2);have x1:=Sc.cell_in (C:=fun W'=>Only GG w1 W') (a:=⟨w.heap.size+1,1,none⟩) (fun W' oo=>oo.cell (row_cell S2.out.arg 1) NX.out.2.2.2);have x2:=Sc.cell_in (C:=fun W'=>Only GG w1 W') (a:=⟨w.heap.size+1,2,none⟩) (fun W' oo=>oo.cell (row_cell S2.out.arg 2) NX.out.2.2.2);have x3:=Sc.cell_in (C:=fun W'=>Only GG w1 W') (a:=⟨w.heap.size+1,3,none⟩) (fun W' oo=>oo.cell (row_cell S2.out.arg 3) NX.out.2.2.2);have ne:Nonempty (Sc.In (fun W'=>Only GG w1 W')):=⟨⟨_,OD.out⟩⟩;refine Sc.start (fun W'=>Only GG w1 W') [(false,0),(false,1),(false,2),(false,3),(false,4),(false,5),(false,6),(false,7),(false,8),(false,9),(true,10),(false,11),(false,12),(true,13),(false,14)] (by kernel_rfl) (by kernel_rfl) (by kernel_rfl) OD.out ?_;dsimp only [Sd.picks,List.getElem?_cons_succ,List.getElem?_cons_zero]
 iterate 10 (refine Sd.lit ?_;quiet_step (fail);refine wpQuiet_nil ?_)
 clear s0 s1 a0 a1 a2 x0 x1 x2 x3;refine Sd.call (by rfl) (fun K hK=>?_);go_simp;refine CD.out.mono ?_;rintro e w5 hp;have P5:=Lib.hid hp;obtain ⟨rfl,-,o5⟩:=hp;have O5:=Lib.hid (OD.out.trans (o5.mono fun k _ q=>(by rw [← HGG.out];exact .inl q:GG k)) fun _ _ q=>q);have R5:Hid (w5.heap[w.heap.size+2]? = some (.cells (arr4 z4) 42 (0,0))):=Lib.hid ((o5.block _ (lt_of_block S3.out.res) (NG.out.2.2 _ (by omega))).trans S3.out.res);refine hK _ _ (Sc.Cl.of O5.out) ?_;clear hK K o5 CD;unfold rec4
 iterate 2 (refine Sd.lit ?_;quiet_step (fail);refine wpQuiet_nil ?_)
 have d0:w5.cell? ⟨w.heap.size+2,0,none⟩=some (.int .u8 0):=row_cell R5.out 0;have d1:w5.cell? ⟨w.heap.size+2,1,none⟩=some (.int .u8 0):=row_cell R5.out 1;have d2:w5.cell? ⟨w.heap.size+2,2,none⟩=some (.int .u8 0):=row_cell R5.out 2;have d3:w5.cell? ⟨w.heap.size+2,3,none⟩=some (.int .u8 0):=row_cell R5.out 3;have k0:=row_frozen R5.out 0;have k1:=row_frozen R5.out 1;have k2:=row_frozen R5.out 2;have k3:=row_frozen R5.out 3;have R6:=Lib.hid (sto4_row R5.out y);have O6:Hid (Only (fun k=>k=w.heap.size+2) w5 (sto4 w5 (w.heap.size+2) 0 y)):=Lib.hid (o_sto4 w5 (w.heap.size+2) y);have G:=Lib.hid (FIN.out _ w5 _ _ (S2.out.bel.trans (BD.out.mono S2.out.bel.size)) P5.out O6.out (lt_of_block S3.out.res));refine Sd.call (by rfl) (fun K hK=>?_);go_simp;refine hK _ _ (Sc.Cl.of (O5.out.trans O6.out fun k _ q=>by rw [← HGG.out];exact .inr q)) ?_;clear hK K d0 d1 d2 d3 k0 k1 k2 k3 FIN P5 O5 O6 S2 S3
 iterate 1 (refine Sd.lit ?_;quiet_step (fail);refine wpQuiet_nil ?_)
 refine Sd.done ?_;unfold rec4 at G;go_wp2
 (try simp only [Exit.inBlock,Exit.then])
 exact bodyPost_ret (results_rec (p:=8) (r:=9) rfl _ _ (w.heap.size+2) y (.int .i64 ee) rfl rfl R6.out) rfl G.out
theorem SvC.late {y:R4} {x:Int} {e:Ending} (h:SvC w s F c t y x e w'):SvC w s F c (t+1) y x e w':=by
 obtain ⟨h1,⟨vn,L,p,vq,Fs,h2⟩,h3⟩:=h;exact ⟨h1,⟨vn,L,p,vq,Fs,h2.late⟩,h3⟩
theorem cserve_any (h:Cl w s F c t vn L p vq Fs) (ok:OkC c t) (ht:t≤1000) (hg:Glob w) (hG:¬ F 1) (n o f r:Int) (x:R4) (hx:okR x):Calls Tryz.prog 24 #[ptr s,.int .i64 n,Ad.addr o f r,rec4 x] w (SvC w s F (srC c n o f r x) (t+1) (srV c n o f r x) (srE c n o f r)):=by
 by_cases hn:no c n
 ·obtain ⟨e1,e2,e3⟩:=sr_no (o:=o) (f:=f) (r:=r) (x:=x) hn
  rw [e1,e2,e3];exact (cserve_no h o f r x hn).mono fun _ _ d=>d.late
 ·have hin:0≤n∧n < c.S.length:=by unfold no at hn;omega
  obtain ⟨nn,rfl⟩:∃ nn:Nat,n=nn:=⟨n.toNat,by omega⟩
  cases hv:vat c.V nn with
  | false =>
    obtain ⟨e1,e2,e3⟩:=sr_down (o:=o) (f:=f) (r:=r) (x:=x) hn hv;rw [e1,e2,e3];exact (cserve_down h o f r x (by omega) hv).mono fun _ _ d=>d.late
  | true =>
    obtain ⟨e1,e2,e3⟩:=sr_live (o:=o) (f:=f) (r:=r) (x:=x) hn hv;have hs:=ok.st nn (by omega);rw [e1,e2,e3];exact (cserve_live h o f r x hx hg hG ⟨hs.2.1,by omega⟩ (by omega) hv).mono fun _ _ d=>d.late
end
end Go.Proofs.YtljnkaodhfnbbaaGreatDoor.Cu
namespace Go.Proofs.YtljnkaodhfnbbaaGreatDoor.Pa
open Go.RowKit Go.Maps
open Rw (Rd Ow At)
open Ro (E5 z5 K5 ent)
open Ck (sto5 sto5_row sto5_below RowE)
open Fl (row_cell row_frozen)
theorem cut_any {α:Type} {K:Rw.Kind α} {w:World} {v:Value} {l:List α} {a:Option Addr} {n cap k:Nat} (R:Rd K w v l) (e:v = .slice a n cap) (hk:k≤l.length) (h0:0 < k):Rd K w (.slice a k cap) (l.take k):=by
 obtain ⟨a',cap',e',⟨h1,h2⟩,h3,h4⟩:=R;rw [e] at e';injection e' with e1 e2 e3;subst e1 e3;have hl:(l.take k).length=k:=by rw [List.length_take];omega
 refine ⟨a,cap,by rw [hl],⟨by rw [hl];omega,h2⟩,h3,fun _=>?_⟩;obtain ⟨b,off,rfl,hA⟩:=h4 (by omega);refine ⟨b,off,rfl,fun i hi j u hu=>?_⟩;rw [hl] at hi;refine hA i (by omega) j u ?_;rw [← hu,List.getD,List.getD,List.getElem?_take,if_pos hi]
end Go.Proofs.YtljnkaodhfnbbaaGreatDoor.Pa
