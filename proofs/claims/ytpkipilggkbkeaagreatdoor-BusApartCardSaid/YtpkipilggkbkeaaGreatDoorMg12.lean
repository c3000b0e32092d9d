import Derived.Test.YtpkipilggkbkeaaGreatDoorMg11
import Derived.Test.YtpkipilggkbkeaaGreatDoorMg9
import Derived.Test.YtpkipilggkbkeaaGreatDoorMg1
import Derived.Deep.Cut
import Derived.BigQuiet
import Derived.Deep.QuietTactic
import Derived.WalkSmall
import Derived.Test.YtpkipilggkbkeaaGreatDoorMg10
import Derived.Test.YtpkipilggkbkeaaGreatDoorMg8
set_option maxRecDepth 100000
namespace Go.Proofs.YtpkipilggkbkeaaGreatDoor.Wi
open Go.RowKit Go.Proofs.YtpkipilggkbkeaaGreatDoor.Sp
theorem ret_pair {v:Int×Bool} {a:Int} {b:Bool} (h:v=(a,b)):Ending.returned (.tuple #[.int .i64 a,.bool b]) = .returned (.tuple #[.int .i64 v.1,.bool v.2]):=by subst h;rfl
def FallPost (w:World) (l:List S2) (f t:Int) (e:Ending) (w':World):Prop:=∃ x,PlainOf l x∧e = .returned (.tuple #[.int .i64 (FallV x f t).1,.bool (FallV x f t).2])∧Below w.heap.size w w'
theorem fclos_any (w:World) (B C:Nat) (f t:Int) (hf:w.cell? ⟨B,0,none⟩=some (.int .i64 f)) (ht:w.cell? ⟨C,0,none⟩=some (.int .i64 t)):PredS 140 #[.pointer (some ⟨B,0,none⟩),.pointer (some ⟨C,0,none⟩)] (fallP f t) w:=fun W a b hb=>by
 have hltB:=World.block_lt_of_cell? _ _ hf;have hltC:=World.block_lt_of_cell? _ _ ht;have d:=(hb.cell hltB).trans hf;have d':=(hb.cell hltC).trans ht;have hz:=hb.size;have hBW:B < W.heap.size:=Nat.lt_of_lt_of_le hltB hz;have hCW:C < W.heap.size:=Nat.lt_of_lt_of_le hltC hz;have HB:=Lib.hid (hb.alloc hz (.cells #[.int .i64 a,.int .i64 b] 105));clear hf ht hltB hltC hb
 show Calls Tryz.prog 140 #[.agg #[.int .i64 a,.int .i64 b],.pointer (some ⟨B,0,none⟩),.pointer (some ⟨C,0,none⟩)] W _
 by_cases h1:f≤a
 ·by_cases h2:a < t
  ·have e:fallP f t (a,b)=true:=by simp [fallP,h1,h2]
   rw [e];clear e
   go_enter Tryz.func140,Tryz.ntmps140
   go_wp2
   go_ret
   exact ⟨rfl,HB.out⟩
  ·have e:fallP f t (a,b)=false:=by simp [fallP,h2]
   rw [e];clear e
   go_enter Tryz.func140,Tryz.ntmps140
   go_wp2
   go_ret
   exact ⟨rfl,HB.out⟩
 ·have e:fallP f t (a,b)=false:=by simp [fallP,h1]
  rw [e];clear e
  go_enter Tryz.func140,Tryz.ntmps140
  go_wp2
  go_ret
  exact ⟨rfl,HB.out⟩
theorem rows_one {W:World} {v:Value} {l:List S2} (h:Sp W v l):Rows (W.alloc (.cells #[v] 47)) (.slice (some ⟨W.heap.size,0,none⟩) 1 1) [l] :=
 ⟨_,1,rfl,Nat.le_refl _,by unfold maxLen;omega,fun _=>⟨_,_,rfl,fun i hi=>by
  have:i=0:=by simp at hi;omega
  subst this
  exact ⟨v,by go_simp,h.below ((Below.refl _ _).alloc (Nat.le_refl _) _)⟩⟩⟩
theorem plain_one_of {l x:List S2} (h:JoinOf [l] x):PlainOf l x:=⟨h.plain,fun t=>by
 rw [h.low]
 constructor
 ·rintro ⟨i,hi,c⟩
  have:i=0:=by simp at hi;omega
  subst this;exact c
 ·exact fun c=>⟨0,by simp,c⟩⟩
set_option maxHeartbeats 1000000 in
theorem fall_any (w:World) (v:Value) (l:List S2) (h:Sp w v l) (hlen:l.length < 1099511627776) (f t:Int):Calls Tryz.prog 108 #[v,.int .i64 f,.int .i64 t] w (FallPost w l f t):=by
 have eg:∀ args w,(callFunc 140 args).run Tryz.prog w = .ok (.enter 140 args) w:=enters_of Tryz.func140 (by kernel_rfl) rfl;have hb2:Below w.heap.size w ((w.alloc (.cells #[.int .i64 f] 3)).alloc (.cells #[.int .i64 t] 3)):=((Below.refl _ _).alloc (Nat.le_refl _) _).alloc (by simp) _;have j:=join_any (((w.alloc (.cells #[.int .i64 f] 3)).alloc (.cells #[.int .i64 t] 3)).alloc (.cells #[v] 47)) _ [l] (rows_one (h.below hb2)) (by show 0+l.length < _;omega);have ez:((w.alloc (.cells #[.int .i64 f] 3)).alloc (.cells #[.int .i64 t] 3)).heap.size=w.heap.size+1+1:=by simp
 rw [ez] at j;clear ez;have J:=Lib.hid j;have HB2:=Lib.hid hb2;have EG:=Lib.hid eg;obtain ⟨a,cap,rfl,_⟩:=h.slice;clear j hb2 eg h;have hmf:∀ (fn:Fn) (first cap:Array Value) (w:World),(Instr.makeFunc fn first cap).run Tryz.prog w = .ok (.func fn first cap) w:=fun _ _ _ _=>rfl
 go_enter Tryz.func108,Tryz.ntmps108
 go_wp2_with fail;refine J.out.mono ?_;rintro e w1 ⟨v1,x,rfl,hown,hj,b1⟩;have PO:=Lib.hid (plain_one_of hj);have SP1:=Lib.hid hown.sp;have B1:Hid (Below w.heap.size w w1):=(HB2.out.alloc (by first | (simp;done) | (simp;omega)) _).trans (b1.mono (by first | (simp;done) | (simp;omega)));have f1:w1.cell? ⟨w.heap.size,0,none⟩=some (.int .i64 f):=(b1.cell (by first | (simp;done) | (simp;omega))).trans (by go_simp);have f2:w1.cell? ⟨w.heap.size+1,0,none⟩=some (.int .i64 t):=(b1.cell (by first | (simp;done) | (simp;omega))).trans (by go_simp);have IC:=Lib.hid (index_any w1 v1 x 140 _ _ EG.out SP1.out (fclos_any _ _ _ f t f1 f2));clear hown hj b1 f1 f2
 rcases idx_cases (fallP f t) x with ⟨i,hi,_,_,e⟩ | ⟨_,e⟩
 ·have FV:=Lib.hid (fall_hit e)
  rw [e] at IC;clear e;go_wp2_with fail;refine IC.out.mono ?_;rintro e w2 ⟨rfl,b2⟩;have SP2:=Lib.hid (SP1.out.below b2);obtain ⟨a1,cap1,rfl,q1,q2,hAt⟩:=SP2.out;obtain ⟨b',off',rfl,hA⟩:=hAt (by omega);have c1:=(hA i hi).1;have HA:=Lib.hid hA;have HAt:=Lib.hid hAt;have B2:=Lib.hid (B1.out.trans (b2.mono B1.out.size));clear hA hAt b2;unfold maxLen at q2;generalize hn:x.length=n at *;clear hn;go_wp2
  go_ret2
  exact ⟨x,PO.out,ret_pair FV.out,B2.out⟩
 ·have FV:=Lib.hid (fall_miss e)
  rw [e] at IC;clear e;go_wp2_with fail;refine IC.out.mono ?_;rintro e w2 ⟨rfl,b2⟩;have B2:=Lib.hid (B1.out.trans (b2.mono B1.out.size));clear b2;go_wp2
  go_ret2
  exact ⟨x,PO.out,ret_pair FV.out,B2.out⟩
set_option maxHeartbeats 1000000 in
theorem rfall_any (w:World) (v:Value) (l:List S2) (h:Sp w v l) (hN:Near l) (f t:Int):Calls Tryz.prog 70 #[v,.int .i64 f,.int .i64 t] w (FallPost w l f t):=by
 have J:=Lib.hid (rjoin_any w v l h hN);obtain ⟨a,cap,rfl,_⟩:=h.slice;clear h hN
 go_enter Tryz.func70,Tryz.ntmps70
 go_wp2_with fail;refine J.out.mono ?_;rintro e w1 ⟨v1,x,rfl,hown,hpo,b1⟩;have PO:=Lib.hid hpo;obtain ⟨a1,cap1,rfl,q1,q2,hAt⟩:=hown.sp;have HAt:=Lib.hid hAt;have B1:=Lib.hid b1;have hhit:∀ i,i < x.length→fallP f t (fr x i,tp x i)=true→(∀ j,j < i→fallP f t (fr x j,tp x j)=false)→FallV x f t=(fr x i,true):=fun i a b c=>fall_hit (idx_hit a b c);have hmiss:(∀ j,j < x.length→fallP f t (fr x j,tp x j)=false)→FallV x f t=(0,false):=fun a=>fall_miss (idx_miss a);have HH:=Lib.hid hhit;have HM:=Lib.hid hmiss;clear hown hpo b1 hAt hhit hmiss;unfold maxLen at q2;generalize hn:x.length=n at *;have HN:=Lib.hid hn;clear hn;go_wp2
 go_loop [9] (fun i=>∃ k:Nat,k≤n∧i = .int .i64 k∧Hid (∀ j,j < k→fallP f t (fr x j,tp x j)=false)) (fun i=>n - (intOf i).toNat)
 case atStart=>exact ⟨0,Nat.zero_le _,rfl,fun j hj=>by omega⟩
 case round =>
  obtain ⟨k,hk,rfl,hs⟩:=hrel
  by_cases hlt:k < n
  ·obtain ⟨b',off',rfl,hA⟩:=HAt.out (by omega)
   have c1:=(hA k (by have:=HN.out;omega)).1;have HA:=Lib.hid hA;clear hA
   by_cases p1:f≤fr x k
   ·by_cases p2:fr x k < t
    ·have FV:=Lib.hid (HH.out k hlt (by simp [fallP,p1,p2]) hs.out)
     go_wp2
     go_ret2
     exact ⟨x,PO.out,ret_pair FV.out,B1.out⟩
    ·have ST:Hid (∀ j,j < k+1→fallP f t (fr x j,tp x j)=false):=fun j hj=>by
      by_cases e:j=k
      ·rw [e];simp [fallP,p2]
      ·exact hs.out j (by omega)
     go_wp2
     go_round
     case rel=>exact ⟨k+1,by omega,by go_num,ST⟩
     case measure=>simp [intOf];omega
   ·have ST:Hid (∀ j,j < k+1→fallP f t (fr x j,tp x j)=false):=fun j hj=>by
     by_cases e:j=k
     ·rw [e];simp [fallP,p1]
     ·exact hs.out j (by omega)
    go_wp2
    go_round
    case rel=>exact ⟨k+1,by omega,by go_num,ST⟩
    case measure=>simp [intOf];omega
  ·obtain rfl:k=n:=by omega
   have FV:=Lib.hid (HM.out hs.out);go_wp2
   go_ret2
   exact ⟨x,PO.out,ret_pair FV.out,B1.out⟩
end Go.Proofs.YtpkipilggkbkeaaGreatDoor.Wi
namespace Go.Proofs.YtpkipilggkbkeaaGreatDoor.Ua
open Go.RowKit
theorem div_step (b:Int) (k:Nat):b / 2 ^ (k+1)=b / 2 ^ k / 2:=by
 rw [pow_succ_int,Int.ediv_ediv_of_nonneg (Int.le_of_lt (Int.pow_pos (by decide)))]
theorem cnt_step (b:Int) (k:Nat) (h:k < 8):(cnt (put b 9) (k+1):Int)=cnt (put b 9) k+b / 2 ^ k % 2:=by
 rw [cnt,bit_mod];have:put b 9 (k+1)=bit b k:=by unfold put;rw [if_pos (by omega)];rfl
 rw [this]
 split <;> simp
theorem val_step {F:Nat→Bool} {k:Nat} (h:F (k+1)=true):(val F (k+1):Int)=val F k+(2 ^ k:Nat):=by rw [val,h];simp
theorem val_same {F:Nat→Bool} {k:Nat} (h:F (k+1)=false):(val F (k+1):Int)=val F k:=by rw [val,h];simp
theorem cnt_one {F:Nat→Bool} {k:Nat} (h:F (k+1)=true):(cnt F (k+1):Int)=cnt F k+1:=by rw [cnt,h];simp
theorem cnt_same {F:Nat→Bool} {k:Nat} (h:F (k+1)=false):(cnt F (k+1):Int)=cnt F k:=by rw [cnt,h];simp
theorem two_pow_le {k:Nat} (h:k≤8):1≤2 ^ k∧2 ^ k≤256:=⟨Nat.one_le_two_pow,Nat.pow_le_pow_right (n:=2) (by omega) h⟩
theorem nine (b:Int) (odd:Bool) (c:Nat) (h:c=cnt (put b 9) 8) :
 (if odd then ((c:Int) % 2 == 0) else ((c:Int) % 2 == 1))=(par (put b 9) 9 != odd):=by
 rw [par_put9,← cnt_par,← h];have e0:((c:Int) % 2 == 0)=decide (c % 2=0):=by show decide ((c:Int) % 2=0)=_;rw [decide_eq_decide];omega
 have e1:((c:Int) % 2 == 1)=decide (c % 2=1):=by show decide ((c:Int) % 2=1)=_;rw [decide_eq_decide];omega
 rw [e0,e1]
 rcases (by omega:c % 2=0∨c % 2=1) with e | e <;> cases odd <;> simp [e]
set_option maxHeartbeats 400000 in
theorem rput_any (w:World) (b:Int) (odd:Bool) (h0:0≤b) (h1:b≤255):Calls Tryz.prog 120 #[.int .u8 b,.bool odd] w fun e w'=>e = .returned (.agg (arr (frm b odd)))∧Below w.heap.size w w':=by
 have T0:=Lib.hid (two_new w (put b 1) (fun i _=>(put_1 b i).symm))
 go_enter Tryz.func120,Tryz.ntmps120
 go_wp2
 go_loopw [6,7,8] (fun n c i wr=>∃ k:Nat,k≤8∧i = .int .i64 (k+1:Nat)∧n = .int .i64 (b / 2 ^ k)∧c = .int .i64 (cnt (put b 9) k:Nat)∧Hid (Two w wr (put b (k+1)))) (fun _ _ i _=>9 - (intOf i).toNat)
 case atStart=>exact ⟨0,by omega,rfl,by rw [Int.pow_zero,Int.ediv_one],rfl,T0⟩
 case round =>
  obtain ⟨k,hk,rfl,rfl,rfl,T⟩:=hrel;have n0:0≤b / 2 ^ k:=Int.ediv_nonneg h0 (Int.le_of_lt (Int.pow_pos (by decide)));have n1:b / 2 ^ k≤255:=Int.le_trans (Int.ediv_le_self _ h0) h1;have q:=cnt_le (put b 9) k
  by_cases hlt:k < 8
  ·have c:=T.out.2.1.cell (k+1) (by omega)
   have f:=T.out.2.1.frozen (k+1);have CS:=Lib.hid (cnt_step b k hlt);have DS:=Lib.hid (div_step b k);have PS:Hid (∀ i,upd (put b (k+1)) (k+1) (decide (b / 2 ^ k % 2=1)) i=put b (k+1+1) i):=put_step b (k+1) (by omega);generalize cnt (put b 9) k=cc at *;generalize b / 2 ^ k=N at *;go_wp2
   go_roundw
   case rel=>exact ⟨k+1,by omega,by go_num,by rw [DS.out],by rw [CS.out],(T.out.set_ (k+1) (by omega) _).to (fun i _=>PS.out i)⟩
   case measure=>simp [intOf];omega
  ·obtain rfl:k=8:=by omega
   have c9:=T.out.2.1.cell 9 (by omega);have c10:=T.out.2.1.cell 10 (by omega);have f9:=T.out.2.1.frozen 9;have f10:=T.out.2.1.frozen 10;have NN:=Lib.hid (nine b odd (cnt (put b 9) 8) rfl);generalize cnt (put b 9) 8=cc at *;have h9:9 < 11:=by omega
   have h10:10 < 11:=by omega
   cases odd
   all_goals
    go_wp2_with ((with_reducible refine copy_frame (o:=⟨some 44,_,_,_,_,_⟩) rfl rfl _ _ _ rfl rfl rfl _ _ _ _ ?_ ?_ ?_ ((T.out.set_ 9 h9 _).set_ 10 h10 _).frame ((T.out.set_ 9 h9 _).set_ 10 h10 _).res ?_);(exact rfl);(exact rfl);(exact rfl))
    all_goals
     refine bodyPost_ret (results_frame rfl _ _ _ _ rfl (((T.out.set_ 9 h9 _).set_ 10 h10 _).1.row _)) rfl ⟨?_,?_⟩
     ·refine congrArg (fun x=>Ending.returned (.agg (arr (upd (upd (put b 9) 9 x) 10 true)))) (Eq.trans ?_ NN.out)
      first
       | rfl
       | (simp only [if_true];refine Eq.symm ?_;show decide ((cc:Int) % 2=0)=true;exact decide_eq_true (by omega))
     ·exact below_setRow ((T.out.set_ 9 h9 _).set_ 10 h10 _).2.2 _ _ (Nat.le_refl _)
set_option maxHeartbeats 400000 in
theorem rtake_good (w:World) (F:Nat→Bool) (hb:bad F=false):Calls Tryz.prog 71 #[.agg (arr F)] w fun e w'=>e = .returned (.tuple #[.int .u8 (tb F),.bool (tp F),.int .i64 (te F)])∧Below w.heap.size w w':=by
 have R0:=Lib.hid (Row.new w F);have B0:=Lib.hid ((Below.refl w.heap.size w).alloc (Nat.le_refl _) (.cells (arr F) 114));have c0:=R0.out.cell 0 (by omega);have c10:=R0.out.cell 10 (by omega);have OB:=Lib.hid (of_good hb);unfold bad at hb
 simp at hb
 obtain ⟨h0,h10⟩:=hb;rw [h0] at c0;rw [h10] at c10;clear h0 h10
 go_enter Tryz.func71,Tryz.ntmps71
 go_wp2
 go_loop [5,6,7,8] (fun n p c i=>∃ k:Nat,k≤8∧i = .int .i64 (k+1:Nat)∧n = .int .i64 (val F k:Nat)∧p = .int .i64 (2 ^ k:Nat)∧c = .int .i64 (cnt F k:Nat)) (fun _ _ _ i=>9 - (intOf i).toNat)
 case atStart=>exact ⟨0,by omega,rfl,rfl,rfl,rfl⟩
 case round =>
  obtain ⟨k,hk,rfl,rfl,rfl,rfl⟩:=hrel;have q:=cnt_le F k;have v:=val_lt F k;obtain ⟨p1,p2⟩:=two_pow_le hk
  by_cases hlt:k < 8
  ·have c:=R0.out.cell (k+1) (by omega)
   have PS:Hid (((2 ^ (k+1):Nat):Int)=2 * (2 ^ k:Nat)):=by show ((2 ^ (k+1):Nat):Int)=_;rw [Nat.pow_succ];omega
   cases hF:F (k+1) with
   | true =>
     rw [hF] at c;have V:=Lib.hid (val_step hF);have C:=Lib.hid (cnt_one hF);clear hF;generalize 2 ^ k=P at *;generalize val F k=vv at *;generalize cnt F k=cc at *;go_wp2
     go_round
     case rel=>exact ⟨k+1,by omega,by go_num,by rw [V.out],by rw [PS.out],by rw [C.out]⟩
     case measure=>simp [intOf];omega
   | false =>
     rw [hF] at c;have V:=Lib.hid (val_same hF);have C:=Lib.hid (cnt_same hF);clear hF;generalize 2 ^ k=P at *;generalize val F k=vv at *;generalize cnt F k=cc at *;go_wp2
     go_round
     case rel=>exact ⟨k+1,by omega,by go_num,by rw [V.out],by rw [PS.out],by rw [C.out]⟩
     case measure=>simp [intOf];omega
  ·obtain rfl:k=8:=by omega
   have c9:=R0.out.cell 9 (by omega);have TP:Hid (decide (cnt F 9 % 2=1)=tp F):=(cnt_par F 9).trans OB.out.2.1
   cases hF:F 9 with
   | true =>
     rw [hF] at c9;have C:Hid ((cnt F 9:Int)=cnt F 8+1):=cnt_one (k:=8) hF;clear hF;generalize val F 8=vv at *;generalize cnt F 8=cc at *;go_wp2
     go_ret3
     exact ⟨ret_three OB.out.1 (by rw [← TP.out,Bool.eq_iff_iff];have:=C.out;simp;omega) OB.out.2.2,B0.out⟩
   | false =>
     rw [hF] at c9;have C:Hid ((cnt F 9:Int)=cnt F 8):=cnt_same (k:=8) hF;clear hF;generalize val F 8=vv at *;generalize cnt F 8=cc at *;go_wp2
     go_ret3
     exact ⟨ret_three OB.out.1 (by rw [← TP.out,Bool.eq_iff_iff];have:=C.out;simp;omega) OB.out.2.2,B0.out⟩
set_option maxHeartbeats 400000 in
theorem rtake_bad (w:World) (F:Nat→Bool) (hb:bad F=true):Calls Tryz.prog 71 #[.agg (arr F)] w fun e w'=>e = .returned (.tuple #[.int .u8 (tb F),.bool (tp F),.int .i64 (te F)])∧Below w.heap.size w w':=by
 have R0:=Lib.hid (Row.new w F);have B0:=Lib.hid ((Below.refl w.heap.size w).alloc (Nat.le_refl _) (.cells (arr F) 114));have c0:=R0.out.cell 0 (by omega);have c10:=R0.out.cell 10 (by omega);have OB:=Lib.hid (of_bad hb);unfold bad at hb
 cases h0:F 0 with
 | true =>
   rw [h0] at c0;clear hb
   go_enter Tryz.func71,Tryz.ntmps71
   go_wp2
   go_ret3
   exact ⟨ret_three OB.out.1 OB.out.2.1 OB.out.2.2,B0.out⟩
 | false =>
   have h10:F 10=false:=by rw [h0] at hb;simpa using hb
   rw [h0] at c0;rw [h10] at c10;clear hb
   go_enter Tryz.func71,Tryz.ntmps71
   go_wp2
   go_ret3
   exact ⟨ret_three OB.out.1 OB.out.2.1 OB.out.2.2,B0.out⟩
theorem rtake_any (w:World) (F:Nat→Bool):Calls Tryz.prog 71 #[.agg (arr F)] w fun e w'=>e = .returned (.tuple #[.int .u8 (tb F),.bool (tp F),.int .i64 (te F)])∧Below w.heap.size w w':=by
 cases h:bad F with
 | true=>exact rtake_bad w F h
 | false=>exact rtake_good w F h
def rt (F:Nat→Bool) (m:Int) (k i:Nat):Bool:=if i < k then F i != bit m i else false
theorem rt_0 (F:Nat→Bool) (m:Int) (i:Nat):false=rt F m 0 i:=by unfold rt;rw [if_neg (by omega)]
theorem rt_all (F:Nat→Bool) (m:Int) (i:Nat) (h:i < 11):rt F m 11 i=turn F m 11 i:=by unfold rt turn;rw [if_pos h,if_pos h]
theorem rt_yes {F:Nat→Bool} {m:Int} {k:Nat} (h:bit m k=true) (i:Nat):upd (upd (rt F m k) k (F k)) k (!F k) i=rt F m (k+1) i:=by
 unfold upd rt
 by_cases e:i=k
 ·subst e;rw [if_pos rfl,if_pos (by omega),h];simp
 ·rw [if_neg e,if_neg e]
  by_cases c:i < k
  ·rw [if_pos c,if_pos (by omega)]
  ·rw [if_neg c,if_neg (by omega)]
theorem rt_no {F:Nat→Bool} {m:Int} {k:Nat} (h:bit m k=false) (i:Nat):upd (rt F m k) k (F k) i=rt F m (k+1) i:=by
 unfold upd rt
 by_cases e:i=k
 ·subst e;rw [if_pos rfl,if_pos (by omega),h];simp
 ·rw [if_neg e]
  by_cases c:i < k
  ·rw [if_pos c,if_pos (by omega)]
  ·rw [if_neg c,if_neg (by omega)]
def Own3 (w wr:World) (F G:Nat→Bool):Prop:=Row wr w.heap.size F∧Row wr (w.heap.size+1) no∧Row wr (w.heap.size+1+1) G∧Below w.heap.size w wr
theorem own3_new (w:World) (F G:Nat→Bool) (h:∀ i,i < 11→false=G i):Own3 w (((w.alloc (.cells (arr F) 114)).alloc (.cells (arr no) 114)).alloc (.cells (arr no) 114)) F G:=by
 obtain ⟨h1,h2,h3⟩:=own2_new w F;refine ⟨h1.alloc _,h2.alloc _,?_,h3.alloc (by simp;omega) _⟩;have:=Row.new ((w.alloc (.cells (arr F) 114)).alloc (.cells (arr no) 114)) no;have e:((w.alloc (.cells (arr F) 114)).alloc (.cells (arr no) 114)).heap.size=w.heap.size+1+1:=by simp
 rw [e] at this;exact this.to h
theorem Own3.set_ {w wr:World} {F G:Nat→Bool} (h:Own3 w wr F G) (k:Nat) (hk:k < 11) (x:Bool):Own3 w (wr.setCell ⟨w.heap.size+1+1,k,none⟩ (.bool x)) F (upd G k x) :=
 ⟨h.1.far (by simp;omega) _,h.2.1.far (by simp) _,h.2.2.1.set_ k hk x,h.2.2.2.setCell (by simp;omega) _⟩
theorem Own3.to {w wr:World} {F G H:Nat→Bool} (h:Own3 w wr F G) (e:∀ i,i < 11→G i=H i):Own3 w wr F H:=⟨h.1,h.2.1,h.2.2.1.to e,h.2.2.2⟩
def un (m:Int):Int:=IntKind.u64.wrap m
theorem un_in (m:Int):0≤un m∧un m≤18446744073709551615:=by unfold un;rw [IntKind.wrap_u64];omega
theorem un_bit (m:Int) (k:Nat) (h:k < 11):(un m / 2 ^ k % 2 == 1)=bit m k:=by
 show decide (un m / 2 ^ k % 2=1)=decide (m / 2 ^ k % 2=1)
 rw [decide_eq_decide];unfold un;rw [IntKind.wrap_u64]
 rcases (by omega:k=0∨k=1∨k=2∨k=3∨k=4∨k=5∨k=6∨k=7∨k=8∨k=9∨k=10) with rfl | rfl | rfl | rfl | rfl | rfl | rfl | rfl | rfl | rfl | rfl <;> simp <;> omega
set_option maxHeartbeats 400000 in
theorem rturn_any (w:World) (F:Nat→Bool) (m:Int):Calls Tryz.prog 121 #[.agg (arr F),.int .i64 m] w fun e w'=>e = .returned (.agg (arr (turn F m 11)))∧Below w.heap.size w w':=by
 have T0:=Lib.hid (own3_new w F (rt F m 0) (fun i _=>rt_0 F m i))
 go_enter Tryz.func121,Tryz.ntmps121
 go_wp2
 go_loopw [6,7] (fun n i wr=>∃ k:Nat,k≤11∧i = .int .i64 k∧n = .int .u64 (un m / 2 ^ k)∧Hid (Own3 w wr F (rt F m k))) (fun _ i _=>11 - (intOf i).toNat)
 case atStart=>exact ⟨0,by omega,rfl,by rw [Int.pow_zero,Int.ediv_one];rfl,T0⟩
 case round =>
  obtain ⟨k,hk,rfl,rfl,T⟩:=hrel;obtain ⟨n0,n1⟩:=un_in m;have N0:0≤un m / 2 ^ k:=Int.ediv_nonneg n0 (Int.le_of_lt (Int.pow_pos (by decide)));have N1:un m / 2 ^ k≤18446744073709551615:=Int.le_trans (Int.ediv_le_self _ n0) n1;clear n0 n1
  by_cases hlt:k < 11
  ·have c:=T.out.1.cell k hlt
   have d:=T.out.2.2.1.cell k hlt;have f:=T.out.2.2.1.frozen k;have DS:=Lib.hid (div_step (un m) k);have UB:=un_bit m k hlt
   cases hb:bit m k with
   | true =>
     have TY:=Lib.hid (rt_yes (F:=F) hb);rw [hb] at UB;clear hb;generalize un m / 2 ^ k=N at *;go_wp2
     go_roundw
     case rel=>exact ⟨k+1,by omega,by go_num,by rw [DS.out],((T.out.set_ k hlt _).set_ k hlt _).to (fun i _=>TY.out i)⟩
     case measure=>simp [intOf];omega
   | false =>
     have TN:=Lib.hid (rt_no (F:=F) hb);rw [hb] at UB;clear hb;generalize un m / 2 ^ k=N at *;go_wp2
     go_roundw
     case rel=>exact ⟨k+1,by omega,by go_num,by rw [DS.out],(T.out.set_ k hlt _).to (fun i _=>TN.out i)⟩
     case measure=>simp [intOf];omega
  ·obtain rfl:k=11:=by omega
   have AE:Hid (arr (turn F m 11)=arr (rt F m 11)):=arr_congr (fun i hi=>(rt_all F m i hi).symm)
   go_wp2_with (first
    | (refine wpList_load_row rfl 114 _ rfl _ rfl _ _ _ _ T.out.2.2.1 Tryz.underlying114 rfl (info_of _) ?_)
    | (refine wpList_store_row rfl 114 _ _ rfl _ _ rfl rfl _ _ T.out.2.1 (info_of _) rfl (arr_one _) ?_))
   refine bodyPost_ret (results_cell_row rfl _ _ _ _ _ _ _ rfl (T.out.2.1.row _) Tryz.underlying114 rfl (info_of _)) rfl ⟨by rw [AE.out],?_⟩;exact below_setRow T.out.2.2.2 _ _ (by omega)
end Go.Proofs.YtpkipilggkbkeaaGreatDoor.Ua
namespace Go.Proofs.YtpkipilggkbkeaaGreatDoor.Se
open Go.RowKit Go.Proofs.YtpkipilggkbkeaaGreatDoor.Tk Go.Proofs.YtpkipilggkbkeaaGreatDoor.Sp
open Wi (PlainOf Made rjoin_any push_step own_low)
open Ua (arr Row load_frame)
structure LRel (w:World) (g:Int→Int) (F:Nat→Bool) (m:Int) (v:Value) (k:Nat) (wr:World):Prop where
 own:Sp.Own wr w.heap.size 105 v (lows g F m k)
 bel:Below w.heap.size w wr
theorem LRel.hi {w wr:World} {g:Int→Int} {F:Nat→Bool} {m:Int} {v:Value} {k:Nat} (h:LRel w g F m v k wr) (e:F k=true):LRel w g F m v (k+1) wr:=⟨by rw [lows_hi e];exact h.own,h.bel⟩
theorem LRel.lo {w wr:World} {g:Int→Int} {F:Nat→Bool} {m:Int} {v:Value} {k:Nat} (e:F k=false) (ho:Sp.Own wr w.heap.size 105 v (lows g F m k ++ [(g (m+16 * k),g (m+16 * k+16))])) (hb:Below w.heap.size w wr):LRel w g F m v (k+1) wr:=⟨by rw [lows_lo e];exact ho,hb⟩
set_option maxHeartbeats 1000000 in
theorem rspans_any (w:World) (v:Value) (n:Nat) (A R:Nat→Int) (S:Tk.Steps w v n A R) (g:GoodP n A R) (m:Int) (m0:0≤m) (m1:m≤2147483648) (F:Nat→Bool) :
 Calls Tryz.prog 85 #[v,.int .i64 m,.agg (arr F)] w (Made w (PlainOf (lows (Glo A R n) F m 11))):=by
 have R0:=Lib.hid (Row.new w F);have hb0:=(Below.refl w.heap.size w).alloc (Nat.le_refl _) (.cells (arr F) 114);have hz:(w.alloc (.cells (arr F) 114)).heap.size=w.heap.size+1:=by simp
 have L0:LRel (w.alloc (.cells (arr F) 114)) (Glo A R n) F m (.slice (some ⟨w.heap.size+1,0,none⟩) 0 0) 0 ((w.alloc (.cells (arr F) 114)).alloc (.cells #[] 105)):=by
  have h:=Sp.Own.made (w.alloc (.cells (arr F) 114)) (w.alloc (.cells (arr F) 114)).heap.size 105 (Nat.le_refl _);refine ⟨?_,(Below.refl _ _).alloc (Nat.le_refl _) _⟩;rw [show (some ⟨w.heap.size+1,0,none⟩:Option Addr)=some ⟨(w.alloc (.cells (arr F) 114)).heap.size,0,none⟩ by rw [hz]];exact h
 have L0':=Lib.hid L0;have S0:=Lib.hid (S.below hb0);have B0:=Lib.hid hb0;have G:=Lib.hid g;have HZ:=Lib.hid hz;clear S g hb0 L0 hz;generalize hW:w.alloc (.cells (arr F) 114)=W at R0 L0' S0 B0 HZ;have HW:=Lib.hid hW;clear hW
 go_enter Tryz.func85,Tryz.ntmps85
 go_wp2
 go_loopw [7,8] (fun v i wr=>∃ k:Nat,k≤11∧i = .int .i64 k∧Hid (LRel W (Glo A R n) F m v k wr)) (fun _ i _=>11 - (intOf i).toNat)
 case atStart=>exact ⟨0,by omega,rfl,by rw [HW.out];exact L0'⟩
 case round =>
  obtain ⟨k,hk,rfl,L⟩:=hrel;have hB:=L.out.bel.size;have RW:=Lib.hid (R0.out.below L.out.bel R0.out.lt)
  by_cases hlt:k < 11
  ·have c:=RW.out.cell k hlt
   cases hF:F k with
   | true =>
     have L':=Lib.hid (L.out.hi hF);rw [hF] at c;clear hF;go_wp2
     go_roundw
     case rel=>exact ⟨k+1,by omega,by go_num,L'⟩
     case measure=>simp [intOf];omega
   | false =>
     rw [hF] at c;have HF:=Lib.hid hF;have s1:=Lib.hid (S0.out.below L.out.bel);clear hF;go_wp2_with fail;refine (rglobal_any _ _ _ _ _ (m+16 * k) s1.out G.out).mono ?_;rintro e w1 ⟨rfl,b1⟩;have s2:=Lib.hid (s1.out.below b1);have O1:=Lib.hid (L.out.own.keep b1);have B1:=Lib.hid (L.out.bel.trans (b1.mono hB));clear b1 c;go_wp2_with fail;refine (rglobal_any _ _ _ _ _ (m+16 * k+16) s2.out G.out).mono ?_;rintro e w2 ⟨rfl,b2⟩;have hown:=O1.out.keep b2;have hb1:=B1.out.trans (b2.mono B1.out.size);have z1:=hb1.size;have hll:=lows_len (g:=Glo A R n) (F:=F) (m:=m) k;have LL:=Lib.hid hll;clear b2 hll O1 B1
     go_wp2_with (at_builtin;refine push_step rfl _ _ rfl W.heap.size _ _ rfl (hown.alloc _) _ (Glo A R n (m+16 * k)) (Glo A R n (m+16 * k+16)) rfl ?c1 ?c2 ?c3 ?c4 ?_)
     case c1=>go_simp
     case c2=>go_simp
     case c3=>have:=LL.out;omega
     case c4=>simp;omega
     intro v' w3 hown2 hb2
     have L2:=Lib.hid (LRel.lo (g:=Glo A R n) (m:=m) HF.out hown2 ((hb1.alloc (by omega) _).trans hb2));clear hown2 hb2 hb1 hown;go_wp2
     go_roundw
     case rel=>exact ⟨k+1,by omega,by go_num,L2⟩
     case measure=>simp [intOf];omega
  ·obtain rfl:k=11:=by omega
   have NR:=lows_near (g:=Glo A R n) (F:=F) (m:=m) (Glo_in A R n) 11;obtain ⟨a,cap,rfl,_,_⟩:=L.out.own.slice;have J:=Lib.hid (rjoin_any _ _ _ L.out.own.sp NR);clear NR;go_wp2_with fail;refine J.out.mono ?_;rintro e w1 ⟨v1,l,rfl,hown,hj,b1⟩;have hw:w.heap.size≤wr.heap.size:=by have:=HZ.out;omega
   have OW:=Lib.hid (own_low hown hw);have PO:=Lib.hid hj;have B1:=Lib.hid ((B0.out.trans (L.out.bel.mono (by have:=HZ.out;omega))).trans (b1.mono hw));clear hown hj b1;go_wp2
   go_ret
   exact ⟨_,l,rfl,OW.out,PO.out,B1.out⟩
end Go.Proofs.YtpkipilggkbkeaaGreatDoor.Se
namespace Go.Proofs.YtpkipilggkbkeaaGreatDoor.Se
open Go.RowKit Go.Proofs.YtpkipilggkbkeaaGreatDoor.Tk Go.Proofs.YtpkipilggkbkeaaGreatDoor.Sp
open Wi (PlainOf Made Gives JoinOf join_any rjoin_any rows_one plain_one_of push_step)
open Ua (arr Row load_frame)
set_option maxHeartbeats 1000000 in
theorem spans_any (w:World) (v:Value) (n:Nat) (A R:Nat→Int) (S:Tk.Steps w v n A R) (g:GoodP n A R) (m:Int) (m0:0≤m) (m1:m≤2147483648) (F:Nat→Bool) :
 Calls Tryz.prog 47 #[v,.int .i64 m,.agg (arr F)] w (Made w (PlainOf (lows (Glo A R n) F m 11))):=by
 have R0:=Lib.hid (Row.new w F);have B0:=Lib.hid ((Below.refl w.heap.size w).alloc (Nat.le_refl _) (.cells (arr F) 114));have S0:=Lib.hid S;have G:=Lib.hid g;clear S g
 go_enter Tryz.func47,Tryz.ntmps47
 go_wp2_with ((with_reducible refine load_frame (o:=⟨some 10,_,_,_,_,_⟩) rfl _ rfl _ _ ?_ R0.out ?_);(exact rfl))
 go_loopw [7,11] (fun v i wr=>∃ k:Nat,k≤11∧i = .int .i64 k∧Hid (LRel w (Glo A R n) F m v k wr)) (fun _ i _=>11 - (intOf i).toNat)
 case atStart=>exact ⟨0,by omega,rfl,Lib.hid ⟨Sp.Own.nil _ _ _,B0.out⟩⟩
 case round =>
  obtain ⟨k,hk,rfl,L⟩:=hrel
  by_cases hlt:k < 11
  ·have ri:=Ua.run_index_arr F k hlt
   cases hF:F k with
   | true =>
     have L':=Lib.hid (L.out.hi hF);rw [hF] at ri;clear hF;go_wp2
     go_roundw
     case rel=>exact ⟨k+1,by omega,by go_num,L'⟩
     case measure=>simp [intOf];omega
   | false =>
     rw [hF] at ri;have HF:=Lib.hid hF;clear hF;have s1:=S0.out.below L.out.bel;have C:=Lib.hid (during_any wr v n A R s1 G.out (m+16 * k) 16 (by omega) (by omega) (by omega) (by omega));clear s1;have hB:=L.out.bel.size;go_wp2_with fail;refine C.out.mono ?_;rintro e w1 ⟨rfl,b1⟩;have hown:=L.out.own.keep b1;have hb1:=L.out.bel.trans (b1.mono hB);have z1:=b1.size;have hll:=lows_len (g:=Glo A R n) (F:=F) (m:=m) k;have LL:=Lib.hid hll;clear b1 hll
     go_wp2_with (at_builtin;refine push_step rfl _ _ rfl w.heap.size _ _ rfl (hown.alloc _) _ (Glo A R n (m+16 * k)) (Glo A R n (m+16 * k+16)) rfl ?c1 ?c2 ?c3 ?c4 ?_)
     case c1=>go_simp
     case c2=>go_simp
     case c3=>have:=LL.out;omega
     case c4=>simp;omega
     intro v' w2 hown2 hb2
     have L2:=Lib.hid (LRel.lo (g:=Glo A R n) (m:=m) HF.out hown2 ((hb1.alloc (by omega) _).trans hb2));clear hown2 hb2 hb1 hown;go_wp2
     go_roundw
     case rel=>exact ⟨k+1,by omega,by go_num,L2⟩
     case measure=>simp [intOf];omega
  ·obtain rfl:k=11:=by omega
   have hB:=L.out.bel.size;obtain ⟨a,cap,rfl,_,_⟩:=L.out.own.slice;have hll:=lows_len (g:=Glo A R n) (F:=F) (m:=m) 11;have J:=Lib.hid (join_any _ _ _ (rows_one L.out.own.sp) (by show 0+(lows (Glo A R n) F m 11).length < _;omega));clear hll;go_wp2_with fail;refine J.out.mono ?_;rintro e w1 ⟨v1,l,rfl,hown,hj,b1⟩;have OW:=Lib.hid (Wi.own_low hown (B':=w.heap.size) (by simp;omega));have PO:=Lib.hid (plain_one_of hj);have B1:=Lib.hid ((L.out.bel.alloc hB _).trans (b1.mono (B':=w.heap.size) (by simp;omega)));clear hown hj b1;go_wp2
   go_ret
   exact ⟨_,l,rfl,OW.out,PO.out,B1.out⟩
end Go.Proofs.YtpkipilggkbkeaaGreatDoor.Se
namespace Go.Proofs.YtpkipilggkbkeaaGreatDoor.Bu
open Go.RowKit
open Sp (S2 fr tp Sp)
open Rw (Rd Ow At)
open Wi (Plain PlainOf Low Made join_any own_low)
open Ck (LL lat sN sE tE RdL Hd sl zh KS)
open Pa (Sts Ns K2 snB sbN frF frame_any FramePost sender_is push_at wp_push_at)
open Ua (arr Row store_new info_of)
open Se (lows spans_any)
open Fl (row_cell row_frozen)
attribute [local irreducible] Sd.wpSd wpQuiet
structure Bn (w:World) (vs vt vl vp vo:Value) (S:Sts) (T:LL) (V:List Bool) (P:List S2) (O:List Osc):Prop where
 ns:Ns w vs vt vl S T V
 sp:Rd K2 w vp P
 os:OsL w vo O
 lo:O.length=S.length
 few:S.length≤32
 calm:calmL O
theorem Bn.below {w w':World} {vs vt vl vp vo:Value} {S:Sts} {T:LL} {V:List Bool} {P:List S2} {O:List Osc} (h:Bn w vs vt vl vp vo S T V P O) (b:Below w.heap.size w w'):Bn w' vs vt vl vp vo S T V P O:=⟨h.ns.below b,h.sp.below b,h.os.below b,h.lo,h.few,h.calm⟩
set_option maxHeartbeats 2000000 in
theorem sends_any {w:World} {vs vt vl vp vo:Value} {S:Sts} {T:LL} {V:List Bool} {P:List S2} {O:List Osc} (H:Bn w vs vt vl vp vo S T V P O) (j:Int) :
 Calls Tryz.prog 18 #[vs,vt,vl,vp,vo,.int .i64 j] w (Made w (SendP S T V P O j)):=by
 have FA:=Lib.hid (fun W b s=>frame_any (H.ns.below (w':=W) b) (H.sp.below b) s);unfold FramePost at FA;have WHO:Hid (∀ k:Nat,snB S T V k=true→∃ n:Nat,sbN S T V k=n∧n < O.length∧frs S T V P O k=some (osc O n,frF S T V P k)∧(osc O n).calm):=Lib.hid (fun k h=>who_sends H.ns.ok (by rw [H.lo,H.ns.lt]) H.calm h);have YES:Hid (∀ k:Nat,1≤k→sbN S T V k=j→∀ u,LowUp S T V P O j (k+1) u↔LowUp S T V P O j k u∨LowK (frs S T V P O) k u):=Lib.hid (fun k h e u=>lowUp_yes h e);have NO:Hid (∀ k:Nat,¬ (snB S T V k=true∧sbN S T V k=j)→∀ u,LowUp S T V P O j (k+1) u↔LowUp S T V P O j k u):=Lib.hid (fun k h u=>lowUp_no h);have END:Hid (∀ u,LowUp S T V P O j 17 u↔LowJ S T V P O j u):=Lib.hid (fun u=>lowUp_end);have I0:Hid (HdI w (.slice none 0 0) [] [] (LowUp S T V P O j 1) 1 w):=Lib.hid ⟨Ow.nil _ _ _,fun _ hi=>absurd hi (Nat.not_lt_zero _),rfl,fun _ hi=>absurd hi (Nat.not_lt_zero _),fun u=>⟨fun ⟨_,hi,_⟩=>absurd hi (Nat.not_lt_zero _),fun h=>absurd h lowUp_one⟩,by simp,Below.refl _ _⟩;have OS:=Lib.hid H.os;obtain ⟨ao,co,rfl,mo1,mo⟩:=H.os.slice;unfold maxLen at mo;clear H;generalize hno:O.length=no at *;have HNO:=Lib.hid hno;clear hno;unfold SendP
 go_enter Tryz.func18,Tryz.ntmps18
 go_wp2
 go_loopw [14,13] (fun i v wr=>∃ (k:Nat) (hs:List Hd) (ls:List (List S2)),1≤k∧k≤17∧i = .int .i64 k∧Hid (HdI w v hs ls (LowUp S T V P O j k) k wr)) (fun i _ _=>17 - (intOf i).toNat)
 case atStart=>exact ⟨1,[],[],by omega,by omega,rfl,I0⟩
 case round =>
  obtain ⟨k,hs,ls,hk1,hk,rfl,I⟩:=hrel;clear I0;obtain ⟨av,cv,rfl,_⟩:=I.out.slice
  by_cases hlt:k < 17
  ·have FK:=Lib.hid (FA.out wr I.out.bel (k:Int))
   have WK:=Lib.hid (WHO.out k);have YK:=Lib.hid (YES.out k hk1);have NK:=Lib.hid (NO.out k);generalize hF:frF S T V P (k:Int)=F at *;generalize hm:sbN S T V (k:Int)=m at *;generalize hok:snB S T V (k:Int)=ok at *;clear hF hm hok;go_wp2_with fail;refine FK.out.mono ?_;rintro e w1 ⟨rfl,b1⟩;have I2:=Lib.hid ((I.out.below b1).below ((Below.refl w1.heap.size w1).alloc (Nat.le_refl _) (.cells (arr F) 114)));have R2:=Lib.hid (Row.new w1 F);clear b1 FK I
   by_cases hall:ok=true∧m=j
   ·obtain ⟨rfl,rfl⟩:=hall
    obtain ⟨n,rfl,hn,hf,hcal⟩:=WK.out rfl;have YY:=Lib.hid (YK.out rfl);have CA:=Lib.hid hcal;have HF:=Lib.hid hf;clear YK NK WK hcal hf;obtain ⟨b5,o5,c5,a5,d5,e5,x5,_,s5⟩:=OS.out.one (k:=n) (by have:=HNO.out;omega);rw [HNO.out] at e5;injection e5 with e5 _ e6;subst e5 e6;have S5:=Lib.hid s5;clear s5
    go_upto_region 7 with ((with_reducible refine store_new (o:=⟨none,_,_,_,_,_⟩) rfl _ _ rfl F ?_ ?_ ?_);(exact rfl);(exact rfl))
    generalize (w1.alloc (.cells (arr F) 114))=W1 at *;generalize w1.heap.size=g1 at *;have BD:=Lib.hid (I2.out.bel.trans ((Below.refl W1.heap.size W1).drew.mono I2.out.bel.size));have lo:=World.block_lt_of_cell? _ _ x5;have wk:IntKind.i64.wrap (224 * (k:Int))=224 * (k:Int):=IntWalk.i64_in _ (by omega);have sO:=Sc.cell_in (C:=fun W=>Below w.heap.size w W) (a:=⟨b5,o5+n,none⟩) (fun W' h=>(h.cell lo).trans x5);have ne:Nonempty (Sc.In (fun W=>Below w.heap.size w W)):=⟨⟨_,BD.out⟩⟩;have ID:=Lib.hid (I2.out.below ((Below.refl W1.heap.size W1).drew));have RD:=Lib.hid (R2.out.below ((Below.refl W1.heap.size W1).drew) R2.out.lt);refine Sc.start (fun W=>Below w.heap.size w W) [(false,0),(false,1),(false,2),(false,3),(false,4),(false,5),(false,6),(true,7),(true,8),(true,9),(true,10),(false,11)] (by kernel_rfl) (by kernel_rfl) (by kernel_rfl) BD.out ?_;dsimp only [Sd.picks,List.getElem?_cons_succ,List.getElem?_cons_zero]
    repeat (refine Sd.lit ?_;quiet_step (fail);refine wpQuiet_nil ?_)
    clear sO I2 R2;generalize W1.drew=Wd at *;refine Sd.call (by rfl) (fun K hK=>?_);refine wp_load_row 114 _ rfl g1 rfl _ _ _ _ RD.out Tryz.underlying114 rfl (info_of F) ?_;refine hK _ _ (Sc.Cl.of BD.out) ?_;clear hK K;have SA:=Lib.hid (spans_any Wd _ _ _ _ (S5.out.below BD.out) CA.out.good (224 * (k:Int)) (by omega) (by omega) F);refine Sd.call (by rfl) (fun K hK=>?_);go_simp;refine SA.out.mono ?_;rintro e w5 ⟨v5,l,rfl,own5,p5,b5'⟩;have LK:=Lib.hid (low_spans HF.out p5);have PL:=Lib.hid p5.1;have B5:=Lib.hid (BD.out.trans (b5'.mono BD.out.size));obtain ⟨la,lc,rfl,_,_⟩:=own5.slice;refine hK _ _ (Sc.Cl.of B5.out) ?_;clear hK K p5 SA;refine Sd.call (by rfl) (fun K hK=>?_);go_simp;have BL:=b5'.alloc b5'.size (.cells #[.slice la l.length lc] 47);have I5:=Lib.hid (ID.out.below BL);have O5:=Lib.hid ((own_low own5 BD.out.size).alloc (.cells #[.slice la l.length lc] 47));have N6:=Lib.hid (heap_alloc_new w5 (.cells #[.slice la l.length lc] 47));have B6:=Lib.hid (B5.out.alloc B5.out.size (.cells #[.slice la l.length lc] 47));refine hK _ _ (Sc.Cl.of B6.out) ?_;clear hK K own5 b5' BL ID BD RD B5;have FEW:=Lib.hid (made_few PL.out (fun u h=>(LK.out u).1 h) (fun u h=>lowK_at h));have hh:Hid (Value.slice la l.length lc=sl (la,l.length,lc)):=Lib.hid rfl;generalize hln:l.length=ln at *;have HLN:=Lib.hid hln;clear hln;generalize w5.heap.size=g5 at *;generalize (w5.alloc (.cells #[.slice la ln lc] 47))=W6 at *;refine Sd.call (by rfl) (fun K hK=>?_);refine wp_push_at (K:=KS) Tryz.underlying106 infoP rfl (by omega) _ _ rfl w.heap.size _ _ rfl I5.out.own _ (la,ln,lc) rfl ?d1 ?d2 ?d3 ?_
    case d1 =>
     intro j u hu
     match j,hu with
     | 0,hu=>simp [KS] at hu;subst hu;exact row_cell N6.out 0
     | j+1,hu=>simp [KS] at hu
    case d2=>have:=I5.out.len;omega
    case d3=>have:=I5.out.bel.size;exact this
    intro v' w6 o6 g6 h6
    have NEW:Hid (HdI w v' (hs ++ [(la,ln,lc)]) (ls ++ [l]) (LowUp S T V P O n (k+1)) (k+1) w6):=Lib.hid (I5.out.push (by rw [← hh.out];exact O5.out) (by rw [HLN.out];exact FEW.out) o6 g6 (fun u=>by rw [YY.out u,LK.out u]));refine hK _ _ (Sc.Cl.of NEW.out.bel) ?_;clear hK K o6 g6 h6 I5 O5 B6 N6;obtain ⟨av',cv',rfl,_⟩:=NEW.out.slice;generalize (hs ++ [(la,ln,lc)]).length=Lp' at *
    repeat (refine Sd.lit ?_;quiet_step (fail);refine wpQuiet_nil ?_)
    refine Sd.done ?_;go_wp2
    go_roundw
    case rel=>exact ⟨k+1,_,_,by omega,by omega,by go_num,NEW⟩
    case measure=>simp [intOf];omega
   ·have I3:=Lib.hid (I2.out.to (NK.out hall))
    clear YK NK WK I2 R2
    cases ok with
    | false =>
      clear hall
      go_wp2_with ((with_reducible refine store_new (o:=⟨none,_,_,_,_,_⟩) rfl _ _ rfl F ?_ ?_ ?_);(exact rfl);(exact rfl))
      go_roundw
      case rel=>exact ⟨k+1,_,_,by omega,by omega,by go_num,I3⟩
      case measure=>simp [intOf];omega
    | true =>
      have hmj:(m == j)=false:=by simpa using hall
      clear hall
      go_wp2_with ((with_reducible refine store_new (o:=⟨none,_,_,_,_,_⟩) rfl _ _ rfl F ?_ ?_ ?_);(exact rfl);(exact rfl))
      go_roundw
      case rel=>exact ⟨k+1,_,_,by omega,by omega,by go_num,I3⟩
      case measure=>simp [intOf];omega
  ·obtain rfl:k=17:=by omega
   have J:=Lib.hid (join_any wr _ ls I.out.rows (I.out.tot (by omega)));have BI:=Lib.hid I.out.bel;have IJ:=Lib.hid (fun x hx=>I.out.join (x:=x) hx);clear I;generalize hs.length=Lp at *;go_wp2_with fail;refine J.out.mono ?_;rintro e w1 ⟨v1,l,rfl,own1,hj,b1⟩;have OW:=Lib.hid (own_low own1 BI.out.size);have PO:=Lib.hid (IJ.out l hj);have B1:=Lib.hid (BI.out.trans (b1.mono BI.out.size));clear own1 hj b1 J;go_wp2
   go_ret
   exact ⟨_,l,rfl,OW.out,⟨PO.out.1,fun u=>(PO.out.2 u).trans (END.out u)⟩,B1.out⟩
set_option maxHeartbeats 1000000 in
theorem line_any {w:World} {vs vt vl vp vo:Value} {S:Sts} {T:LL} {V:List Bool} {P:List S2} {O:List Osc} (H:Bn w vs vt vl vp vo S T V P O) :
 Calls Tryz.prog 15 #[vs,vt,vl,vp,vo] w (Made w (LineP S T V P O)):=by
 have SA:=Lib.hid (fun W b j=>sends_any (H.below (w':=W) b) j);have END:Hid (∀ u,LowTo S T V P O S.length u↔LowL (frs S T V P O) u):=Lib.hid (fun u=>by rw [lowL_iff H.ns.ok,H.ns.lt];exact Iff.rfl);have NX:Hid (∀ k u,LowTo S T V P O (k+1) u↔LowTo S T V P O k u∨LowJ S T V P O k u):=Lib.hid lowTo_next;have I0:Hid (HdI w (.slice none 0 0) [] [] (LowTo S T V P O 0) 0 w):=Lib.hid (HdI.start w (Below.refl _ _) fun u h=>by obtain ⟨j,hj,_⟩:=h;omega);have few:=H.few;obtain ⟨sa,cs,rfl,ms⟩:=H.ns.st.slice;unfold maxLen at ms;clear H;generalize S.length=n at *;unfold LineP
 go_enter Tryz.func15,Tryz.ntmps15
 go_wp2
 go_loopw [15,11] (fun i v wr=>∃ (k:Nat) (hs:List Hd) (ls:List (List S2)),k≤n∧i = .int .i64 k∧Hid (HdI w v hs ls (LowTo S T V P O k) k wr)) (fun i _ _=>n - (intOf i).toNat)
 case atStart=>exact ⟨0,[],[],Nat.zero_le _,rfl,I0⟩
 case round =>
  obtain ⟨k,hs,ls,hk,rfl,I⟩:=hrel;clear I0;obtain ⟨av,cv,rfl,_⟩:=I.out.slice
  by_cases hlt:k < n
  ·have SK:=Lib.hid (SA.out wr I.out.bel (k:Int))
   have NK:=Lib.hid (NX.out k);have IL:=Lib.hid I.out.len;generalize hs.length=lh at *;go_wp2_with fail;refine SK.out.mono ?_;rintro e w5 ⟨v5,l,rfl,own5,p5,b5⟩;have PL:=Lib.hid p5.1;have LK:=Lib.hid p5.2;have B5:=Lib.hid (I.out.bel.trans (b5.mono I.out.bel.size));obtain ⟨la,lc,rfl,_,_⟩:=own5.slice;have BL:=b5.alloc b5.size (.cells #[.slice la l.length lc] 47);have I5:=Lib.hid (I.out.below BL);have O5:=Lib.hid ((own_low own5 I.out.bel.size).alloc (.cells #[.slice la l.length lc] 47));have FEW:=Lib.hid (made_few PL.out (fun u h=>(LK.out u).1 h) (fun u h=>lowJ_at h));have hh:Hid (Value.slice la l.length lc=sl (la,l.length,lc)):=Lib.hid rfl;clear own5 p5 b5 BL SK;generalize hln:l.length=ln at *;have HLN:=Lib.hid hln;clear hln
   go_wp2_with (at_builtin;refine push_at (K:=KS) Tryz.underlying106 infoP rfl (by omega) rfl _ _ rfl w.heap.size _ _ rfl I5.out.own _ (la,ln,lc) rfl ?d1 ?d2 ?d3 ?_)
   case d1 =>
    intro j u hu
    match j,hu with
    | 0,hu=>simp [KS] at hu;subst hu;unfold sl;go_simp
    | j+1,hu=>simp [KS] at hu
   case d2=>have:=I5.out.len;omega
   case d3=>have:=I5.out.bel.size;exact this
   intro v' w6 o6 g6 h6
   have NEW:Hid (HdI w v' (hs ++ [(la,ln,lc)]) (ls ++ [l]) (LowTo S T V P O (k+1)) (k+1) w6):=Lib.hid (I5.out.push (by rw [← hh.out];exact O5.out) (by rw [HLN.out];exact FEW.out) o6 g6 (fun u=>by rw [NK.out u,LK.out u]));clear o6 g6 h6 I5 O5 I;obtain ⟨av',cv',rfl,_⟩:=NEW.out.slice;generalize (hs ++ [(la,ln,lc)]).length=Lp' at *;go_wp2
   go_roundw
   case rel=>exact ⟨k+1,_,_,by omega,by go_num,NEW⟩
   case measure=>simp [intOf];omega
  ·obtain rfl:k=n:=by omega
   have J:=Lib.hid (join_any wr _ ls I.out.rows (I.out.tot (by omega)));have BI:=Lib.hid I.out.bel;have IJ:=Lib.hid (fun x hx=>I.out.join (x:=x) hx);clear I;generalize hs.length=Lp at *;go_wp2_with fail;refine J.out.mono ?_;rintro e w1 ⟨v1,l,rfl,own1,hj,b1⟩;have OW:=Lib.hid (own_low own1 BI.out.size);have PO:=Lib.hid (IJ.out l hj);have B1:=Lib.hid (BI.out.trans (b1.mono BI.out.size));clear own1 hj b1 J;go_wp2
   go_ret
   exact ⟨_,l,rfl,OW.out,⟨PO.out.1,fun u=>(PO.out.2 u).trans (END.out u)⟩,B1.out⟩
end Go.Proofs.YtpkipilggkbkeaaGreatDoor.Bu
namespace Go.Proofs.YtpkipilggkbkeaaGreatDoor.Tk
open Go.RowKit
theorem bad' {A R:Nat→Int} {n k:Nat} (hk:k < n) (h:A k < 0∨4294967296 < A k∨20000 < R k∨R k < -20000∨(0 < k∧A k≤A (k - 1))):goodB n A R=false:=by
 refine goodB_no fun g=>?_;have a:=g.at_ k hk;have r:=g.rate k hk
 rcases h with h | h | h | h | ⟨h0,h⟩
 ·omega
 ·omega
 ·omega
 ·omega
 ·have:=g.up (k - 1) (by omega)
  rw [show k - 1+1=k by omega] at this
  omega
theorem GoodTo.step' {A R:Nat→Int} {k:Nat} (g:GoodTo A R k) (h0:¬ A k < 0) (h1:0 < k→¬ A k≤A (k - 1)) (h2:¬ 4294967296 < A k) (h3:¬ R k < -20000) (h4:¬ 20000 < R k):GoodTo A R (k+1):=by
 refine g.step ?_ h2 h3 h4
 cases k with
 | zero=>show ¬ A 0≤-1;omega
 | succ k=>exact h1 (by omega)
set_option maxHeartbeats 400000 in
theorem rgood_some (w:World) (b off n cap:Nat) (hn:n≤maxLen) (A R:Nat→Int)
 (hc:∀ i,i < n→w.cell? ⟨b,off+i * 2,none⟩=some (.int .i64 (A i))∧w.cell? ⟨b,off+i * 2+1,none⟩=some (.int .i64 (R i))) :
 Calls Tryz.prog 69 #[.slice (some ⟨b,off,none⟩) n cap] w fun e w'=>e = .returned (.bool (goodB n A R))∧Below w.heap.size w w':=by
 have HC:=Lib.hid hc;clear hc;unfold maxLen at hn
 go_enter Tryz.func69,Tryz.ntmps69
 go_wp2
 go_loopw [3] (fun i wr=>∃ k:Nat,k≤n∧i = .int .i64 k∧GoodTo A R k∧Below w.heap.size w wr) (fun i _=>n - (intOf i).toNat)
 case atStart=>exact ⟨0,Nat.zero_le _,rfl,GoodTo.zero A R,Below.refl _ _⟩
 case round =>
  obtain ⟨k,hk,rfl,hg,hb⟩:=hrel
  by_cases hlt:k < n
  ·obtain ⟨c1,c2⟩:=HC.out k hlt
   have d1:=(hb.cell (World.block_lt_of_cell? _ _ c1)).trans c1;have d2:=(hb.cell (World.block_lt_of_cell? _ _ c2)).trans c2;clear c1 c2
   by_cases h0:A k < 0
   ·go_wp2
    go_ret
    exact ⟨ret_bool (bad' hlt (.inl h0)).symm,hb⟩
   ·by_cases h2:4294967296 < A k
    ·go_wp2
     go_ret
     exact ⟨ret_bool (bad' hlt (.inr (.inl h2))).symm,hb⟩
    ·by_cases h4:20000 < R k
     ·go_wp2
      go_ret
      exact ⟨ret_bool (bad' hlt (.inr (.inr (.inl h4)))).symm,hb⟩
     ·by_cases h3:R k < -20000
      ·go_wp2
       go_ret
       exact ⟨ret_bool (bad' hlt (.inr (.inr (.inr (.inl h3))))).symm,hb⟩
      ·by_cases hz:0 < k
       ·obtain ⟨c3,_⟩:=HC.out (k - 1) (by omega)
        have d3:=(hb.cell (World.block_lt_of_cell? _ _ c3)).trans c3;clear c3
        by_cases h1:A k≤A (k - 1)
        ·go_wp2
         go_quiet (fail)
         go_wp2
         go_ret
         exact ⟨ret_bool (bad' hlt (.inr (.inr (.inr (.inr ⟨hz,h1⟩))))).symm,below_drewN hb _⟩
        ·go_wp2
         go_quiet (fail)
         go_wp2
         go_roundw
         case rel=>exact ⟨k+1,by omega,by go_num,hg.step' (by omega) (fun _=>by omega) (by omega) (by omega) (by omega),below_drewN hb _⟩
         case measure=>simp [intOf];omega
       ·obtain rfl:k=0:=by omega
        simp only [Nat.zero_mul,Nat.add_zero] at d1 d2;go_wp2
        go_quiet (fail)
        go_wp2
        go_roundw
        case rel=>exact ⟨1,by omega,by go_num,hg.step' (by omega) (fun h=>by omega) (by omega) (by omega) (by omega),below_drewN hb _⟩
        case measure=>simp [intOf];omega
  ·obtain rfl:k=n:=by omega
   by_cases h6:k≤64
   ·go_wp2
    go_ret
    exact ⟨ret_bool (by rw [goodB_yes (hg.all h6)];simp;omega),hb⟩
   ·go_wp2
    go_ret
    exact ⟨ret_bool (by rw [goodB_no (fun g:GoodP k A R=>by have:=g.len;omega)];simp;omega),hb⟩
theorem rgood_none (w:World) (a:Option Addr) (cap:Nat) (A R:Nat→Int):Calls Tryz.prog 69 #[.slice a 0 cap] w fun e w'=>e = .returned (.bool (goodB 0 A R))∧Below w.heap.size w w':=by
 rw [goodB_yes (⟨by omega,fun i h=>by omega,fun i h=>by omega,fun i h=>by omega⟩:GoodP 0 A R)]
 go_enter Tryz.func69,Tryz.ntmps69
 go_wp2
 go_loopw [3] (fun i wr=>i = .int .i64 0∧Below w.heap.size w wr) (fun _ _=>0)
 case atStart=>exact ⟨rfl,Below.refl _ _⟩
 case round =>
  obtain ⟨rfl,hb⟩:=hrel;go_wp2
  go_ret
  exact ⟨rfl,hb⟩
theorem rgood_any (w:World) (v:Value) (n:Nat) (A R:Nat→Int) (h:Steps w v n A R):Calls Tryz.prog 69 #[v] w fun e w'=>e = .returned (.bool (goodB n A R))∧Below w.heap.size w w':=by
 rcases h with ⟨a,cap,rfl,_,rfl⟩ | ⟨b,off,cap,rfl,h1,h2,hc⟩
 ·exact rgood_none w a cap A R
 ·exact rgood_some w b off n cap (by omega) A R hc
end Go.Proofs.YtpkipilggkbkeaaGreatDoor.Tk
namespace Go.Proofs.YtpkipilggkbkeaaGreatDoor.Sa
open Go.RowKit Go.Proofs.YtpkipilggkbkeaaGreatDoor.Sp
open Tk (GoodP Glo rglobal_any rlocal_any rgood_any goodB goodB_true)
open Wi (PlainOf lowB rlow_any Near Made push_step)
open Ua (arr upd Row no copy_frame results_frame ret_arr below_setRow store_new)
def hf (low:Int→Bool) (g:Int→Int) (N:Int) (k i:Nat):Bool:=if i < k then heard low g N i else false
theorem hf_0 (low:Int→Bool) (g:Int→Int) (N:Int) (i:Nat):false=hf low g N 0 i:=by unfold hf;rw [if_neg (by omega)]
theorem hf_all (low:Int→Bool) (g:Int→Int) (N:Int) (i:Nat) (h:i < 11):hf low g N 11 i=heard low g N i:=by unfold hf;rw [if_pos h]
theorem hf_step (low:Int→Bool) (g:Int→Int) (N:Int) (k:Nat) {x:Bool} (e:x=heard low g N k) (i:Nat):upd (hf low g N k) k x i=hf low g N (k+1) i:=by
 unfold upd hf
 by_cases c:i=k
 ·subst c;rw [if_pos rfl,if_pos (by omega),e]
 ·rw [if_neg c]
  by_cases d:i < k
  ·rw [if_pos d,if_pos (by omega)]
  ·rw [if_neg d,if_neg (by omega)]
structure RTwo (w:World) (b:Nat) (wr:World) (F:Nat→Bool):Prop where
 res:Row wr w.heap.size no
 row:Row wr b F
 bel:Below w.heap.size w wr
 lt:w.heap.size < b
theorem RTwo.set_ {w wr:World} {b:Nat} {F:Nat→Bool} (h:RTwo w b wr F) (k:Nat) (hk:k < 11) (x:Bool):RTwo w b (wr.setCell ⟨b,k,none⟩ (.bool x)) (upd F k x) :=
 ⟨h.res.far (by have:=h.lt;simp;omega) _,h.row.set_ k hk x,h.bel.setCell (by have:=h.lt;simp;omega) _,h.lt⟩
theorem RTwo.below {w wr w1:World} {b:Nat} {F:Nat→Bool} (h:RTwo w b wr F) (hb:Below wr.heap.size wr w1):RTwo w b w1 F :=
 ⟨h.res.below hb h.res.lt,h.row.below hb h.row.lt,h.bel.trans (hb.mono h.bel.size),h.lt⟩
theorem RTwo.to {w wr:World} {b:Nat} {F G:Nat→Bool} (h:RTwo w b wr F) (e:∀ i,i < 11→F i=G i):RTwo w b wr G:=⟨h.res,h.row.to e,h.bel,h.lt⟩
set_option maxHeartbeats 1000000 in
theorem rbits_any (w:World) (v u:Value) (l:List S2) (P:Sp w v l) (n:Nat) (A R:Nat→Int) (S:Tk.Steps w u n A R) (g:GoodP n A R) (t:Int) :
 Calls Tryz.prog 72 #[v,u,.int .i64 t] w fun e w'=>e = .returned (.agg (arr (heard (lowB l) (Glo A R n) (Tk.Loc A R n t))))∧Below w.heap.size w w':=by
 have hb0:=(Below.refl w.heap.size w).alloc (Nat.le_refl _) (.cells (arr no) 114);have R0:=Lib.hid (Row.new w no);have P0:=Lib.hid P;have S0:=Lib.hid S;have G:=Lib.hid g;have N:=Loc_all A R n g t;have LA:=Lib.hid (rlocal_any _ u n A R (S.below hb0) g t);have B0:=Lib.hid hb0;clear P S g hb0
 go_enter Tryz.func72,Tryz.ntmps72
 go_wp2_with fail;refine LA.out.mono ?_;rintro e w1 ⟨rfl,b1⟩;have T1:Hid (RTwo w w1.heap.size (w1.alloc (.cells (arr no) 114)) (hf (lowB l) (Glo A R n) (Tk.Loc A R n t) 0)):=by
  have z0:=R0.out.lt;have z1:=b1.size;have bb:=B0.out.trans (b1.mono B0.out.size);refine ⟨(R0.out.below b1 z0).alloc _,(Row.new w1 no).to (fun i _=>hf_0 _ _ _ i),bb.alloc bb.size _,by omega⟩
 clear b1 LA B0 R0;generalize hL:Tk.Loc A R n t=L at *;have HL:=Lib.hid hL;clear hL;obtain ⟨N0,N1⟩:=N
 go_wp2_with ((with_reducible refine store_new (o:=⟨none,_,_,_,_,_⟩) rfl _ _ rfl no ?_ ?_ ?_);(exact rfl);(exact rfl))
 generalize w1.heap.size=b at *;generalize w1.alloc (.cells (arr no) 114)=W at *
 go_loopw [9] (fun i wr=>∃ k:Nat,k≤11∧i = .int .i64 k∧Hid (RTwo w b wr (hf (lowB l) (Glo A R n) L k))) (fun i _=>11 - (intOf i).toNat)
 case atStart=>exact ⟨0,by omega,rfl,T1⟩
 case round =>
  obtain ⟨k,hk,rfl,T⟩:=hrel
  by_cases hlt:k < 11
  ·have HS:Hid (∀ x,x=maj (!lowB l (Glo A R n (L+16 * k+7))) (!lowB l (Glo A R n (L+16 * k+8))) (!lowB l (Glo A R n (L+16 * k+9)))→∀ i,upd (hf (lowB l) (Glo A R n) L k) k x i=hf (lowB l) (Glo A R n) L (k+1) i):=fun x e=>hf_step (lowB l) (Glo A R n) L k e
   have p0:=P0.out.below T.out.bel;have s0:=S0.out.below T.out.bel;have p0':=Lib.hid p0;have s0':=Lib.hid s0;clear p0 s0;go_wp2_with fail;refine (rglobal_any _ _ _ _ _ (L+16 * k+7) s0'.out G.out).mono ?_;rintro e w2 ⟨rfl,b2⟩;have T2:=Lib.hid (T.out.below b2);have p2:=Lib.hid (p0'.out.below b2);have s2:=Lib.hid (s0'.out.below b2);clear b2 p0' s0' T;go_wp2_with fail;refine (rlow_any _ _ _ p2.out _).mono ?_;rintro e w' ⟨rfl,rfl⟩;go_wp2_with fail;refine (rglobal_any _ _ _ _ _ (L+16 * k+8) s2.out G.out).mono ?_;rintro e w3 ⟨rfl,b3⟩;have T3:=Lib.hid (T2.out.below b3);have p3:=Lib.hid (p2.out.below b3);have s3:=Lib.hid (s2.out.below b3);clear b3 p2 s2 T2;go_wp2_with fail;refine (rlow_any _ _ _ p3.out _).mono ?_;rintro e w' ⟨rfl,rfl⟩;go_wp2_with fail;refine (rglobal_any _ _ _ _ _ (L+16 * k+9) s3.out G.out).mono ?_;rintro e w4 ⟨rfl,b4⟩;have T4:=Lib.hid (T3.out.below b4);have p4:=Lib.hid (p3.out.below b4);clear b4 p3 s3 T3;go_wp2_with fail;refine (rlow_any _ _ _ p4.out _).mono ?_;rintro e w' ⟨rfl,rfl⟩;have c:=T4.out.row.cell k (by omega);have f:=T4.out.row.frozen k;generalize lowB l (Glo A R n (L+16 * k+7))=x at *;generalize lowB l (Glo A R n (L+16 * k+8))=y at *;generalize lowB l (Glo A R n (L+16 * k+9))=z at *
   cases x <;> cases y <;> cases z
   all_goals
    go_wp2
    go_roundw
    case rel=>exact ⟨k+1,by omega,by go_num,Lib.hid ((T4.out.set_ k (by omega) _).to (fun i _=>HS.out _ rfl i))⟩
    case measure=>simp [intOf];omega
  ·obtain rfl:k=11:=by omega
   go_wp2_with ((with_reducible refine copy_frame (o:=⟨some 67,_,_,_,_,_⟩) rfl rfl _ _ _ rfl rfl rfl _ _ _ _ ?_ ?_ ?_ T.out.row T.out.res ?_);(exact rfl);(exact rfl);(exact rfl))
   refine bodyPost_ret (results_frame rfl _ _ _ _ rfl (T.out.res.row _)) rfl ⟨ret_arr fun i hi=>by rw [HL.out];exact hf_all _ _ _ i hi,?_⟩;exact below_setRow T.out.bel _ _ (Nat.le_refl _)
end Go.Proofs.YtpkipilggkbkeaaGreatDoor.Sa
namespace Go.Proofs.YtpkipilggkbkeaaGreatDoor.Sa
open Go.RowKit Go.Proofs.YtpkipilggkbkeaaGreatDoor.Sp
open Tk (GoodP Glo global_any local_any rglobal_any rlocal_any)
open Wi (PlainOf lowB high_any rlow_any fall_any rfall_any FallV FallPost Near)
open Ua (arr upd Row Two two_new no tb tp te take_any rtake_any copy_frame results_frame ret_arr ret_three below_setRow store_new)
def hi (low:Int→Bool) (g:Int→Int) (b:Int):Nat→Nat
 | 0=>0
 | k+1=>hi low g b k+(if low (g (b+7+k)) then 0 else 1)
theorem hi_le (low:Int→Bool) (g:Int→Int) (b:Int):∀ k,hi low g b k≤k
 | 0=>Nat.le_refl _
 | k+1=>by have:=hi_le low g b k;unfold hi;split <;> omega
theorem hi_low {low:Int→Bool} {g:Int→Int} {b:Int} {k:Nat} (h:low (g (b+7+k))=true):hi low g b (k+1)=hi low g b k:=by rw [hi,if_pos h,Nat.add_zero]
theorem hi_high {low:Int→Bool} {g:Int→Int} {b:Int} {k:Nat} (h:low (g (b+7+k))=false):hi low g b (k+1)=hi low g b k+1:=by rw [hi,if_neg (by simp [h])]
theorem hi_maj (low:Int→Bool) (g:Int→Int) (b:Int):decide ((1:Int) < (hi low g b 3:Nat))=maj (!low (g (b+7))) (!low (g (b+8))) (!low (g (b+9))):=by
 have e:hi low g b 3=0+(if low (g (b+7)) then 0 else 1)+(if low (g (b+8)) then 0 else 1)+(if low (g (b+9)) then 0 else 1):=by
  show 0+(if low (g (b+7+(0:Nat))) then 0 else 1)+(if low (g (b+7+(1:Nat))) then 0 else 1)+(if low (g (b+7+(2:Nat))) then 0 else 1)=_
  rw [show b+7+((0:Nat):Int)=b+7 by omega,show b+7+((1:Nat):Int)=b+8 by omega,show b+7+((2:Nat):Int)=b+9 by omega]
 rw [e]
 cases low (g (b+7)) <;> cases low (g (b+8)) <;> cases low (g (b+9)) <;> rfl
set_option maxHeartbeats 400000 in
theorem mostly_any (w:World) (v u:Value) (l:List S2) (P:Sp w v l) (n:Nat) (A R:Nat→Int) (S:Tk.Steps w u n A R) (g:GoodP n A R) (b:Int) (b0:0≤b) (b1:b≤5000000000) :
 Calls Tryz.prog 141 #[v,u,.int .i64 b] w fun e w'=>e = .returned (.bool (maj (!lowB l (Glo A R n (b+7))) (!lowB l (Glo A R n (b+8))) (!lowB l (Glo A R n (b+9)))))∧Below w.heap.size w w':=by
 have P0:=Lib.hid P;have S0:=Lib.hid S;have G:=Lib.hid g;have HM:=Lib.hid (hi_maj (lowB l) (Glo A R n) b);clear P S g
 go_enter Tryz.func141,Tryz.ntmps141
 go_wp2
 go_loopw [7,9] (fun h i wr=>∃ k:Nat,k≤3∧i = .int .i64 k∧h = .int .i64 (hi (lowB l) (Glo A R n) b k:Nat)∧Below w.heap.size w wr) (fun _ i _=>3 - (intOf i).toNat)
 case atStart=>exact ⟨0,by omega,rfl,rfl,Below.refl _ _⟩
 case round =>
  obtain ⟨k,hk,rfl,rfl,hb⟩:=hrel;have q:=hi_le (lowB l) (Glo A R n) b k;have HB:=Lib.hid hb
  by_cases hlt:k < 3
  ·have s1:=Lib.hid (S0.out.below hb)
   have p1:=Lib.hid (P0.out.below hb);clear hb;go_wp2_with fail;refine (global_any _ _ _ _ _ (b+7+k) s1.out G.out).mono ?_;rintro e w1 ⟨rfl,c1⟩;have p2:=Lib.hid (p1.out.below c1);have B1:=Lib.hid (HB.out.trans (c1.mono HB.out.size));clear c1
   cases hL:lowB l (Glo A R n (b+7+k)) with
   | true =>
     have E:=Lib.hid (hi_low hL);have HA:=Lib.hid (high_any _ _ _ p2.out (Glo A R n (b+7+k)));rw [hL] at HA;clear hL;go_wp2_with fail;refine HA.out.mono ?_;rintro e w2 ⟨rfl,c2⟩;have B2:=Lib.hid (B1.out.trans (c2.mono B1.out.size));clear c2;go_wp2
     go_roundw
     case rel=>exact ⟨k+1,by omega,by go_num,by rw [E.out],B2.out⟩
     case measure=>simp [intOf];omega
   | false =>
     have E:=Lib.hid (hi_high hL);have HA:=Lib.hid (high_any _ _ _ p2.out (Glo A R n (b+7+k)));rw [hL] at HA;clear hL;go_wp2_with fail;refine HA.out.mono ?_;rintro e w2 ⟨rfl,c2⟩;have B2:=Lib.hid (B1.out.trans (c2.mono B1.out.size));clear c2;go_wp2
     go_roundw
     case rel=>exact ⟨k+1,by omega,by go_num,by rw [E.out];go_num,B2.out⟩
     case measure=>simp [intOf];omega
  ·obtain rfl:k=3:=by omega
   clear hb;generalize hi (lowB l) (Glo A R n) b 3=h at *;go_wp2
   go_ret
   exact ⟨Ua.ret_bool HM.out,HB.out⟩
set_option maxHeartbeats 400000 in
theorem bits_any (w:World) (v u:Value) (l:List S2) (P:Sp w v l) (n:Nat) (A R:Nat→Int) (S:Tk.Steps w u n A R) (g:GoodP n A R) (t:Int) :
 Calls Tryz.prog 109 #[v,u,.int .i64 t] w fun e w'=>e = .returned (.agg (arr (heard (lowB l) (Glo A R n) (Tk.Loc A R n t))))∧Below w.heap.size w w':=by
 have T0:=Lib.hid (two_new w (hf (lowB l) (Glo A R n) (Tk.Loc A R n t) 0) (fun i _=>hf_0 _ _ _ i));have P0:=Lib.hid P;have S0:=Lib.hid S;have G:=Lib.hid g;have N:=Loc_all A R n g t;have z2:((w.alloc (.cells (arr no) 114)).alloc (.cells (arr no) 114)).heap.size=w.heap.size+1+1:=by simp
 have LA:=Lib.hid (local_any _ u n A R (S.below T0.out.2.2) g t);clear P S g
 go_enter Tryz.func109,Tryz.ntmps109
 go_wp2_with fail;refine LA.out.mono ?_;rintro e w1 ⟨rfl,b1⟩;have T1:=Lib.hid (T0.out.below b1);clear b1 LA T0;generalize hL:Tk.Loc A R n t=L at *;have HL:=Lib.hid hL;clear hL;obtain ⟨N0,N1⟩:=N;go_wp2
 go_loopw [13] (fun i wr=>∃ k:Nat,k≤11∧i = .int .i64 k∧Hid (Two w wr (hf (lowB l) (Glo A R n) L k))) (fun i _=>11 - (intOf i).toNat)
 case atStart=>exact ⟨0,by omega,rfl,T1⟩
 case round =>
  obtain ⟨k,hk,rfl,T⟩:=hrel
  by_cases hlt:k < 11
  ·have HS:=Lib.hid (fun x (e:x=heard (lowB l) (Glo A R n) L k)=>hf_step (lowB l) (Glo A R n) L k e)
   have M:=Lib.hid (mostly_any wr v u l (P0.out.below T.out.2.2) n A R (S0.out.below T.out.2.2) G.out (L+16 * k) (by omega) (by omega));go_wp2_with fail;refine M.out.mono ?_;rintro e w2 ⟨rfl,b2⟩;have T2:=Lib.hid (T.out.below b2);have c:=T2.out.2.1.cell k (by omega);have f:=T2.out.2.1.frozen k;clear b2 M;go_wp2
   go_roundw
   case rel=>exact ⟨k+1,by omega,by go_num,Lib.hid ((T2.out.set_ k (by omega) _).to (fun i _=>HS.out _ rfl i))⟩
   case measure=>simp [intOf];omega
  ·obtain rfl:k=11:=by omega
   go_wp2_with ((with_reducible refine copy_frame (o:=⟨some 26,_,_,_,_,_⟩) rfl rfl _ _ _ rfl rfl rfl _ _ _ _ ?_ ?_ ?_ T.out.frame T.out.res ?_);(exact rfl);(exact rfl);(exact rfl))
   refine bodyPost_ret (results_frame rfl _ _ _ _ rfl (T.out.1.row _)) rfl ⟨ret_arr fun i hi=>by rw [HL.out];exact hf_all _ _ _ i hi,?_⟩;exact below_setRow T.out.2.2 _ _ (Nat.le_refl _)
noncomputable def HearV (x l:List S2) (A R:Nat→Int) (n:Nat) (f t:Int):Int×Bool×Int :=
 if (FallV x f t).2 then (tb (heard (lowB l) (Glo A R n) (Tk.Loc A R n (FallV x f t).1)),tp (heard (lowB l) (Glo A R n) (Tk.Loc A R n (FallV x f t).1)),te (heard (lowB l) (Glo A R n) (Tk.Loc A R n (FallV x f t).1))) else (0,false,3)
theorem hear_no {x l:List S2} {A R:Nat→Int} {n:Nat} {f t p:Int} (h:FallV x f t=(p,false)):(0,false,3)=HearV x l A R n f t:=by
 unfold HearV;rw [h];rfl
theorem hear_yes {x l:List S2} {A R:Nat→Int} {n:Nat} {f t p:Int} (h:FallV x f t=(p,true)):(tb (heard (lowB l) (Glo A R n) (Tk.Loc A R n p)),tp (heard (lowB l) (Glo A R n) (Tk.Loc A R n p)),te (heard (lowB l) (Glo A R n) (Tk.Loc A R n p)))=HearV x l A R n f t:=by
 unfold HearV;rw [h];rfl
def HearPost (w:World) (l:List S2) (A R:Nat→Int) (n:Nat) (f t:Int) (e:Ending) (w':World):Prop :=
 ∃ x,PlainOf l x∧e = .returned (.tuple #[.int .u8 (HearV x l A R n f t).1,.bool (HearV x l A R n f t).2.1,.int .i64 (HearV x l A R n f t).2.2])∧Below w.heap.size w w'
theorem ret_hear {a c:Int} {b:Bool} {q:Int×Bool×Int} (h:(a,b,c)=q):Ending.returned (.tuple #[.int .u8 a,.bool b,.int .i64 c]) = .returned (.tuple #[.int .u8 q.1,.bool q.2.1,.int .i64 q.2.2]):=by rw [← h]
set_option maxHeartbeats 400000 in
theorem hear_any (w:World) (v u:Value) (l:List S2) (P:Sp w v l) (hl:l.length < 1099511627776) (n:Nat) (A R:Nat→Int) (S:Tk.Steps w u n A R) (g:GoodP n A R) (f t:Int) :
 Calls Tryz.prog 66 #[v,u,.int .i64 f,.int .i64 t] w (HearPost w l A R n f t):=by
 have P0:=Lib.hid P;have S0:=Lib.hid S;have G:=Lib.hid g;clear P S g
 go_enter Tryz.func66,Tryz.ntmps66
 go_wp2_with fail;refine (fall_any _ _ _ P0.out hl f t).mono ?_;rintro e w1 ⟨x,hx,rfl,b1⟩;have PX:=Lib.hid hx;have B1:=Lib.hid b1;have P1:=Lib.hid (P0.out.below b1);have S1:=Lib.hid (S0.out.below b1);clear b1 hx P0 S0;generalize hv:FallV x f t=q;obtain ⟨p,y⟩:=q
 cases y with
 | false =>
   have E:=Lib.hid (hear_no (l:=l) (A:=A) (R:=R) (n:=n) hv);clear hv;go_wp2
   go_ret3
   exact ⟨x,PX.out,ret_hear E.out,B1.out⟩
 | true =>
   have E:=Lib.hid (hear_yes (l:=l) (A:=A) (R:=R) (n:=n) hv);clear hv;go_wp2_with fail;refine (bits_any _ _ _ _ P1.out _ _ _ S1.out G.out p).mono ?_;rintro e w2 ⟨rfl,b2⟩;have B2:=Lib.hid (B1.out.trans (b2.mono B1.out.size));clear b2;generalize heard (lowB l) (Glo A R n) (Tk.Loc A R n p)=F at *;go_wp2_with fail;refine (take_any _ F).mono ?_;rintro e w3 ⟨rfl,b3⟩;have B3:=Lib.hid (B2.out.trans (b3.mono B2.out.size));clear b3;go_wp2
   go_ret3
   exact ⟨x,PX.out,ret_hear E.out,B3.out⟩
set_option maxHeartbeats 400000 in
theorem rhear_any (w:World) (v u:Value) (l:List S2) (P:Sp w v l) (N:Near l) (n:Nat) (A R:Nat→Int) (S:Tk.Steps w u n A R) (g:GoodP n A R) (f t:Int) :
 Calls Tryz.prog 31 #[v,u,.int .i64 f,.int .i64 t] w (HearPost w l A R n f t):=by
 have P0:=Lib.hid P;have S0:=Lib.hid S;have G:=Lib.hid g;clear P S g
 go_enter Tryz.func31,Tryz.ntmps31
 go_wp2_with fail;refine (rfall_any _ _ _ P0.out N f t).mono ?_;rintro e w1 ⟨x,hx,rfl,b1⟩;have PX:=Lib.hid hx;have B1:=Lib.hid b1;have P1:=Lib.hid (P0.out.below b1);have S1:=Lib.hid (S0.out.below b1);clear b1 hx P0 S0;generalize hv:FallV x f t=q;obtain ⟨p,y⟩:=q
 cases y with
 | false =>
   have E:=Lib.hid (hear_no (l:=l) (A:=A) (R:=R) (n:=n) hv);clear hv;go_wp2
   go_ret3
   exact ⟨x,PX.out,ret_hear E.out,B1.out⟩
 | true =>
   have E:=Lib.hid (hear_yes (l:=l) (A:=A) (R:=R) (n:=n) hv);clear hv;go_wp2_with fail;refine (rbits_any _ _ _ _ P1.out _ _ _ S1.out G.out p).mono ?_;rintro e w2 ⟨rfl,b2⟩;have B2:=Lib.hid (B1.out.trans (b2.mono B1.out.size));clear b2;generalize heard (lowB l) (Glo A R n) (Tk.Loc A R n p)=F at *;go_wp2_with fail;refine (rtake_any _ F).mono ?_;rintro e w3 ⟨rfl,b3⟩;have B3:=Lib.hid (B2.out.trans (b3.mono B2.out.size));clear b3;go_wp2
   go_ret3
   exact ⟨x,PX.out,ret_hear E.out,B3.out⟩
end Go.Proofs.YtpkipilggkbkeaaGreatDoor.Sa
namespace Go.Proofs.YtpkipilggkbkeaaGreatDoor.Bu
open Go.RowKit Go.Maps
open Sp (S2 fr tp Sp)
open Wi (Plain PlainOf Low)
open Tk (GoodP Glo global_any)
open Pa (Hr hput HBl HMap H1 hbl_new at_hput wf_of)
open Sa (hear_any HearPost)
attribute [local irreducible] Sd.wpSd wpQuiet
def HeardPost (w:World) (h:Hr) (e:Ending) (w':World):Prop:=∃ b,e = .returned (.map (some b))∧HMap w' (.map (some b)) h∧Below w.heap.size w w'
theorem hear_at {l:List S2} {r:Osc} (hp:Plain l) {W w':World} {e:Ending} {k:Nat} (h:HearPost W l r.A r.R r.n (Glo r.A r.R r.n (224 * (k:Int) - 20)) (Glo r.A r.R r.n (224 * (k:Int)+20)) e w') :
 e = .returned (.tuple #[.int .u8 (lisS l l r k).1,.bool (lisS l l r k).2.1,.int .i64 (lisS l l r k).2.2])∧Below W.heap.size W w':=by
 obtain ⟨x,hx,he,hb⟩:=h;obtain rfl:=hx.one ⟨hp,fun _=>Iff.rfl⟩;exact ⟨he,hb⟩
set_option maxHeartbeats 1000000 in
theorem heard_any {w:World} {v u:Value} {l:List S2} (P:Sp w v l) (hp:Plain l) (hl:l.length≤4294967297) {r:Osc} (S:Tk.Steps w u r.n r.A r.R) (c:r.calm):Calls Tryz.prog 26 #[v,u] w (HeardPost w (lis l l r)):=by
 have G:GoodP r.n r.A r.R:=Sa.Calm.good c;have GL:=Lib.hid (fun W b m=>global_any W u r.n r.A r.R m (S.below (w':=W) b) G);have HE:=Lib.hid (fun W b (k:Nat)=>(hear_any W v u l (P.below (w':=W) b) (by omega) r.n r.A r.R (S.below b) G (Glo r.A r.R r.n (224 * (k:Int) - 20)) (Glo r.A r.R r.n (224 * (k:Int)+20))).mono fun e w' h=>hear_at hp h);have YY:Hid (∀ k:Nat,1≤k→k≤16→(lisS l l r k).2.2=0→(lisS l l r k).2.1=false→hput (lowH (lis l l r) k) k (lisS l l r k).1=lowH (lis l l r) (k+1)):=Lib.hid (fun k h1 h2 e o=>low_yes h1 (lis_yes (by omega) (by omega) e o));have NN:Hid (∀ k:Nat,¬ ((lisS l l r k).2.2=0∧(lisS l l r k).2.1=false)→lowH (lis l l r) k=lowH (lis l l r) (k+1)):=Lib.hid (fun k h=>low_no (lis_no h));have EN:Hid (lowH (lis l l r) 17=lis l l r):=Lib.hid (low_end fun n h=>lis_out h);have M0:Hid (H1 w w.heap.size 1 (lowH (lis l l r) 1) (w.alloc (.map #[] 0))):=Lib.hid ⟨⟨0,by rw [low_one];exact hbl_new w,by omega⟩,Nat.le_refl _,(Below.refl w.heap.size w).alloc (Nat.le_refl _) _⟩;clear P hp hl S c G;generalize lis l l r=h at *;have hmm:=@run_makeMap Tryz.prog
 go_enter Tryz.func26,Tryz.ntmps26
 go_wp2;clear hmm;generalize (w.alloc (.map #[] 0))=W0 at *;generalize hb0:w.heap.size=b at M0 ⊢;have HB0:=Lib.hid hb0;clear hb0
 go_loopw [6] (fun i wr=>∃ k:Nat,1≤k∧k≤17∧i = .int .i64 k∧Hid (H1 w b k (lowH h k) wr)) (fun i _=>17 - (intOf i).toNat)
 case atStart=>exact ⟨1,by omega,by omega,rfl,M0⟩
 case round =>
  obtain ⟨k,hk1,hk,rfl,I⟩:=hrel;clear M0
  by_cases hlt:k < 17
  ·have K1:=Lib.hid (GL.out wr I.out.bel (224 * (k:Int) - 20))
   go_wp2_with fail;refine K1.out.mono ?_;rintro e w1 ⟨rfl,b1⟩;have I1:=Lib.hid (I.out.below b1);have K2:=Lib.hid (GL.out w1 I1.out.bel (224 * (k:Int)+20));clear b1 K1 I;go_wp2_with fail;refine K2.out.mono ?_;rintro e w2 ⟨rfl,b2⟩;have I2:=Lib.hid (I1.out.below b2);have K3:=Lib.hid (HE.out w2 I2.out.bel k);have YK:=Lib.hid (YY.out k hk1 (by omega));have NK:=Lib.hid (NN.out k);have WK:=Lib.hid (wf_of (n:=(k:Int)) ⟨by omega,by omega⟩);clear b2 K2 I1;generalize lisS l l r (k:Int)=q at *;obtain ⟨y,o,z⟩:=q;simp only at YK NK K3;go_wp2_with fail;refine K3.out.mono ?_;rintro e w3 ⟨rfl,b3⟩;have I3:=Lib.hid (I2.out.below b3);clear b3 K3 I2
   by_cases hz:z=0
   ·cases o with
    | false =>
      have EQ:=Lib.hid (YK.out hz rfl);clear YK NK;subst hz;obtain ⟨N,m,hN⟩:=I3.out.mp;have M2:=Lib.hid m;have LO:=Lib.hid I3.out.lo;have BE:=Lib.hid I3.out.bel;clear m I3
      go_wp2_with (first
       | (at_mapUpdate;refine at_hput rfl _ _ _ rfl rfl M2.out (by unfold maxLen;omega) (k:Int) y rfl rfl WK.out ?_;intro w4 m4 g4)
       | fail)
      have I4:Hid (H1 w b (k+1) (lowH h (k+1)) w4):=Lib.hid ⟨⟨N+1,by rw [← EQ.out];exact m4,by omega⟩,LO.out,BE.out.grown g4 BE.out.size (fun j e=>by injection e with e;have:=LO.out;omega)⟩;clear m4 g4 M2 EQ BE LO;go_wp2
      go_roundw
      case rel=>exact ⟨k+1,by omega,by omega,by go_num,I4⟩
      case measure=>simp [intOf];omega
    | true =>
      have EQ:=Lib.hid (NK.out (by simp));have I4:Hid (H1 w b (k+1) (lowH h (k+1)) w3):=Lib.hid ⟨by obtain ⟨N,m,hN⟩:=I3.out.mp;exact ⟨N,by rw [← EQ.out];exact m,by omega⟩,I3.out.lo,I3.out.bel⟩;clear YK NK EQ I3;subst hz;go_wp2
      go_roundw
      case rel=>exact ⟨k+1,by omega,by omega,by go_num,I4⟩
      case measure=>simp [intOf];omega
   ·have EQ:=Lib.hid (NK.out fun g=>hz g.1)
    have I4:Hid (H1 w b (k+1) (lowH h (k+1)) w3):=Lib.hid ⟨by obtain ⟨N,m,hN⟩:=I3.out.mp;exact ⟨N,by rw [← EQ.out];exact m,by omega⟩,I3.out.lo,I3.out.bel⟩;have d0:(z == 0)=false:=by simpa using hz
    clear YK NK EQ I3;go_wp2
    go_roundw
    case rel=>exact ⟨k+1,by omega,by omega,by go_num,I4⟩
    case measure=>simp [intOf];omega
  ·obtain rfl:k=17:=by omega
   rw [EN.out] at I;have RES:Hid (HeardPost w h (.returned (.map (some b))) wr):=Lib.hid ⟨b,rfl,by obtain ⟨⟨N,m,_⟩,_,_⟩:=I.out;exact ⟨b,N,rfl,m⟩,I.out.bel⟩;clear I;go_wp2
   go_ret
   exact RES.out
end Go.Proofs.YtpkipilggkbkeaaGreatDoor.Bu
namespace Go.Proofs.YtpkipilggkbkeaaGreatDoor.Bu
open Go.RowKit Go.Maps
open Sp (S2 fr tp Sp)
open Rw (Rd Ow At)
open Wi (Plain PlainOf Low Made)
open Fs (Glob CopySt)
open Ro (may_len)
open Ck (LL lat tE RdL may_all)
open Pa (Sts Stl SAp PI Ns K2 KB KN ptr sat vat hr rdE rdL rdS rdS_at rdS_len hr_ok round_any RoundPost stl_nil apply_any ApPost copy_has sap_good sap_new infoN push_at wp_push_at HMap tab_each not_bad atB)
open Fl (row_cell)
attribute [local irreducible] Sd.wpSd wpQuiet
set_option maxHeartbeats 4000000 in
theorem bround_any {w:World} {vs vt vl vp vo:Value} {S:Sts} {T:LL} {V:List Bool} {P:List S2} {O:List Osc} (HS:Stl w vs S) (HT:RdL w vt T) (HV:Rd KB w vl V) (RP:Rd K2 w vp P) (HO:OsL w vo O) (hg:Glob w) (hd:∀ i,i < S.length→0≤(sat S i).2∧(sat S i).2 < 900000) :
 Calls Tryz.prog 7 #[vs,vt,vl,vp,vo] w (RoundPost w (buE S T V O) (buL S T V P O)):=by
 have RO:=Lib.hid (round_any HS HT HV RP hg hd);unfold RoundPost at RO;obtain ⟨sa,cs,rfl,ms⟩:=HS.slice;obtain ⟨oa,co,rfl,mo1,mo⟩:=HO.slice;unfold maxLen at ms mo;have OS:=Lib.hid HO;have HS0:=Lib.hid HS;have HT0:=Lib.hid HT;have HV0:=Lib.hid HV;have RP0:=Lib.hid RP;have GG:=Lib.hid hg;have DD:=Lib.hid hd;clear HS HT HV RP HO hg hd
 by_cases hE:rdE S T V=0
 ·obtain ⟨f1,f2,f3,f4,f5⟩:=rdE_zero hE
  have WILD:Hid (¬ (O.length=S.length∧calmLB O=true)→∀ w',Below w.heap.size w w'→RoundPost w (buE S T V O) (buL S T V P O) (.returned (.tuple #[.slice none 0 0,.int .i64 1])) w'):=Lib.hid (fun h w' b=>by
   obtain ⟨e1,e2⟩:=buE_wild (P:=P) hE h;rw [e1,e2]
   exact ⟨_,rfl,stl_nil w',b⟩)
  by_cases hl:O.length=S.length
  ·have CA:=Lib.hid (fun W b=>calm_any W _ O (OS.out.below (w':=W) b))
   cases hc:calmLB O with
   | false =>
     have WL:=Lib.hid (WILD.out (by rw [hc];simp));rw [hE] at RO;rw [hc] at CA;generalize buE S T V O=be at *;generalize buL S T V P O=bl at *;generalize rdL S T V P=rl at *;rw [hl] at CA ⊢;clear WILD OS HS0;generalize S.length=n at *
     go_enter Tryz.func7,Tryz.ntmps7
     go_wp2_with fail;refine RO.out.mono ?_;rintro e w1 ⟨v1,rfl,_,b1⟩;have C1:=Lib.hid (CA.out w1 b1);have B1:=Lib.hid b1;clear b1 CA RO;go_wp2_with fail;refine C1.out.mono ?_;rintro e w2 ⟨rfl,b2⟩;have RES:=Lib.hid (WL.out w2 (B1.out.trans (b2.mono B1.out.size)));clear b2 C1 WL;go_wp2
     go_ret2
     exact RES.out
   | true =>
     obtain ⟨e1,e2⟩:=buE_ok (P:=P) hE hl hc;have cl:=of_calmLB hc;have BN:Hid (Bn w (.slice sa S.length cs) vt vl vp (.slice oa O.length co) S T V P O):=Lib.hid ⟨⟨HS0.out,HT0.out,HV0.out,f3,f4,f5⟩,RP0.out,OS.out,hl,f2,cl⟩;have LN:=Lib.hid (fun W b=>line_any (BN.out.below (w':=W) b));have LQ:Hid (∀ l,LineP S T V P O l→∀ k:Nat,k < S.length→lis l l (osc O k)=hr S T V P):=Lib.hid (fun l h k hk=>lis_is f5 (by rw [hl,f3]) cl ⟨h.1,fun _=>Iff.rfl⟩ h.2 (osc_calm cl (by omega)));have LF:Hid (∀ l,LineP S T V P O l→l.length≤4294967297):=Lib.hid (fun l h=>plain_few h.1 fun u hu=>lowL_at ((h.2 u).1 hu));have CO:Hid (∀ k:Nat,k < S.length→(osc O k).calm):=Lib.hid (fun k hk=>osc_calm cl (by omega));have OH:=Lib.hid (hr_ok S T V P);rw [hE] at RO;rw [hc] at CA;rw [e1,e2];clear WILD HT0 HV0 RP0;generalize hr S T V P=h at *;have AT:=Lib.hid (fun i hi=>rdS_at S T V h (i:=i) hi);have RL:=Lib.hid (rdS_len S T V h);generalize rdS S T V h=S' at *;generalize rdL S T V P=rl at *;have HL:=Lib.hid hl;have F3:=Lib.hid f3;have F4:=Lib.hid f4;rw [hl] at CA LN BN ⊢;clear hl f3 f4 f5 e1 e2 cl hc hE;generalize hn:S.length=n at *;have HN:=Lib.hid hn;clear hn
     go_enter Tryz.func7,Tryz.ntmps7
     go_wp2_with fail;refine RO.out.mono ?_;rintro e w1 ⟨v1,rfl,_,b1⟩;have C1:=Lib.hid (CA.out w1 b1);have B1:=Lib.hid b1;clear b1 CA RO;go_wp2_with fail;refine C1.out.mono ?_;rintro e w2 ⟨rfl,b2⟩;have B2:=Lib.hid (B1.out.trans (b2.mono B1.out.size));have L2:=Lib.hid (LN.out w2 B2.out);clear b2 C1 B1 LN;go_wp2_with fail;refine L2.out.mono ?_;rintro e w3 ⟨v3,l,rfl,own3,lp,b3⟩;have BW:=Lib.hid (B2.out.trans (b3.mono B2.out.size));have SL3:=Lib.hid own3.sp;have LP:=Lib.hid lp;obtain ⟨la,lc,rfl,_⟩:=SL3.out.slice;clear own3 lp b3 L2 B2;generalize hll:l.length=ln at *;have HLL:=Lib.hid hll;clear hll;go_wp2
     rename World=>wA
     go_loopw [47,15] (fun i o wr2=>∃ (k:Nat) (ps:List Nat),k≤n∧i = .int .i64 k∧Hid (PI SAp 39 wA S' k o ps wr2)) (fun i _ _=>n - (intOf i).toNat)
     case atStart=>exact ⟨0,[],Nat.zero_le _,rfl,PI.start wA (Below.refl _ _)⟩
     case round =>
      obtain ⟨k,ps,hk,rfl,I⟩:=hrel;have BI:=Lib.hid (BW.out.trans (I.out.bel.mono BW.out.size));obtain ⟨av,cv,ev,_⟩:=I.out.own.slice;have OWN:=Lib.hid I.out.own;generalize ps.length=Lp at ev;subst ev
      by_cases hlt:k < n
      ·obtain ⟨b1,o1,c1,s,e1,cS,hS⟩:=BN.out.ns.st.one (k:=k) (by have:=HN.out;omega)
       rw [HN.out] at e1;injection e1 with e1 _ e2;subst e1 e2;obtain ⟨b2,o2,c2,at',ct,e2,cT,_,_⟩:=BN.out.ns.tb.one (k:=k) (by have:=F3.out;omega);have RT:=Lib.hid (BN.out.ns.tb.rd (k:=k) (by have:=F3.out;omega) e2 cT);rw [F3.out] at e2;subst e2;obtain ⟨a3,c3,e3,_,_,h3⟩:=BN.out.ns.lv;rw [F4.out] at e3;subst e3;obtain ⟨b3,o3,rfl,A3⟩:=h3 (by have:=F4.out;omega);have cV:=atB (A3.below BI.out) (i:=k) (by have:=F4.out;omega);rw [show V.getD k false=vat V k from rfl] at cV;obtain ⟨b4,o4,c4,a4,d4,e4,cO,_,s4⟩:=BN.out.os.one (k:=k) (by have:=HL.out;omega);rw [HL.out] at e4;injection e4 with e4 _ e5;subst e4 e5;have S4:=Lib.hid s4;have EA:=Lib.hid (AT.out k (by have:=HN.out;omega));have OKT:=Lib.hid (tab_each BN.out.ns.ok (k:=k) (by have:=F3.out;omega));have ML:=Lib.hid (may_len (may_all (not_bad BN.out.ns.ok) k (by have:=F3.out;omega)));have HS2:Hid (∀ W,Below w.heap.size w W→Pa.Has W s (sat S k)):=Lib.hid (fun W b=>by obtain ⟨F,h⟩:=hS;exact ⟨F,h.below b⟩);have CT:=Lib.hid cT;have CC:=Lib.hid cO;have lT:=World.block_lt_of_cell? _ _ cT;have lO:=World.block_lt_of_cell? _ _ cO;unfold ptr at cS;have sS:=(BI.out.cell (World.block_lt_of_cell? _ _ cS)).trans cS;have LN:=Lib.hid I.out.len;clear hS h3 A3 s4 cS cT cO
       cases hv:vat V k with
       | true =>
         rw [hv] at cV;rw [hv,if_pos rfl] at EA;have EQ:=Lib.hid (LQ.out l LP.out k hlt);have CK:=Lib.hid (CO.out k hlt);generalize hlk:(lat T k).length=lk at *;go_upto_region 12 with fail;clear cV sS;have sT:=Sc.cell_in (C:=fun W=>Below w.heap.size w W) (a:=⟨b2,o2+k,none⟩) (fun W' h=>(h.cell lT).trans CT.out);have sO:=Sc.cell_in (C:=fun W=>Below w.heap.size w W) (a:=⟨b4,o4+k,none⟩) (fun W' h=>(h.cell lO).trans CC.out);have BD:=Lib.hid (BI.out.trans ((Below.refl wr.heap.size wr).drew.mono BI.out.size));have ne:Nonempty (Sc.In (fun W=>Below w.heap.size w W)):=⟨⟨_,BD.out⟩⟩;have ID:=Lib.hid (I.out.below sap_good ((Below.refl wr.heap.size wr).drew));refine Sc.start (fun W=>Below w.heap.size w W) [(false,0),(false,1),(false,2),(false,3),(false,4),(false,5),(false,6),(false,7),(false,8),(false,9),(false,10),(true,11),(true,12),(true,13),(true,14),(false,15)] (by kernel_rfl) (by kernel_rfl) (by kernel_rfl) BD.out ?_;dsimp only [Sd.picks,List.getElem?_cons_succ,List.getElem?_cons_zero]
         repeat (refine Sd.lit ?_;quiet_step (fail);refine wpQuiet_nil ?_)
         clear sT sO;generalize wr.drew=Wd at *;have HD:=Lib.hid (heard_any (l:=l) (r:=osc O k) (SL3.out.below ID.out.bel) LP.out.1 (LF.out l LP.out) (S4.out.below BD.out) CK.out);rw [EQ.out] at HD;unfold HeardPost at HD;generalize (osc O k).n=on at *;refine Sd.call (by rfl) (fun K hK=>?_);go_simp;refine HD.out.mono ?_;rintro e w4 ⟨mb,rfl,hm,b4'⟩;have HM:=Lib.hid hm;have B4:=Lib.hid (BD.out.trans (b4'.mono BD.out.size));have I4:=Lib.hid (ID.out.below sap_good b4');refine hK _ _ (Sc.Cl.of B4.out) ?_;clear hK K b4' hm HD ID;have AP:=Lib.hid (apply_any (HS2.out w4 B4.out) (GG.out.below B4.out) (DD.out k (by omega)) (RT.out.below B4.out) (fun y hy=>(OKT.out y hy).1) (by have:=ML.out;omega) HM.out OH.out);unfold ApPost at AP;refine Sd.call (by rfl) (fun K hK=>?_);go_simp;refine AP.out.mono ?_;rintro e w5 ⟨g,F5,rfl,st5,lo5,b5⟩;have B5:=Lib.hid (B4.out.trans (b5.mono B4.out.size));refine hK _ _ (Sc.Cl.of B5.out) ?_;clear hK K;unfold ptr;refine Sd.call (by rfl) (fun K hK=>?_);go_simp;have BL:=b5.alloc b5.size (.cells #[.pointer (some ⟨g,0,none⟩)] 39);have I5:=Lib.hid (I4.out.below sap_good BL);have G5:Hid (SAp (w5.alloc (.cells #[.pointer (some ⟨g,0,none⟩)] 39)) g (sat S' k) (Value.slice av Lp cv).ownBlock):=Lib.hid (sap_good.below (by rw [EA.out];exact sap_new st5 lo5 I4.out.lt) ((Below.refl w5.heap.size w5).alloc (Nat.le_refl _) _));have N6:=Lib.hid (heap_alloc_new w5 (.cells #[.pointer (some ⟨g,0,none⟩)] 39));have B6:=Lib.hid (B5.out.alloc B5.out.size (.cells #[.pointer (some ⟨g,0,none⟩)] 39));refine hK _ _ (Sc.Cl.of B6.out) ?_;clear hK K st5 lo5 b5 I OWN AP BL I4 BD;generalize w5.heap.size=g5 at *;generalize (w5.alloc (.cells #[.pointer (some ⟨g,0,none⟩)] 39))=W6 at *;refine Sd.call (by rfl) (fun K hK=>?_);refine wp_push_at (K:=KN) Tryz.underlying24 infoN rfl (by omega) _ _ rfl wA.heap.size _ _ rfl I5.out.own _ g rfl ?d1 ?d2 ?d3 ?_
         case d1 =>
          intro j u hu
          match j,hu with
          | 0,hu=>simp [KN] at hu;subst hu;exact row_cell N6.out 0
          | j+1,hu=>simp [KN] at hu
         case d2=>rw [LN.out];omega
         case d3=>have:=I5.out.bel.size;exact this
         intro v' w6 o6 g6 h6
         have NEW:=Lib.hid (I5.out.push sap_good o6 g6 h6 G5.out);refine hK _ _ (Sc.Cl.of (BW.out.trans (NEW.out.bel.mono BW.out.size))) ?_;clear hK K o6 g6 h6 I5 G5 B5 B6 N6;obtain ⟨av',cv',ev',_⟩:=NEW.out.own.slice;generalize (ps ++ [g]).length=Lp' at ev';subst ev'
         repeat (refine Sd.lit ?_;quiet_step (fail);refine wpQuiet_nil ?_)
         refine Sd.done ?_;go_wp2
         go_roundw
         case rel=>exact ⟨k+1,ps ++ [g],by omega,by go_num,NEW⟩
         case measure=>simp [intOf];omega
       | false =>
         rw [hv] at cV;rw [hv,if_neg Bool.false_ne_true] at EA;have AP:=Lib.hid (copy_has (HS2.out wr BI.out));unfold CopySt at AP;generalize (lat T k).length=lk at *;generalize (osc O k).n=on at *;go_wp2_with fail;refine AP.out.mono ?_;rintro e w5 ⟨g,F5,rfl,st5,lo5,b5⟩;have BL:=b5.alloc b5.size (.cells #[.pointer (some ⟨g,0,none⟩)] 39);have I5:=Lib.hid (I.out.below sap_good BL);have G5:Hid (SAp (w5.alloc (.cells #[.pointer (some ⟨g,0,none⟩)] 39)) g (sat S' k) (Value.slice av Lp cv).ownBlock):=Lib.hid (sap_good.below (by rw [EA.out];exact sap_new st5 lo5 I.out.lt) ((Below.refl w5.heap.size w5).alloc (Nat.le_refl _) _));clear st5 lo5 b5 I OWN AP cV sS BL
         (try unfold ptr)
         go_wp2_with (at_builtin;refine push_at (K:=KN) Tryz.underlying24 infoN rfl (by omega) rfl _ _ rfl wA.heap.size _ _ rfl I5.out.own _ g rfl ?d1 ?d2 ?d3 ?_)
         case d1 =>
          intro j u hu
          match j,hu with
          | 0,hu=>simp [KN] at hu;subst hu;unfold ptr;go_simp
          | j+1,hu=>simp [KN] at hu
         case d2=>rw [LN.out];omega
         case d3=>have:=I5.out.bel.size;exact this
         intro v' w6 o6 g6 h6
         have NEW:=Lib.hid (I5.out.push sap_good o6 g6 (by simpa using h6) G5.out);clear o6 g6 h6 I5 G5;obtain ⟨av',cv',ev',_⟩:=NEW.out.own.slice;generalize (ps ++ [g]).length=Lp' at ev';subst ev';go_wp2
         go_roundw
         case rel=>exact ⟨k+1,ps ++ [g],by omega,by go_num,NEW⟩
         case measure=>simp [intOf];omega
      ·obtain rfl:k=n:=by omega
       have RES:Hid (RoundPost w 0 S' (.returned (.tuple #[.slice av Lp cv,.int .i64 0])) wr):=Lib.hid ⟨_,rfl,PI.stl (S:=S') (by rw [RL.out];exact I.out),BI.out⟩;clear I OWN;go_wp2
       go_ret2
       exact RES.out
  ·have WL:=Lib.hid (WILD.out fun h=>hl h.1)
   rw [hE] at RO;generalize buE S T V O=be at *;generalize buL S T V P O=bl at *;generalize rdL S T V P=rl at *;clear WILD OS HS0 DD;generalize S.length=n at *;generalize O.length=no at *;have hne:((no:Int) != (n:Int))=true:=by simp;omega
   go_enter Tryz.func7,Tryz.ntmps7
   go_wp2_with fail;refine RO.out.mono ?_;rintro e w1 ⟨v1,rfl,_,b1⟩;have RES:=Lib.hid (WL.out w1 b1);clear b1 RO WL;go_wp2
   go_ret2
   exact RES.out
 ·obtain ⟨e1,e2⟩:=buE_wrong (O:=O) (P:=P) hE
  rw [e1,e2];have hne:(rdE S T V != 0)=true:=by simpa using hE
  clear hE OS HS0 DD e1 e2;generalize rdE S T V=E at *;generalize rdL S T V P=rl at *;generalize S.length=n at *;generalize O.length=no at *
  go_enter Tryz.func7,Tryz.ntmps7
  go_wp2_with fail;refine RO.out.mono ?_;rintro e w1 ⟨v1,rfl,_,b1⟩;have RES:Hid (RoundPost w E [] (.returned (.tuple #[.slice none 0 0,.int .i64 E])) w1):=Lib.hid ⟨_,rfl,stl_nil w1,b1⟩;clear b1 RO;go_wp2
  go_ret2
  exact RES.out
end Go.Proofs.YtpkipilggkbkeaaGreatDoor.Bu
namespace Go.Proofs.YtpkipilggkbkeaaGreatDoor.Bu
open Go.RowKit Go.Maps
open Rw (Rd Ow At)
open Sp (S2)
open Ro (E5 z5 K5 ent)
open Ck (sto5 sto5_row sto5_below RowE)
open Fl (row_cell row_frozen)
open Pa (K2 cut_any results_ent)
def FewPost (w:World) (l:List S2) (e:Ending) (w':World):Prop:=∃ u,e = .returned u∧Rd K2 w' u (l.take 20)∧Below w.heap.size w w'
set_option maxHeartbeats 400000 in
theorem few_any (w:World) (v:Value) (l:List S2) (R:Rd K2 w v l):Calls Tryz.prog 8 #[v] w (FewPost w l):=by
 have R0:=Lib.hid R;obtain ⟨a,cap,rfl,⟨h1,h1'⟩,hm,hA⟩:=R;have HA:=Lib.hid hA;unfold maxLen at hm;clear hA
 by_cases h:20 < l.length
 ·obtain ⟨b,off,rfl,_⟩:=HA.out (by omega)
  have E:Hid (FewPost w l (.returned (.slice (some ⟨b,off,none⟩) 20 cap)) w):=Lib.hid ⟨_,rfl,cut_any R0.out rfl (by omega) (by omega),Below.refl _ _⟩;clear R0 HA;generalize l.length=n at *
  go_enter Tryz.func8,Tryz.ntmps8
  go_wp2
  go_ret
  exact E.out
 ·have ht:l.take 20=l:=List.take_of_length_le (by omega)
  have E:Hid (FewPost w l (.returned (.slice a l.length cap)) w):=Lib.hid ⟨_,rfl,by rw [ht];exact R0.out,Below.refl _ _⟩;clear R0 HA;generalize l.length=n at *
  go_enter Tryz.func8,Tryz.ntmps8
  go_wp2
  go_ret
  exact E.out
set_option maxHeartbeats 400000 in
theorem entry_any (w:World) (k s x:Int):Calls Tryz.prog 39 #[.int .i64 k,.int .i64 s,.int .i64 x] w fun e w'=>e = .returned (ent (k,s,1,1,x))∧Below w.heap.size w w':=by
 have R0:Hid (RowE (w.alloc (.cells #[.int .i64 0,.int .i64 0,.int .i64 0,.int .i64 0,.int .i64 0] 98)) w.heap.size z5):=heap_alloc_new w _;have B0:=Lib.hid ((Below.refl w.heap.size w).alloc (Nat.le_refl _) (.cells #[.int .i64 0,.int .i64 0,.int .i64 0,.int .i64 0,.int .i64 0] 98))
 go_enter Tryz.func39,Tryz.ntmps39
 go_upto_region 1 with fail;generalize w.alloc (.cells #[.int .i64 0,.int .i64 0,.int .i64 0,.int .i64 0,.int .i64 0] 98)=W0 at *;have RS:=Lib.hid (sto5_row (y:=z5) R0.out (k,s,1,1,x));have BS:=Lib.hid (sto5_below (g:=w.heap.size) (x:=(k,s,1,1,x)) B0.out (Nat.le_refl _));have c0:W0.cell? ⟨w.heap.size,0,none⟩=some (.int .i64 0):=row_cell R0.out 0;have c1:W0.cell? ⟨w.heap.size,1,none⟩=some (.int .i64 0):=row_cell R0.out 1;have c2:W0.cell? ⟨w.heap.size,2,none⟩=some (.int .i64 0):=row_cell R0.out 2;have c3:W0.cell? ⟨w.heap.size,3,none⟩=some (.int .i64 0):=row_cell R0.out 3;have c4:W0.cell? ⟨w.heap.size,4,none⟩=some (.int .i64 0):=row_cell R0.out 4;have f0:W0.frozen? ⟨w.heap.size,0,none⟩=false:=row_frozen R0.out 0;have f1:W0.frozen? ⟨w.heap.size,1,none⟩=false:=row_frozen R0.out 1;have f2:W0.frozen? ⟨w.heap.size,2,none⟩=false:=row_frozen R0.out 2;have f3:W0.frozen? ⟨w.heap.size,3,none⟩=false:=row_frozen R0.out 3;have f4:W0.frozen? ⟨w.heap.size,4,none⟩=false:=row_frozen R0.out 4;go_wp2
 (try simp only [Exit.inBlock,Exit.then])
 refine bodyPost_ret (results_ent rfl _ _ w.heap.size (k,s,1,1,x) rfl RS.out) rfl ?_;exact ⟨rfl,BS.out⟩
end Go.Proofs.YtpkipilggkbkeaaGreatDoor.Bu
namespace Go.Proofs.YtpkipilggkbkeaaGreatDoor.Bu
open Go.RowKit
open Sp (S2)
open Wi (Plain Low low_nil low_cons low_one plain_cons)
open Fs (Abs gV addE addA)
open Fl (R4 z4 okR okL newL)
open Ck (LL)
open Pa (Sts sat snB frF rdE rdL)
def h0:R4:=(1,3,165,167)
def l0:List R4:=[h0,(255,8,0,0)]
theorem new31:newL 3 (1:Nat) = [h0,z4]:=by decide +kernel
def A0:Abs:=[(1,3,l0)]
theorem okR_h:okR h0:=⟨⟨by decide,by decide⟩,⟨by decide,by decide⟩,⟨by decide,by decide⟩,by decide,by decide⟩
theorem okR_a:okR (255,8,0,0):=⟨⟨by decide,by decide⟩,⟨by decide,by decide⟩,⟨by decide,by decide⟩,by decide,by decide⟩
theorem okL_0:okL l0:=fun r hr=>by
 simp only [l0,List.mem_cons,List.not_mem_nil,or_false] at hr
 rcases hr with rfl | rfl
 ·exact okR_h
 ·exact okR_a
theorem add_0:addE [] 1 3 l0=0∧addA [] 1 3 l0=A0:=⟨by kernel_rfl,by kernel_rfl⟩
def S0:Sts:=[(A0,0),(A0,0)]
def T0:LL:=[[(1,1,1,1,0)],[(2,1,1,1,3)]]
def V0:List Bool:=[true,true]
theorem r_e:rdE S0 T0 V0=0:=by decide +kernel
theorem r_len:(rdL S0 T0 V0 []).length=2:=by kernel_rfl
theorem r_1:gV (sat (rdL S0 T0 V0 []) 1).1 1 1=(255,8,0,255):=by kernel_rfl
def oR (r:Int):Osc:=⟨1,fun _=>0,fun _=>r⟩
def oN:Osc:=⟨0,fun _=>0,fun _=>0⟩
theorem calm_r {r:Int} (h : -2000≤r∧r≤2000):(oR r).calm:=⟨⟨by show (1:Nat)≤64;omega,fun i hi=>by show (0:Int)≤0∧(0:Int)≤4294967296;omega,fun i hi=>by show -20000≤r∧r≤20000;omega,fun i hi=>by have:i+1 < 1:=hi;omega⟩,by omega,fun i hi=>h⟩
theorem calm_n:oN.calm:=⟨⟨by show (0:Nat)≤64;omega,fun i hi=>absurd hi (Nat.not_lt_zero _),fun i hi=>absurd hi (Nat.not_lt_zero _),fun i hi=>absurd hi (Nat.not_lt_zero _)⟩,by omega,fun i hi=>absurd hi (Nat.not_lt_zero _)⟩
def O0:List Osc:=[oR 2000,oR (-2000)]
def O1:List Osc:=[oN,oN]
theorem calm_0:calmLB O0=true:=List.all_eq_true.2 fun o ho=>by
 simp only [O0,List.mem_cons,List.not_mem_nil,or_false] at ho
 rcases ho with rfl | rfl
 ·exact calmB_yes (calm_r (by omega))
 ·exact calmB_yes (calm_r (by omega))
theorem calm_1:calmL O1:=fun o ho=>by
 simp only [O1,List.mem_cons,List.not_mem_nil,or_false] at ho
 rcases ho with rfl | rfl <;> exact calm_n
theorem bu_e:buE S0 T0 V0 O0=0:=(buE_ok (P:=[]) r_e rfl calm_0).1
theorem bu_l:buL S0 T0 V0 [] O0=rdL S0 T0 V0 []:=(buE_zero bu_e).2.2.2
theorem bu_no:buE S0 T0 V0 []=1∧buL S0 T0 V0 [] [] = []:=buE_wild r_e fun h=>by have:=h.1;simp [S0] at this
theorem glo_n {m:Int} (h:0≤m∧m≤4294967296):oN.g m=m:=by
 have i:=Tk.Glo_is oN.A oN.R 0 m;have e:∀ t:Int,0≤t→t≤4294967296→Tk.Loc oN.A oN.R 0 t=t:=fun t a b=>by
  have s:Tk.AtStop oN.A 0 t 0:=⟨Nat.le_refl _,fun i hi=>absurd hi (Nat.not_lt_zero _),fun h=>absurd h (Nat.lt_irrefl _)⟩;rw [Tk.Loc,Tk.clamp_id a b,Tk.PP_eq s]
  (try simp [Tk.pp,Tk.sm,Tk.fr,Tk.rt]) <;> (try omega)
 refine Tk.Glo_eq ⟨h.1,h.2,fun t a b=>?_,fun a=>?_⟩
 ·rw [show oN.n=0 from rfl,e t a (by omega)];exact b
 ·rw [show oN.n=0 from rfl,e m h.1 (by omega)];omega
theorem sn_all:∀ k:Fin 17,snB S0 T0 V0 (k.val:Int)=true→k.val=1:=by decide +kernel
theorem sn_one:snB S0 T0 V0 ((1:Nat):Int)=true:=by decide +kernel
theorem fr_all:∀ i:Fin 11,frF S0 T0 V0 [] ((1:Nat):Int) i.val=decide (i.val≠0∧i.val≠9):=by decide +kernel
theorem sn_who:Ck.sN ((1:Nat):Int) T0=0:=by decide +kernel
theorem line_0:LineP S0 T0 V0 [] O1 [(224,240),(368,384)]:=by
 refine ⟨plain_cons.2 ⟨plain_cons.2 ⟨Wi.plain_nil,by decide,fun x hx=>by cases hx⟩,by decide,fun x hx=>by simp only [List.mem_cons,List.not_mem_nil,or_false] at hx;subst hx;decide⟩,fun u=>?_⟩;have hf:frs S0 T0 V0 [] O1 1=some (oN,frF S0 T0 V0 [] ((1:Nat):Int)):=by
  rw [frs_yes sn_one,sn_who]
  rfl
 rw [low_cons,Wi.low_one]
 constructor
 ·intro h
  refine ⟨1,by omega,by omega,oN,_,hf,?_⟩
  rcases h with h | h
  ·refine ⟨0,by omega,by rw [fr_all ⟨0,by omega⟩];rfl,?_,?_⟩
   ·rw [glo_n (by omega)];simp only at h;omega
   ·rw [glo_n (by omega)];simp only at h;omega
  ·refine ⟨9,by omega,by rw [fr_all ⟨9,by omega⟩];rfl,?_,?_⟩
   ·rw [glo_n (by omega)];simp only at h;omega
   ·rw [glo_n (by omega)];simp only at h;omega
 ·rintro ⟨k,h1,h2,h⟩
  obtain ⟨o,F,e⟩:=lowK_ex h;have hk:k=1:=by
   cases q:snB S0 T0 V0 k with
   | false=>rw [frs_no q] at e;cases e
   | true=>exact sn_all ⟨k,by omega⟩ q
  subst hk;obtain ⟨o,F,e,i,hi,hF,a,b⟩:=h;rw [hf] at e;injection e with e;injection e with e1 e2;subst e1 e2;have:=fr_all ⟨i,hi⟩;simp only at this;rw [hF] at this;have h0:=of_decide_eq_false this.symm;rw [glo_n (by omega)] at a b;simp only
  omega
end Go.Proofs.YtpkipilggkbkeaaGreatDoor.Bu
namespace Go.Proofs.YtpkipilggkbkeaaGreatDoor.Ck
open Go.RowKit
open Ro (E5 z5 eat ent K5 at5 eat_mem mayB mayP)
open Rw (Rd Ow At)
open Fl (ret_bool at_bool row_cell row_frozen file)
attribute [local irreducible] Sd.wpSd wpQuiet
set_option maxHeartbeats 4000000 in
theorem rsender_any (w:World) (v:Value) (L:LL) (s:Int) (R:RdL w v L):Calls Tryz.prog 111 #[v,.int .i64 s] w (WhoPost w (sN s L) (sE s L)):=by
 obtain ⟨a,cap,rfl,_,hm,hA⟩:=R;have HA:=Lib.hid hA;have HH:Hid (∀ k i w',Within (snd s) L k i→k < L.length→i < (lat L k).length→snd s k (eat (lat L k) i)=true→Below w.heap.size w w'→WhoPost w (sN s L) (sE s L) (.returned (.tuple #[.int .i64 (k:Int),ent (eat (lat L k) i)])) w'):=fun k i w' h hk hi hq b=>by
  obtain ⟨e1,e2⟩:=within_hit h hk hi hq;unfold sN sE;rw [e1,e2];exact ⟨rfl,b⟩
 have HM:Hid (∀ w',Ahead (snd s) L L.length→Below w.heap.size w w'→WhoPost w (sN s L) (sE s L) (.returned (.tuple #[.int .i64 (-1),ent z5])) w'):=fun w' h b=>by
  obtain ⟨e1,e2⟩:=ahead_end h;unfold sN sE;rw [e1,e2];exact ⟨rfl,b⟩
 clear hA;generalize sN s L=rn at *;generalize sE s L=re at *;unfold maxLen at hm;generalize hn:L.length=n at *;have HN:=Lib.hid hn;clear hn;have R0:Hid (RowE (w.alloc (.cells #[.int .i64 0,.int .i64 0,.int .i64 0,.int .i64 0,.int .i64 0] 98)) w.heap.size z5):=heap_alloc_new w _;have B0:=Lib.hid ((Below.refl w.heap.size w).alloc (Nat.le_refl _) (.cells #[.int .i64 0,.int .i64 0,.int .i64 0,.int .i64 0,.int .i64 0] 98))
 go_enter Tryz.func111,Tryz.ntmps111
 go_wp2;generalize w.alloc (.cells #[.int .i64 0,.int .i64 0,.int .i64 0,.int .i64 0,.int .i64 0] 98)=w0 at *
 go_loopw [6] (fun i wr=>∃ k:Nat,k≤n∧i = .int .i64 k∧Hid (RowE wr w.heap.size z5)∧Hid (Below w.heap.size w wr)∧Hid (Ahead (snd s) L k)) (fun i _=>n - (intOf i).toNat)
 case atStart=>exact ⟨0,Nat.zero_le _,rfl,R0,B0,ahead_zero⟩
 case round =>
  obtain ⟨k,hk,rfl,rr,bw,hs⟩:=hrel
  by_cases hlt:k < n
  ·obtain ⟨b,off,rfl,A⟩:=HA.out (by omega)
   obtain ⟨u,c,a',cap',rfl,_,hm',hA'⟩:=A k hlt;have HC:=Lib.hid c;have HA':=Lib.hid hA';have HAA:=Lib.hid A;have HK:=Lib.hid (show k < L.length by rw [HN.out];exact hlt);clear hA' c A;unfold maxLen at hm';generalize hl:(lat L k).length=m at *;have HL:=Lib.hid hl;clear hl;have W0:=Lib.hid (within_zero hs.out);clear hs;go_wp2
   go_loopw [7] (fun i wr=>∃ j:Nat,j≤m∧i = .int .i64 j∧Hid (RowE wr w.heap.size z5)∧Hid (Below w.heap.size w wr)∧Hid (Within (snd s) L k j)) (fun i _=>m - (intOf i).toNat)
   case atStart=>exact ⟨0,Nat.zero_le _,rfl,rr,bw,W0⟩
   case round =>
    clear rr bw W0;obtain ⟨j,hj,rfl,rr,bw,hs⟩:=hrel;have lc:b < w.heap.size:=World.block_lt_of_cell? _ _ HC.out;have c':=(bw.out.cell lc).trans HC.out
    by_cases hjt:j < m
    ·obtain ⟨b',off',rfl,A'⟩:=HA'.out (by omega)
     have at0:=at5 A' j (by rw [HL.out];exact hjt);rw [show (lat L k).getD j z5=eat (lat L k) j from rfl] at at0;have YES:=Lib.hid (fun w' h hb=>HH.out k j w' hs.out (by have:=HK.out;rw [HN.out] at this;exact this) (by rw [HL.out];exact hjt) h hb);have NO:=Lib.hid (fun h=>within_next hs.out (by rw [HL.out];exact hjt) h);have PY:=fun h1 h2=>snd_yes (s:=s) (n:=k) (x:=eat (lat L k) j) h1 h2;have PN:=fun h=>snd_no (s:=s) (n:=k) (x:=eat (lat L k) j) h;have HAA':=Lib.hid A';clear A' hs;generalize eat (lat L k) j=x at *;obtain ⟨x1,x2,x3,x4,x5⟩:=x;simp only at PY PN at0;generalize snd s k (x1,x2,x3,x4,x5)=q at *;obtain ⟨i0,i1,i2,i3,i4⟩:=at0;have l0:b' < w.heap.size:=World.block_lt_of_cell? _ _ i0;have c0:=(bw.out.cell l0).trans i0;have c1:wr.cell? ⟨b',off'+j * 5+1,none⟩=_:=(bw.out.cell l0).trans i1;have II:=Lib.hid (And.intro (And.intro i0 i1) (And.intro (And.intro i2 i3) i4));clear i0 i1 i2 i3 i4
     by_cases hq:x1=1∧x2=s
     ·have Y:=Lib.hid (fun w' hb=>YES.out w' (PY hq.1 hq.2) hb)
      have h1:(x1 == 1)=true:=by simpa using hq.1
      have h2:(x2 == s)=true:=by simpa using hq.2
      clear PY PN YES NO hq;go_upto_region 8 with fail;clear c0 c1 c' h1 h2;have C0:Below w.heap.size w wr.drew:=bw.out.drew;have ne:Nonempty (Sc.In (fun W=>Below w.heap.size w W)):=⟨⟨_,C0⟩⟩;have k0:=Sc.cell_in (C:=fun W=>Below w.heap.size w W) (a:=⟨b,off+k,none⟩) (v:=.slice (some ⟨b',off',none⟩) m cap') (fun W h=>(h.cell lc).trans HC.out);have x0:=Sc.cell_in (C:=fun W=>Below w.heap.size w W) (a:=⟨b',off'+j * 5,none⟩) (v:=.int .i64 x1) (fun W h=>(h.cell l0).trans II.out.1.1);have x1':=Sc.cell_in (C:=fun W=>Below w.heap.size w W) (a:=⟨b',off'+j * 5+1,none⟩) (v:=.int .i64 x2) (fun W h=>(h.cell l0).trans II.out.1.2);have x2':=Sc.cell_in (C:=fun W=>Below w.heap.size w W) (a:=⟨b',off'+j * 5+2,none⟩) (v:=.int .i64 x3) (fun W h=>(h.cell l0).trans II.out.2.1.1);have x3':=Sc.cell_in (C:=fun W=>Below w.heap.size w W) (a:=⟨b',off'+j * 5+3,none⟩) (v:=.int .i64 x4) (fun W h=>(h.cell l0).trans II.out.2.1.2);have x4':=Sc.cell_in (C:=fun W=>Below w.heap.size w W) (a:=⟨b',off'+j * 5+4,none⟩) (v:=.int .i64 x5) (fun W h=>(h.cell l0).trans II.out.2.2);refine Sc.start (fun W=>Below w.heap.size w W) [(false,0),(false,1),(false,2),(false,3),(false,4),(false,5),(false,6),(false,7),(false,8),(true,9)] (by kernel_rfl) (by kernel_rfl) (by kernel_rfl) C0 ?_;dsimp only [Sd.picks,List.getElem?_cons_succ,List.getElem?_cons_zero]
      iterate 9 (refine Sd.lit ?_;quiet_step (fail);refine wpQuiet_nil ?_)
      refine Sd.call (by rfl) (fun K hK=>?_);clear k0 x0 x1' x2' x3' x4' ne;have R2:Hid (RowE wr.drew w.heap.size z5):=Lib.hid rr.out;clear rr bw;generalize wr.drew=W2 at *;have d0:W2.cell? ⟨w.heap.size,0,none⟩=some (.int .i64 0):=row_cell R2.out 0;have d1:W2.cell? ⟨w.heap.size,1,none⟩=some (.int .i64 0):=row_cell R2.out 1;have d2:W2.cell? ⟨w.heap.size,2,none⟩=some (.int .i64 0):=row_cell R2.out 2;have d3:W2.cell? ⟨w.heap.size,3,none⟩=some (.int .i64 0):=row_cell R2.out 3;have d4:W2.cell? ⟨w.heap.size,4,none⟩=some (.int .i64 0):=row_cell R2.out 4;have f0:W2.frozen? ⟨w.heap.size,0,none⟩=false:=row_frozen R2.out 0;have f1:W2.frozen? ⟨w.heap.size,1,none⟩=false:=row_frozen R2.out 1;have f2:W2.frozen? ⟨w.heap.size,2,none⟩=false:=row_frozen R2.out 2;have f3:W2.frozen? ⟨w.heap.size,3,none⟩=false:=row_frozen R2.out 3;have f4:W2.frozen? ⟨w.heap.size,4,none⟩=false:=row_frozen R2.out 4;have R3:Hid (RowE (sto5 W2 w.heap.size (x1,x2,x3,x4,x5)) w.heap.size (x1,x2,x3,x4,x5)):=Lib.hid (sto5_row (y:=z5) R2.out _);have B3:=sto5_below (g:=w.heap.size) (x:=(x1,x2,x3,x4,x5)) C0 (Nat.le_refl _);clear C0 R2;go_simp;refine hK _ _ (Sc.Cl.of B3) ?_;have B4:=Lib.hid B3;clear hK K d0 d1 d2 d3 d4 f0 f1 f2 f3 f4 B3;refine Sd.done ?_
      show Exit.then _ _ _ _ (sto5 W2 w.heap.size (x1,x2,x3,x4,x5))
      generalize sto5 W2 w.heap.size (x1,x2,x3,x4,x5)=wS at *;go_wp2
      (try simp only [Exit.inBlock,Exit.then])
      exact bodyPost_ret (v:=.tuple #[.int .i64 (k:Int),ent (x1,x2,x3,x4,x5)]) (results_who (p:=5) (r:=4) rfl _ _ w.heap.size k _ rfl rfl R3.out) rfl (Y.out _ B4.out)
     ·have ST:=Lib.hid (NO.out (PN hq))
      clear PY PN YES NO
      by_cases h1:x1=1
      ·have h2:(x2 == s)=false:=by simpa [h1] using hq
       have h1':(x1 == 1)=true:=by simpa using h1
       clear hq h1;go_wp2
       go_roundw
       case rel=>exact ⟨j+1,by omega,by go_num,rr,bw,ST⟩
       case measure=>simp [intOf];omega
      ·have h1':(x1 == 1)=false:=by simpa using h1
       clear hq h1;go_wp2
       go_roundw
       case rel=>exact ⟨j+1,by omega,by go_num,rr,bw,ST⟩
       case measure=>simp [intOf];omega
    ·obtain rfl:j=m:=by omega
     have ST:=Lib.hid (within_end (by rw [HL.out];exact hs.out) HK.out);clear hs;go_wp2
     go_roundw
     case rel=>exact ⟨k+1,by omega,by go_num,rr,bw,ST⟩
     case measure=>simp [intOf];omega
  ·obtain rfl:k=n:=by omega
   have d0:wr.cell? ⟨w.heap.size,0,none⟩=some (.int .i64 0):=row_cell rr.out 0;have d1:wr.cell? ⟨w.heap.size,1,none⟩=some (.int .i64 0):=row_cell rr.out 1;have d2:wr.cell? ⟨w.heap.size,2,none⟩=some (.int .i64 0):=row_cell rr.out 2;have d3:wr.cell? ⟨w.heap.size,3,none⟩=some (.int .i64 0):=row_cell rr.out 3;have d4:wr.cell? ⟨w.heap.size,4,none⟩=some (.int .i64 0):=row_cell rr.out 4;have f0:wr.frozen? ⟨w.heap.size,0,none⟩=false:=row_frozen rr.out 0;have f1:wr.frozen? ⟨w.heap.size,1,none⟩=false:=row_frozen rr.out 1;have f2:wr.frozen? ⟨w.heap.size,2,none⟩=false:=row_frozen rr.out 2;have f3:wr.frozen? ⟨w.heap.size,3,none⟩=false:=row_frozen rr.out 3;have f4:wr.frozen? ⟨w.heap.size,4,none⟩=false:=row_frozen rr.out 4;have R3:Hid (RowE (sto5 wr w.heap.size z5) w.heap.size z5):=Lib.hid (sto5_row (y:=z5) rr.out z5);have B3:=Lib.hid (sto5_below (g:=w.heap.size) (x:=z5) bw.out (Nat.le_refl _));have E:=Lib.hid (HM.out _ hs.out B3.out);go_wp2
   (try simp only [Exit.inBlock,Exit.then])
   exact bodyPost_ret (v:=.tuple #[.int .i64 (-1),ent z5]) (results_who (p:=5) (r:=4) rfl _ _ w.heap.size (-1) z5 rfl rfl R3.out) rfl E.out
end Go.Proofs.YtpkipilggkbkeaaGreatDoor.Ck
