import Derived.Test.YtpkipilggkbkeaaGreatDoorMg4
import Derived.Maps.Range
import Derived.Maps.RangeWalk
import Derived.Maps.RangeRun
import Derived.Deep.Cut
import Derived.Test.YtpkipilggkbkeaaGreatDoorShelfK
import Derived.Test.YtpkipilggkbkeaaGreatDoorChecked
import Derived.WalkKit
import Derived.LaidEql
import Derived.Stop.Asserts
import Derived.Stop.IfaceNil
import Derived.RowKitTokens
import Derived.Lib.IfaceEq
import Derived.Lib.Hide
import Derived.LoopTactic
import Derived.Outline
import Derived.Test.YtpkipilggkbkeaaGreatDoorMg3
import Derived.Test.YtpkipilggkbkeaaGreatDoorMg2
namespace Go.Proofs.YtpkipilggkbkeaaGreatDoor.Fs
open Go.RowKit Go.Maps
open Fl (R4 z4 K4 rec4 rat goodF goodFB okR okL file arr4 row_cell row_frozen)
open Rw (Rd Ow At)
set_option maxRecDepth 100000
attribute [local irreducible] Sd.wpSd wpQuiet
theorem grown_of {w w':World} (h:Below w.heap.size w w'):w.grownBy w' none:=⟨h.os,h.tape,h.output,h.size,fun k hk _=>h.block k hk⟩
theorem srt_eq:∀ {A B:Abs},Srt key A→Srt key B→(∀ e,e∈A↔e∈B)→A=B
 | [],[],_,_,_=>rfl
 | [],b :: B,_,_,h=>by have:=(h b).2 (List.mem_cons_self ..);cases this
 | a :: A,[],_,_,h=>by have:=(h a).1 (List.mem_cons_self ..);cases this
 | a :: A,b :: B,ha,hb,h=>by
   obtain ⟨ha1,ha2⟩:=List.pairwise_cons.1 ha;obtain ⟨hb1,hb2⟩:=List.pairwise_cons.1 hb;have e:a=b:=by
    rcases List.mem_cons.1 ((h a).1 (List.mem_cons_self ..)) with e | e
    ·exact e
    ·rcases List.mem_cons.1 ((h b).2 (List.mem_cons_self ..)) with e2 | e2
     ·exact e2.symm
     ·have:=ha1 b e2;have:=hb1 a e;omega
   subst e
   congr 1
   refine srt_eq ha2 hb2 fun e=>⟨fun he=>?_,fun he=>?_⟩
   ·rcases List.mem_cons.1 ((h e).1 (List.mem_cons_of_mem _ he)) with rfl | h2
    ·have:=ha1 e he;omega
    ·exact h2
   ·rcases List.mem_cons.1 ((h e).2 (List.mem_cons_of_mem _ he)) with rfl | h2
    ·have:=hb1 e he;omega
    ·exact h2
theorem St.as {w:World} {s:Nat} {F:Nat→Prop} {A:Abs} {d d':Int} {m:Value} {T:TypeId} (h:St w s F A d) (row:w.heap[s]? = some (.cells #[m,.int .i64 d'] T (0,0))):∃ C,Sto w s F m C d∧C.map Ent.abs=A:=by
 obtain ⟨m',C,h,e⟩:=h;have r:=h.row.symm.trans row;injection r with r;injection r with r _ _;have e4:=congrArg (fun t:Array Value=>t[0]?) r
 simp at e4
 subst e4;exact ⟨C,h,e⟩
theorem below_new1 (W:World) (o:Obj):Below W.heap.size W (W.alloc o):=(Below.refl _ W).alloc (Nat.le_refl _) o
def CopySt (w:World) (A:Abs) (d:Int) (e:Ending) (w':World):Prop:=∃ g F,e = .returned (.pointer (some ⟨g,0,none⟩))∧St w' g F A d∧(∀ k,F k→w.heap.size≤k)∧Below w.heap.size w w'
structure CI (w:World) (b:Nat) (C:List Ent) (d:Int) (wr:World) (left:Lit→Bool) (cnt:Nat) (F:Nat→Prop) (C2:List Ent):Prop where
 rg:wr.ranges Tryz.prog 3 Rh b (w.heap.size+2) C.length (dat C) left cnt
 has:∀ kl,left kl=true→Maps.has (dat C) kl=true
 st:Sto wr (w.heap.size+1) F (.map (some w.heap.size)) C2 d
 mem:∀ e,e∈C2.map Ent.abs↔e∈C.map Ent.abs∧left (.int .i64 e.1)=false
 lo:∀ k,F k→w.heap.size≤k
 off:¬ F (w.heap.size+2)
 bel:Below w.heap.size w wr
theorem copy0 (w:World) (d:Int):Sto ((w.alloc (.map #[] 0)).alloc (.cells #[.map (some w.heap.size),.int .i64 d] 91)) (w.heap.size+1) (fun k=>k=w.heap.size∨k=w.heap.size+1) (.map (some w.heap.size)) [] d:=by
 have hz:(w.alloc (.map #[] 0)).heap.size=w.heap.size+1:=by simp
 have hr:=heap_alloc_new (w.alloc (.map #[] 0)) (.cells #[.map (some w.heap.size),.int .i64 d] 91);rw [hz] at hr;have mp:Mp (w.alloc (.map #[] 0)) (fun k=>k=w.heap.size∨k=w.heap.size+1) (.map (some w.heap.size)) []:=.inr ⟨w.heap.size,rfl,.inl rfl,World.ownsMap_made _ _ _ _⟩;refine ⟨hr,.inr rfl,mp.kept fun b hb=>?_,nofun,nofun,List.Pairwise.nil,OkA.nil,fun k hk=>?_⟩
 ·injection hb with hb
  injection hb with hb;subst hb;exact Below.heap_alloc _ _ _ (by omega)
 ·simp
  omega
set_option maxHeartbeats 4000000 in
theorem copy_some {w:World} {s b:Nat} {F:Nat→Prop} {C:List Ent} {d:Int} (S:Sto w s F (.map (some b)) C d):Calls Tryz.prog 27 #[.pointer (some ⟨s,0,none⟩)] w (CopySt w (C.map Ent.abs) d):=by
 have SS:=Lib.hid S;have hsl:=S.low s S.foot;obtain ⟨hFb,_⟩:=S.mp.isMap;have hbl:=S.low b hFb;have hown:w.ownsMap Tryz.prog 3 Rh b C.length (dat C):=by
  rcases S.mp with ⟨e,_⟩ | ⟨b',e,_,h⟩
  ·cases e
  ·injection e with e
   injection e with e;subst e;exact h
 have hmm:=@run_makeMap Tryz.prog;have e1:(w.alloc (.map #[] 0)).heap.size=w.heap.size+1:=by simp
 have B1:Below w.heap.size w (w.alloc (.map #[] 0)):=(Below.refl w.heap.size w).alloc (Nat.le_refl _) _;have c1:(w.alloc (.map #[] 0)).cell? ⟨s,1,none⟩=some (.int .i64 d):=row_cell (S.below B1).row 1;have S2:=Lib.hid (copy0 w d);have e2:((w.alloc (.map #[] 0)).alloc (.cells #[.map (some w.heap.size),.int .i64 d] 91)).heap.size=w.heap.size+2:=by simp
 have B2:Below w.heap.size w ((w.alloc (.map #[] 0)).alloc (.cells #[.map (some w.heap.size),.int .i64 d] 91)):=B1.alloc B1.size _;have c0:((w.alloc (.map #[] 0)).alloc (.cells #[.map (some w.heap.size),.int .i64 d] 91)).cell? ⟨s,0,none⟩=some (.map (some b)):=row_cell (S.below B2).row 0;have own2:((w.alloc (.map #[] 0)).alloc (.cells #[.map (some w.heap.size),.int .i64 d] 91)).ownsMap Tryz.prog 3 Rh b C.length (dat C):=hown.kept (grown_of B2) (by simp);clear S hown
 go_enter Tryz.func27,Tryz.ntmps27
 go_wp2_with (first
  | (at_range;refine wpList_range_own _ rfl _ 89 rfl 3 65 law Tryz.underlying89 _ b C.length _ rfl own2 ?_;intro w0 hrg0 hg0 hs0)
  | fail)
 go_frame
 clear c0 c1 hmm;rw [e2] at hrg0 hs0 ⊢
 go_loopw [4] (fun _ wr=>∃ left cnt F2 C2,Hid (CI w b C d wr left cnt F2 C2)) (fun _ wr=>wr.rangeLeft b (w.heap.size+2))
 case atStart =>
  have B3:Below ((w.alloc (.map #[] 0)).alloc (.cells #[.map (some w.heap.size),.int .i64 d] 91)).heap.size ((w.alloc (.map #[] 0)).alloc (.cells #[.map (some w.heap.size),.int .i64 d] 91)) w0:=(Below.refl _ _).grown hg0 (Nat.le_refl _) (fun j hj=>by cases hj);refine ⟨_,_,_,[],⟨hrg0,fun kl h=>h,S2.out.below B3,fun e=>⟨nofun,fun ⟨h1,h2⟩=>?_⟩,fun k hk=>by rcases hk with rfl | rfl <;> omega,fun hk=>by rcases hk with hk | hk <;> omega,B2.trans (B3.mono (by omega))⟩⟩;obtain ⟨c,hc,rfl⟩:=List.mem_map.1 h1;rw [dat_has,lb,Option.isSome_eq_false_iff,Option.isNone_iff_eq_none] at h2;exact absurd rfl (look_none.1 h2 c hc)
 case round =>
  obtain ⟨left,cnt,F2,C2,I⟩:=hrel;have hrg:=I.out.rg;clear hrg0 hg0 hs0 own2 B1 B2 e1 e2 S2
  go_wp2_with (first
   | (at_next;refine wpList_next_ranges _ rfl _ rfl 3 law Rh (Value.int .i64) id (fun key kl hkey=>by obtain ⟨x,rfl,_⟩:=Maps.keyOf_int_inv Tryz.underlying3 hkey;exact ⟨x,rfl⟩) (fun v y _=>⟨v,rfl⟩) b (w.heap.size+2) C.length _ _ _ rfl hrg ?_ ?_)
   | fail)
  ·intro hc0 hl0
   clear hrg;have RES:Hid (CopySt w (C.map Ent.abs) d (.returned (.pointer (some ⟨w.heap.size+1,0,none⟩))) wr):=by
    have e:C2.map Ent.abs=C.map Ent.abs:=srt_eq I.out.st.ok.srt SS.out.ok.srt fun e=>(I.out.mem e).trans ⟨fun h=>h.1,fun h=>⟨h,hl0 _⟩⟩;exact ⟨_,F2,rfl,⟨_,C2,I.out.st,e⟩,I.out.lo,I.out.bel⟩
   go_wp2
   go_ret
   exact RES.out
  ·intro x v kl y y2 w1 cnt1 hkey hlk hv hat hrg1 hlt hg1 hs1 hen
   obtain ⟨x',ex,rfl,hwx⟩:=Maps.keyOf_int_inv Tryz.underlying3 hkey
   cases ex
   have hh:=I.out.has _ hlk;rw [dat_has] at hh;obtain ⟨c,hc⟩:∃ c,look Ent.n x C=some c:=Option.isSome_iff_exists.1 hh;have hv':v=c.file:=by
    have h1:=hat (.held (file 0 (.slice none 0 0)));rw [dat_at,lv_some hc] at h1;obtain ⟨h2,_⟩:DataW.held v=y∧[]=y2:=by simpa [Rh] using hv
    have h3:=h1.trans h2.symm;injection h3 with h3;exact h3.symm
   subst hv';obtain ⟨fo,fg,fl,fn,fr,fm⟩:=SS.out.find hc;have hsb:w.heap.size+2 < w1.heap.size:=by have:=hrg.lt;omega
   have B1:Below w.heap.size w w1:=I.out.bel.grown hg1 I.out.bel.size (fun j hj=>by cases hj;omega);have O1:Only (fun k=>k=w.heap.size+2) wr w1:=Only.grown rfl hg1;have S1:=Lib.hid (I.out.st.only (G:=fun k=>k=w.heap.size+2) (fun k hk (e:k=w.heap.size+2)=>I.out.off (e ▸ hk)) O1);have R1:=Lib.hid (((SS.out.below B1).own c fm).rd);have BB:=Lib.hid B1;have RG:=Lib.hid hrg1;have RG0:=Lib.hid hrg;have FF:=Lib.hid (And.intro fo (And.intro fg (And.intro fl (And.intro fr hlt))));have HM:=Lib.hid (And.intro hlk hwx);clear hkey hh hat hv hc fo fg fl hrg1 hg1 hs1 B1 O1 fr hrg hlt hlk;obtain ⟨cn,cp,ca,cc,cl⟩:=c;simp only at fn;subst fn;unfold Ent.sl at R1;simp only at R1;have hq:cl.length≤260:=by have:cl.length≤256:=FF.out.2.1.2.2.2.1;omega
   unfold Ent.file Fl.file Ent.sl at hen ⊢;simp only at hen ⊢;go_upto_region 7 with fail;have H1:=heap_alloc_new w1 (.cells #[.int .i64 cp,.slice ca cl.length cc] 65);have hb1:=below_new1 w1 (.cells #[.int .i64 cp,.slice ca cl.length cc] 65);have hz2:(w1.alloc (.cells #[.int .i64 cp,.slice ca cl.length cc] 65)).heap.size=w1.heap.size+1:=by simp
   have W2g:Below w1.heap.size w1 (w1.alloc (.cells #[.int .i64 cp,.slice ca cl.length cc] 65)).drew:=hb1.trans ((Below.refl w1.heap.size _).drew);have S2:=Lib.hid (S1.out.below W2g);have C0:AddC (w.heap.size+1) (.map (some w.heap.size)) d w1.heap.size cp (.slice ca cl.length cc) (w1.alloc (.cells #[.int .i64 cp,.slice ca cl.length cc] 65)).drew:=⟨S2.out.row,H1⟩;have WB:=Lib.hid W2g;have hsz:w1.heap.size+1=(w1.alloc (.cells #[.int .i64 cp,.slice ca cl.length cc] 65)).drew.heap.size:=hz2.symm;clear H1 hb1 hz2 W2g hen;generalize (w1.alloc (.cells #[.int .i64 cp,.slice ca cl.length cc] 65))=W2 at *;have k0:=Sc.cell_in (C:=AddC (w.heap.size+1) (.map (some w.heap.size)) d w1.heap.size cp (.slice ca cl.length cc)) (a:=⟨w.heap.size+1,0,none⟩) (fun W' h=>row_cell h.row 0);have r0:=Sc.cell_in (C:=AddC (w.heap.size+1) (.map (some w.heap.size)) d w1.heap.size cp (.slice ca cl.length cc)) (a:=⟨w1.heap.size,0,none⟩) (fun W' h=>row_cell h.box 0);have r1:=Sc.cell_in (C:=AddC (w.heap.size+1) (.map (some w.heap.size)) d w1.heap.size cp (.slice ca cl.length cc)) (a:=⟨w1.heap.size,1,none⟩) (fun W' h=>row_cell h.box 1);have ne:Nonempty (Sc.In (AddC (w.heap.size+1) (.map (some w.heap.size)) d w1.heap.size cp (.slice ca cl.length cc))):=⟨⟨_,C0⟩⟩;refine Sc.start (AddC (w.heap.size+1) (.map (some w.heap.size)) d w1.heap.size cp (.slice ca cl.length cc)) [(false,0),(false,1),(false,2),(false,3),(false,4),(false,5),(true,6),(true,7)] (by kernel_rfl) (by kernel_rfl) (by kernel_rfl) C0 ?_;dsimp only [Sd.picks,List.getElem?_cons_succ,List.getElem?_cons_zero]
   repeat (refine Sd.lit ?_;quiet_step (fail);refine wpQuiet_nil ?_)
   clear k0 r0 r1;generalize W2.drew=Wd at *;refine Sd.call (by rfl) (fun K hK=>?_);have CA:=copied_any Wd cp (.slice ca cl.length cc) cl (R1.out.below WB.out) hq;unfold file at CA;go_simp;refine CA.mono ?_;rintro e w3 ⟨u,rfl,o3,b3⟩;have S3:=S2.out.below b3;have W3:=Lib.hid (WB.out.trans (b3.mono (by omega)));have G3:w3.heap[w1.heap.size]? = _:=(b3.block _ (by omega)).trans C0.box;refine hK _ _ (Sc.Cl.of ⟨S3.row,G3⟩) ?_;have O3:=Lib.hid o3;have M3:=Lib.hid S3.mp;have T3:=Lib.hid S3;have RR3:=Lib.hid S3.row;have GG3:=Lib.hid G3;have BD:=Lib.hid b3;clear hK K CA b3 o3 S3 G3 C0;obtain ⟨au,cu,rfl,_⟩:=O3.out.slice;refine Sd.call (by rfl) (fun K hK=>?_);have hl2:=T3.out.len;refine wp_put _ _ _ rfl rfl M3.out ⟨cn,cp,au,cu,cl⟩ rfl rfl HM.out.2 (by unfold maxLen;omega) (fun w4 m4 g4=>?_);have hws:=lt_of_block RR3.out;have hwg:=lt_of_block GG3.out;have row4:=(g4.block (w.heap.size+1) hws (by intro e;injection e with e;omega)).trans RR3.out;refine hK _ _ (Sc.Cl.of ⟨row4,(g4.block w1.heap.size hwg (by intro e;injection e with e;omega)).trans GG3.out⟩) ?_;have NEW:∃ F4 C4,Hid (CI w b C d w4 (fun z=>left z && !z.sameKey (.int .i64 cn)) cnt1 F4 C4):=by
    obtain ⟨P1,P2⟩:=S2.out.place (c:=⟨cn,cp,au,cu,cl⟩) BD.out g4 m4 O3.out FF.out.2.2.2.1 FF.out.2.1 FF.out.2.2.1;obtain ⟨C4,P3,P4⟩:=P1.as row4;have rg3:=RG.out.kept (grown_of W3.out) (by simp) (by simp);have rg4:=rg3.kept g4 (fun e=>by have:=Option.some.inj e;omega) (fun e=>by have:=Option.some.inj e;omega);have hB1:=hsb;have hb3:=W3.out.size;refine ⟨_,C4,⟨rg4,fun kl h=>I.out.has kl (by simp at h;exact h.1),P3,fun e=>?_,fun k hk=>?_,fun hk=>?_,(BB.out.trans (W3.out.mono (by omega))).grown g4 (by omega) (fun j hj=>by cases hj;exact Nat.le_refl _)⟩⟩
    ·rw [P4,abs_put,mem_put,I.out.mem]
     show _↔_∧(left (.int .i64 e.1) && !(Lit.int .i64 e.1).sameKey (.int .i64 cn))=false
     have hin:(cn,cp,cl)∈C.map Ent.abs:=List.mem_map.2 ⟨_,fm,rfl⟩;have hsk:(Lit.int .i64 e.1).sameKey (.int .i64 cn)=decide (e.1=cn):=by simp [Lit.sameKey]
     rw [hsk]
     constructor
     ·rintro (rfl | ⟨⟨h1,h2⟩,h3⟩)
      ·exact ⟨hin,by simp [Ent.abs]⟩
      ·exact ⟨h1,by rw [h2];rfl⟩
     ·rintro ⟨h1,h2⟩
      by_cases he:e.1=cn
      ·left
       have q1:=look_at SS.out.ok.srt h1;have q2:=look_at SS.out.ok.srt hin;have:look key (key e) (C.map Ent.abs)=look key (key (cn,cp,cl)) (C.map Ent.abs):=by rw [show key e=key (cn,cp,cl) from he]
       exact Option.some.inj (q1.symm.trans (this.trans q2))
      ·right
       simp [he] at h2
       exact ⟨⟨h1,h2⟩,he⟩
    ·rcases hk with hk | ⟨hk,_⟩
     ·exact I.out.lo k hk
     ·omega
    ·rcases hk with hk | ⟨hk,_⟩
     ·exact I.out.off hk
     ·omega
   clear hK K m4 g4 row4;refine Sd.done ?_;obtain ⟨F4,C4,NEW⟩:=NEW;have MS:Hid (w4.rangeLeft b (w.heap.size+2) < wr.rangeLeft b (w.heap.size+2)):=by
    show _ < _
    rw [NEW.out.rg.left_eq,RG0.out.left_eq];exact FF.out.2.2.2.2
   go_wp2
   go_roundw
   case rel=>exact ⟨_,_,_,_,NEW⟩
   case measure=>exact MS.out
set_option maxHeartbeats 1000000 in
theorem copy_none {w:World} {s:Nat} {F:Nat→Prop} {C:List Ent} {d:Int} (S:Sto w s F (.map none) C d):Calls Tryz.prog 27 #[.pointer (some ⟨s,0,none⟩)] w (CopySt w (C.map Ent.abs) d):=by
 obtain rfl:C = []:=by
  rcases S.mp with ⟨_,e⟩ | ⟨b,e,_⟩
  ·exact e
  ·cases e
 have hmm:=@run_makeMap Tryz.prog;have e1:(w.alloc (.map #[] 0)).heap.size=w.heap.size+1:=by simp
 have B1:Below w.heap.size w (w.alloc (.map #[] 0)):=(Below.refl w.heap.size w).alloc (Nat.le_refl _) _;have c1:(w.alloc (.map #[] 0)).cell? ⟨s,1,none⟩=some (.int .i64 d):=row_cell (S.below B1).row 1;have S2:=copy0 w d;have e2:((w.alloc (.map #[] 0)).alloc (.cells #[.map (some w.heap.size),.int .i64 d] 91)).heap.size=w.heap.size+2:=by simp
 have B2:Below w.heap.size w ((w.alloc (.map #[] 0)).alloc (.cells #[.map (some w.heap.size),.int .i64 d] 91)):=B1.alloc B1.size _;have c0:((w.alloc (.map #[] 0)).alloc (.cells #[.map (some w.heap.size),.int .i64 d] 91)).cell? ⟨s,0,none⟩=some (.map none):=row_cell (S.below B2).row 0;have hrg:=run_range_nilMap (P:=Tryz.prog) ((w.alloc (.map #[] 0)).alloc (.cells #[.map (some w.heap.size),.int .i64 d] 91)) 89 3 65 Tryz.underlying89;have hnx:∀ ty,(Instr.next (.pointer (some ⟨((w.alloc (.map #[] 0)).alloc (.cells #[.map (some w.heap.size),.int .i64 d] 91)).heap.size,0,none⟩)) false ty).run Tryz.prog (((w.alloc (.map #[] 0)).alloc (.cells #[.map (some w.heap.size),.int .i64 d] 91)).alloc (.mapIter none 0 #[] 0))=_:=fun ty=>run_next_nilMap _ ty 0 0 #[];have RES:Hid (CopySt w (([]:List Ent).map Ent.abs) d (.returned (.pointer (some ⟨w.heap.size+1,0,none⟩))) (((w.alloc (.map #[] 0)).alloc (.cells #[.map (some w.heap.size),.int .i64 d] 91)).alloc (.mapIter none 0 #[] 0))) :=
  ⟨_,_,rfl,⟨_,[],S2.below ((Below.refl _ _).alloc (Nat.le_refl _) _),rfl⟩,fun k hk=>by rcases hk with rfl | rfl <;> omega,B2.alloc B2.size _⟩
 rw [e2] at hrg hnx;clear S S2 B1 B2
 go_enter Tryz.func27,Tryz.ntmps27
 go_wp2;refine wp_loop_rounds 1 ?_;rw [rounds_succ];go_wp2
 go_ret
 exact RES.out
theorem copy_any {w:World} {s:Nat} {F:Nat→Prop} {A:Abs} {d:Int} (S:St w s F A d):Calls Tryz.prog 27 #[.pointer (some ⟨s,0,none⟩)] w (CopySt w A d):=by
 obtain ⟨m,C,h,rfl⟩:=S
 rcases h.mp with ⟨rfl,_⟩ | ⟨b,rfl,_⟩
 ·exact copy_none h
 ·exact copy_some h
end Go.Proofs.YtpkipilggkbkeaaGreatDoor.Fs
namespace Go.Proofs.YtpkipilggkbkeaaGreatDoor.Fs
open Go.RowKit Go.Maps Go.Sort Go.Shelf
open Rw (Rd Ow At)
set_option maxRecDepth 100000
theorem sortsL (m:Nat):AnyZI.SortsIn Tryz.prog sortedL_ren Fence.wide m :=
 ⟨fun blk off cap ss W hH hblk hsz=>callsIn_wide.2 (AnyM.slices_Sort_int sortL blk off cap ss W hH hblk hsz),
  fun p cap W=>callsIn_wide.2 (AnyM.slices_Sort_int_none sortL p cap W)⟩
theorem keys_any (mb:Option Nat) (W:World):Calls Tryz.prog 36 #[.map mb] W fun e w'=>e = .returned (.func (.func 79) #[] #[.pointer (some ⟨W.heap.size,0,none⟩)])∧w'=W.alloc (.cells #[.map mb] 89) :=
 (callsIn_wide (n:=5)).1 (AnyZI.keys_in keysL Fence.wide 5 trivial rfl mb W)
def KI:Rw.Kind Int:=Rw.int .i64
theorem flat_int:∀ l:List Int,KI.flat l=l.map encZ
 | []=>rfl
 | a :: r=>by
   have:=flat_int r
   show [Value.int .i64 a] ++ KI.flat r=_
   rw [this]
   rfl
theorem keys_dat (C:List Ent):intKeys (dat C)=C.map Ent.n:=by
 show (C.map ent).map (fun p=>Go.intOf p.1)=_
 rw [List.map_map]
 rfl
theorem sort_keys {C:List Ent} (h:Srt Ent.n C) {ss:List Int} (hp:ss.Perm (intKeys (dat C))):ss.mergeSort (fun x y=>decide (x≤y))=C.map Ent.n:=by
 have e:=mergeSort_of_perm_i hp
 show ss.mergeSort leI=_
 rw [e,keys_dat];refine List.mergeSort_of_pairwise ?_;rw [List.pairwise_map];exact h.imp fun h=>by simp only [leI,decide_eq_true_eq];exact Int.le_of_lt h
theorem size_dat (C:List Ent):Maps.size (dat C)=C.length:=by unfold dat Maps.size;simp
def SortPost (w:World) (C:List Ent) (e:Ending) (w':World):Prop:=∃ v,e = .returned v∧Ow KI w' w.heap.size 3 v (C.map Ent.n)∧Below w.heap.size w w'
set_option maxHeartbeats 1000000 in
theorem sorted_any {w:World} {F:Nat→Prop} {mb:Option Nat} {C:List Ent} (M:Mp w F (.map mb) C) (hs:Srt Ent.n C) (hl:C.length≤64) :
 Calls Tryz.prog 35 #[.func (.func 79) #[] #[.pointer (some ⟨w.heap.size,0,none⟩)]] (w.alloc (.cells #[.map mb] 89)) (SortPost w C):=by
 have B0:Below w.heap.size w (w.alloc (.cells #[.map mb] 89)):=(Below.refl w.heap.size w).alloc (Nat.le_refl _) _
 rcases M with ⟨e,rfl⟩ | ⟨b,e,_,hown⟩
 ·obtain rfl:mb=none:=by injection e
  have hseq:SeqGives Fence.wide 2 Tryz.prog 79 #[.pointer (some ⟨w.heap.size,0,none⟩)] encZ (fun ss:List Int=>ss = []) 0 (w.alloc (.cells #[.map none] 89)) :=
   AnyZI.keys_gives_nil (ρ:=keysL_ren) { keysL with } Fence.wide _ trivial rfl w.heap.size _ (by simp) (by simp)
  have cS:=AnyZI.sorted_in sortedL Fence.wide 5 trivial trivial trivial trivial rfl (by omega) (sortsL _) (enters_of Tryz.func78 (by kernel_rfl) rfl) 79 #[.pointer (some ⟨w.heap.size,0,none⟩)] trivial (enters_of Tryz.func79 (by kernel_rfl) rfl) _ 0 (Nat.zero_le _) (by omega) _ hseq;refine ((callsIn_wide (n:=5)).1 cS).mono ?_;rintro e w' ⟨v,ss,rfl,rfl,hrow,hnil,hb⟩;obtain rfl:v = .slice none 0 0:=hnil.2 rfl;exact ⟨_,rfl,Ow.nil _ _ _,B0.trans (hb.mono (by simp))⟩
 ·obtain rfl:mb=some b:=by injection e
  have hbl:=hown.lt;have hseq:SeqGives Fence.wide 2 Tryz.prog 79 #[.pointer (some ⟨w.heap.size,0,none⟩)] encZ (fun ss=>ss.Perm (intKeys (dat C))) (Maps.size (dat C)) (w.alloc (.cells #[.map (some b)] 89)) :=
   AnyZI.keys_gives (ρ:=keysL_ren) { keysL with } Fence.wide _ trivial rfl (by omega) w.heap.size b C.length (dat C) _ (by simp) (by simp) (by
    obtain ⟨es,clock,hb,Ft,hs,hD⟩:=hown
    exact ⟨es,clock,(Below.heap_alloc _ _ b hbl).trans hb,Ft,hs,hD⟩)
  have cS:=AnyZI.sorted_in sortedL Fence.wide 5 trivial trivial trivial trivial rfl (by omega) (sortsL _) (enters_of Tryz.func78 (by kernel_rfl) rfl) 79 #[.pointer (some ⟨w.heap.size,0,none⟩)] trivial (enters_of Tryz.func79 (by kernel_rfl) rfl) _ _ (by rw [size_dat];unfold maxLen;omega) (by rw [size_dat];omega) _ hseq;refine ((callsIn_wide (n:=5)).1 cS).mono ?_;rintro e w' ⟨v,ss,rfl,hS,hrow,hnil,hb⟩;refine ⟨v,rfl,?_,B0.trans (hb.mono (by simp))⟩;have e1:=sort_keys hs hS;have e2:ss.length=(C.map Ent.n).length:=by rw [← keys_dat];exact hS.length_eq
  show w'.ownsRow w.heap.size 3 1 v (C.map Ent.n).length (KI.flat (C.map Ent.n))
  rw [flat_int,← e1,List.length_mergeSort];exact ownsRow_base_a hrow (by simp)
end Go.Proofs.YtpkipilggkbkeaaGreatDoor.Fs
namespace Go.Proofs.YtpkipilggkbkeaaGreatDoor.Fs
open Go.RowKit Go.Maps
open Fl (R4 z4 K4 rec4 rat goodF goodFB okR okL file row_cell row_frozen)
open Rw (Rd Ow At)
set_option maxRecDepth 100000
theorem infoE3:(Tryz.prog.info? 67).map (fun i=>(i.zero,i.size,i.bytes))=some (some (.agg #[.int .i64 0,.int .i64 0,.slice none 0 0]),3,40):=by kernel_rfl
theorem run_buildN (n p:Int) (a:Option Addr) (q cap:Nat) (w:World):(Instr.build 67 #[(0,.int .i64 n),(1,.agg #[.int .i64 p,.slice a q cap])]).run Tryz.prog w = .ok (.agg #[.int .i64 n,.int .i64 p,.slice a q cap]) w:=by kernel_rfl
theorem copied_agg (w:World) (p:Int) (v:Value) (l:List R4) (q:Nat) (R:Rd K4 w v l) (hl:l.length≤260) (hq:l.length=q):Calls Tryz.prog 37 #[.agg #[.int .i64 p,v]] w fun e w'=>∃ a cap,e = .returned (.agg #[.int .i64 p,.slice a q cap])∧Ow K4 w' w.heap.size 96 (.slice a q cap) l∧Below w.heap.size w w' :=
 (copied_any w p v l R hl).mono fun e w' ⟨u,h1,h2,h3⟩=>by
   obtain ⟨a,cap,rfl,_⟩:=h2.slice;rw [hq] at h1 h2;exact ⟨a,cap,h1,h2,h3⟩
theorem ow_far {α:Type} {K:Rw.Kind α} {w w':World} {B E T:Nat} {v:Value} {l:List α} (h:Ow K w B E v l) (hne:E≠T) (f:Rw.Far T w w'):Ow K w' B E v l:=by
 obtain ⟨h1,h2⟩:=h;refine ⟨h1,?_⟩
 rcases h2 with h2 | ⟨g,cap,cur,e,hB,hh,r⟩
 ·exact .inl h2
 ·exact .inr ⟨g,cap,cur,e,hB,f g _ _ hh hne,r⟩
def FRel (w:World) (C:List Ent) (v:Value) (k:Nat) (wr:World):Prop:=∃ L:List Ent,Ow E3 wr w.heap.size 67 v L∧L.map Ent.abs=(C.take k).map Ent.abs∧(∀ c∈L,Ow K4 wr w.heap.size 96 c.sl c.l)∧Below w.heap.size w wr
def FilesPost (w:World) (A:Abs) (e:Ending) (w':World):Prop:=∃ v,e = .returned v∧(∀ F:Nat→Prop,(∀ k,F k→k < w.heap.size)→Ls F w' v A)∧Below w.heap.size w w'
theorem ls_of {w w2 w':World} {C:List Ent} {v:Value} {A:Abs} (h:FRel w2 C v C.length w') (hA:C.map Ent.abs=A) (hb:w.heap.size≤w2.heap.size) (F:Nat→Prop) (hF:∀ k,F k→k < w.heap.size):Ls F w' v A:=by
 obtain ⟨L,o,e,r,b⟩:=h;rw [List.take_length] at e;exact ⟨L,⟨o.rd,fun _ k hk g=>by have:=(ow_new o k hk).1;have:=hF k g;omega,fun c hc=>(r c hc).rd,fun c hc _ k hk g=>by have:=(ow_new (r c hc) k hk).1;have:=hF k g;omega⟩,e.trans hA⟩
set_option maxHeartbeats 4000000 in
theorem files_any {w:World} {s:Nat} {F:Nat→Prop} {A:Abs} {d:Int} (S:St w s F A d):Calls Tryz.prog 11 #[.pointer (some ⟨s,0,none⟩)] w (FilesPost w A):=by
 obtain ⟨m,C,h,hA⟩:=S;obtain ⟨mb,rfl⟩:∃ mb,m = .map mb:=by
  rcases h.mp with ⟨e,_⟩ | ⟨b,e,_⟩
  ·exact ⟨_,e⟩
  ·exact ⟨_,e⟩
 have srt:Srt Ent.n C:=(map_srt (κ:=Ent.n) (κ':=key) abs_key).1 h.ok.srt;have c0:w.cell? ⟨s,0,none⟩=some (.map mb):=row_cell h.row 0;have SO:=Lib.hid (sorted_any h.mp srt h.len);have SS:=Lib.hid h;have HL:=Lib.hid h.len;have HS:=Lib.hid srt;have HA:=Lib.hid hA;clear h hA srt
 go_enter Tryz.func11,Tryz.ntmps11
 go_wp2_with (first
  | (go_at_call 36;refine (keys_any _ _).mono ?_;rintro e w1 ⟨rfl,rfl⟩)
  | (go_at_call 35;refine SO.out.mono ?_;rintro e w2 ⟨vk,rfl,ok,b2⟩;obtain ⟨ka,kc,rfl,hkc⟩:=ok.slice;rw [List.length_map] at ok ⊢))
 have OK:=Lib.hid ok;have B2:=Lib.hid b2;have S2:=Lib.hid (SS.out.below b2);clear c0 ok b2 SO SS hkc;generalize hn:C.length=n at *;have HN:=Lib.hid hn;clear hn
 go_loopw [3,15] (fun v i wr=>∃ k:Nat,k≤n∧i = .int .i64 k∧Hid (FRel w2 C v k wr)) (fun _ i _=>n - (intOf i).toNat)
 case atStart=>exact ⟨0,Nat.zero_le _,rfl,[],Ow.nil _ _ _,by simp,nofun,Below.refl _ _⟩
 case round =>
  obtain ⟨k,hk,rfl,R⟩:=hrel
  by_cases hlt:k < n
  ·obtain ⟨L,oL,eL,rL,bL⟩:=R.out
   have hkC:k < C.length:=by have:=HN.out;omega
   obtain ⟨⟨cn,cp,ca,cc,cl⟩,hc⟩:∃ c:Ent,C[k]? = some c:=⟨_,List.getElem?_eq_getElem hkC⟩;obtain ⟨g,off,ek,hK⟩:∃ g cap,(Value.slice ka n kc) = .slice (some ⟨g,0,none⟩) n cap∧w2.cell? ⟨g,k,none⟩=some (.int .i64 cn):=by
    obtain ⟨g,cap,e1,_,_,_,_,_,hAt⟩:=OK.out.form (by rw [List.length_map];omega);rw [List.length_map,HN.out] at e1;have c:=hAt k (by rw [List.length_map];exact hkC) 0 (.int .i64 ((C.map Ent.n).getD k 0)) rfl;have e0:(C.map Ent.n).getD k 0=cn:=by rw [List.getD_eq_getElem?_getD,List.getElem?_map,hc];rfl
    rw [e0] at c;have e:0+k * KI.n+0=k:=by show 0+k * 1+0=k;omega
    rw [e] at c;exact ⟨g,cap,e1,c⟩
   obtain ⟨rfl,rfl⟩:ka=some ⟨g,0,none⟩∧kc=off:=by injection ek with e1 _ e3;exact ⟨e1,e3⟩
   have kr:=(bL.cell (World.block_lt_of_cell? _ _ hK)).trans hK;have SR:=S2.out.below bL;have c0:wr.cell? ⟨s,0,none⟩=some (.map mb):=row_cell SR.row 0;have M:=Lib.hid SR.mp;have hin:=List.mem_of_getElem? hc;have hl:look Ent.n cn C=some ⟨cn,cp,ca,cc,cl⟩:=look_at HS.out hin;have LV:=Lib.hid (lv_some hl);obtain ⟨ho,hg,-,-,hnm,-⟩:=SR.find hl;have WN:Hid (Wf cn):=WalkArith.wf_i64 (by omega);have RC:=Lib.hid (ho.rd);have GL:Hid (cl.length≤260):=by have:=hg.2.2.2.1;show cl.length≤260;simp only at this;omega
   have TK:Hid (∀ e:Ent,e.abs=(cn,cp,cl)→(L ++ [e]).map Ent.abs=(C.take (k+1)).map Ent.abs):=fun e he=>by
    rw [List.take_add_one,hc,List.map_append,List.map_append,eL]
    show _ ++ [e.abs]=_ ++ [(cn,cp,cl)]
    rw [he]
   have LL:Hid (L.length≤64):=by
    have e:=congrArg List.length eL;rw [List.length_map,List.length_map,List.length_take] at e;have:=HL.out
    show _≤64
    omega
   have OL:=Lib.hid oL;have RL:=Lib.hid rL;have BL:=Lib.hid bL;obtain ⟨va,vc,ev,-⟩:=oL.slice;clear R hK ek SR hin hl ho hg hnm oL rL bL eL hkC hc;unfold Ent.sl at RC;simp only at *;generalize hq:cl.length=q at *;have HQ:=Lib.hid hq;clear hq;generalize hLl:L.length=Ln at *;have HLl:=Lib.hid hLl;subst ev;clear hLl;have CA:=fun W (hb:Below wr.heap.size wr W)=>copied_agg W cp (.slice ca q cc) cl q (by have:=RC.out.below hb;exact this) (by rw [HQ.out];exact GL.out) HQ.out;have CC:=Lib.hid CA;clear CA;have hF:=run_fieldF;have hBN:=run_buildN;have hn64:n≤64:=HL.out;have hw2:Hid (w2.heap.size≤wr.heap.size):=BL.out.size
   go_wp2_with (first
    | (at_lookup;refine at_look0 rfl _ _ rfl M.out rfl _ rfl WN.out _ LV.out ?_)
    | (go_at_call 37;refine (CC.out _ (Below.refl _ _)).mono ?_;rintro e w3 ⟨ua,uc,rfl,o3,b3⟩;have O3:=Lib.hid o3;have B3:=Lib.hid b3;clear o3 b3)
    | (at_builtin;refine Rw.push_far (K:=E3) Tryz.underlying38 infoE3 rfl (by omega) rfl _ _ rfl w2.heap.size _ L ?e0 ((OL.out.keep B3.out).alloc _) _ ⟨cn,cp,ua,uc,cl⟩ rfl ?d1 ?d2 ?d3 ?_))
   case e0=>rfl
   case d1 =>
    intro j u hu
    unfold E3 Ent.sl at hu;simp only [HQ.out] at hu
    match j,hu with
    | 0,hu=>simp at hu;subst hu;go_simp
    | 1,hu=>simp at hu;subst hu;go_simp
    | 2,hu=>simp at hu;subst hu;go_simp
    | j+3,hu=>simp at hu
   case d2=>rw [HLl.out];have:=LL.out;omega
   case d3=>have:=B3.out.size;have:=hw2.out;simp;omega
   intro v' w4 o4 b4 f4
   have N2:Hid (FRel w2 C v' (k+1) w4):=by
    have hs3:=B3.out.size;have hs2:=hw2.out;refine ⟨L ++ [⟨cn,cp,ua,uc,cl⟩],o4,TK.out _ rfl,fun c hc=>?_,((BL.out.trans (B3.out.mono hs2)).alloc (by omega) _).trans b4⟩
    rcases List.mem_append.1 hc with hc | hc
    ·exact ow_far (((RL.out c hc).keep B3.out).alloc _) (by decide) f4
    ·obtain rfl:c=_:=List.mem_singleton.1 hc
     have o:Ow K4 w3 wr.heap.size 96 (⟨cn,cp,ua,uc,cl⟩:Ent).sl cl:=by unfold Ent.sl;rw [HQ.out];exact O3.out
     exact ow_far ((o.low hs2).alloc _) (by decide) f4
   clear o4 b4 f4;go_wp2
   go_roundw
   case rel=>exact ⟨k+1,by omega,by go_num,N2⟩
   case measure=>simp [intOf];omega
  ·obtain rfl:k=n:=by omega
   have E:=Lib.hid (fun (F:Nat→Prop) (hF:∀ k,F k→k < w.heap.size)=>ls_of (w:=w) (by rw [HN.out];exact R.out) HA.out B2.out.size F hF);have BR:Hid (Below w2.heap.size w2 wr):=by obtain ⟨_,_,_,_,b⟩:=R.out;exact b
   clear R;go_wp2
   go_ret
   exact ⟨_,rfl,E.out,B2.out.trans (BR.out.mono B2.out.size)⟩
end Go.Proofs.YtpkipilggkbkeaaGreatDoor.Fs
namespace Go.Proofs.YtpkipilggkbkeaaGreatDoor.Fs
open Go.RowKit Go.Extern.Stop Go.Stop Go.Extern
set_option maxRecDepth 100000
def flt (n e:Int):Value:=.agg #[.int .i64 n,.iface 31 (.int .i64 e)]
def fault (n e:Int):Value:=.iface 204 (flt n e)
theorem isTypeOf (v:Value) (w:World):(Extern.ReflectliteType.typeOf #[.iface 31 v]).run Tryz.prog w = .ok (.iface 232 (.agg #[.pointer (some ⟨1,31,none⟩)])) w:=by kernel_rfl
theorem isTypeOfF (v:Value) (w:World):(Extern.ReflectliteType.typeOf #[.iface 204 v]).run Tryz.prog w = .ok (.iface 232 (.agg #[.pointer (some ⟨1,204,none⟩)])) w:=by kernel_rfl
def compF : Array Value → Sem Value := Extern.ReflectliteType.method fun t => do Rtype.noPackHeld "Comparable" t; pure (.bool (← typeInfo t).comparable)
theorem isComparable (w:World):(compF #[.agg #[.pointer (some ⟨1,31,none⟩)]]).run Tryz.prog w = .ok (.bool true) w:=by kernel_rfl
theorem isMethodComparable (v : Value) (w : World) : (Go.method 408 232 v "Comparable").run Tryz.prog w = .ok (216, v) w := by kernel_rfl
theorem noIsF (v:Value) (xT:TypeId) (w:World):(Instr.typeAssert (.iface 204 v) xT 234 true).run Tryz.prog w = .ok (.tuple #[.nilIface,.bool false]) w:=run_typeAssert_lacksB Tryz.underlying234 (by kernel_rfl) (by kernel_rfl) v xT w
theorem noIsE (v:Value) (xT:TypeId) (w:World):(Instr.typeAssert (.iface 31 v) xT 234 true).run Tryz.prog w = .ok (.tuple #[.nilIface,.bool false]) w:=run_typeAssert_lacksB Tryz.underlying234 (by kernel_rfl) (by kernel_rfl) v xT w
theorem hasUnwrapF (v:Value) (xT:TypeId) (w:World):(Instr.typeAssert (.iface 204 v) xT 237 true).run Tryz.prog w = .ok (.tuple #[.iface 204 v,.bool true]) w:=run_typeAssert_hasB Tryz.underlying237 (by kernel_rfl) v xT w
theorem noUnwrapE (v:Value) (xT:TypeId) (w:World):(Instr.typeAssert (.iface 31 v) xT 237 true).run Tryz.prog w = .ok (.tuple #[.nilIface,.bool false]) w:=run_typeAssert_lacksB Tryz.underlying237 (by kernel_rfl) (by kernel_rfl) v xT w
theorem noUnwrapsE (v:Value) (xT:TypeId) (w:World):(Instr.typeAssert (.iface 31 v) xT 239 true).run Tryz.prog w = .ok (.tuple #[.nilIface,.bool false]) w:=run_typeAssert_lacksB Tryz.underlying239 (by kernel_rfl) (by kernel_rfl) v xT w
theorem methodUnwrap (v : Value) (w : World) : (Go.method 408 204 v "Unwrap").run Tryz.prog w = .ok (213, v) w := by kernel_rfl
theorem eql_errno (a b:Int) (w:World):(binOp .eql 175 (.iface 31 (.int .i64 a)) (.iface 31 (.int .i64 b))).run Tryz.prog w = .ok (.bool (decide (a=b))) w:=by
 have:=Lib.run_eql_iface_int (P:=Tryz.prog) w (t:=175) (tx:=31) (k:=.i64) (q:=.i64) a b Tryz.underlying175 (by kernel_rfl) Tryz.underlying31;rw [this]
 congr 2
theorem eql_types (v u:Value) (w:World):(binOp .eql 175 (.iface 204 v) (.iface 31 u)).run Tryz.prog w = .ok (.bool false) w:=run_eql_iface_types (P:=Tryz.prog) _ _ v u Tryz.underlying175 (by decide) w
theorem ret_b {a b:Bool} (h:a=b):Ending.returned (.bool a) = .returned (.bool b):=by rw [h]
theorem unwrap_any (w:World) (n:Int) (x:Value):Calls Tryz.prog 213 #[.agg #[.int .i64 n,x]] w fun e w'=>e = .returned x∧Below w.heap.size w w':=by
 go_enter Tryz.func213,Tryz.ntmps213
 go_wp2
 go_ret
 exact ⟨rfl,(Below.refl w.heap.size w).alloc (Nat.le_refl _) _⟩
set_option maxHeartbeats 2000000 in
theorem is_loop (n e:Int) (w:World):Calls Tryz.prog 137 #[fault n e,.iface 31 (.int .i64 5),.bool true] w fun ev w'=>ev = .returned (.bool (decide (e=5)))∧Below w.heap.size w w':=by
 have nF:=noIsF;have nE:=noIsE;have uF:=hasUnwrapF;have uE:=noUnwrapE;have vE:=noUnwrapsE;have mU:=methodUnwrap;have hty:=eql_types;have heq:=eql_errno;unfold fault flt
 by_cases h:e=5
 ·have hd:=decide_eq_true h
  go_enter Tryz.func137,Tryz.ntmps137
  go_wp2;refine wp_loop_rounds 2 ?_;rw [rounds_succ]
  go_wp2_with (go_at_call 213;refine (unwrap_any _ _ _).mono ?_;rintro ev w1 ⟨rfl,b1⟩)
  rw [rounds_succ];go_wp2
  go_ret
  exact ⟨ret_b hd.symm,b1⟩
 ·have hd:=decide_eq_false h
  go_enter Tryz.func137,Tryz.ntmps137
  go_wp2;refine wp_loop_rounds 2 ?_;rw [rounds_succ]
  go_wp2_with (go_at_call 213;refine (unwrap_any _ _ _).mono ?_;rintro ev w1 ⟨rfl,b1⟩)
  rw [rounds_succ];go_wp2
  go_ret
  exact ⟨ret_b hd.symm,b1⟩
set_option maxHeartbeats 2000000 in
theorem is_any (n e:Int) (w:World):Calls Tryz.prog 104 #[fault n e,.iface 31 (.int .i64 5)] w fun ev w'=>ev = .returned (.bool (decide (e=5)))∧Below w.heap.size w w':=by
 have h8:=@run_callFunc_extern Tryz.prog 136 _ Extern.ReflectliteType.typeOf Tryz.func136 (by kernel_rfl) (by kernel_rfl) (by kernel_rfl) (by kernel_rfl);have h32:=@run_callFunc_extern Tryz.prog 216 _ compF Tryz.func216 (by kernel_rfl) (by kernel_rfl) (by kernel_rfl) (by kernel_rfl);have tT:=isTypeOf;have cT:=isComparable;have mR:=isMethodComparable;have L:=Lib.hid (is_loop n e w);unfold fault flt at *
 go_enter Tryz.func104,Tryz.ntmps104
 go_wp2_with (go_at_call 137;refine L.out.mono ?_;rintro ev w1 ⟨rfl,b1⟩)
 go_ret
 exact ⟨rfl,b1⟩
end Go.Proofs.YtpkipilggkbkeaaGreatDoor.Fs
namespace Go.Proofs.YtpkipilggkbkeaaGreatDoor.Fs
open Go.RowKit Go.Extern.Stop Go.Stop Go.Extern
set_option maxRecDepth 100000
def valF:Array Value→Sem Value:=fun args=>ReflectliteValue.unpack (args.getD 0 (.tuple #[]))
def typF : Array Value → Sem Value := ReflectliteValue.methodAny (ReflectliteValue.valueError "reflectlite.Value.Type" 0) (fun t _ _ _ => ReflectliteType.toType t)
def nilF : Array Value → Sem Value := ReflectliteValue.method (ReflectliteValue.valueError "reflectlite.Value.IsNil" 0) ReflectliteValue.isNil
def kinF:Array Value→Sem Value:=ReflectliteType.abiMethod fun t=>do pure (.int .u8 (← Rtype.kind t))
def eleF:Array Value→Sem Value:=ReflectliteType.method ReflectliteType.elem
def impF : Array Value → Sem Value := ReflectliteType.relation "Implements" ReflectliteType.implements_
def asgF : Array Value → Sem Value := ReflectliteType.relation "AssignableTo" ReflectliteType.assignableTo
def elvF : Array Value → Sem Value := ReflectliteValue.method (ReflectliteValue.valueError "reflectlite.Value.Elem" 0) ReflectliteValue.elem
theorem valP (t:Addr) (w:World):(valF #[.iface 212 (.pointer (some t))]).run Tryz.prog w = .ok (.agg #[.pointer (some ⟨1,212,none⟩),.pointer (some ⟨w.heap.size,0,none⟩),.int .u64 150]) (w.alloc (.cells #[.pointer (some t)] 212)):=by kernel_rfl
theorem valE (e:Int) (w:World):(valF #[.iface 31 (.int .i64 e)]).run Tryz.prog w = .ok (.agg #[.pointer (some ⟨1,31,none⟩),.pointer (some ⟨w.heap.size,0,none⟩),.int .u64 130]) (w.alloc (.cells #[.int .i64 e] 31)):=by kernel_rfl
theorem typP (a:Addr) (w:World):(typF #[.agg #[.pointer (some ⟨1,212,none⟩),.pointer (some a),.int .u64 150]]).run Tryz.prog w = .ok (.iface 232 (.agg #[.pointer (some ⟨1,212,none⟩)])) w:=by kernel_rfl
theorem mKind (h : Value) (w : World) : (Go.method 408 232 (.agg #[h]) "Kind").run Tryz.prog w = .ok (208, h) w := by kernel_rfl
theorem mElem (h : Value) (w : World) : (Go.method 408 232 (.agg #[h]) "Elem").run Tryz.prog w = .ok (217, .agg #[h]) w := by kernel_rfl
theorem mImp (h : Value) (w : World) : (Go.method 408 232 (.agg #[h]) "Implements").run Tryz.prog w = .ok (218, .agg #[h]) w := by kernel_rfl
theorem mAsg (h : Value) (w : World) : (Go.method 408 232 (.agg #[h]) "AssignableTo").run Tryz.prog w = .ok (215, .agg #[h]) w := by kernel_rfl
theorem kindP (w:World):(kinF #[.pointer (some ⟨1,212,none⟩)]).run Tryz.prog w = .ok (.int .u8 22) w:=by kernel_rfl
theorem kindE (w:World):(kinF #[.pointer (some ⟨1,31,none⟩)]).run Tryz.prog w = .ok (.int .u8 2) w:=by kernel_rfl
theorem elemP (w:World):(eleF #[.agg #[.pointer (some ⟨1,212,none⟩)]]).run Tryz.prog w = .ok (.iface 232 (.agg #[.pointer (some ⟨1,31,none⟩)])) w:=by kernel_rfl
theorem impE (w:World):(impF #[.agg #[.pointer (some ⟨1,31,none⟩)],.iface 232 (.agg #[.pointer (some ⟨1,175,none⟩)])]).run Tryz.prog w = .ok (.bool true) w:=by kernel_rfl
theorem asgE (w:World):(asgF #[.agg #[.pointer (some ⟨1,31,none⟩)],.iface 232 (.agg #[.pointer (some ⟨1,31,none⟩)])]).run Tryz.prog w = .ok (.bool true) w:=by kernel_rfl
theorem asgF' (w:World):(asgF #[.agg #[.pointer (some ⟨1,204,none⟩)],.iface 232 (.agg #[.pointer (some ⟨1,31,none⟩)])]).run Tryz.prog w = .ok (.bool false) w:=by kernel_rfl
theorem noAsF (v:Value) (xT:TypeId) (w:World):(Instr.typeAssert (.iface 204 v) xT 272 true).run Tryz.prog w = .ok (.tuple #[.nilIface,.bool false]) w:=run_typeAssert_lacksB Tryz.underlying272 (by kernel_rfl) (by kernel_rfl) v xT w
theorem rlm (z:Sem Value) (f:TypeId→Addr→Nat→Nat→Sem Value) (v:Value) :
 ReflectliteValue.method z f #[v]=(do match ← ReflectliteValue.parts v with | none=>z | some (t,a,fl)=>f t a fl (fl % 32)):=rfl
theorem partsP (a:Addr) (w:World):(ReflectliteValue.parts (.agg #[.pointer (some ⟨1,212,none⟩),.pointer (some a),.int .u64 150])).run Tryz.prog w = .ok (some (212,a,150)) w:=by kernel_rfl
theorem nilP (a p:Addr) (W:World) (ha:W.cell? a=some (.pointer (some p))):(nilF #[.agg #[.pointer (some ⟨1,212,none⟩),.pointer (some a),.int .u64 150]]).run Tryz.prog W = .ok (.bool false) W:=by
 unfold nilF;rw [rlm];simp only [Sem.run_bind,partsP,Result.andThen]
 simp [ReflectliteValue.isNil,loadVar,isAgg,underlying,Tryz.underlying212,ha,Result.andThen]
theorem elemOfP (w:World):(Rtype.elem? 212).run Tryz.prog w = .ok (some 31) w:=by kernel_rfl
theorem mkE (p:Addr) (w:World):(ReflectliteValue.mk 31 p ReflectliteValue.flagAddr).run Tryz.prog w = .ok (.agg #[.pointer (some ⟨1,31,none⟩),.pointer (some p),.int .u64 386]) w:=by kernel_rfl
theorem elvP (a p:Addr) (W:World) (ha:W.cell? a=some (.pointer (some p))):(elvF #[.agg #[.pointer (some ⟨1,212,none⟩),.pointer (some a),.int .u64 150]]).run Tryz.prog W = .ok (.agg #[.pointer (some ⟨1,31,none⟩),.pointer (some p),.int .u64 386]) W:=by
 unfold elvF;rw [rlm];simp only [Sem.run_bind,partsP,Result.andThen]
 simp [ReflectliteValue.elem,loadVar,isAgg,underlying,Tryz.underlying212,ha,Result.andThen,elemOfP,mkE]
theorem rls (v x:Value):ReflectliteValue.set #[v,x]=(do
 let (some (dst,a,fl),some (src,b,_)):=(← ReflectliteValue.parts v,← ReflectliteValue.parts x)
  | unsupported (.noEntry "extern/(internal/reflectlite.Value).Set.zeroValue")
 if fl / ReflectliteValue.flagAddr % 2 == 0 then unsupported (.noEntry "extern/(internal/reflectlite.Value).Set.unaddressable")
 let val ← loadVar src b
 if ← Rtype.directlyAssignable dst src then storeVar dst a val
 else if ← Rtype.implements dst src then
  if (← Rtype.kind src) == 20 then
   match val with
   | .nilIface => unsupported (.noEntry "extern/reflectlite: a nil value of one interface type handed on as a value of another")
   | _=>storeVar dst a val
  else storeVar dst a (.iface src val)
 else panicString ("reflectlite.Set: value of type " ++ (← Rtype.spelt src) ++ " is not assignable to type " ++ (← Rtype.spelt dst))
 pure (.tuple #[])):=rfl
theorem partsEa (a:Addr) (w:World):(ReflectliteValue.parts (.agg #[.pointer (some ⟨1,31,none⟩),.pointer (some a),.int .u64 386])).run Tryz.prog w = .ok (some (31,a,386)) w:=by kernel_rfl
theorem partsE (a:Addr) (w:World):(ReflectliteValue.parts (.agg #[.pointer (some ⟨1,31,none⟩),.pointer (some a),.int .u64 130])).run Tryz.prog w = .ok (some (31,a,130)) w:=by kernel_rfl
theorem directE (w:World):(Rtype.directlyAssignable 31 31).run Tryz.prog w = .ok true w:=by kernel_rfl
theorem setE (ta b:Addr) (e:Int) (old:Value) (W:World) (hb:W.cell? b=some (.int .i64 e)) (ht:W.cell? ta=some old) (hf:W.frozen? ta=false) :
 (ReflectliteValue.set #[.agg #[.pointer (some ⟨1,31,none⟩),.pointer (some ta),.int .u64 386],.agg #[.pointer (some ⟨1,31,none⟩),.pointer (some b),.int .u64 130]]).run Tryz.prog W
   = .ok (.tuple #[]) (W.setCell ta (.int .i64 e)):=by
 rw [rls];simp only [Sem.run_bind,partsEa,partsE,Result.andThen]
 simp [ReflectliteValue.flagAddr,loadVar,isAgg,underlying,Tryz.underlying31,hb,Result.andThen,directE,storeVar,Value.cells,storeCells,Addr.add]
 rw [run_store Tryz.prog W ta _ _ (by rfl)]
 simp [ht,hf]
end Go.Proofs.YtpkipilggkbkeaaGreatDoor.Fs
namespace Go.Proofs.YtpkipilggkbkeaaGreatDoor.Fs
open Go.RowKit Go.Extern.Stop Go.Stop Go.Extern
set_option maxRecDepth 100000
open Fl (row_cell row_frozen)
def Glob (w:World):Prop:=w.cell? ⟨0,0,none⟩=some (.iface 232 (.agg #[.pointer (some ⟨1,175,none⟩)]))
theorem Glob.below {w w':World} (h:Glob w) (b:Below w.heap.size w w'):Glob w':=(b.cell (World.block_lt_of_cell? _ _ h)).trans h
theorem Glob.only {G:Nat→Prop} {w w':World} (h:Glob w) (hn:¬ G 0) (o:Only G w w'):Glob w':=o.cell h hn
def AsPost (w:World) (tb:Nat) (e:Int) (ev:Ending) (w':World):Prop:=ev = .returned (.bool true)∧w'.heap[tb]? = some (.cells #[.int .i64 e] 31 (0,0))∧Only (fun k=>k=tb) w w'
set_option maxHeartbeats 4000000 in
theorem as_loop (n e:Int) (tb b:Nat) (w:World) (hb:w.cell? ⟨b,0,none⟩=some (.pointer (some ⟨tb,0,none⟩))) (ht:w.heap[tb]? = some (.cells #[.int .i64 0] 31 (0,0))) :
 Calls Tryz.prog 165 #[fault n e,.iface 212 (.pointer (some ⟨tb,0,none⟩)),.agg #[.pointer (some ⟨1,212,none⟩),.pointer (some ⟨b,0,none⟩),.int .u64 150],.iface 232 (.agg #[.pointer (some ⟨1,31,none⟩)])] w (AsPost w tb e):=by
 have h42:=@run_callFunc_extern Tryz.prog 136 _ Extern.ReflectliteType.typeOf Tryz.func136 (by kernel_rfl) (by kernel_rfl) (by kernel_rfl) (by kernel_rfl);have h102:=@run_callFunc_extern Tryz.prog 215 _ asgF Tryz.func215 (by kernel_rfl) (by kernel_rfl) (by kernel_rfl) (by kernel_rfl);have h60:=@run_callFunc_extern Tryz.prog 186 _ elvF Tryz.func186 (by kernel_rfl) (by kernel_rfl) (by kernel_rfl) (by kernel_rfl);have h50:=@run_callFunc_extern Tryz.prog 162 _ valF Tryz.func162 (by kernel_rfl) (by kernel_rfl) (by kernel_rfl) (by kernel_rfl);have h61:=@run_callFunc_extern Tryz.prog 187 _ ReflectliteValue.set Tryz.func187 (by kernel_rfl) (by kernel_rfl) (by kernel_rfl) (by kernel_rfl);have tF:=isTypeOfF;have tE:=isTypeOf;have mA:=mAsg;have aF:=asgF';have aE:=asgE;have nA:=noAsF;have uF:=hasUnwrapF;have mU:=methodUnwrap;have vE:=valE;have HB:=Lib.hid hb;have HT:=Lib.hid ht;have B0:=Lib.hid ((Below.refl w.heap.size w).alloc (Nat.le_refl _) (.cells #[.pointer (some ⟨1,212,none⟩),.pointer (some ⟨b,0,none⟩),.int .u64 150] 245));clear hb ht;unfold fault flt
 go_enter Tryz.func165,Tryz.ntmps165
 go_wp2;refine wp_loop_rounds 2 ?_;rw [rounds_succ]
 go_wp2_with (go_at_call 213;refine (unwrap_any _ _ _).mono ?_;rintro ev w1 ⟨rfl,b1⟩)
 have B1:=Lib.hid (B0.out.trans (b1.mono B0.out.size));have G0:w1.heap[w.heap.size]? = some (.cells #[.pointer (some ⟨1,212,none⟩),.pointer (some ⟨b,0,none⟩),.int .u64 150] 245 (0,0)):=(b1.block _ (by simp)).trans (heap_alloc_new w _);have e0:w1.cell? ⟨w.heap.size,0,none⟩=some (.pointer (some ⟨1,212,none⟩)):=row_cell G0 0;have e1:w1.cell? ⟨w.heap.size,1,none⟩=some (.pointer (some ⟨b,0,none⟩)):=row_cell G0 1;have e2:w1.cell? ⟨w.heap.size,2,none⟩=some (.int .u64 150):=row_cell G0 2;have hbl:=World.block_lt_of_cell? _ _ HB.out;have el:=elvP ⟨b,0,none⟩ ⟨tb,0,none⟩ w1 ((B1.out.cell hbl).trans HB.out);have htl:=lt_of_block HT.out;have T1:=(B1.out.block tb htl).trans HT.out;have T2:=(Below.heap_alloc w1 (.cells #[.int .i64 e] 31) tb (by have:=B1.out.size;omega)).trans T1;have st:=setE ⟨tb,0,none⟩ ⟨w1.heap.size,0,none⟩ e (.int .i64 0) (w1.alloc (.cells #[.int .i64 e] 31)) (by simp) (row_cell T2 0) (row_frozen T2 0);have RES:Hid (AsPost w tb e (.returned (.bool true)) ((w1.alloc (.cells #[.int .i64 e] 31)).setCell ⟨tb,0,none⟩ (.int .i64 e))):=by
  refine ⟨rfl,?_,?_⟩
  ·have:=Rw.heap_setCell_same (j:=0) T2 (.int .i64 e)
   rw [this]
   simp
  ·exact (Only.of_below (B1.out.alloc B1.out.size _)).trans (Only.set (fun k=>k=tb) _ (a:=⟨tb,0,none⟩) rfl _) fun _ _ g=>g
 clear b1 G0 T1 T2 HB HT B0 B1 hbl htl;rw [rounds_succ];go_wp2
 go_ret
 exact RES.out
set_option maxHeartbeats 4000000 in
theorem as_any (n e:Int) (tb:Nat) (w:World) (hg:Glob w) (ht:w.heap[tb]? = some (.cells #[.int .i64 0] 31 (0,0))) :
 Calls Tryz.prog 138 #[fault n e,.iface 212 (.pointer (some ⟨tb,0,none⟩))] w (AsPost w tb e):=by
 have h50:=@run_callFunc_extern Tryz.prog 162 _ valF Tryz.func162 (by kernel_rfl) (by kernel_rfl) (by kernel_rfl) (by kernel_rfl);have h51:=@run_callFunc_extern Tryz.prog 163 _ typF Tryz.func163 (by kernel_rfl) (by kernel_rfl) (by kernel_rfl) (by kernel_rfl);have h52:=@run_callFunc_extern Tryz.prog 164 _ nilF Tryz.func164 (by kernel_rfl) (by kernel_rfl) (by kernel_rfl) (by kernel_rfl);have h95:=@run_callFunc_extern Tryz.prog 208 _ kinF Tryz.func208 (by kernel_rfl) (by kernel_rfl) (by kernel_rfl) (by kernel_rfl);have h104:=@run_callFunc_extern Tryz.prog 217 _ eleF Tryz.func217 (by kernel_rfl) (by kernel_rfl) (by kernel_rfl) (by kernel_rfl);have h105:=@run_callFunc_extern Tryz.prog 218 _ impF Tryz.func218 (by kernel_rfl) (by kernel_rfl) (by kernel_rfl) (by kernel_rfl);have f6:=valP;have f7:=typP;have mK:=mKind;have mE:=mElem;have mI:=mImp;have kP:=kindP;have kE:=kindE;have eP:=elemP;have iE:=impE;have hlt:0 < w.heap.size:=World.block_lt_of_cell? _ _ hg;have htl:=lt_of_block ht;have B2:Below w.heap.size w ((w.alloc (.cells #[.pointer (some ⟨tb,0,none⟩)] 212)).alloc (.cells #[.pointer (some ⟨1,212,none⟩),.pointer (some ⟨w.heap.size,0,none⟩),.int .u64 150] 245)):=((Below.refl w.heap.size w).alloc (Nat.le_refl _) _).alloc (by simp) _;have n8:=nilP ⟨w.heap.size,0,none⟩ ⟨tb,0,none⟩ ((w.alloc (.cells #[.pointer (some ⟨tb,0,none⟩)] 212)).alloc (.cells #[.pointer (some ⟨1,212,none⟩),.pointer (some ⟨w.heap.size,0,none⟩),.int .u64 150] 245)) (by simp);have hg2:((w.alloc (.cells #[.pointer (some ⟨tb,0,none⟩)] 212)).alloc (.cells #[.pointer (some ⟨1,212,none⟩),.pointer (some ⟨w.heap.size,0,none⟩),.int .u64 150] 245)).cell? ⟨0,0,none⟩=some (.iface 232 (.agg #[.pointer (some ⟨1,175,none⟩)])):=hg.below B2;have AL:=Lib.hid (as_loop n e tb w.heap.size ((w.alloc (.cells #[.pointer (some ⟨tb,0,none⟩)] 212)).alloc (.cells #[.pointer (some ⟨1,212,none⟩),.pointer (some ⟨w.heap.size,0,none⟩),.int .u64 150] 245)) (by simp) ((B2.block tb htl).trans ht));have BB:=Lib.hid B2;have HTL:=Lib.hid htl;clear hg ht B2 htl;unfold fault flt at *
 go_enter Tryz.func138,Tryz.ntmps138
 go_wp2_with (go_at_call 165;refine AL.out.mono ?_;rintro ev w1 ⟨rfl,r1,o1⟩)
 go_ret
 exact ⟨rfl,r1,(Only.of_below BB.out).trans o1 fun _ _ g=>g⟩
set_option maxHeartbeats 1000000 in
theorem number_any (n e:Int) (w:World) (hg:Glob w):Calls Tryz.prog 105 #[fault n e] w fun ev w'=>ev = .returned (.int .i64 e)∧Below w.heap.size w w':=by
 have B0:=Lib.hid ((Below.refl w.heap.size w).alloc (Nat.le_refl _) (.cells #[.int .i64 0] 31));have AS:=Lib.hid (as_any n e w.heap.size (w.alloc (.cells #[.int .i64 0] 31)) (hg.below B0.out) (heap_alloc_new w _));clear hg;unfold fault flt at *
 go_enter Tryz.func105,Tryz.ntmps105
 go_wp2_with fail;refine AS.out.mono ?_;rintro ev w1 ⟨rfl,r1,o1⟩;have c1:w1.cell? ⟨w.heap.size,0,none⟩=some (.int .i64 e):=row_cell r1 0;have BB:=Lib.hid (B0.out.trans (o1.below (by simp) fun k hk=>by rw [hk];exact Nat.le_refl _));clear r1 o1 B0 AS;go_wp2
 go_ret
 exact ⟨rfl,BB.out⟩
end Go.Proofs.YtpkipilggkbkeaaGreatDoor.Fs
namespace Go.Proofs.YtpkipilggkbkeaaGreatDoor.Fs
open Go.RowKit Go.Maps
open Fl (R4 z4 K4 rec4 rat goodF goodFB okR okL doE newR file arr4 sto2 sto4 sto2_row sto2_other sto2_below sto2_size sto4_row sto4_other sto4_below sto4_size row_cell row_frozen do_any DoPost)
open Rw (Rd Ow At)
set_option maxRecDepth 100000
attribute [local irreducible] Sd.wpSd wpQuiet Sf.wpSf
structure Ask0 (w:World) (o f r:Int) (x:R4) (W:World):Prop where
 adr:W.heap[w.heap.size]? = some (.cells #[.int .i64 o,.int .i64 f,.int .i64 r] 137 (0,0))
 arg:W.heap[w.heap.size+1]? = some (.cells (arr4 x) 96 (0,0))
 res:W.heap[w.heap.size+2]? = some (.cells (arr4 z4) 96 (0,0))
 siz:w.heap.size+3≤W.heap.size
 bel:Below w.heap.size w W
theorem Ask0.mono {w W W':World} {o f r:Int} {x:R4} (h:Ask0 w o f r x W) (b:Below W.heap.size W W'):Ask0 w o f r x W' :=
 have s:=h.siz
 ⟨(b.block _ (by omega)).trans h.adr,(b.block _ (by omega)).trans h.arg,(b.block _ (by omega)).trans h.res,Nat.le_trans h.siz b.size,h.bel.trans (b.mono (by omega))⟩
theorem ask0_of (w:World) (o f r:Int) (x:R4):Ask0 w o f r x (((w.alloc (.cells #[.int .i64 o,.int .i64 f,.int .i64 r] 137)).alloc (.cells #[.int .u8 x.1,.int .u8 x.2.1,.int .u8 x.2.2.1,.int .u8 x.2.2.2] 96)).alloc (.cells #[.int .u8 0,.int .u8 0,.int .u8 0,.int .u8 0] 96)):=by
 have z1:∀ a,(w.alloc a).heap.size=w.heap.size+1:=fun a=>by simp
 have z2:∀ a b,((w.alloc a).alloc b).heap.size=w.heap.size+2:=fun a b=>by simp
 refine ⟨?_,?_,?_,by simp,(((Below.refl w.heap.size w).alloc (Nat.le_refl _) _).alloc (by simp) _).alloc (by simp;omega) _⟩
 ·exact (Below.heap_alloc _ _ _ (by rw [z2];omega)).trans ((Below.heap_alloc _ _ _ (by rw [z1];omega)).trans (heap_alloc_new w _))
 ·have:=heap_alloc_new (w.alloc (.cells #[.int .i64 o,.int .i64 f,.int .i64 r] 137)) (.cells (arr4 x) 96)
  rw [z1] at this;exact (Below.heap_alloc _ _ _ (by rw [z2];omega)).trans this
 ·have:=heap_alloc_new ((w.alloc (.cells #[.int .i64 o,.int .i64 f,.int .i64 r] 137)).alloc (.cells (arr4 x) 96)) (.cells (arr4 z4) 96)
  rw [z2] at this;exact this
def Adr (w:World) (o f r:Int) (W:World):Prop:=W.heap[w.heap.size]? = some (.cells #[.int .i64 o,.int .i64 f,.int .i64 r] 137 (0,0))
def AskNo (w:World) (f k:Int) (e:Ending) (w':World):Prop:=e = .returned (.tuple #[rec4 z4,fault f k])∧Below w.heap.size w w'
set_option maxHeartbeats 2000000 in
theorem ask_none {w:World} {s:Nat} {F:Nat→Prop} {m:Value} {C:List Ent} {d:Int} (S:Sto w s F m C d) (o f r:Int) (x:R4) (hn:Wf f) (hk:look Ent.n f C=none) :
 Calls Tryz.prog 103 #[.pointer (some ⟨s,0,none⟩),Ad.addr o f r,rec4 x] w (AskNo w f 3):=by
 have A0:=ask0_of w o f r x;have S0:Hid (Ask0 w o f r x (((w.alloc (.cells #[.int .i64 o,.int .i64 f,.int .i64 r] 137)).alloc (.cells #[.int .u8 x.1,.int .u8 x.2.1,.int .u8 x.2.2.1,.int .u8 x.2.2.2] 96)).alloc (.cells #[.int .u8 0,.int .u8 0,.int .u8 0,.int .u8 0] 96))):=A0;have SS:=Lib.hid (S.below A0.bel);have HN:=Lib.hid hn;have L:=Lib.hid (lv_none hk);have LB:=Lib.hid (lb_none hk);clear A0 hn;clear S hk;unfold rec4;unfold Ad.addr
 go_enter Tryz.func103,Tryz.ntmps103
 go_wp2_with fail;generalize (((w.alloc (.cells #[.int .i64 o,.int .i64 f,.int .i64 r] 137)).alloc (.cells #[.int .u8 x.1,.int .u8 x.2.1,.int .u8 x.2.2.1,.int .u8 x.2.2.2] 96)).alloc (.cells #[.int .u8 0,.int .u8 0,.int .u8 0,.int .u8 0] 96))=W at *;have c0:=Sd.cell_by (show W.cell? ⟨s,0,none⟩=some m from row_cell SS.out.row 0);have a1:=Sd.cell_by (show W.cell? ⟨w.heap.size,1,none⟩=some (.int .i64 f) from row_cell S0.out.adr 1);have hlk:∀ P:Sd.By W,(Instr.lookup 89 m (.int .i64 f) true).run Tryz.prog P.world = .ok (.tuple #[.agg #[.int .i64 0,.slice none 0 0],.bool false]) P.world:=fun P=>by
  have:=run_look (SS.out.below P.below).mp HN.out true;rw [L.out,LB.out] at this;exact this
 refine Sf.start [(0,0),(0,1),(0,2),(0,3),(0,4),(0,5),(0,6),(0,7),(0,8),(0,9),(2,10),(1,11),(0,12)] [⟨10,8,#[.int .i64 0,.slice none 0 0],65⟩] (by kernel_rfl) (by kernel_rfl) (by kernel_rfl) (by decide) (by decide) ?_ ?_ ?_
 ·simp
 ·intro f hf
  simp only [List.mem_cons,List.not_mem_nil,or_false] at hf;subst hf;exact ⟨_,rfl,rfl,rfl,fun ρ w=>by go_simp⟩
 dsimp only [Sf.picks,List.getElem?_cons_succ,List.getElem?_cons_zero];have BW:=Lib.hid ((Below.refl W.heap.size W).drew)
 repeat (refine Sf.lit (fun xs=>?_);simp only [Sf.fill,List.foldl_cons,List.foldl_nil];quiet_step (fail);refine wpQuiet_nil ?_)
 refine Sf.meet (fun gF w7 hb hc row n7 hH hL=>?_);have B7:=Lib.hid (BW.out.trans (hb.mono BW.out.size));have R7:Hid (w7.heap[gF]? = some (.cells #[.int .i64 0,.slice none 0 0] 65 (0,0))):=row;clear hb hc row hH hL BW;refine Sf.call (fun xs w9 hb hc=>⟨by rfl,fun K hK=>?_⟩);have B9:=Lib.hid (B7.out.trans (hb.mono B7.out.size));have R9:=(hb.block _ (lt_of_block R7.out)).trans R7.out;have k0:w9.cell? ⟨gF,0,none⟩=some (.int .i64 0):=row_cell R9 0;have k1:w9.cell? ⟨gF,1,none⟩=some (.slice none 0 0):=row_cell R9 1;have f0:=row_frozen R9 0;have f1:=row_frozen R9 1;have RA:=Lib.hid (sto2_row R9 0 (.slice none 0 0));have BA:=Lib.hid (sto2_below (p:=0) (v:=.slice none 0 0) B9.out n7);have hsz:=sto2_size w9 gF 0 (.slice none 0 0);clear hb hc B7 R7 R9 B9;simp only [Sf.fill,List.foldl_nil];go_simp;refine hK _ _ (Sd.Cl.of BA.out) (by rw [← hsz];exact Nat.le_refl _) (fun h=>absurd rfl h) ?_;clear hK K k0 k1 f0 f1 hsz
 show Sf.wpSf _ _ _ _ _ _ _ _ _ _ (sto2 w9 gF 0 (.slice none 0 0))
 generalize sto2 w9 gF 0 (.slice none 0 0)=wA at *
 repeat (refine Sf.lit (fun xs=>?_);simp only [Sf.fill,List.foldl_nil];quiet_step (fail);refine wpQuiet_nil ?_)
 refine Sf.done (fun wB hb hc=>?_);have BX:=Lib.hid (BA.out.trans (hb.mono BA.out.size));have G1:=Lib.hid ((hb.block _ (lt_of_block RA.out)).trans RA.out);have S1:=Lib.hid (S0.out.mono BX.out);have N7:Hid (W.heap.size≤gF):=n7;clear hb hc BA RA c0 a1 hlk n7 S0;clear BX G1 N7 SS;go_wp2_with fail;have C0:Adr w o f r wB.drew:=S1.out.adr;have a1:=Sc.cell_in (C:=Adr w o f r) (a:=⟨w.heap.size,1,none⟩) (v:=.int .i64 f) (fun W' h=>row_cell h 1);have ne:Nonempty (Sc.In (Adr w o f r)):=⟨⟨_,C0⟩⟩;refine Sc.start (Adr w o f r) [(false,0),(false,1),(false,2),(false,3),(false,4),(false,5),(true,6),(false,7)] (by kernel_rfl) (by kernel_rfl) (by kernel_rfl) C0 ?_;dsimp only [Sd.picks,List.getElem?_cons_succ,List.getElem?_cons_zero]
 repeat (refine Sd.lit ?_;quiet_step (fail);refine wpQuiet_nil ?_)
 have S2:=Lib.hid (S1.out.mono ((Below.refl wB.heap.size wB).drew));clear S1 C0 a1;generalize wB.drew=Wy at *;refine Sd.call (by rfl) (fun K hK=>?_);have d0:Wy.cell? ⟨w.heap.size+2,0,none⟩=some (.int .u8 0):=row_cell S2.out.res 0;have d1:Wy.cell? ⟨w.heap.size+2,1,none⟩=some (.int .u8 0):=row_cell S2.out.res 1;have d2:Wy.cell? ⟨w.heap.size+2,2,none⟩=some (.int .u8 0):=row_cell S2.out.res 2;have d3:Wy.cell? ⟨w.heap.size+2,3,none⟩=some (.int .u8 0):=row_cell S2.out.res 3;have k0:=row_frozen S2.out.res 0;have k1:=row_frozen S2.out.res 1;have k2:=row_frozen S2.out.res 2;have k3:=row_frozen S2.out.res 3;have L2:Adr w o f r (sto4 Wy (w.heap.size+2) 0 z4):=sto4_other S2.out.adr (by omega);have R3:=Lib.hid (sto4_row S2.out.res z4);have B3:=Lib.hid (sto4_below (o:=0) (r:=z4) S2.out.bel (show w.heap.size≤w.heap.size+2 by omega));clear S2;go_simp;refine hK _ _ (Sc.Cl.of L2) ?_;clear hK K d0 d1 d2 d3 k0 k1 k2 k3 L2
 show Sd.wpSd _ _ _ _ _ _ (sto4 Wy (w.heap.size+2) 0 z4)
 generalize sto4 Wy (w.heap.size+2) 0 z4=Wz at *
 repeat (refine Sd.lit ?_;quiet_step (fail);refine wpQuiet_nil ?_)
 refine Sd.done ?_;go_wp2
 (try simp only [Exit.inBlock,Exit.then])
 exact bodyPost_ret (results_rec (p:=6) (r:=7) rfl _ _ (w.heap.size+2) z4 (fault f 3) rfl rfl R3.out) rfl ⟨rfl,B3.out⟩
theorem do_err (w:World) (p:Int) (v:Value) (l:List R4) (R:Rd K4 w v l) (hl:okL l) (o r k:Int) (x:R4) (he:doE p l o r=k) (hk:k≠0):Calls Tryz.prog 135 #[file p v,.int .i64 o,.int .i64 r,rec4 x] w fun e w'=>∃ a cap,e = .returned (.tuple #[file 0 (.slice a 0 cap),rec4 z4,.int .i64 k])∧Below w.heap.size w w' :=
 (do_any w p v l R hl o r x).mono fun e w' ⟨u,h1,h2,h3⟩=>by
   rw [he,if_neg hk] at h2;obtain ⟨a,cap,rfl,_⟩:=h2.slice;rw [he,if_neg hk,if_neg hk] at h1;exact ⟨a,cap,h1,h3⟩
theorem do_ok (w:World) (p:Int) (v:Value) (l:List R4) (R:Rd K4 w v l) (hl:okL l) (o r:Int) (x:R4) (he:doE p l o r=0):Calls Tryz.prog 135 #[file p v,.int .i64 o,.int .i64 r,rec4 x] w fun e w'=>∃ a cap,e = .returned (.tuple #[file p (.slice a l.length cap),rec4 (newR l o r x),.int .i64 0])∧Ow K4 w' w.heap.size 96 (.slice a l.length cap) (l.set r.toNat (newR l o r x))∧Below w.heap.size w w' :=
 (do_any w p v l R hl o r x).mono fun e w' ⟨u,h1,h2,h3⟩=>by
   rw [he,if_pos rfl] at h2;obtain ⟨a,cap,rfl,_⟩:=h2.slice;rw [List.length_set] at h1 h2;rw [he,if_pos rfl,if_pos rfl] at h1;exact ⟨a,cap,h1,h2,h3⟩
theorem two_res (w:World) (q:Int) (u:Value) (y:R4):((w.alloc (.cells #[.int .i64 q,u] 65)).alloc (.cells (arr4 y) 96)).heap[w.heap.size]? = some (.cells #[.int .i64 q,u] 65 (0,0))∧((w.alloc (.cells #[.int .i64 q,u] 65)).alloc (.cells (arr4 y) 96)).heap[w.heap.size+1]? = some (.cells (arr4 y) 96 (0,0))∧Below w.heap.size w ((w.alloc (.cells #[.int .i64 q,u] 65)).alloc (.cells (arr4 y) 96)):=by
 refine ⟨(Below.heap_alloc _ _ _ (by simp)).trans (heap_alloc_new w _),?_,((Below.refl w.heap.size w).alloc (Nat.le_refl _) _).alloc (by simp) _⟩;have:=heap_alloc_new (w.alloc (.cells #[.int .i64 q,u] 65)) (.cells (arr4 y) 96)
 simpa using this
set_option maxHeartbeats 2000000 in
theorem ask_err {w:World} {s:Nat} {F:Nat→Prop} {m:Value} {C:List Ent} {d:Int} (S:Sto w s F m C d) (o f r k:Int) (x:R4) (hn:Wf f) {c:Ent} (hk:look Ent.n f C=some c) (he:doE c.p c.l o r=k) (h0:k≠0) :
 Calls Tryz.prog 103 #[.pointer (some ⟨s,0,none⟩),Ad.addr o f r,rec4 x] w (AskNo w f k):=by
 obtain ⟨ho,hgd,hok,_,_,hcm⟩:=S.find hk;have RR:=Lib.hid (ho.rd);have OK:=Lib.hid hok;have A0:=ask0_of w o f r x;have S0:Hid (Ask0 w o f r x (((w.alloc (.cells #[.int .i64 o,.int .i64 f,.int .i64 r] 137)).alloc (.cells #[.int .u8 x.1,.int .u8 x.2.1,.int .u8 x.2.2.1,.int .u8 x.2.2.2] 96)).alloc (.cells #[.int .u8 0,.int .u8 0,.int .u8 0,.int .u8 0] 96))):=A0;have SS:=Lib.hid (S.below A0.bel);have HN:=Lib.hid hn;have L:=Lib.hid (lv_some hk);have LB:=Lib.hid (lb_some hk);obtain ⟨cn,p,a,cap,l⟩:=c;unfold Ent.sl at RR;simp only at *;have HE:=Lib.hid (And.intro he h0);have hk1:(k == 0)=false:=by simpa using h0
 obtain ⟨q,hq⟩:∃ q,q=l.length:=⟨_,rfl⟩;rw [← hq] at RR L;have HQ:=Lib.hid hq;clear S hk A0 hn ho hgd hok hcm he hq;unfold rec4;unfold Ad.addr
 go_enter Tryz.func103,Tryz.ntmps103
 go_wp2_with fail;generalize (((w.alloc (.cells #[.int .i64 o,.int .i64 f,.int .i64 r] 137)).alloc (.cells #[.int .u8 x.1,.int .u8 x.2.1,.int .u8 x.2.2.1,.int .u8 x.2.2.2] 96)).alloc (.cells #[.int .u8 0,.int .u8 0,.int .u8 0,.int .u8 0] 96))=W at *;have c0:=Sd.cell_by (show W.cell? ⟨s,0,none⟩=some m from row_cell SS.out.row 0);have a1:=Sd.cell_by (show W.cell? ⟨w.heap.size,1,none⟩=some (.int .i64 f) from row_cell S0.out.adr 1);have hlk:∀ P:Sd.By W,(Instr.lookup 89 m (.int .i64 f) true).run Tryz.prog P.world = .ok (.tuple #[.agg #[.int .i64 p,.slice a q cap],.bool true]) P.world:=fun P=>by
  have:=run_look (SS.out.below P.below).mp HN.out true;rw [L.out,LB.out] at this;exact this
 refine Sf.start [(0,0),(0,1),(0,2),(0,3),(0,4),(0,5),(0,6),(0,7),(0,8),(0,9),(2,10),(1,11),(0,12)] [⟨10,8,#[.int .i64 0,.slice none 0 0],65⟩] (by kernel_rfl) (by kernel_rfl) (by kernel_rfl) (by decide) (by decide) ?_ ?_ ?_
 ·simp
 ·intro f hf
  simp only [List.mem_cons,List.not_mem_nil,or_false] at hf;subst hf;exact ⟨_,rfl,rfl,rfl,fun ρ w=>by go_simp⟩
 dsimp only [Sf.picks,List.getElem?_cons_succ,List.getElem?_cons_zero];have BW:=Lib.hid ((Below.refl W.heap.size W).drew)
 repeat (refine Sf.lit (fun xs=>?_);simp only [Sf.fill,List.foldl_cons,List.foldl_nil];quiet_step (fail);refine wpQuiet_nil ?_)
 refine Sf.meet (fun gF w7 hb hc row n7 hH hL=>?_);have B7:=Lib.hid (BW.out.trans (hb.mono BW.out.size));have R7:Hid (w7.heap[gF]? = some (.cells #[.int .i64 0,.slice none 0 0] 65 (0,0))):=row;clear hb hc row hH hL BW;refine Sf.call (fun xs w9 hb hc=>⟨by rfl,fun K hK=>?_⟩);have B9:=Lib.hid (B7.out.trans (hb.mono B7.out.size));have R9:=(hb.block _ (lt_of_block R7.out)).trans R7.out;have k0:w9.cell? ⟨gF,0,none⟩=some (.int .i64 0):=row_cell R9 0;have k1:w9.cell? ⟨gF,1,none⟩=some (.slice none 0 0):=row_cell R9 1;have f0:=row_frozen R9 0;have f1:=row_frozen R9 1;have RA:=Lib.hid (sto2_row R9 p (.slice a q cap));have BA:=Lib.hid (sto2_below (p:=p) (v:=.slice a q cap) B9.out n7);have hsz:=sto2_size w9 gF p (.slice a q cap);clear hb hc B7 R7 R9 B9;simp only [Sf.fill,List.foldl_nil];go_simp;refine hK _ _ (Sd.Cl.of BA.out) (by rw [← hsz];exact Nat.le_refl _) (fun h=>absurd rfl h) ?_;clear hK K k0 k1 f0 f1 hsz
 show Sf.wpSf _ _ _ _ _ _ _ _ _ _ (sto2 w9 gF p (.slice a q cap))
 generalize sto2 w9 gF p (.slice a q cap)=wA at *
 repeat (refine Sf.lit (fun xs=>?_);simp only [Sf.fill,List.foldl_nil];quiet_step (fail);refine wpQuiet_nil ?_)
 refine Sf.done (fun wB hb hc=>?_);have BX:=Lib.hid (BA.out.trans (hb.mono BA.out.size));have G1:=Lib.hid ((hb.block _ (lt_of_block RA.out)).trans RA.out);have S1:=Lib.hid (S0.out.mono BX.out);have N7:Hid (W.heap.size≤gF):=n7;clear hb hc BA RA c0 a1 hlk n7 S0;have b0:wB.cell? ⟨gF,0,none⟩=some (.int .i64 p):=row_cell G1.out 0;have b1:wB.cell? ⟨gF,1,none⟩=some (.slice a q cap):=row_cell G1.out 1;have a0:wB.cell? ⟨w.heap.size,0,none⟩=some (.int .i64 o):=row_cell S1.out.adr 0;have a2:wB.cell? ⟨w.heap.size,2,none⟩=some (.int .i64 r):=row_cell S1.out.adr 2;have x0:wB.cell? ⟨w.heap.size+1,0,none⟩=some (.int .u8 x.1):=row_cell S1.out.arg 0;have x1:wB.cell? ⟨w.heap.size+1,1,none⟩=some (.int .u8 x.2.1):=row_cell S1.out.arg 1;have x2:wB.cell? ⟨w.heap.size+1,2,none⟩=some (.int .u8 x.2.2.1):=row_cell S1.out.arg 2;have x3:wB.cell? ⟨w.heap.size+1,3,none⟩=some (.int .u8 x.2.2.2):=row_cell S1.out.arg 3;have DO:=Lib.hid (do_err wB p (.slice a q cap) l (RR.out.below S1.out.bel) OK.out o r k x HE.out.1 HE.out.2);clear SS BX G1 N7 L LB;unfold file rec4 at DO;go_wp2_with fail;refine DO.out.mono ?_;rintro e w3 ⟨ua,ucap,rfl,b3⟩;obtain ⟨t1,t2,tB⟩:=two_res w3 0 (.slice ua 0 ucap) z4;have S3:=Lib.hid ((S1.out.mono b3).mono tB);clear t1 t2 tB b3 DO b0 b1 a0 a2 x0 x1 x2 x3 S1;unfold z4;unfold arr4 z4 at S3;go_wp2_with fail;generalize ((w3.alloc (.cells #[.int .i64 0,.slice ua 0 ucap] 65)).alloc (.cells #[.int .u8 0,.int .u8 0,.int .u8 0,.int .u8 0] 96))=Wq at *;have S1:Hid (Ask0 w o f r x Wq):=S3;clear S3;have C0:Adr w o f r Wq.drew:=S1.out.adr;have a1:=Sc.cell_in (C:=Adr w o f r) (a:=⟨w.heap.size,1,none⟩) (v:=.int .i64 f) (fun W' h=>row_cell h 1);have ne:Nonempty (Sc.In (Adr w o f r)):=⟨⟨_,C0⟩⟩;refine Sc.start (Adr w o f r) [(false,0),(false,1),(false,2),(false,3),(false,4),(false,5),(false,6),(true,7),(false,8)] (by kernel_rfl) (by kernel_rfl) (by kernel_rfl) C0 ?_;dsimp only [Sd.picks,List.getElem?_cons_succ,List.getElem?_cons_zero]
 repeat (refine Sd.lit ?_;quiet_step (fail);refine wpQuiet_nil ?_)
 have S2:=Lib.hid (S1.out.mono ((Below.refl Wq.heap.size Wq).drew));clear S1 C0 a1;generalize Wq.drew=Wy at *;refine Sd.call (by rfl) (fun K hK=>?_);have d0:Wy.cell? ⟨w.heap.size+2,0,none⟩=some (.int .u8 0):=row_cell S2.out.res 0;have d1:Wy.cell? ⟨w.heap.size+2,1,none⟩=some (.int .u8 0):=row_cell S2.out.res 1;have d2:Wy.cell? ⟨w.heap.size+2,2,none⟩=some (.int .u8 0):=row_cell S2.out.res 2;have d3:Wy.cell? ⟨w.heap.size+2,3,none⟩=some (.int .u8 0):=row_cell S2.out.res 3;have k0:=row_frozen S2.out.res 0;have k1:=row_frozen S2.out.res 1;have k2:=row_frozen S2.out.res 2;have k3:=row_frozen S2.out.res 3;have L2:Adr w o f r (sto4 Wy (w.heap.size+2) 0 z4):=sto4_other S2.out.adr (by omega);have R3:=Lib.hid (sto4_row S2.out.res z4);have B3:=Lib.hid (sto4_below (o:=0) (r:=z4) S2.out.bel (show w.heap.size≤w.heap.size+2 by omega));clear S2;go_simp;refine hK _ _ (Sc.Cl.of L2) ?_;clear hK K d0 d1 d2 d3 k0 k1 k2 k3 L2
 show Sd.wpSd _ _ _ _ _ _ (sto4 Wy (w.heap.size+2) 0 z4)
 generalize sto4 Wy (w.heap.size+2) 0 z4=Wz at *
 repeat (refine Sd.lit ?_;quiet_step (fail);refine wpQuiet_nil ?_)
 refine Sd.done ?_;go_wp2
 (try simp only [Exit.inBlock,Exit.then])
 exact bodyPost_ret (results_rec (p:=6) (r:=7) rfl _ _ (w.heap.size+2) z4 (fault f k) rfl rfl R3.out) rfl ⟨rfl,B3.out⟩
end Go.Proofs.YtpkipilggkbkeaaGreatDoor.Fs
namespace Go.Proofs.YtpkipilggkbkeaaGreatDoor.Fs
open Go.RowKit Go.Maps
open Fl (R4 z4 K4 rec4 rat goodF goodFB okR okL doE newR file arr4 sto2 sto4 sto2_row sto2_other sto2_below sto2_size sto4_row sto4_other sto4_below sto4_size row_cell row_frozen do_any DoPost)
open Rw (Rd Ow At)
set_option maxRecDepth 100000
attribute [local irreducible] Sd.wpSd wpQuiet Sf.wpSf
theorem Sto.place2 {w W W':World} {s b B:Nat} {F:Nat→Prop} {C:List Ent} {d:Int} {c:Ent} (h:Sto w s F (.map (some b)) C d) (hb:Below w.heap.size w W) (hB:w.heap.size≤B) (hg:W.grownBy W' (some b)) (mp:Mp W' F (.map (some b)) (Fs.put Ent.n c C)) (ow:Ow K4 W B 96 c.sl c.l) (hn:0≤c.n∧c.n≤63) (hgd:goodF c.p c.l) (hl:okL c.l) :
 St W' s (fun k=>F k∨(B≤k∧k < W'.heap.size)) ((Fs.put Ent.n c C).map Ent.abs) d∧Only F w W':=by
 have hne:=h.map_ne;have hFb:=h.mp.isMap.1;have hbl:=h.low b hFb;have hsl:=h.low s h.foot;have O:Only F w W':=(Only.of_below hb).trans (Only.grown (G:=fun k=>k=b) rfl hg) fun k _ e=>e ▸ hFb;have off:∀ k,c.sl.ownBlock=some k→B≤k∧k < W.heap.size:=ow_new ow;refine ⟨⟨_,_,h.put (w':=W') (d':=d) (F':=fun k=>F k∨(B≤k∧k < W'.heap.size)) ?_ (fun k hk=>.inl hk) (mp.wide fun k hk=>.inl hk) (fun e he hne=>?_) ?_ (fun k hk=>.inr ⟨(off k hk).1,Nat.lt_of_lt_of_le (off k hk).2 hg.size⟩) (fun e he hne k hk hk'=>?_) hn hgd hl (fun k hk=>?_),rfl⟩,O⟩
 ·rw [hg.block s (Nat.lt_of_lt_of_le hsl hb.size) (by intro e;injection e with e;exact hne e.symm),hb.block s hsl]
  exact h.row
 ·exact ow_only (G:=fun k=>k=b) ((h.own e he).keep hb) (fun k hk e'=>(h.off he).2 b rfl (by rw [hk,e'])) (Only.grown rfl hg)
 ·exact ow_only (G:=fun k=>k=b) (ow.low (Nat.zero_le _)) (fun k hk e'=>by have:=(off k hk).1;omega) (Only.grown rfl hg)
 ·have:=(off k hk).1
  have:=h.low k (h.mine e he k hk')
  omega
 ·rcases hk with hk | ⟨_,hk⟩
  ·have:=h.low k hk
   have:=O.size
   omega
  ·exact hk
def AskYes (w:World) (s:Nat) (F:Nat→Prop) (d:Int) (y:R4) (A':Abs) (e:Ending) (w':World):Prop:=e = .returned (.tuple #[rec4 y,.nilIface])∧St w' s (Fx F w w') A' d∧Only F w w'
structure OkC (w:World) (s:Nat) (m:Value) (d o f r:Int) (g:Nat) (p:Int) (u:Value) (W:World):Prop where
 row:W.heap[s]? = some (.cells #[m,.int .i64 d] 91 (0,0))
 adr:W.heap[w.heap.size]? = some (.cells #[.int .i64 o,.int .i64 f,.int .i64 r] 137 (0,0))
 box:W.heap[g]? = some (.cells #[.int .i64 p,u] 65 (0,0))
set_option maxHeartbeats 4000000 in
theorem ask_ok {w:World} {s b:Nat} {F:Nat→Prop} {C:List Ent} {d:Int} (S:Sto w s F (.map (some b)) C d) (o f r:Int) (x:R4) (hx:okR x) (hn:Wf f) {c:Ent} (hk:look Ent.n f C=some c) (he:doE c.p c.l o r=0) :
 Calls Tryz.prog 103 #[.pointer (some ⟨s,0,none⟩),Ad.addr o f r,rec4 x] w (AskYes w s F d (newR c.l o r x) (put key (f,c.p,c.l.set r.toNat (newR c.l o r x)) (C.map Ent.abs))):=by
 obtain ⟨ho,hgd,hok,_,hnm,hcm⟩:=S.find hk;have RR:=Lib.hid (ho.rd);have OK:=Lib.hid hok;have A0:=ask0_of w o f r x;have S0:Hid (Ask0 w o f r x (((w.alloc (.cells #[.int .i64 o,.int .i64 f,.int .i64 r] 137)).alloc (.cells #[.int .u8 x.1,.int .u8 x.2.1,.int .u8 x.2.2.1,.int .u8 x.2.2.2] 96)).alloc (.cells #[.int .u8 0,.int .u8 0,.int .u8 0,.int .u8 0] 96))):=A0;have SS:=Lib.hid (S.below A0.bel);have HN:=Lib.hid hn;have L:=Lib.hid (lv_some hk);have LB:=Lib.hid (lb_some hk);have SW:=Lib.hid S;have hne:=S.map_ne;have hlen:=S.len;have hsl:=S.low s S.foot;have hbl:=S.low b S.mp.isMap.1;obtain ⟨cn,p,a,cap,l⟩:=c;unfold Ent.sl at RR;simp only at *;have FIN:Hid (∀ (B:Nat) (au:Option Addr) (cu:Nat) (W W' W'':World),w.heap.size+3≤B→Below w.heap.size w W→W.grownBy W' (some b)→Ow K4 W B 96 (.slice au l.length cu) (l.set r.toNat (newR l o r x))→(∀ c:Ent,c.n=f→c.file=file p (.slice au l.length cu)→c.l=l.set r.toNat (newR l o r x)→Mp W' F (.map (some b)) (put Ent.n c C))→B≤W'.heap.size→Only (fun k=>k=w.heap.size+2) W' W''→AskYes w s F d (newR l o r x) (put key (f,p,l.set r.toNat (newR l o r x)) (C.map Ent.abs)) (.returned (.tuple #[rec4 (newR l o r x),.nilIface])) W''):=fun B au cu W W' W'' hB hb hgr ow mp hBW o2=>by
  have hlen2:(l.set r.toNat (newR l o r x)).length=l.length:=List.length_set ..;have hfile:(⟨f,p,au,cu,l.set r.toNat (newR l o r x)⟩:Ent).file=file p (.slice au l.length cu):=by unfold Ent.file Ent.sl;rw [hlen2]
  have ow':Ow K4 W B 96 (⟨f,p,au,cu,l.set r.toNat (newR l o r x)⟩:Ent).sl (l.set r.toNat (newR l o r x)):=by unfold Ent.sl;rw [hlen2];exact ow
  obtain ⟨S1,O1⟩:=S.place2 (c:=⟨f,p,au,cu,l.set r.toNat (newR l o r x)⟩) hb (by omega) hgr (mp _ rfl hfile rfl) ow' hnm (good_do he) (okL_set hok (okR_new hok hx));rw [abs_put] at S1;have O2:Only F w W'':=O1.trans (o2.mono (G':=fun k=>k=w.heap.size+2) fun _ _ g=>g) fun k hk e=>by omega
  have S2:=S1.only (G:=fun k=>k=w.heap.size+2) (fun k hk e=>by
   rcases hk with hk | ⟨hk,_⟩
   ·have:=S.low k hk;omega
   ·omega) o2
  refine ⟨rfl,S2.wide (fun k hk=>?_) (Fx.low S.low O2.size),O2⟩
  rcases hk with hk | ⟨h1,h2⟩
  ·exact .inl hk
  ·exact .inr ⟨by omega,Nat.lt_of_lt_of_le h2 o2.size⟩
 have HE:=Lib.hid he;obtain ⟨q,hq⟩:∃ q,q=l.length:=⟨_,rfl⟩;rw [← hq] at RR L FIN;have HQ:=Lib.hid hq;clear S hk A0 hn ho hgd hok hcm he hq hnm;unfold rec4;unfold Ad.addr
 go_enter Tryz.func103,Tryz.ntmps103
 go_wp2_with fail;generalize (((w.alloc (.cells #[.int .i64 o,.int .i64 f,.int .i64 r] 137)).alloc (.cells #[.int .u8 x.1,.int .u8 x.2.1,.int .u8 x.2.2.1,.int .u8 x.2.2.2] 96)).alloc (.cells #[.int .u8 0,.int .u8 0,.int .u8 0,.int .u8 0] 96))=W at *;have c0:=Sd.cell_by (show W.cell? ⟨s,0,none⟩=some (.map (some b)) from row_cell SS.out.row 0);have a1:=Sd.cell_by (show W.cell? ⟨w.heap.size,1,none⟩=some (.int .i64 f) from row_cell S0.out.adr 1);have hlk:∀ P:Sd.By W,(Instr.lookup 89 (.map (some b)) (.int .i64 f) true).run Tryz.prog P.world = .ok (.tuple #[.agg #[.int .i64 p,.slice a q cap],.bool true]) P.world:=fun P=>by
  have:=run_look (SS.out.below P.below).mp HN.out true;rw [L.out,LB.out] at this;exact this
 refine Sf.start [(0,0),(0,1),(0,2),(0,3),(0,4),(0,5),(0,6),(0,7),(0,8),(0,9),(2,10),(1,11),(0,12)] [⟨10,8,#[.int .i64 0,.slice none 0 0],65⟩] (by kernel_rfl) (by kernel_rfl) (by kernel_rfl) (by decide) (by decide) ?_ ?_ ?_
 ·simp
 ·intro f hf
  simp only [List.mem_cons,List.not_mem_nil,or_false] at hf;subst hf;exact ⟨_,rfl,rfl,rfl,fun ρ w=>by go_simp⟩
 dsimp only [Sf.picks,List.getElem?_cons_succ,List.getElem?_cons_zero];have BW:=Lib.hid ((Below.refl W.heap.size W).drew)
 repeat (refine Sf.lit (fun xs=>?_);simp only [Sf.fill,List.foldl_cons,List.foldl_nil];quiet_step (fail);refine wpQuiet_nil ?_)
 refine Sf.meet (fun gF w7 hb hc row n7 hH hL=>?_);have B7:=Lib.hid (BW.out.trans (hb.mono BW.out.size));have R7:Hid (w7.heap[gF]? = some (.cells #[.int .i64 0,.slice none 0 0] 65 (0,0))):=row;clear hb hc row hH hL BW;refine Sf.call (fun xs w9 hb hc=>⟨by rfl,fun K hK=>?_⟩);have B9:=Lib.hid (B7.out.trans (hb.mono B7.out.size));have R9:=(hb.block _ (lt_of_block R7.out)).trans R7.out;have k0:w9.cell? ⟨gF,0,none⟩=some (.int .i64 0):=row_cell R9 0;have k1:w9.cell? ⟨gF,1,none⟩=some (.slice none 0 0):=row_cell R9 1;have f0:=row_frozen R9 0;have f1:=row_frozen R9 1;have RA:=Lib.hid (sto2_row R9 p (.slice a q cap));have BA:=Lib.hid (sto2_below (p:=p) (v:=.slice a q cap) B9.out n7);have hsz:=sto2_size w9 gF p (.slice a q cap);clear hb hc B7 R7 R9 B9;simp only [Sf.fill,List.foldl_nil];go_simp;refine hK _ _ (Sd.Cl.of BA.out) (by rw [← hsz];exact Nat.le_refl _) (fun h=>absurd rfl h) ?_;clear hK K k0 k1 f0 f1 hsz
 show Sf.wpSf _ _ _ _ _ _ _ _ _ _ (sto2 w9 gF p (.slice a q cap))
 generalize sto2 w9 gF p (.slice a q cap)=wA at *
 repeat (refine Sf.lit (fun xs=>?_);simp only [Sf.fill,List.foldl_nil];quiet_step (fail);refine wpQuiet_nil ?_)
 refine Sf.done (fun wB hb hc=>?_);have BX:=Lib.hid (BA.out.trans (hb.mono BA.out.size));have G1:=Lib.hid ((hb.block _ (lt_of_block RA.out)).trans RA.out);have S1:=Lib.hid (S0.out.mono BX.out);have N7:Hid (W.heap.size≤gF):=n7;clear hb hc BA RA c0 a1 hlk n7 S0;have b0:wB.cell? ⟨gF,0,none⟩=some (.int .i64 p):=row_cell G1.out 0;have b1:wB.cell? ⟨gF,1,none⟩=some (.slice a q cap):=row_cell G1.out 1;have a0:wB.cell? ⟨w.heap.size,0,none⟩=some (.int .i64 o):=row_cell S1.out.adr 0;have a2:wB.cell? ⟨w.heap.size,2,none⟩=some (.int .i64 r):=row_cell S1.out.adr 2;have x0:wB.cell? ⟨w.heap.size+1,0,none⟩=some (.int .u8 x.1):=row_cell S1.out.arg 0;have x1:wB.cell? ⟨w.heap.size+1,1,none⟩=some (.int .u8 x.2.1):=row_cell S1.out.arg 1;have x2:wB.cell? ⟨w.heap.size+1,2,none⟩=some (.int .u8 x.2.2.1):=row_cell S1.out.arg 2;have x3:wB.cell? ⟨w.heap.size+1,3,none⟩=some (.int .u8 x.2.2.2):=row_cell S1.out.arg 3;have DO:=Lib.hid (do_ok wB p (.slice a q cap) l (RR.out.below S1.out.bel) OK.out o r x HE.out);rw [← HQ.out] at DO;have HB3:Hid (w.heap.size+3≤wB.heap.size):=S1.out.siz;clear BX G1 N7 L LB RR OK HE SS;generalize l.set r.toNat (newR l o r x)=l2 at *;generalize newR l o r x=y at *;unfold file rec4 at DO;go_wp2_with fail;refine DO.out.mono ?_;rintro e w3 ⟨ua,ucap,rfl,o3,b3⟩;obtain ⟨t1,t2,tB⟩:=two_res w3 p (.slice ua q ucap) y;have S3:=Lib.hid ((S1.out.mono b3).mono tB);have T1:=Lib.hid t1;have T2:=Lib.hid t2;have O3:=Lib.hid (o3.keep tB);have hw3:Hid (wB.heap.size≤w3.heap.size):=b3.size;clear t1 t2 tB b3 DO b0 b1 a0 a2 x0 x1 x2 x3 S1 o3;unfold arr4 at S3 T1 T2 O3;go_wp2_with fail;have TZ:Hid (w3.heap.size+2=((w3.alloc (.cells #[.int .i64 p,.slice ua q ucap] 65)).alloc (.cells #[.int .u8 y.1,.int .u8 y.2.1,.int .u8 y.2.2.1,.int .u8 y.2.2.2] 96)).heap.size):=by unfold Hid;simp
 generalize ((w3.alloc (.cells #[.int .i64 p,.slice ua q ucap] 65)).alloc (.cells #[.int .u8 y.1,.int .u8 y.2.1,.int .u8 y.2.2.1,.int .u8 y.2.2.2] 96))=Wq at *;have S5:=Lib.hid (SW.out.below S3.out.bel);have C0:OkC w s (.map (some b)) d o f r w3.heap.size p (.slice ua q ucap) Wq.drew:=⟨S5.out.row,S3.out.adr,T1.out⟩;have c0:=Sc.cell_in (C:=OkC w s (.map (some b)) d o f r w3.heap.size p (.slice ua q ucap)) (a:=⟨s,0,none⟩) (fun W' h=>row_cell h.row 0);have a1:=Sc.cell_in (C:=OkC w s (.map (some b)) d o f r w3.heap.size p (.slice ua q ucap)) (a:=⟨w.heap.size,1,none⟩) (v:=.int .i64 f) (fun W' h=>row_cell h.adr 1);have r0:=Sc.cell_in (C:=OkC w s (.map (some b)) d o f r w3.heap.size p (.slice ua q ucap)) (a:=⟨w3.heap.size,0,none⟩) (fun W' h=>row_cell h.box 0);have r1:=Sc.cell_in (C:=OkC w s (.map (some b)) d o f r w3.heap.size p (.slice ua q ucap)) (a:=⟨w3.heap.size,1,none⟩) (fun W' h=>row_cell h.box 1);have ne:Nonempty (Sc.In (OkC w s (.map (some b)) d o f r w3.heap.size p (.slice ua q ucap))):=⟨⟨_,C0⟩⟩;refine Sc.start (OkC w s (.map (some b)) d o f r w3.heap.size p (.slice ua q ucap)) [(false,0),(false,1),(false,2),(false,3),(false,4),(false,5),(false,6),(true,7)] (by kernel_rfl) (by kernel_rfl) (by kernel_rfl) C0 ?_;dsimp only [Sd.picks,List.getElem?_cons_succ,List.getElem?_cons_zero]
 repeat (refine Sd.lit ?_;quiet_step (fail);refine wpQuiet_nil ?_)
 have BD:Below Wq.heap.size Wq Wq.drew:=(Below.refl _ _).drew;have S6:=Lib.hid (S3.out.mono BD);have M6:=Lib.hid (S5.out.below BD).mp;have R6:=Lib.hid (S5.out.below BD).row;have T6:Hid (Wq.drew.heap[w3.heap.size]? = _):=T1.out;have T7:Hid (Wq.drew.heap[w3.heap.size+1]? = _):=T2.out;have O6:=Lib.hid (O3.out.keep BD);have Z6:Hid (w3.heap.size+2=Wq.drew.heap.size):=TZ.out;clear c0 a1 r0 r1 C0 S3 S5 T1 T2 O3 TZ BD;generalize Wq.drew=Wy at *;refine Sd.call (by rfl) (fun K hK=>?_);have hcl:C.length < maxLen:=by unfold maxLen;omega
 have hll2:Hid (l2.length=q):=by
  have:=O6.out;unfold Ow World.ownsRow at this
  rcases this.2 with ⟨e,h0⟩ | ⟨g,cp,cur,e,_⟩
  ·injection e with _ e _;exact h0.trans e.symm
  ·injection e with _ e _;exact e.symm
 have hfl:(⟨f,p,ua,ucap,l2⟩:Ent).file = .agg #[.int .i64 p,.slice ua q ucap]:=by unfold Ent.file Ent.sl Fl.file;rw [hll2.out]
 refine wp_put _ _ _ rfl rfl M6.out ⟨f,p,ua,ucap,l2⟩ rfl (by rw [hfl];rfl) HN.out hcl (fun w4 m4 g4=>?_);have hbne1:b≠w3.heap.size:=by have:=HB3.out;have:=hw3.out;omega
 have hbne2:b≠w3.heap.size+1:=by have:=HB3.out;have:=hw3.out;omega
 have RES:=Lib.hid (fun W''=>FIN.out wB.heap.size ua ucap Wy w4 W'' HB3.out S6.out.bel g4 O6.out (fun c e1 e2 e3=>by
  obtain ⟨cn',cp,ca,cc,cl⟩:=c;simp only at e1 e3;subst e1 e3;unfold Ent.file Fl.file Ent.sl at e2;injection e2 with e2;have e4:=congrArg (fun t:Array Value=>t[0]?) e2;have e5:=congrArg (fun t:Array Value=>t[1]?) e2
  simp at e4 e5
  obtain ⟨rfl,_,rfl⟩:=e5;subst e4
  exact m4) (by have:=g4.size;have:=Z6.out;have:=hw3.out;omega))
 have old:∀ k,k < Wy.heap.size→k≠b→w4.heap[k]? = Wy.heap[k]?:=fun k hk hne=>g4.block k hk (by intro e;injection e with e;exact hne e);have N1:w4.heap[s]? = _:=(old s (lt_of_block R6.out) (fun e=>hne e.symm)).trans R6.out;have N2:w4.heap[w.heap.size]? = _:=(old _ (lt_of_block S6.out.adr) (by omega)).trans S6.out.adr;have N3:w4.heap[w3.heap.size]? = _:=(old _ (lt_of_block T6.out) (fun e=>hbne1 e.symm)).trans T6.out;have N4:w4.heap[w3.heap.size+1]? = _:=(old _ (lt_of_block T7.out) (fun e=>hbne2 e.symm)).trans T7.out;have N5:w4.heap[w.heap.size+2]? = _:=(old _ (lt_of_block S6.out.res) (by omega)).trans S6.out.res;refine hK _ _ (Sc.Cl.of ⟨N1,N2,N3⟩) ?_;clear hK K m4 g4 FIN N1 N2 N3 old R6 M6 T6 T7 O6;refine Sd.done ?_;have y0:w4.cell? ⟨w3.heap.size+1,0,none⟩=some (.int .u8 y.1):=row_cell N4 0;have y1:w4.cell? ⟨w3.heap.size+1,1,none⟩=some (.int .u8 y.2.1):=row_cell N4 1;have y2:w4.cell? ⟨w3.heap.size+1,2,none⟩=some (.int .u8 y.2.2.1):=row_cell N4 2;have y3:w4.cell? ⟨w3.heap.size+1,3,none⟩=some (.int .u8 y.2.2.2):=row_cell N4 3;have d0:w4.cell? ⟨w.heap.size+2,0,none⟩=some (.int .u8 0):=row_cell N5 0;have d1:w4.cell? ⟨w.heap.size+2,1,none⟩=some (.int .u8 0):=row_cell N5 1;have d2:w4.cell? ⟨w.heap.size+2,2,none⟩=some (.int .u8 0):=row_cell N5 2;have d3:w4.cell? ⟨w.heap.size+2,3,none⟩=some (.int .u8 0):=row_cell N5 3;have k0:=row_frozen N5 0;have k1:=row_frozen N5 1;have k2:=row_frozen N5 2;have k3:=row_frozen N5 3;have R9:=Lib.hid (sto4_row N5 y);have O9:Hid (Only (fun k=>k=w.heap.size+2) w4 (sto4 w4 (w.heap.size+2) 0 y)):=by
  have O1:∀ W:World,∀ o v,Only (fun k=>k=w.heap.size+2) W (W.setCell ⟨w.heap.size+2,o,none⟩ v):=fun W o v=>Only.set (fun k=>k=w.heap.size+2) W (a:=⟨w.heap.size+2,o,none⟩) rfl v;exact (((O1 _ _ _).trans (O1 _ _ _) fun _ _ g=>g).trans (O1 _ _ _) fun _ _ g=>g).trans (O1 _ _ _) fun _ _ g=>g
 clear N4 N5 S6 HB3 hw3 Z6;go_wp2
 (try simp only [Exit.inBlock,Exit.then])
 exact bodyPost_ret (results_rec (p:=6) (r:=7) rfl _ _ (w.heap.size+2) y .nilIface rfl rfl R9.out) rfl (RES.out _ O9.out)
end Go.Proofs.YtpkipilggkbkeaaGreatDoor.Fs
namespace Go.Proofs.YtpkipilggkbkeaaGreatDoor.Ad
open Go.RowKit
def Lead (o n:Int) (k:Bool):Prop:=o=0∧n=0∧k=true∨o=1∧n=64∧k=true∨o=2∧n=128∧k=true∨(o < 0∨2 < o)∧n=0∧k=false
set_option maxHeartbeats 400000 in
theorem lead_any (w:World) (o n:Int) (k:Bool) (h:Lead o n k):Calls Tryz.prog 134 #[.int .i64 o] w fun e w'=>e = .returned (.tuple #[.int .i64 n,.bool k])∧Below w.heap.size w w':=by
 rcases h with ⟨rfl,rfl,rfl⟩ | ⟨rfl,rfl,rfl⟩ | ⟨rfl,rfl,rfl⟩ | ⟨h | h,rfl,rfl⟩
 all_goals
  go_enter Tryz.func134,Tryz.ntmps134
  go_wp2
  go_ret2
  exact ⟨rfl,Below.refl _ _⟩
theorem lead_good {o:Int} (h1:0≤o) (h2:o≤2):Lead o (64 * o) true:=by
 unfold Lead
 rcases (by omega:o=0∨o=1∨o=2) with rfl | rfl | rfl
 ·exact .inl ⟨rfl,rfl,rfl⟩
 ·exact .inr (.inl ⟨rfl,rfl,rfl⟩)
 ·exact .inr (.inr (.inl ⟨rfl,rfl,rfl⟩))
theorem lead_bad {o:Int} (h:¬ (0≤o∧o≤2)):Lead o 0 false:=.inr (.inr (.inr ⟨by omega,rfl,rfl⟩))
set_option maxHeartbeats 1000000 in
theorem good_any (w:World) (o f r:Int):Calls Tryz.prog 102 #[addr o f r] w fun e w'=>e = .returned (.bool (goodB o f r))∧Below w.heap.size w w':=by
 have B0:=Lib.hid ((Below.refl w.heap.size w).alloc (Nat.le_refl _) (.cells #[.int .i64 o,.int .i64 f,.int .i64 r] 137));unfold addr
 by_cases h0:0≤o∧o≤2
 ·have L:=Lib.hid (lead_good h0.1 h0.2)
  obtain ⟨h1,h2⟩:=h0
  go_enter Tryz.func102,Tryz.ntmps102
  go_wp2_with fail;refine (lead_any _ o _ _ L.out).mono ?_;rintro e w1 ⟨rfl,b1⟩;have B1:=Lib.hid (B0.out.trans (b1.mono B0.out.size));have c1:w1.cell? ⟨w.heap.size,1,none⟩=some (.int .i64 f):=(b1.cell (by simp)).trans (by go_simp);have c2:w1.cell? ⟨w.heap.size,2,none⟩=some (.int .i64 r):=(b1.cell (by simp)).trans (by go_simp);clear b1 B0 L
  by_cases k0:0≤f
  ·by_cases k1:f < 64
   ·by_cases k2:0≤r
    ·by_cases k3:r < 256
     ·go_wp2
      go_ret
      exact ⟨ret_bool (by first | exact (decide_eq_true (show good o f r from ⟨by omega,by omega,by omega,by omega,by omega,by omega⟩)).symm | exact (decide_eq_false (show ¬ good o f r from fun g=>by obtain ⟨_,_,_,_,_,_⟩:=g;omega)).symm | exact decide_eq_decide.2 ⟨fun h=>absurd h (by omega),fun g=>absurd g.2.2.2.2.2 (by omega)⟩),B1.out⟩
     ·go_wp2
      go_ret
      exact ⟨ret_bool (by first | exact (decide_eq_true (show good o f r from ⟨by omega,by omega,by omega,by omega,by omega,by omega⟩)).symm | exact (decide_eq_false (show ¬ good o f r from fun g=>by obtain ⟨_,_,_,_,_,_⟩:=g;omega)).symm | exact decide_eq_decide.2 ⟨fun h=>absurd h (by omega),fun g=>absurd g.2.2.2.2.2 (by omega)⟩),B1.out⟩
    ·go_wp2
     go_ret
     exact ⟨ret_bool (by first | exact (decide_eq_true (show good o f r from ⟨by omega,by omega,by omega,by omega,by omega,by omega⟩)).symm | exact (decide_eq_false (show ¬ good o f r from fun g=>by obtain ⟨_,_,_,_,_,_⟩:=g;omega)).symm | exact decide_eq_decide.2 ⟨fun h=>absurd h (by omega),fun g=>absurd g.2.2.2.2.2 (by omega)⟩),B1.out⟩
   ·go_wp2
    go_ret
    exact ⟨ret_bool (by first | exact (decide_eq_true (show good o f r from ⟨by omega,by omega,by omega,by omega,by omega,by omega⟩)).symm | exact (decide_eq_false (show ¬ good o f r from fun g=>by obtain ⟨_,_,_,_,_,_⟩:=g;omega)).symm | exact decide_eq_decide.2 ⟨fun h=>absurd h (by omega),fun g=>absurd g.2.2.2.2.2 (by omega)⟩),B1.out⟩
  ·go_wp2
   go_ret
   exact ⟨ret_bool (by first | exact (decide_eq_true (show good o f r from ⟨by omega,by omega,by omega,by omega,by omega,by omega⟩)).symm | exact (decide_eq_false (show ¬ good o f r from fun g=>by obtain ⟨_,_,_,_,_,_⟩:=g;omega)).symm | exact decide_eq_decide.2 ⟨fun h=>absurd h (by omega),fun g=>absurd g.2.2.2.2.2 (by omega)⟩),B1.out⟩
 ·have L:=Lib.hid (lead_bad h0)
  go_enter Tryz.func102,Tryz.ntmps102
  go_wp2_with fail;refine (lead_any _ o _ _ L.out).mono ?_;rintro e w1 ⟨rfl,b1⟩;have B1:=Lib.hid (B0.out.trans (b1.mono B0.out.size));have c1:w1.cell? ⟨w.heap.size,1,none⟩=some (.int .i64 f):=(b1.cell (by simp)).trans (by go_simp);have c2:w1.cell? ⟨w.heap.size,2,none⟩=some (.int .i64 r):=(b1.cell (by simp)).trans (by go_simp);clear b1 B0 L;go_wp2
  go_ret
  exact ⟨ret_bool (by first | exact (decide_eq_true (show good o f r from ⟨by omega,by omega,by omega,by omega,by omega,by omega⟩)).symm | exact (decide_eq_false (show ¬ good o f r from fun g=>by obtain ⟨_,_,_,_,_,_⟩:=g;omega)).symm | exact decide_eq_decide.2 ⟨fun h=>absurd h (by omega),fun g=>absurd g.2.2.2.2.2 (by omega)⟩),B1.out⟩
end Go.Proofs.YtpkipilggkbkeaaGreatDoor.Ad
namespace Go.Proofs.YtpkipilggkbkeaaGreatDoor.Fs
open Go.RowKit Go.Maps
open Fl (R4 z4 K4 rec4 rat goodF goodFB okR okL doE newR file arr4 sto2 sto4 sto4_row sto4_other sto4_below sto4_size row_cell row_frozen)
open Ad (goodB)
open Rw (Rd Ow At)
set_option maxRecDepth 100000
theorem ask_any {w:World} {s:Nat} {F:Nat→Prop} {m:Value} {C:List Ent} {d:Int} (S:Sto w s F m C d) (o f r:Int) (x:R4) (hx:okR x) (hn:goodB o f r=true) :
 (∃ k,k≠0∧dE (C.map Ent.abs) o f r=k∧Calls Tryz.prog 103 #[.pointer (some ⟨s,0,none⟩),Ad.addr o f r,rec4 x] w (AskNo w f k)) ∨
 (dE (C.map Ent.abs) o f r=0∧Calls Tryz.prog 103 #[.pointer (some ⟨s,0,none⟩),Ad.addr o f r,rec4 x] w (AskYes w s F d (dV (C.map Ent.abs) o f r x) (dA (C.map Ent.abs) o f r x))):=by
 have hg:Ad.good o f r:=of_decide_eq_true hn;have wf:Wf f:=WalkArith.wf_i64 (by unfold Ad.good at hg;omega)
 cases hk:look Ent.n f C with
 | none=>exact .inl ⟨3,by decide,by unfold dE;rw [if_pos hn,look_abs,hk];rfl,ask_none S o f r x wf hk⟩
 | some c =>
   have e:dE (C.map Ent.abs) o f r=doE c.p c.l o r:=by unfold dE;rw [if_pos hn,look_abs,hk];rfl
   by_cases h0:doE c.p c.l o r=0
   ·refine .inr ⟨e.trans h0,?_⟩
    have e1:dV (C.map Ent.abs) o f r x=newR c.l o r x:=by
     unfold dV;rw [e,h0,look_abs,hk]
     rfl
    have e2:dA (C.map Ent.abs) o f r x=put key (f,c.p,c.l.set r.toNat (newR c.l o r x)) (C.map Ent.abs):=by
     unfold dA;rw [e,h0,look_abs,hk]
     rfl
    rw [e1,e2]
    rcases S.mp with ⟨_,rfl⟩ | ⟨b,rfl,_,_⟩
    ·cases hk
    ·exact ask_ok S o f r x hx wf hk h0
   ·exact .inl ⟨_,h0,e,ask_err S o f r _ x wf hk rfl h0⟩
theorem Sto.count {w:World} {s:Nat} {F:Nat→Prop} {m:Value} {C:List Ent} {d:Int} (h:Sto w s F m C d) (d':Int):Sto (w.setCell ⟨s,1,none⟩ (.int .i64 d')) s F m C d'∧Only F w (w.setCell ⟨s,1,none⟩ (.int .i64 d')):=by
 have O:Only (fun k=>k=s) w (w.setCell ⟨s,1,none⟩ (.int .i64 d')):=Only.set (fun k=>k=s) w (a:=⟨s,1,none⟩) rfl _;refine ⟨⟨?_,h.foot,h.mp.kept fun b hb=>?_,fun c hc=>ow_only (G:=fun k=>k=s) (h.own c hc) (fun k hk e=>(h.off hc).1 (e ▸ hk)) O,h.mine,h.apart,h.ok,fun k hk=>Nat.lt_of_lt_of_le (h.low k hk) O.size⟩,O.mono fun k _ e=>e ▸ h.foot⟩
 ·have:=Rw.heap_setCell_same (j:=1) h.row (.int .i64 d')
  rw [this]
  simp
 ·subst hb
  exact Below.heap_setCell w _ _ b h.map_ne
def DoSPost (w:World) (s:Nat) (F:Nat→Prop) (d:Int) (y:R4) (k:Int) (A':Abs) (e:Ending) (w':World):Prop:=e = .returned (.tuple #[rec4 y,.int .i64 k])∧St w' s (Fx F w w') A' d∧Only F w w'
theorem o_sto4 (W:World) (g:Nat) (y:R4):Only (fun k=>k=g) W (sto4 W g 0 y):=by
 have O1:∀ W:World,∀ o v,Only (fun k=>k=g) W (W.setCell ⟨g,o,none⟩ v):=fun W o v=>Only.set (fun k=>k=g) W (a:=⟨g,o,none⟩) rfl v;exact (((O1 _ _ _).trans (O1 _ _ _) fun _ _ g=>g).trans (O1 _ _ _) fun _ _ g=>g).trans (O1 _ _ _) fun _ _ g=>g
def DoNo (w:World) (k:Int) (e:Ending) (w':World):Prop:=e = .returned (.tuple #[rec4 z4,.int .i64 k])∧Below w.heap.size w w'
set_option maxHeartbeats 1000000 in
theorem do_1 (w:World) (s:Nat) (o f r:Int) (x:R4) (hn:goodB o f r=false):Calls Tryz.prog 64 #[.pointer (some ⟨s,0,none⟩),Ad.addr o f r,rec4 x] w (DoNo w 1):=by
 have A0:=ask0_of w o f r x;have S0:Hid (Ask0 w o f r x (((w.alloc (.cells #[.int .i64 o,.int .i64 f,.int .i64 r] 137)).alloc (.cells #[.int .u8 x.1,.int .u8 x.2.1,.int .u8 x.2.2.1,.int .u8 x.2.2.2] 96)).alloc (.cells #[.int .u8 0,.int .u8 0,.int .u8 0,.int .u8 0] 96))):=A0;have GA:∀ W,Calls Tryz.prog 102 #[Ad.addr o f r] W fun e w'=>e = .returned (.bool false)∧Below W.heap.size W w':=fun W=>by have:=Ad.good_any W o f r;rwa [hn] at this
 have HG:=Lib.hid GA;clear A0 GA hn;unfold rec4;unfold Ad.addr at *
 go_enter Tryz.func64,Tryz.ntmps64
 have AC:=S0.out;have a0:=row_cell AC.adr 0;have a1:=row_cell AC.adr 1;have a2:=row_cell AC.adr 2;clear AC;go_wp2_with fail;generalize (((w.alloc (.cells #[.int .i64 o,.int .i64 f,.int .i64 r] 137)).alloc (.cells #[.int .u8 x.1,.int .u8 x.2.1,.int .u8 x.2.2.1,.int .u8 x.2.2.2] 96)).alloc (.cells #[.int .u8 0,.int .u8 0,.int .u8 0,.int .u8 0] 96))=W at *;refine (HG.out _).mono ?_;rintro e w1 ⟨rfl,b1⟩;have S2:=Lib.hid (S0.out.mono b1);clear b1 HG S0 a0 a1 a2;have d0:w1.cell? ⟨w.heap.size+2,0,none⟩=some (.int .u8 0):=row_cell S2.out.res 0;have d1:w1.cell? ⟨w.heap.size+2,1,none⟩=some (.int .u8 0):=row_cell S2.out.res 1;have d2:w1.cell? ⟨w.heap.size+2,2,none⟩=some (.int .u8 0):=row_cell S2.out.res 2;have d3:w1.cell? ⟨w.heap.size+2,3,none⟩=some (.int .u8 0):=row_cell S2.out.res 3;have k0:=row_frozen S2.out.res 0;have k1:=row_frozen S2.out.res 1;have k2:=row_frozen S2.out.res 2;have k3:=row_frozen S2.out.res 3;have R3:=Lib.hid (sto4_row S2.out.res z4);have B3:=Lib.hid (sto4_below (o:=0) (r:=z4) S2.out.bel (show w.heap.size≤w.heap.size+2 by omega));clear S2;go_wp2
 (try simp only [Exit.inBlock,Exit.then])
 exact bodyPost_ret (results_rec (p:=6) (r:=7) rfl _ _ (w.heap.size+2) z4 (.int .i64 1) rfl rfl R3.out) rfl ⟨rfl,B3.out⟩
set_option maxHeartbeats 2000000 in
theorem do_no (w:World) (s:Nat) (o f r k:Int) (x:R4) (hg:Glob w) (h5:k≠5) (hn:goodB o f r=true) (ha:∀ W,Below w.heap.size w W→w.heap.size+3≤W.heap.size→Calls Tryz.prog 103 #[.pointer (some ⟨s,0,none⟩),Ad.addr o f r,rec4 x] W (AskNo W f k)) :
 Calls Tryz.prog 64 #[.pointer (some ⟨s,0,none⟩),Ad.addr o f r,rec4 x] w (DoNo w k):=by
 have A0:=ask0_of w o f r x;have S0:Hid (Ask0 w o f r x (((w.alloc (.cells #[.int .i64 o,.int .i64 f,.int .i64 r] 137)).alloc (.cells #[.int .u8 x.1,.int .u8 x.2.1,.int .u8 x.2.2.1,.int .u8 x.2.2.2] 96)).alloc (.cells #[.int .u8 0,.int .u8 0,.int .u8 0,.int .u8 0] 96))):=A0;have HGL:=Lib.hid hg;have H5:=Lib.hid (decide_eq_false h5);clear hg h5;have GA:∀ W,Calls Tryz.prog 102 #[Ad.addr o f r] W fun e w'=>e = .returned (.bool true)∧Below W.heap.size W w':=fun W=>by have:=Ad.good_any W o f r;rwa [hn] at this
 have HG:=Lib.hid GA;have HA:=Lib.hid ha;clear A0 GA hn ha;unfold rec4 at *;unfold Ad.addr at *
 go_enter Tryz.func64,Tryz.ntmps64
 have AC:=S0.out;have a0:=row_cell AC.adr 0;have a1:=row_cell AC.adr 1;have a2:=row_cell AC.adr 2;clear AC;go_wp2_with fail;generalize (((w.alloc (.cells #[.int .i64 o,.int .i64 f,.int .i64 r] 137)).alloc (.cells #[.int .u8 x.1,.int .u8 x.2.1,.int .u8 x.2.2.1,.int .u8 x.2.2.2] 96)).alloc (.cells #[.int .u8 0,.int .u8 0,.int .u8 0,.int .u8 0] 96))=W at *;refine (HG.out _).mono ?_;rintro e w1 ⟨rfl,b1⟩;have S1:=Lib.hid (S0.out.mono b1);clear b1 HG S0 a0 a1 a2;have a0:w1.cell? ⟨w.heap.size,0,none⟩=some (.int .i64 o):=row_cell S1.out.adr 0;have a1:w1.cell? ⟨w.heap.size,1,none⟩=some (.int .i64 f):=row_cell S1.out.adr 1;have a2:w1.cell? ⟨w.heap.size,2,none⟩=some (.int .i64 r):=row_cell S1.out.adr 2;have x0:w1.cell? ⟨w.heap.size+1,0,none⟩=some (.int .u8 x.1):=row_cell S1.out.arg 0;have x1:w1.cell? ⟨w.heap.size+1,1,none⟩=some (.int .u8 x.2.1):=row_cell S1.out.arg 1;have x2:w1.cell? ⟨w.heap.size+1,2,none⟩=some (.int .u8 x.2.2.1):=row_cell S1.out.arg 2;have x3:w1.cell? ⟨w.heap.size+1,3,none⟩=some (.int .u8 x.2.2.2):=row_cell S1.out.arg 3;go_wp2_with fail;refine (HA.out w1 S1.out.bel S1.out.siz).mono ?_;rintro e w2 ⟨rfl,b2⟩;have B2:=Lib.hid (((Below.refl w2.heap.size w2).alloc (Nat.le_refl _) (.cells #[.int .u8 0,.int .u8 0,.int .u8 0,.int .u8 0] 96)));have S2:=Lib.hid ((S1.out.mono b2).mono B2.out);clear b2 S1 a0 a1 a2 x0 x1 x2 x3 HA;unfold rec4 z4 fault flt;go_wp2_with fail;clear B2;generalize (w2.alloc (.cells #[.int .u8 0,.int .u8 0,.int .u8 0,.int .u8 0] 96))=W2 at *;have IS:=Lib.hid (is_any f k W2);rw [H5.out] at IS;unfold fault flt at IS;refine IS.out.mono ?_;rintro e w4 ⟨rfl,b4⟩;have S4:=Lib.hid (S2.out.mono b4);clear b4 IS S2;go_wp2_with fail;have NU:=number_any f k w4 (HGL.out.below S4.out.bel);unfold fault flt at NU;refine NU.mono ?_;rintro e w5 ⟨rfl,b5⟩;have S5:=Lib.hid (S4.out.mono b5);clear b5 S4 NU;have d0:w5.cell? ⟨w.heap.size+2,0,none⟩=some (.int .u8 0):=row_cell S5.out.res 0;have d1:w5.cell? ⟨w.heap.size+2,1,none⟩=some (.int .u8 0):=row_cell S5.out.res 1;have d2:w5.cell? ⟨w.heap.size+2,2,none⟩=some (.int .u8 0):=row_cell S5.out.res 2;have d3:w5.cell? ⟨w.heap.size+2,3,none⟩=some (.int .u8 0):=row_cell S5.out.res 3;have k0:=row_frozen S5.out.res 0;have k1:=row_frozen S5.out.res 1;have k2:=row_frozen S5.out.res 2;have k3:=row_frozen S5.out.res 3;have R3:=Lib.hid (sto4_row S5.out.res z4);have B3:=Lib.hid (sto4_below (o:=0) (r:=z4) S5.out.bel (show w.heap.size≤w.heap.size+2 by omega));clear S5;go_wp2
 (try simp only [Exit.inBlock,Exit.then])
 exact bodyPost_ret (results_rec (p:=6) (r:=7) rfl _ _ (w.heap.size+2) z4 (.int .i64 k) rfl rfl R3.out) rfl ⟨rfl,B3.out⟩
set_option maxHeartbeats 2000000 in
theorem do_5 {w:World} {s:Nat} {F:Nat→Prop} {m:Value} {C:List Ent} {d:Int} (S:Sto w s F m C d) (o f r:Int) (x:R4) (hg:Glob w) (h0:¬ F 0) (hd:0≤d∧d < 1000000) (hn:goodB o f r=true) (ha:∀ W,Below w.heap.size w W→w.heap.size+3≤W.heap.size→Calls Tryz.prog 103 #[.pointer (some ⟨s,0,none⟩),Ad.addr o f r,rec4 x] W (AskNo W f 5)) :
 Calls Tryz.prog 64 #[.pointer (some ⟨s,0,none⟩),Ad.addr o f r,rec4 x] w (DoSPost w s F (d+1) z4 5 (C.map Ent.abs)):=by
 have A0:=ask0_of w o f r x;have S0:Hid (Ask0 w o f r x (((w.alloc (.cells #[.int .i64 o,.int .i64 f,.int .i64 r] 137)).alloc (.cells #[.int .u8 x.1,.int .u8 x.2.1,.int .u8 x.2.2.1,.int .u8 x.2.2.2] 96)).alloc (.cells #[.int .u8 0,.int .u8 0,.int .u8 0,.int .u8 0] 96))):=A0;have HGL:=Lib.hid hg;have SS:=Lib.hid S;have HF0:=Lib.hid h0;have W0:IntKind.i64.wrap (d+1)=d+1:=IntWalk.i64_in _ (by omega);clear hg S h0 hd;have GA:∀ W,Calls Tryz.prog 102 #[Ad.addr o f r] W fun e w'=>e = .returned (.bool true)∧Below W.heap.size W w':=fun W=>by have:=Ad.good_any W o f r;rwa [hn] at this
 have HG:=Lib.hid GA;have HA:=Lib.hid ha;clear A0 GA hn ha;unfold rec4 at *;unfold Ad.addr at *
 go_enter Tryz.func64,Tryz.ntmps64
 have AC:=S0.out;have a0:=row_cell AC.adr 0;have a1:=row_cell AC.adr 1;have a2:=row_cell AC.adr 2;clear AC;go_wp2_with fail;generalize (((w.alloc (.cells #[.int .i64 o,.int .i64 f,.int .i64 r] 137)).alloc (.cells #[.int .u8 x.1,.int .u8 x.2.1,.int .u8 x.2.2.1,.int .u8 x.2.2.2] 96)).alloc (.cells #[.int .u8 0,.int .u8 0,.int .u8 0,.int .u8 0] 96))=W at *;refine (HG.out _).mono ?_;rintro e w1 ⟨rfl,b1⟩;have S1:=Lib.hid (S0.out.mono b1);clear b1 HG S0 a0 a1 a2;have a0:w1.cell? ⟨w.heap.size,0,none⟩=some (.int .i64 o):=row_cell S1.out.adr 0;have a1:w1.cell? ⟨w.heap.size,1,none⟩=some (.int .i64 f):=row_cell S1.out.adr 1;have a2:w1.cell? ⟨w.heap.size,2,none⟩=some (.int .i64 r):=row_cell S1.out.adr 2;have x0:w1.cell? ⟨w.heap.size+1,0,none⟩=some (.int .u8 x.1):=row_cell S1.out.arg 0;have x1:w1.cell? ⟨w.heap.size+1,1,none⟩=some (.int .u8 x.2.1):=row_cell S1.out.arg 1;have x2:w1.cell? ⟨w.heap.size+1,2,none⟩=some (.int .u8 x.2.2.1):=row_cell S1.out.arg 2;have x3:w1.cell? ⟨w.heap.size+1,3,none⟩=some (.int .u8 x.2.2.2):=row_cell S1.out.arg 3;go_wp2_with fail;refine (HA.out w1 S1.out.bel S1.out.siz).mono ?_;rintro e w2 ⟨rfl,b2⟩;have B2:=Lib.hid (((Below.refl w2.heap.size w2).alloc (Nat.le_refl _) (.cells #[.int .u8 0,.int .u8 0,.int .u8 0,.int .u8 0] 96)));have S2:=Lib.hid ((S1.out.mono b2).mono B2.out);clear b2 S1 a0 a1 a2 x0 x1 x2 x3 HA;unfold rec4 z4 fault flt;go_wp2_with fail;clear B2;generalize (w2.alloc (.cells #[.int .u8 0,.int .u8 0,.int .u8 0,.int .u8 0] 96))=W2 at *;have IS:=Lib.hid (is_any f 5 W2);rw [show decide ((5:Int)=5)=true from rfl] at IS;unfold fault flt at IS;refine IS.out.mono ?_;rintro e w4 ⟨rfl,b4⟩;have S4:=Lib.hid (S2.out.mono b4);clear b4 IS S2;have T4:=SS.out.below S4.out.bel;have c1:w4.cell? ⟨s,1,none⟩=some (.int .i64 d):=row_cell T4.row 1;have f1:w4.frozen? ⟨s,1,none⟩=false:=row_frozen T4.row 1;obtain ⟨t5,t6⟩:=T4.count (d+1);have T5:=Lib.hid t5;have O5:=Lib.hid t6;have GL5:Hid (Glob (w4.setCell ⟨s,1,none⟩ (.int .i64 (d+1)))):=(HGL.out.below S4.out.bel).only HF0.out t6;have N5:Hid (Ask0 w o f r x (w4.setCell ⟨s,1,none⟩ (.int .i64 (d+1))))∨True:=.inr trivial;have hsl:=SS.out.low s SS.out.foot;have A5:Hid ((w4.setCell ⟨s,1,none⟩ (.int .i64 (d+1))).heap[w.heap.size+2]? = some (.cells (arr4 z4) 96 (0,0))):=(Below.heap_setCell w4 ⟨s,1,none⟩ _ _ (by show w.heap.size+2≠s;omega)).trans S4.out.res;have BB:Hid (Only F w (w4.setCell ⟨s,1,none⟩ (.int .i64 (d+1)))):=(Only.of_below S4.out.bel).trans t6 fun _ _ g=>g;clear T4 t5 t6 N5 S4;go_wp2_with fail;clear c1 f1;generalize w4.setCell ⟨s,1,none⟩ (.int .i64 (d+1))=w5 at *;have NU:=number_any f 5 w5 GL5.out;unfold fault flt at NU;refine NU.mono ?_;rintro e w6 ⟨rfl,b6⟩;have T6:=Lib.hid (T5.out.below b6);have A6:=Lib.hid ((b6.block _ (lt_of_block A5.out)).trans A5.out);have O6:=Lib.hid (BB.out.then b6);clear b6 NU T5 A5 BB O5;have d0:w6.cell? ⟨w.heap.size+2,0,none⟩=some (.int .u8 0):=row_cell A6.out 0;have d1:w6.cell? ⟨w.heap.size+2,1,none⟩=some (.int .u8 0):=row_cell A6.out 1;have d2:w6.cell? ⟨w.heap.size+2,2,none⟩=some (.int .u8 0):=row_cell A6.out 2;have d3:w6.cell? ⟨w.heap.size+2,3,none⟩=some (.int .u8 0):=row_cell A6.out 3;have k0:=row_frozen A6.out 0;have k1:=row_frozen A6.out 1;have k2:=row_frozen A6.out 2;have k3:=row_frozen A6.out 3;have R3:=Lib.hid (sto4_row A6.out z4);have O7:Only F w (sto4 w6 (w.heap.size+2) 0 z4):=O6.out.trans (o_sto4 w6 (w.heap.size+2) z4) fun k hk e=>by omega
 have FIN:Hid (DoSPost w s F (d+1) z4 5 (C.map Ent.abs) (.returned (.tuple #[rec4 z4,.int .i64 5])) (sto4 w6 (w.heap.size+2) 0 z4)):=⟨rfl,⟨m,C,(T6.out.only (G:=fun k=>k=w.heap.size+2) (fun k hk e=>by have:=SS.out.low k hk;omega) (o_sto4 w6 (w.heap.size+2) z4)).wide (fun k hk=>.inl hk) (Fx.low SS.out.low O7.size),rfl⟩,O7⟩;clear A6 O6 O7 T6;go_wp2
 (try simp only [Exit.inBlock,Exit.then])
 exact bodyPost_ret (results_rec (p:=6) (r:=7) rfl _ _ (w.heap.size+2) z4 (.int .i64 5) rfl rfl R3.out) rfl FIN.out
set_option maxHeartbeats 2000000 in
theorem do_yes (w:World) (s:Nat) (F:Nat→Prop) (d:Int) (A':Abs) (y:R4) (o f r:Int) (x:R4) (hF:∀ k,F k→k < w.heap.size) (hn:goodB o f r=true) (ha:∀ W,Below w.heap.size w W→w.heap.size+3≤W.heap.size→Calls Tryz.prog 103 #[.pointer (some ⟨s,0,none⟩),Ad.addr o f r,rec4 x] W (AskYes W s F d y A')) :
 Calls Tryz.prog 64 #[.pointer (some ⟨s,0,none⟩),Ad.addr o f r,rec4 x] w (DoSPost w s F d y 0 A'):=by
 have A0:=ask0_of w o f r x;have S0:Hid (Ask0 w o f r x (((w.alloc (.cells #[.int .i64 o,.int .i64 f,.int .i64 r] 137)).alloc (.cells #[.int .u8 x.1,.int .u8 x.2.1,.int .u8 x.2.2.1,.int .u8 x.2.2.2] 96)).alloc (.cells #[.int .u8 0,.int .u8 0,.int .u8 0,.int .u8 0] 96))):=A0;have HF:=Lib.hid hF;clear hF;have GA:∀ W,Calls Tryz.prog 102 #[Ad.addr o f r] W fun e w'=>e = .returned (.bool true)∧Below W.heap.size W w':=fun W=>by have:=Ad.good_any W o f r;rwa [hn] at this
 have HG:=Lib.hid GA;have HA:=Lib.hid ha;clear A0 GA hn ha;unfold rec4 at *;unfold Ad.addr at *
 go_enter Tryz.func64,Tryz.ntmps64
 have AC:=S0.out;have a0:=row_cell AC.adr 0;have a1:=row_cell AC.adr 1;have a2:=row_cell AC.adr 2;clear AC;go_wp2_with fail;generalize (((w.alloc (.cells #[.int .i64 o,.int .i64 f,.int .i64 r] 137)).alloc (.cells #[.int .u8 x.1,.int .u8 x.2.1,.int .u8 x.2.2.1,.int .u8 x.2.2.2] 96)).alloc (.cells #[.int .u8 0,.int .u8 0,.int .u8 0,.int .u8 0] 96))=W at *;refine (HG.out _).mono ?_;rintro e w1 ⟨rfl,b1⟩;have S1:=Lib.hid (S0.out.mono b1);clear b1 HG S0 a0 a1 a2;have a0:w1.cell? ⟨w.heap.size,0,none⟩=some (.int .i64 o):=row_cell S1.out.adr 0;have a1:w1.cell? ⟨w.heap.size,1,none⟩=some (.int .i64 f):=row_cell S1.out.adr 1;have a2:w1.cell? ⟨w.heap.size,2,none⟩=some (.int .i64 r):=row_cell S1.out.adr 2;have x0:w1.cell? ⟨w.heap.size+1,0,none⟩=some (.int .u8 x.1):=row_cell S1.out.arg 0;have x1:w1.cell? ⟨w.heap.size+1,1,none⟩=some (.int .u8 x.2.1):=row_cell S1.out.arg 1;have x2:w1.cell? ⟨w.heap.size+1,2,none⟩=some (.int .u8 x.2.2.1):=row_cell S1.out.arg 2;have x3:w1.cell? ⟨w.heap.size+1,3,none⟩=some (.int .u8 x.2.2.2):=row_cell S1.out.arg 3;go_wp2_with fail;refine (HA.out w1 S1.out.bel S1.out.siz).mono ?_;rintro e w2 ⟨rfl,t2,o2⟩;have hwl:w.heap.size+3≤w2.heap.size:=Nat.le_trans S1.out.siz o2.size;have RW:w2.heap[w.heap.size+2]? = some (.cells (arr4 z4) 96 (0,0)):=(o2.block _ (by have:=S1.out.siz;omega) (fun g=>by have:=HF.out _ g;omega)).trans S1.out.res;obtain ⟨g1,g2,g3⟩:=box_rec w2 y;have B2:=Lib.hid g2;have T2:=Lib.hid (t2.below g2);have A6:Hid ((w2.alloc (.cells (arr4 y) 96)).heap[w.heap.size+2]? = some (.cells (arr4 z4) 96 (0,0))):=(g2.block _ (by omega)).trans RW;have Y6:=Lib.hid g1;have hF2:Hid (∀ k,Fx F w1 w2 k→k≠w.heap.size+2∧(F k∨w.heap.size≤k)):=fun k hk=>by
  have:=S1.out.siz
  rcases hk with hk | ⟨hk,_⟩
  ·have:=HF.out k hk
   exact ⟨by omega,.inl hk⟩
  ·exact ⟨by omega,.inr (by omega)⟩
 have O6:Hid (Only F w (w2.alloc (.cells (arr4 y) 96))):=((Only.of_below S1.out.bel).trans o2 fun _ _ g=>g).then g2;clear g1 g2 g3 t2 o2 S1 a0 a1 a2 x0 x1 x2 x3 HA RW B2;unfold rec4;have Y4:Hid (arr4 y=#[.int .u8 y.1,.int .u8 y.2.1,.int .u8 y.2.2.1,.int .u8 y.2.2.2]):=rfl;rw [Y4.out] at T2 A6 Y6 O6;have y0:(w2.alloc (.cells #[.int .u8 y.1,.int .u8 y.2.1,.int .u8 y.2.2.1,.int .u8 y.2.2.2] 96)).cell? ⟨w2.heap.size,0,none⟩=some (.int .u8 y.1):=row_cell Y6.out 0;go_upto_region 5 with fail;clear y0;generalize (w2.alloc (.cells #[.int .u8 y.1,.int .u8 y.2.1,.int .u8 y.2.2.1,.int .u8 y.2.2.2] 96))=w6 at *;have y0:w6.cell? ⟨w2.heap.size,0,none⟩=some (.int .u8 y.1):=row_cell Y6.out 0;have y1:w6.cell? ⟨w2.heap.size,1,none⟩=some (.int .u8 y.2.1):=row_cell Y6.out 1;have y2:w6.cell? ⟨w2.heap.size,2,none⟩=some (.int .u8 y.2.2.1):=row_cell Y6.out 2;have y3:w6.cell? ⟨w2.heap.size,3,none⟩=some (.int .u8 y.2.2.2):=row_cell Y6.out 3;have d0:w6.cell? ⟨w.heap.size+2,0,none⟩=some (.int .u8 0):=row_cell A6.out 0;have d1:w6.cell? ⟨w.heap.size+2,1,none⟩=some (.int .u8 0):=row_cell A6.out 1;have d2:w6.cell? ⟨w.heap.size+2,2,none⟩=some (.int .u8 0):=row_cell A6.out 2;have d3:w6.cell? ⟨w.heap.size+2,3,none⟩=some (.int .u8 0):=row_cell A6.out 3;have k0:=row_frozen A6.out 0;have k1:=row_frozen A6.out 1;have k2:=row_frozen A6.out 2;have k3:=row_frozen A6.out 3;have R3:=Lib.hid (sto4_row A6.out y);have O7:Only F w (sto4 w6 (w.heap.size+2) 0 y):=O6.out.trans (o_sto4 w6 (w.heap.size+2) y) fun k hk e=>by omega
 have FIN:Hid (DoSPost w s F d y 0 A' (.returned (.tuple #[rec4 y,.int .i64 0])) (sto4 w6 (w.heap.size+2) 0 y)):=by
  have T7:=T2.out.only (G:=fun k=>k=w.heap.size+2) (fun k hk e=>(hF2.out k hk).1 e) (o_sto4 w6 (w.heap.size+2) y);refine ⟨rfl,T7.wide (fun k hk=>?_) (Fx.low HF.out O7.size),O7⟩
  rcases (hF2.out k hk).2 with h | h
  ·exact .inl h
  ·exact .inr ⟨h,T7.low k hk⟩
 clear A6 O6 O7 T2 hF2;go_wp2
 (try simp only [Exit.inBlock,Exit.then])
 exact bodyPost_ret (results_rec (p:=6) (r:=7) rfl _ _ (w.heap.size+2) y (.int .i64 0) rfl rfl R3.out) rfl FIN.out
theorem dos_any {w:World} {s:Nat} {F:Nat→Prop} {A:Abs} {d:Int} (S:St w s F A d) (hg:Glob w) (h0:¬ F 0) (hd:0≤d∧d < 1000000) (o f r:Int) (x:R4) (hx:okR x) :
 Calls Tryz.prog 64 #[.pointer (some ⟨s,0,none⟩),Ad.addr o f r,rec4 x] w (DoSPost w s F (dD A o f r d) (dV A o f r x) (dE A o f r) (dA A o f r x)):=by
 obtain ⟨m,C,h,rfl⟩:=S;have no:∀ k e w',dE (C.map Ent.abs) o f r=k→k≠0→k≠5→DoNo w k e w'→DoSPost w s F (dD (C.map Ent.abs) o f r d) (dV (C.map Ent.abs) o f r x) (dE (C.map Ent.abs) o f r) (dA (C.map Ent.abs) o f r x) e w':=fun k e w' hk h0 h5 ⟨he,b⟩=>by
  have e1:dV (C.map Ent.abs) o f r x=z4:=by unfold dV;split;rfl;rw [hk,if_neg h0]
  have e2:dA (C.map Ent.abs) o f r x=C.map Ent.abs:=by unfold dA;split;rfl;rw [hk,if_neg h0]
  have e3:dD (C.map Ent.abs) o f r d=d:=by unfold dD;rw [hk,if_neg h5]
  rw [e1,e2,e3,hk];exact ⟨he,St.fx ⟨m,C,h,rfl⟩ b,Only.of_below b⟩
 cases hn:goodB o f r with
 | false=>exact (do_1 w s o f r x hn).mono fun e w'=>no 1 e w' (by unfold dE;rw [if_neg (by rw [hn];decide)]) (by decide) (by decide)
 | true =>
   by_cases hz:dE (C.map Ent.abs) o f r=0
   ·have e3:dD (C.map Ent.abs) o f r d=d:=by unfold dD;rw [hz,if_neg (by decide)]
    rw [e3,hz];refine do_yes w s F d _ _ o f r x h.low hn fun W hb _=>?_
    rcases ask_any (h.below hb) o f r x hx hn with ⟨k,h1,h2,_⟩ | ⟨_,h3⟩
    ·exact absurd (h2.symm.trans hz) h1
    ·exact h3
   ·have ask:∀ W,Below w.heap.size w W→w.heap.size+3≤W.heap.size→Calls Tryz.prog 103 #[.pointer (some ⟨s,0,none⟩),Ad.addr o f r,rec4 x] W (AskNo W f (dE (C.map Ent.abs) o f r)):=fun W hb _=>by
     rcases ask_any (h.below hb) o f r x hx hn with ⟨k,h1,h2,h3⟩ | ⟨h3,_⟩
     ·rw [h2];exact h3
     ·exact absurd h3 hz
    by_cases h5:dE (C.map Ent.abs) o f r=5
    ·have e1:dV (C.map Ent.abs) o f r x=z4:=by unfold dV;split;rfl;rw [h5,if_neg (by decide)]
     have e2:dA (C.map Ent.abs) o f r x=C.map Ent.abs:=by unfold dA;split;rfl;rw [h5,if_neg (by decide)]
     have e3:dD (C.map Ent.abs) o f r d=d+1:=by unfold dD;rw [h5,if_pos rfl]
     rw [e1,e2,e3];rw [h5] at ask ⊢;exact do_5 h o f r x hg h0 hd hn ask
    ·exact (do_no w s o f r _ x hg h5 hn ask).mono fun e w'=>no _ e w' rfl hz h5
end Go.Proofs.YtpkipilggkbkeaaGreatDoor.Fs
namespace Go.Proofs.YtpkipilggkbkeaaGreatDoor.Fl
open Go.RowKit
open Rw (Rd Ow At)
def FewPost (w:World) (p:Int) (l:List R4) (e:Ending) (w':World):Prop:=∃ u,e = .returned (file p u)∧Rd K4 w' u (l.take 260)∧Below w.heap.size w w'
end Go.Proofs.YtpkipilggkbkeaaGreatDoor.Fl
namespace Go.Proofs.YtpkipilggkbkeaaGreatDoor.Fs
open Go.RowKit Go.Maps
open Fl (R4 z4 K4 rec4 rat goodF goodFB okR okL file arr4 hdr newL newP row_cell row_frozen NewPost ret_bool eq_rec)
open Rw (Rd Ow At)
set_option maxRecDepth 100000
def FewPost (w:World) (p:Int) (v:Value) (l:List R4) (e:Ending) (w':World):Prop:=∃ u,e = .returned (file p u)∧Rd K4 w' u (l.take 260)∧u.ownBlock=v.ownBlock∧(∀ a n cap,v = .slice a n cap→u = .slice a (min n 260) cap)∧Below w.heap.size w w'
def L0:List R4:=[(3,2,165,164),z4,z4,z4]
def L1:List R4:=[(3,2,165,164),z4,(9,0,0,0),z4]
def A0:Abs:=[(7,2,L0)]
def A1:Abs:=[(7,2,L1)]
theorem new_st (w:World):St (w.alloc (.cells #[.map none,.int .i64 0] 91)) w.heap.size (fun k=>k=w.heap.size) [] 0 :=
 ⟨.map none,[],⟨heap_alloc_new w _,rfl,.inl ⟨rfl,rfl⟩,nofun,nofun,List.Pairwise.nil,OkA.nil,fun k hk=>by subst hk;simp⟩,rfl⟩
structure Aw (w:World) (s:Nat) (F:Nat→Prop) (A:Abs) (d:Int) (W:World):Prop where
 st:St W s F A d
 lo:∀ k,F k→w.heap.size≤k
 bel:Below w.heap.size w W
theorem Aw.next {w W W':World} {s:Nat} {F:Nat→Prop} {A A':Abs} {d d':Int} (h:Aw w s F A d W) (st:St W' s (Fx F W W') A' d') (o:Only F W W'):Aw w s (Fx F W W') A' d' W' :=
 ⟨st,fun k hk=>by
  rcases hk with hk | ⟨hk,_⟩
  ·exact h.lo k hk
  ·have:=h.bel.size;omega,h.bel.trans (o.below h.bel.size h.lo)⟩
theorem Aw.below {w W W':World} {s:Nat} {F:Nat→Prop} {A:Abs} {d:Int} (h:Aw w s F A d W) (b:Below W.heap.size W W'):Aw w s F A d W':=⟨h.st.below b,h.lo,h.bel.trans (b.mono h.bel.size)⟩
def Loc (F:Nat→Prop) (W:World) (g:Nat) (cs:Array Value) (t:TypeId):Prop:=W.heap[g]? = some (.cells cs t (0,0))∧¬ F g
theorem Loc.only {F:Nat→Prop} {W W':World} {g:Nat} {cs:Array Value} {t:TypeId} (h:Loc F W g cs t) (o:Only F W W'):Loc (Fx F W W') W' g cs t:=⟨(o.block g (lt_of_block h.1) h.2).trans h.1,Fx.not h.2 (lt_of_block h.1)⟩
theorem Loc.below {F:Nat→Prop} {W W':World} {g:Nat} {cs:Array Value} {t:TypeId} (h:Loc F W g cs t) (b:Below W.heap.size W W'):Loc F W' g cs t:=⟨(b.block g (lt_of_block h.1)).trans h.1,h.2⟩
theorem Loc.new {F:Nat→Prop} {W:World} (hF:∀ k,F k→k < W.heap.size) (cs:Array Value) (t:TypeId):Loc F (W.alloc (.cells cs t)) W.heap.size cs t:=⟨heap_alloc_new W _,fun h=>by have:=hF _ h;omega⟩
theorem get_st {w:World} {s:Nat} {F:Nat→Prop} {A:Abs} {d:Int} (S:St w s F A d) {n:Int} (hn:Wf n) (r:Int):Calls Tryz.prog 40 #[.pointer (some ⟨s,0,none⟩),.int .i64 n,.int .i64 r] w (GetPost w (gV A n r) (gB A n r)):=by
 obtain ⟨m,C,h,rfl⟩:=S;exact get_any h hn r
theorem denied_st {w:World} {s:Nat} {F:Nat→Prop} {A:Abs} {d:Int} (S:St w s F A d):Calls Tryz.prog 12 #[.pointer (some ⟨s,0,none⟩)] w fun e w'=>e = .returned (.int .i64 d)∧Below w.heap.size w w':=by
 obtain ⟨m,C,h,_⟩:=S;exact denied_any h
theorem below_new (W:World) (o:Obj):Below W.heap.size W (W.alloc o):=(Below.refl _ W).alloc (Nat.le_refl _) o
end Go.Proofs.YtpkipilggkbkeaaGreatDoor.Fs
namespace Go.Proofs.YtpkipilggkbkeaaGreatDoor.Fs
open Go.RowKit Go.Maps
open Fl (R4 z4 K4 rec4 rat goodF goodFB okR okL file arr4 row_cell row_frozen)
open Rw (Rd Ow At)
set_option maxRecDepth 100000
structure De where
 k:Int
 o:Int
 f:Int
 r:Int
 x:R4
 p:Int
 a:Option Addr
 cap:Nat
 l:List R4
def De.cells (D:De):List Value:=[.int .u8 D.k,.int .i64 D.o,.int .i64 D.f,.int .i64 D.r,.int .u8 D.x.1,.int .u8 D.x.2.1,.int .u8 D.x.2.2.1,.int .u8 D.x.2.2.2,.int .i64 D.p,.slice D.a D.l.length D.cap]
def De.sl (D:De):Value:=.slice D.a D.l.length D.cap
end Go.Proofs.YtpkipilggkbkeaaGreatDoor.Fs
