/- The statement WholeBit of the whole,proved: it returns true for every input that can be read,and every argument reads as it did;the variables fire.codes and errors.errorType are tied to the text of the program. No other condition. -/
import Derived.Test.YtljnkaodhfnbbaaGreatDoorRows
import Derived.Test.YtljnkaodhfnbbaaGreatDoorCards
import Derived.Test.YtljnkaodhfnbbaaGreatDoorTie
import Derived.Test.YtljnkaodhfnbbaaGreatDoorPb1
import Derived.Test.YtljnkaodhfnbbaaGreatDoorPb4
import Derived.Test.YtljnkaodhfnbbaaGreatDoorPb10
import Derived.ChangeSame
import Derived.ChangeVars
import Derived.JoinedOf
import Derived.ProofKit
import Derived.OpenShut
import Derived.ChangeOld
import Derived.Deep.SlicePairs
import Derived.SevenTiedAt
set_option maxRecDepth 100000
namespace Go.Proofs.YtljnkaodhfnbbaaGreatDoor.Fs
open Go.ChangeShapes Go.WideShapes Go.ChangeAt Go.RowKit Go.Deep
theorem own:ownKnob Tryz.prog.godebug=none:=by kernel_rfl
theorem laidOut:laidOutB Tryz.prog=true:=by kernel_rfl
set_option maxRecDepth 100000 in
theorem wbit_lifted (os:Os) (started:os.Started) (H:Type) (enc:TypeId×Value→H) :
 ReturnsInHanded {} Tryz.checked os 10 .any (fun w args=>(Rows.wholeBitSpec.pre enc Tryz.prog Tryz.f10 Rows.wholeBitRow.domain false w args∧laidMetH Tryz.prog laid2 w)∧sizedMet enc Tryz.prog Tryz.f10 (OpenSpec.ofChange Rows.wholeBitSpec) false w args) (Rows.wholeBitSpec.post enc Tryz.prog Tryz.f10 false true false false):=by
 refine returnsInHanded_of_change_and (C:=Tryz.checked) (X:=fun w _=>laidMetH Tryz.prog laid2 w) (fun _ _ _ hh h=>h.of_heap hh) own started (by kernel_rfl) Tryz.func10
  (ChangeSpec.witness_shaped (enc:=enc) (C:=Tryz.checked) (os:=os) (X:=fun w _=>laidMetH Tryz.prog laid2 w) false (laidWorld2 os) #[.slice none 0 0,.slice none 0 0,.int .u32 0,.int .u8 0,.bool false,.int .i64 0,.int .i64 0] 8 rfl (World.shaped_of_RefB (by kernel_rfl) (by kernel_rfl)) (by kernel_rfl) (by kernel_rfl) (by kernel_rfl) (laidWorld2_met os _)) ?_
 intro W base args ds gs before hval0 hW _ _ hL _
 have hval:∀ (j:Nat) t v,Tryz.f10.params[j]? = some t→args[j]? = some v→Value.okWide Tryz.prog W .any base t v:=hval0;have hW':=hW;obtain ⟨p,q,hA0,hV,rfl,hfz,hnd⟩:=hW;have hA:DataW.TrodAll enc Tryz.prog W 0 (fun _=>true) true Tryz.f10.params.toList args.toList ds p:=hA0;rw [Tryz.params10] at hA hval;obtain ⟨v0,vs0,d0,ds0,p0,q0,hargs,rfl,rfl,h0,r0⟩:=trodAll_cons hA;obtain ⟨v1,vs1,d1,ds1,p1,q1,rfl,rfl,rfl,h1,r1⟩:=trodAll_cons r0;obtain ⟨v2,vs2,d2,ds2,p2,q2,rfl,rfl,rfl,h2,r2⟩:=trodAll_cons r1;obtain ⟨v3,vs3,d3,ds3,p3,q3,rfl,rfl,rfl,h3,r3⟩:=trodAll_cons r2;obtain ⟨v4,vs4,d4,ds4,p4,q4,rfl,rfl,rfl,h4,r4⟩:=trodAll_cons r3;obtain ⟨v5,vs5,d5,ds5,p5,q5,rfl,rfl,rfl,h5,r5⟩:=trodAll_cons r4;obtain ⟨v6,vs6,d6,ds6,p6,q6,rfl,rfl,rfl,h6,r6⟩:=trodAll_cons r5;obtain ⟨rfl,rfl,rfl⟩:=trodAll_nil r6;obtain rfl:args=#[v0,v1,v2,v3,v4,v5,v6]:=by cases args;simp_all
 obtain ⟨rfl,rfl⟩:=trodVars_none hV;have lt0:∀ x∈p0,x.block < W.heap.size:=by obtain ⟨m,hm⟩:=h0;exact DataW.trod_lt m _ _ _ hm
 obtain ⟨n0,A0,R0,S0⟩:=Tk.steps_of (hval 0 103 v0 rfl rfl) h0;have lt1:∀ x∈p1,x.block < W.heap.size:=by obtain ⟨m,hm⟩:=h1;exact DataW.trod_lt m _ _ _ hm
 obtain ⟨n1,A1,R1,S1⟩:=Tk.steps_of (hval 1 103 v1 rfl rfl) h1;obtain ⟨a2,rfl,rfl,rfl,w2⟩:=open_int Tryz.underlying105 (hval 2 105 v2 rfl rfl) h2;obtain ⟨a3,rfl,rfl,rfl,w3⟩:=open_int Tryz.underlying5 (hval 3 5 v3 rfl rfl) h3;obtain ⟨a4,rfl,rfl,rfl⟩:=open_bool Tryz.underlying4 (hval 4 4 v4 rfl rfl) h4;obtain ⟨a5,rfl,rfl,rfl,w5⟩:=open_int Tryz.underlying3 (hval 5 3 v5 rfl rfl) h5;obtain ⟨a6,rfl,rfl,rfl,w6⟩:=open_int Tryz.underlying3 (hval 6 3 v6 rfl rfl) h6;have k2:=bounds_u32 w2;have k3:=bounds_u8 w3;have T:=both_of hL;clear hA0 hval0 hL;refine (Wb.wbit_any T.2 T.1 v0 v1 n0 n1 A0 R0 A1 R1 S0 S1 a2 a3 (by omega) (by omega) (by omega) (by omega) a4 a5 a6).mono fun e W' ⟨he,bel⟩=>?_;subst he;exact ⟨_,rfl,_,_,_,[],_,[],hW',trodAll_mk1 (shut_bool Tryz.underlying4 _),(trodAll_cons_mk (Below.trod laidOut (by kernel_rfl) (of_decide_eq_true (by kernel_rfl)) h0 bel lt0) (trodAll_cons_mk (Below.trod laidOut (by kernel_rfl) (of_decide_eq_true (by kernel_rfl)) h1 bel lt1) (trodAll_cons_mk (shut_int Tryz.underlying105 w2) (trodAll_cons_mk (shut_int Tryz.underlying5 w3) (trodAll_cons_mk (shut_bool Tryz.underlying4 _) (trodAll_cons_mk (shut_int Tryz.underlying3 w5) (trodAll_cons_mk (shut_int Tryz.underlying3 w6) trodAll_mk0))))))),rfl,bel.frame _,fun h=>by cases h⟩
theorem wbit_jn:Tryz.pinned.checked.prog.funcNamed Rows.wholeBitRow.func=some 10:=by kernel_rfl
theorem wbit_j1:(Rows.wholeBitRow.inPlace == Tryz.pinned.checked.prog.inPlace 10)=true:=by kernel_rfl
theorem wbit_j2:(Rows.wholeBitRow.unfollowed == Tryz.pinned.checked.prog.unfollowed 10)=true:=by kernel_rfl
theorem wbit_j3:(Rows.wholeBitRow.recurses == Tryz.pinned.checked.prog.recurses 10)=true:=by kernel_rfl
theorem wbit_j4:(Rows.wholeBitRow.named == Tryz.pinned.checked.prog.varsNamed 10)=true:=by kernel_rfl
theorem wbit_j5:laidOutB Tryz.pinned.checked.prog=true:=by kernel_rfl
theorem wbit_j6:mapsRowed Tryz.pinned.checked.prog=true:=by kernel_rfl
theorem wbit_j7:joinedFacts Tryz.pinned.checked.prog 10 Tryz.f10 Rows.wholeBitSpec Rows.wholeBitRow=true:=by
 unfold joinedFacts;rw [wbit_j1,wbit_j2,wbit_j3,wbit_j4,wbit_j5,wbit_j6]
 kernel_rfl
theorem wbit_j8:Tryz.f10.isInstance Tryz.pinned.checked.prog Rows.wholeBitRow.origin Rows.wholeBitRow.targs:=by exact of_decide_eq_true (by kernel_rfl)
theorem wbit_j9:Tryz.f10.isWrapper Tryz.pinned.checked.prog Rows.wholeBitRow.wrapper Rows.wholeBitRow.mainSum:=by unfold Func.isWrapper;first | (rw [if_pos (by decide +kernel)];kernel_rfl) | (rw [if_neg (by decide +kernel)];exact ⟨rfl,rfl⟩)
theorem wbit_jh:Rows.wholeBitRow.wfByText (OpenSpec.ofChange Rows.wholeBitSpec)=true:=by kernel_rfl
theorem wbit_jg:false=Rows.wholeBitRow.goesBy Tryz.pinned.checked.prog:=by kernel_rfl
theorem wbit_over:Rows.wholeBitRow.holds Tryz.pinned (OpenSpec.ofChange Rows.wholeBitSpec) :=
 OpenClaim.holds_of_wide 10 Tryz.f10 rfl rfl rfl rfl rfl rfl rfl ⟨rfl,rfl,rfl,rfl,rfl⟩ rfl rfl rfl rfl rfl wbit_jn Tryz.func10 wbit_j7
  wbit_j8 wbit_j9
  (fun os started H enc _=>wbit_lifted os started H enc)
theorem wbit_holds:Rows.WholeBitCardSaid :=
 Claim7.holds_tied_plain_at .later [] [.data,.handle] true _ _ wbit_over (fun _ h=>by cases h) wbit_jh (fun _ h=>by cases h) wholeBit_row_tie rfl ⟨rfl,rfl⟩ (by kernel_rfl) rfl
  (fun f fn hf hfn=>by
    obtain rfl : f = 10 := Option.some.inj ((show Tryz.prog.funcNamed "hayward/haywardtop.WholeBit" = some 10 from wbit_jn).symm.trans hf) |>.symm
    obtain rfl:fn=Tryz.f10:=(Option.some.inj (Tryz.func10.symm.trans hfn)).symm
    exact ⟨by kernel_rfl,fun j t ht=>by
     rw [Tryz.params10] at ht;have hm:t∈[103,103,105,5,4,3,3]:=by simpa using Array.mem_of_getElem? ht
     have hall:([103,103,105,5,4,3,3].all fun u=>!Tryz.prog.wantsStandIn u)=true:=by kernel_rfl
     exact (show Tryz.prog.wantsStandIn t=false by simpa using List.all_eq_true.1 hall t hm)⟩)
  wbit_jg
end Go.Proofs.YtljnkaodhfnbbaaGreatDoor.Fs
