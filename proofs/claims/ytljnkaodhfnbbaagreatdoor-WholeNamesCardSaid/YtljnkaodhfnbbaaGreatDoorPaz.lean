/- The statement WholeNames of the whole,proved: it returns true for every input that can be read,and every argument reads as it did;the variable errors.errorType is tied to the text of the program. No other condition. -/
import Derived.Test.YtljnkaodhfnbbaaGreatDoorRows
import Derived.Test.YtljnkaodhfnbbaaGreatDoorCards
import Derived.Test.YtljnkaodhfnbbaaGreatDoorTie
import Derived.Test.YtljnkaodhfnbbaaGreatDoorPa1
import Derived.Test.YtljnkaodhfnbbaaGreatDoorPa3
import Derived.Test.YtljnkaodhfnbbaaGreatDoorPa11
import Derived.ChangeSame
import Derived.ChangeVars
import Derived.JoinedOf
import Derived.ProofKit
import Derived.OpenShut
import Derived.ChangeOld
import Derived.Deep.SlicePairs
import Derived.SevenTiedAt
set_option maxRecDepth 100000
namespace Go.Proofs.YtljnkaodhfnbbaaGreatDoor.Fs
open Go.ChangeShapes Go.WideShapes Go.ChangeAt Go.RowKit Go.Deep
theorem own:ownKnob Tryz.prog.godebug=none:=by kernel_rfl
theorem laidOut:laidOutB Tryz.prog=true:=by kernel_rfl
set_option maxRecDepth 100000 in
theorem names_lifted (os:Os) (started:os.Started) (H:Type) (enc:TypeId×Value→H) :
 ReturnsInHanded {} Tryz.checked os 11 .any (fun w args=>(Rows.wholeNamesSpec.pre enc Tryz.prog Tryz.f11 Rows.wholeNamesRow.domain false w args∧laidMetH Tryz.prog laid w)∧sizedMet enc Tryz.prog Tryz.f11 (OpenSpec.ofChange Rows.wholeNamesSpec) false w args) (Rows.wholeNamesSpec.post enc Tryz.prog Tryz.f11 false true false false):=by
 refine returnsInHanded_of_change_and (C:=Tryz.checked) (X:=fun w _=>laidMetH Tryz.prog laid w) (fun _ _ _ hh h=>h.of_heap hh) own started (by kernel_rfl) Tryz.func11
  (ChangeSpec.witness_at (enc:=enc) (C:=Tryz.checked) (os:=os) (X:=fun w _=>laidMetH Tryz.prog laid w) false (laidWorld os) #[.slice none 0 0,.int .i64 0,.slice none 0 0] 8 rfl (by kernel_rfl) (by kernel_rfl) (by kernel_rfl) (by kernel_rfl) (by kernel_rfl) (laidWorld_met os _)) ?_
 intro W base args ds gs before hval0 hW _ _ hL _
 have hval:∀ (j:Nat) t v,Tryz.f11.params[j]? = some t→args[j]? = some v→Value.okWide Tryz.prog W .any base t v:=hval0;have hW':=hW;obtain ⟨p,q,hA0,hV,rfl,hfz,hnd⟩:=hW;have hA:DataW.TrodAll enc Tryz.prog W 0 (fun _=>true) true Tryz.f11.params.toList args.toList ds p:=hA0;rw [Tryz.params11] at hA hval;obtain ⟨v0,vs0,d0,ds0,p0,q0,hargs,rfl,rfl,h0,r0⟩:=trodAll_cons hA;obtain ⟨v1,vs1,d1,ds1,p1,q1,rfl,rfl,rfl,h1,r1⟩:=trodAll_cons r0;obtain ⟨v2,vs2,d2,ds2,p2,q2,rfl,rfl,rfl,h2,r2⟩:=trodAll_cons r1;obtain ⟨rfl,rfl,rfl⟩:=trodAll_nil r2;obtain rfl:args=#[v0,v1,v2]:=by cases args;simp_all
 obtain ⟨rfl,rfl⟩:=trodVars_none hV;have lt0:∀ x∈p0,x.block < W.heap.size:=by obtain ⟨m,hm⟩:=h0;exact DataW.trod_lt m _ _ _ hm
 obtain ⟨l0,R0,F0⟩:=Nm.slaves_of (hval 0 122 v0 rfl rfl) h0;obtain ⟨a1,rfl,rfl,rfl,w1⟩:=open_int Tryz.underlying3 (hval 1 3 v1 rfl rfl) h1;have lt2:∀ x∈p2,x.block < W.heap.size:=by obtain ⟨m,hm⟩:=h2;exact DataW.trod_lt m _ _ _ hm
 obtain ⟨l2,R2⟩:=Bp.bools_of (hval 2 35 v2 rfl rfl) h2;have T:=glob_of hL;clear hA0 hval0 hL;refine (Wn.names_law W T v0 v2 l0 l2 a1 R0 F0 R2).mono fun e W' ⟨he,bel⟩=>?_;subst he;exact ⟨_,rfl,_,_,_,[],_,[],hW',trodAll_mk1 (shut_bool Tryz.underlying4 _),(trodAll_cons_mk (Below.trod laidOut (by kernel_rfl) (of_decide_eq_true (by kernel_rfl)) h0 bel lt0) (trodAll_cons_mk (shut_int Tryz.underlying3 w1) (trodAll_cons_mk (Below.trod laidOut (by kernel_rfl) (of_decide_eq_true (by kernel_rfl)) h2 bel lt2) trodAll_mk0))),rfl,bel.frame _,fun h=>by cases h⟩
theorem names_jn:Tryz.pinned.checked.prog.funcNamed Rows.wholeNamesRow.func=some 11:=by kernel_rfl
theorem names_j1:(Rows.wholeNamesRow.inPlace == Tryz.pinned.checked.prog.inPlace 11)=true:=by kernel_rfl
theorem names_j2:(Rows.wholeNamesRow.unfollowed == Tryz.pinned.checked.prog.unfollowed 11)=true:=by kernel_rfl
theorem names_j3:(Rows.wholeNamesRow.recurses == Tryz.pinned.checked.prog.recurses 11)=true:=by kernel_rfl
theorem names_j4:(Rows.wholeNamesRow.named == Tryz.pinned.checked.prog.varsNamed 11)=true:=by kernel_rfl
theorem names_j5:laidOutB Tryz.pinned.checked.prog=true:=by kernel_rfl
theorem names_j6:mapsRowed Tryz.pinned.checked.prog=true:=by kernel_rfl
theorem names_j7:joinedFacts Tryz.pinned.checked.prog 11 Tryz.f11 Rows.wholeNamesSpec Rows.wholeNamesRow=true:=by
 unfold joinedFacts;rw [names_j1,names_j2,names_j3,names_j4,names_j5,names_j6]
 kernel_rfl
theorem names_j8:Tryz.f11.isInstance Tryz.pinned.checked.prog Rows.wholeNamesRow.origin Rows.wholeNamesRow.targs:=by exact of_decide_eq_true (by kernel_rfl)
theorem names_j9:Tryz.f11.isWrapper Tryz.pinned.checked.prog Rows.wholeNamesRow.wrapper Rows.wholeNamesRow.mainSum:=by unfold Func.isWrapper;first | (rw [if_pos (by decide +kernel)];kernel_rfl) | (rw [if_neg (by decide +kernel)];exact ⟨rfl,rfl⟩)
theorem names_jh:Rows.wholeNamesRow.wfByText (OpenSpec.ofChange Rows.wholeNamesSpec)=true:=by kernel_rfl
theorem names_jg:false=Rows.wholeNamesRow.goesBy Tryz.pinned.checked.prog:=by kernel_rfl
theorem names_over:Rows.wholeNamesRow.holds Tryz.pinned (OpenSpec.ofChange Rows.wholeNamesSpec) :=
 OpenClaim.holds_of_wide 11 Tryz.f11 rfl rfl rfl rfl rfl rfl rfl ⟨rfl,rfl,rfl,rfl,rfl⟩ rfl rfl rfl rfl rfl names_jn Tryz.func11 names_j7
  names_j8 names_j9
  (fun os started H enc _=>names_lifted os started H enc)
theorem names_holds:Rows.WholeNamesCardSaid :=
 Claim7.holds_tied_plain_at .later [] [.handle] true _ _ names_over (fun _ h=>by cases h) names_jh (fun _ h=>by cases h) wholeNames_row_tie rfl ⟨rfl,rfl⟩ (by kernel_rfl) rfl
  (fun f fn hf hfn=>by
    obtain rfl : f = 11 := Option.some.inj ((show Tryz.prog.funcNamed "hayward/haywardtop.WholeNames" = some 11 from names_jn).symm.trans hf) |>.symm
    obtain rfl:fn=Tryz.f11:=(Option.some.inj (Tryz.func11.symm.trans hfn)).symm
    exact ⟨by kernel_rfl,fun j t ht=>by
     rw [Tryz.params11] at ht;have hm:t∈[122,3,35]:=by simpa using Array.mem_of_getElem? ht
     have hall:([122,3,35].all fun u=>!Tryz.prog.wantsStandIn u)=true:=by kernel_rfl
     exact (show Tryz.prog.wantsStandIn t=false by simpa using List.all_eq_true.1 hall t hm)⟩)
  names_jg
end Go.Proofs.YtljnkaodhfnbbaaGreatDoor.Fs
