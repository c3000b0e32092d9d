/- The statement WholeCopies of the whole,proved: it returns true for every input that can be read,and every argument reads as it did;the variable errors.errorType is tied to the text of the program. No other condition. -/
import Derived.Test.YtljnkaodhfnbbaaGreatDoorRows
import Derived.Test.YtljnkaodhfnbbaaGreatDoorCards
import Derived.Test.YtljnkaodhfnbbaaGreatDoorTie
import Derived.Test.YtljnkaodhfnbbaaGreatDoorPd6
import Derived.Test.YtljnkaodhfnbbaaGreatDoorPd3
import Derived.Test.YtljnkaodhfnbbaaGreatDoorPd12
import Derived.ChangeSame
import Derived.ChangeVars
import Derived.JoinedOf
import Derived.ProofKit
import Derived.OpenShut
import Derived.ChangeOld
import Derived.Deep.SlicePairs
import Derived.SevenTiedAt
set_option maxRecDepth 100000
namespace Go.Proofs.YtljnkaodhfnbbaaGreatDoor.Fs
open Go.ChangeShapes Go.WideShapes Go.ChangeAt Go.RowKit Go.Deep
theorem own:ownKnob Tryz.prog.godebug=none:=by kernel_rfl
theorem laidOut:laidOutB Tryz.prog=true:=by kernel_rfl
set_option maxRecDepth 100000 in
theorem wcopies_lifted (os:Os) (started:os.Started) (H:Type) (enc:TypeId×Value→H) :
 ReturnsInHanded {} Tryz.checked os 8 .any (fun w args=>(Rows.wholeCopiesSpec.pre enc Tryz.prog Tryz.f8 Rows.wholeCopiesRow.domain false w args∧laidMetH Tryz.prog laid w)∧sizedMet enc Tryz.prog Tryz.f8 (OpenSpec.ofChange Rows.wholeCopiesSpec) false w args) (Rows.wholeCopiesSpec.post enc Tryz.prog Tryz.f8 false true false false):=by
 refine returnsInHanded_of_change_and (C:=Tryz.checked) (X:=fun w _=>laidMetH Tryz.prog laid w) (fun _ _ _ hh h=>h.of_heap hh) own started (by kernel_rfl) Tryz.func8
  (ChangeSpec.witness_at (enc:=enc) (C:=Tryz.checked) (os:=os) (X:=fun w _=>laidMetH Tryz.prog laid w) false (laidWorld os) #[.slice none 0 0,.slice none 0 0] 8 rfl (by kernel_rfl) (by kernel_rfl) (by kernel_rfl) (by kernel_rfl) (by kernel_rfl) (laidWorld_met os _)) ?_
 intro W base args ds gs before hval0 hW _ _ hL _
 have hval:∀ (j:Nat) t v,Tryz.f8.params[j]? = some t→args[j]? = some v→Value.okWide Tryz.prog W .any base t v:=hval0;have hW':=hW;obtain ⟨p,q,hA0,hV,rfl,hfz,hnd⟩:=hW;have hA:DataW.TrodAll enc Tryz.prog W 0 (fun _=>true) true Tryz.f8.params.toList args.toList ds p:=hA0;rw [Tryz.params8] at hA hval;obtain ⟨v0,vs0,d0,ds0,p0,q0,hargs,rfl,rfl,h0,r0⟩:=trodAll_cons hA;obtain ⟨v1,vs1,d1,ds1,p1,q1,rfl,rfl,rfl,h1,r1⟩:=trodAll_cons r0;obtain ⟨rfl,rfl,rfl⟩:=trodAll_nil r1;obtain rfl:args=#[v0,v1]:=by cases args;simp_all
 obtain ⟨rfl,rfl⟩:=trodVars_none hV;have lt0:∀ x∈p0,x.block < W.heap.size:=by obtain ⟨m,hm⟩:=h0;exact DataW.trod_lt m _ _ _ hm
 obtain ⟨L0,R0⟩:=Pa.cells_of (hval 0 77 v0 rfl rfl) h0;have lt1:∀ x∈p1,x.block < W.heap.size:=by obtain ⟨m,hm⟩:=h1;exact DataW.trod_lt m _ _ _ hm
 obtain ⟨L1,R1⟩:=Pa.spoils_of (hval 1 37 v1 rfl rfl) h1;have T:=glob_of hL;clear hA0 hval0 hL;refine (Wp.wcopies_any T T R0 R1).mono fun e W' ⟨he,bel⟩=>?_;subst he;exact ⟨_,rfl,_,_,_,[],_,[],hW',trodAll_mk1 (shut_bool Tryz.underlying4 _),(trodAll_cons_mk (Below.trod laidOut (by kernel_rfl) (of_decide_eq_true (by kernel_rfl)) h0 bel lt0) (trodAll_cons_mk (Below.trod laidOut (by kernel_rfl) (of_decide_eq_true (by kernel_rfl)) h1 bel lt1) trodAll_mk0)),rfl,bel.frame _,fun h=>by cases h⟩
theorem wcopies_jn:Tryz.pinned.checked.prog.funcNamed Rows.wholeCopiesRow.func=some 8:=by kernel_rfl
theorem wcopies_j1:(Rows.wholeCopiesRow.inPlace == Tryz.pinned.checked.prog.inPlace 8)=true:=by kernel_rfl
theorem wcopies_j2:(Rows.wholeCopiesRow.unfollowed == Tryz.pinned.checked.prog.unfollowed 8)=true:=by kernel_rfl
theorem wcopies_j3:(Rows.wholeCopiesRow.recurses == Tryz.pinned.checked.prog.recurses 8)=true:=by kernel_rfl
theorem wcopies_j4:(Rows.wholeCopiesRow.named == Tryz.pinned.checked.prog.varsNamed 8)=true:=by kernel_rfl
theorem wcopies_j5:laidOutB Tryz.pinned.checked.prog=true:=by kernel_rfl
theorem wcopies_j6:mapsRowed Tryz.pinned.checked.prog=true:=by kernel_rfl
theorem wcopies_j7:joinedFacts Tryz.pinned.checked.prog 8 Tryz.f8 Rows.wholeCopiesSpec Rows.wholeCopiesRow=true:=by
 unfold joinedFacts;rw [wcopies_j1,wcopies_j2,wcopies_j3,wcopies_j4,wcopies_j5,wcopies_j6]
 kernel_rfl
theorem wcopies_j8:Tryz.f8.isInstance Tryz.pinned.checked.prog Rows.wholeCopiesRow.origin Rows.wholeCopiesRow.targs:=by exact of_decide_eq_true (by kernel_rfl)
theorem wcopies_j9:Tryz.f8.isWrapper Tryz.pinned.checked.prog Rows.wholeCopiesRow.wrapper Rows.wholeCopiesRow.mainSum:=by unfold Func.isWrapper;first | (rw [if_pos (by decide +kernel)];kernel_rfl) | (rw [if_neg (by decide +kernel)];exact ⟨rfl,rfl⟩)
theorem wcopies_jh:Rows.wholeCopiesRow.wfByText (OpenSpec.ofChange Rows.wholeCopiesSpec)=true:=by kernel_rfl
theorem wcopies_jg:false=Rows.wholeCopiesRow.goesBy Tryz.pinned.checked.prog:=by kernel_rfl
theorem wcopies_over:Rows.wholeCopiesRow.holds Tryz.pinned (OpenSpec.ofChange Rows.wholeCopiesSpec) :=
 OpenClaim.holds_of_wide 8 Tryz.f8 rfl rfl rfl rfl rfl rfl rfl ⟨rfl,rfl,rfl,rfl,rfl⟩ rfl rfl rfl rfl rfl wcopies_jn Tryz.func8 wcopies_j7
  wcopies_j8 wcopies_j9
  (fun os started H enc _=>wcopies_lifted os started H enc)
theorem wcopies_holds:Rows.WholeCopiesCardSaid :=
 Claim7.holds_tied_plain_at .later [] [.handle] true _ _ wcopies_over (fun _ h=>by cases h) wcopies_jh (fun _ h=>by cases h) wholeCopies_row_tie rfl ⟨rfl,rfl⟩ (by kernel_rfl) rfl
  (fun f fn hf hfn=>by
    obtain rfl : f = 8 := Option.some.inj ((show Tryz.prog.funcNamed "hayward/haywardtop.WholeCopies" = some 8 from wcopies_jn).symm.trans hf) |>.symm
    obtain rfl:fn=Tryz.f8:=(Option.some.inj (Tryz.func8.symm.trans hfn)).symm
    exact ⟨by kernel_rfl,fun j t ht=>by
     rw [Tryz.params8] at ht;have hm:t∈[77,37]:=by simpa using Array.mem_of_getElem? ht
     have hall:([77,37].all fun u=>!Tryz.prog.wantsStandIn u)=true:=by kernel_rfl
     exact (show Tryz.prog.wantsStandIn t=false by simpa using List.all_eq_true.1 hall t hm)⟩)
  wcopies_jg
end Go.Proofs.YtljnkaodhfnbbaaGreatDoor.Fs
