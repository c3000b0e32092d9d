/- The statement ClusterDrifts,proved: it returns true for every input that can be read,and every argument reads as it did;the variable errors.errorType is tied to the text of the program. No other condition. -/
import Derived.Test.YtljnkaodhfnbbaaGreatDoorRows
import Derived.Test.YtljnkaodhfnbbaaGreatDoorCards
import Derived.Test.YtljnkaodhfnbbaaGreatDoorTie
import Derived.Test.YtljnkaodhfnbbaaGreatDoorPh6
import Derived.Test.YtljnkaodhfnbbaaGreatDoorPh11
import Derived.ChangeSame
import Derived.ChangeVars
import Derived.JoinedOf
import Derived.ProofKit
import Derived.OpenShut
import Derived.ChangeOld
import Derived.Deep.SlicePairs
import Derived.SevenTiedAt
set_option maxRecDepth 100000
namespace Go.Proofs.YtljnkaodhfnbbaaGreatDoor.Fs
open Go.ChangeShapes Go.WideShapes Go.ChangeAt Go.RowKit Go.Deep
theorem own:ownKnob Tryz.prog.godebug=none:=by kernel_rfl
theorem laidOut:laidOutB Tryz.prog=true:=by kernel_rfl
set_option maxRecDepth 100000 in
theorem drifts20_lifted (os:Os) (started:os.Started) (H:Type) (enc:TypeId×Value→H) :
 ReturnsInHanded {} Tryz.checked os 4 .any (fun w args=>(Rows.clusterDriftsSpec.pre enc Tryz.prog Tryz.f4 Rows.clusterDriftsRow.domain false w args∧laidMetH Tryz.prog laid w)∧sizedMet enc Tryz.prog Tryz.f4 (OpenSpec.ofChange Rows.clusterDriftsSpec) false w args) (Rows.clusterDriftsSpec.post enc Tryz.prog Tryz.f4 false true false false):=by
 refine returnsInHanded_of_change_and (C:=Tryz.checked) (X:=fun w _=>laidMetH Tryz.prog laid w) (fun _ _ _ hh h=>h.of_heap hh) own started (by kernel_rfl) Tryz.func4
  (ChangeSpec.witness_at (enc:=enc) (C:=Tryz.checked) (os:=os) (X:=fun w _=>laidMetH Tryz.prog laid w) false (laidWorld os) #[.slice none 0 0,.slice none 0 0,.slice none 0 0] 8 rfl (by kernel_rfl) (by kernel_rfl) (by kernel_rfl) (by kernel_rfl) (by kernel_rfl) (laidWorld_met os _)) ?_
 intro W base args ds gs before hval0 hW _ _ hL _
 have hval:∀ (j:Nat) t v,Tryz.f4.params[j]? = some t→args[j]? = some v→Value.okWide Tryz.prog W .any base t v:=hval0;have hW':=hW;obtain ⟨p,q,hA0,hV,rfl,hfz,hnd⟩:=hW;have hA:DataW.TrodAll enc Tryz.prog W 0 (fun _=>true) true Tryz.f4.params.toList args.toList ds p:=hA0;rw [Tryz.params4] at hA hval;obtain ⟨v0,vs0,d0,ds0,p0,q0,hargs,rfl,rfl,h0,r0⟩:=trodAll_cons hA;obtain ⟨v1,vs1,d1,ds1,p1,q1,rfl,rfl,rfl,h1,r1⟩:=trodAll_cons r0;obtain ⟨v2,vs2,d2,ds2,p2,q2,rfl,rfl,rfl,h2,r2⟩:=trodAll_cons r1;obtain ⟨rfl,rfl,rfl⟩:=trodAll_nil r2;obtain rfl:args=#[v0,v1,v2]:=by cases args;simp_all
 obtain ⟨rfl,rfl⟩:=trodVars_none hV;have lt0:∀ x∈p0,x.block < W.heap.size:=by obtain ⟨m,hm⟩:=h0;exact DataW.trod_lt m _ _ _ hm
 obtain ⟨l0,L0⟩:=Cu.plans_of (hval 0 22 v0 rfl rfl) h0;have lt1:∀ x∈p1,x.block < W.heap.size:=by obtain ⟨m,hm⟩:=h1;exact DataW.trod_lt m _ _ _ hm
 obtain ⟨l1,R1,O1⟩:=Cu.acts_of (hval 1 23 v1 rfl rfl) h1;have lt2:∀ x∈p2,x.block < W.heap.size:=by obtain ⟨m,hm⟩:=h2;exact DataW.trod_lt m _ _ _ hm
 obtain ⟨l2,R2,K2⟩:=Cu.shorts_of (hval 2 58 v2 rfl rfl) h2;have T:=glob_of hL;clear hA0 hval0 hL;refine (Cu.drifts_law T L0 R1 O1 R2 K2).mono fun e W' ⟨he,bel⟩=>?_;subst he;exact ⟨_,rfl,_,_,_,[],_,[],hW',trodAll_mk1 (shut_bool Tryz.underlying4 _),(trodAll_cons_mk (Below.trod laidOut (by kernel_rfl) (of_decide_eq_true (by kernel_rfl)) h0 bel lt0) (trodAll_cons_mk (Below.trod laidOut (by kernel_rfl) (of_decide_eq_true (by kernel_rfl)) h1 bel lt1) (trodAll_cons_mk (Below.trod laidOut (by kernel_rfl) (of_decide_eq_true (by kernel_rfl)) h2 bel lt2) trodAll_mk0))),rfl,bel.frame _,fun h=>by cases h⟩
theorem drifts20_jn:Tryz.pinned.checked.prog.funcNamed Rows.clusterDriftsRow.func=some 4:=by kernel_rfl
theorem drifts20_j1:(Rows.clusterDriftsRow.inPlace == Tryz.pinned.checked.prog.inPlace 4)=true:=by kernel_rfl
theorem drifts20_j2:(Rows.clusterDriftsRow.unfollowed == Tryz.pinned.checked.prog.unfollowed 4)=true:=by kernel_rfl
theorem drifts20_j3:(Rows.clusterDriftsRow.recurses == Tryz.pinned.checked.prog.recurses 4)=true:=by kernel_rfl
theorem drifts20_j4:(Rows.clusterDriftsRow.named == Tryz.pinned.checked.prog.varsNamed 4)=true:=by kernel_rfl
theorem drifts20_j5:laidOutB Tryz.pinned.checked.prog=true:=by kernel_rfl
theorem drifts20_j6:mapsRowed Tryz.pinned.checked.prog=true:=by kernel_rfl
theorem drifts20_j7:joinedFacts Tryz.pinned.checked.prog 4 Tryz.f4 Rows.clusterDriftsSpec Rows.clusterDriftsRow=true:=by
 unfold joinedFacts;rw [drifts20_j1,drifts20_j2,drifts20_j3,drifts20_j4,drifts20_j5,drifts20_j6]
 kernel_rfl
theorem drifts20_j8:Tryz.f4.isInstance Tryz.pinned.checked.prog Rows.clusterDriftsRow.origin Rows.clusterDriftsRow.targs:=by exact of_decide_eq_true (by kernel_rfl)
theorem drifts20_j9:Tryz.f4.isWrapper Tryz.pinned.checked.prog Rows.clusterDriftsRow.wrapper Rows.clusterDriftsRow.mainSum:=by unfold Func.isWrapper;first | (rw [if_pos (by decide +kernel)];kernel_rfl) | (rw [if_neg (by decide +kernel)];exact ⟨rfl,rfl⟩)
theorem drifts20_jh:Rows.clusterDriftsRow.wfByText (OpenSpec.ofChange Rows.clusterDriftsSpec)=true:=by kernel_rfl
theorem drifts20_jg:false=Rows.clusterDriftsRow.goesBy Tryz.pinned.checked.prog:=by kernel_rfl
theorem drifts20_over:Rows.clusterDriftsRow.holds Tryz.pinned (OpenSpec.ofChange Rows.clusterDriftsSpec) :=
 OpenClaim.holds_of_wide 4 Tryz.f4 rfl rfl rfl rfl rfl rfl rfl ⟨rfl,rfl,rfl,rfl,rfl⟩ rfl rfl rfl rfl rfl drifts20_jn Tryz.func4 drifts20_j7
  drifts20_j8 drifts20_j9
  (fun os started H enc _=>drifts20_lifted os started H enc)
theorem drifts20_holds:Rows.ClusterDriftsCardSaid :=
 Claim7.holds_tied_plain_at .later [] [.handle] true _ _ drifts20_over (fun _ h=>by cases h) drifts20_jh (fun _ h=>by cases h) clusterDrifts_row_tie rfl ⟨rfl,rfl⟩ (by kernel_rfl) rfl
  (fun f fn hf hfn=>by
    obtain rfl : f = 4 := Option.some.inj ((show Tryz.prog.funcNamed "hayward/haywardlaw20.ClusterDrifts" = some 4 from drifts20_jn).symm.trans hf) |>.symm
    obtain rfl:fn=Tryz.f4:=(Option.some.inj (Tryz.func4.symm.trans hfn)).symm
    exact ⟨by kernel_rfl,fun j t ht=>by
     rw [Tryz.params4] at ht;have hm:t∈[22,23,58]:=by simpa using Array.mem_of_getElem? ht
     have hall:([22,23,58].all fun u=>!Tryz.prog.wantsStandIn u)=true:=by kernel_rfl
     exact (show Tryz.prog.wantsStandIn t=false by simpa using List.all_eq_true.1 hall t hm)⟩)
  drifts20_jg
end Go.Proofs.YtljnkaodhfnbbaaGreatDoor.Fs
