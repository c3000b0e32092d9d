/- The statement WholeRequest of the whole,proved: it returns true for every input that can be read,and every argument reads as it did;the variable errors.errorType is tied to the text of the program. No other condition. -/
import Derived.Test.YtdbdacceecnpmaaGreatDoorCards
import Derived.Test.YtdbdacceecnpmaaGreatDoorTie
import Derived.Test.YtdbdacceecnpmaaGreatDoorQr12
import Derived.Deep.SlicePairs
set_option maxRecDepth 100000
namespace Go.Proofs.YtdbdacceecnpmaaGreatDoor
open Go.Proofs.Tryz
namespace Fs
open Go.ChangeShapes Go.WideShapes Go.ChangeAt Go.RowKit Go.Deep
theorem own:ownKnob prog.godebug=none:=by kernel_rfl
theorem laidOut:laidOutB prog=true:=by kernel_rfl
set_option maxRecDepth 100000 in
theorem wreq_lifted (os:Os) (started:os.Started) (H:Type) (enc:TypeId×Value->H) :
 ReturnsInHanded {} checked os 5 .any (fun w args=>(Rows.wholeRequestSpec.pre enc prog f5 Rows.wholeRequestRow.domain false w args/\laidMetH prog laid w)/\sizedMet enc prog f5 (OpenSpec.ofChange Rows.wholeRequestSpec) false w args) (Rows.wholeRequestSpec.post enc prog f5 false true false false):=by
 refine returnsInHanded_of_change_and (C:=checked) (X:=fun w _=>laidMetH prog laid w) (fun _ _ _ hh h=>h.of_heap hh) own started (by kernel_rfl) func5
  (ChangeSpec.witness_at (enc:=enc) (C:=checked) (os:=os) (X:=fun w _=>laidMetH prog laid w) false (laidWorld os) #[.slice none 0 0,.slice none 0 0,.agg #[.int .i64 0,.int .i64 0,.int .i64 0,.int .i64 0,.int .i64 0,.int .u8 0,.int .u8 0,.int .u8 0,.int .u8 0,.int .i64 0]] 8 rfl (by kernel_rfl) (by kernel_rfl) (by kernel_rfl) (by kernel_rfl) (by kernel_rfl) (laidWorld_met os _)) ?_
 intro W base args ds gs before hval0 hW _ _ hL _
 have hval:∀ (j:Nat) t v,f5.params[j]? = some t->args[j]? = some v->Value.okWide prog W .any base t v:=hval0;have hW':=hW;obtain ⟨p,q,hA0,hV,rfl,hfz,hnd⟩:=hW;have hA:DataW.TrodAll enc prog W 0 (fun _=>true) true f5.params.toList args.toList ds p:=hA0;rw [params5] at hA hval;obtain ⟨v0,vs0,d0,ds0,p0,q0,hargs,rfl,rfl,h0,r0⟩:=trodAll_cons hA;obtain ⟨v1,vs1,d1,ds1,p1,q1,rfl,rfl,rfl,h1,r1⟩:=trodAll_cons r0;obtain ⟨v2,vs2,d2,ds2,p2,q2,rfl,rfl,rfl,h2,r2⟩:=trodAll_cons r1;obtain ⟨rfl,rfl,rfl⟩:=trodAll_nil r2;obtain rfl:args=#[v0,v1,v2]:=by cases args;simp_all
 obtain ⟨rfl,rfl⟩:=trodVars_none hV;have lt0:∀ x∈p0,x.block < W.heap.size:=by obtain ⟨m,hm⟩:=h0;exact DataW.trod_lt m _ _ _ hm
 obtain ⟨l0,L0⟩:=Cu.plans_of (hval 0 22 v0 rfl rfl) h0;have lt1:∀ x∈p1,x.block < W.heap.size:=by obtain ⟨m,hm⟩:=h1;exact DataW.trod_lt m _ _ _ hm
 obtain ⟨l1,R1,O1⟩:=Cu.acts_of (hval 1 59 v1 rfl rfl) h1;have lt2:∀ x∈p2,x.block < W.heap.size:=by obtain ⟨m,hm⟩:=h2;exact DataW.trod_lt m _ _ _ hm
 obtain ⟨x2,rfl,k2⟩:=Rq.req_of (hval 2 53 v2 rfl rfl) h2;have T:=glob_of hL;clear hA0 hval0 hL;refine (Ga.req_law T L0 R1 O1 x2 k2).mono fun e W' ⟨he,bel⟩=>?_;subst he;exact ⟨_,rfl,_,_,_,[],_,[],hW',trodAll_mk1 (shut_bool underlying4 _),(trodAll_cons_mk (Below.trod laidOut (by kernel_rfl) (of_decide_eq_true (by kernel_rfl)) h0 bel lt0) (trodAll_cons_mk (Below.trod laidOut (by kernel_rfl) (of_decide_eq_true (by kernel_rfl)) h1 bel lt1) (trodAll_cons_mk (Below.trod laidOut (by kernel_rfl) (of_decide_eq_true (by kernel_rfl)) h2 bel lt2) trodAll_mk0))),rfl,bel.frame _,fun h=>by cases h⟩
theorem wreq_jn:Tryz.pinned.checked.prog.funcNamed Rows.wholeRequestRow.func=some 5:=by kernel_rfl
theorem wreq_j1:(Rows.wholeRequestRow.inPlace == Tryz.pinned.checked.prog.inPlace 5)=true:=by kernel_rfl
theorem wreq_j2:(Rows.wholeRequestRow.unfollowed == Tryz.pinned.checked.prog.unfollowed 5)=true:=by kernel_rfl
theorem wreq_j3:(Rows.wholeRequestRow.recurses == Tryz.pinned.checked.prog.recurses 5)=true:=by kernel_rfl
theorem wreq_j4:(Rows.wholeRequestRow.named == Tryz.pinned.checked.prog.varsNamed 5)=true:=by kernel_rfl
theorem wreq_j5:laidOutB Tryz.pinned.checked.prog=true:=by kernel_rfl
theorem wreq_j6:mapsRowed Tryz.pinned.checked.prog=true:=by kernel_rfl
theorem wreq_j7:joinedFacts Tryz.pinned.checked.prog 5 f5 Rows.wholeRequestSpec Rows.wholeRequestRow=true:=by
 unfold joinedFacts;rw [wreq_j1,wreq_j2,wreq_j3,wreq_j4,wreq_j5,wreq_j6]
 kernel_rfl
theorem wreq_j8:f5.isInstance Tryz.pinned.checked.prog Rows.wholeRequestRow.origin Rows.wholeRequestRow.targs:=by exact of_decide_eq_true (by kernel_rfl)
theorem wreq_j9:f5.isWrapper Tryz.pinned.checked.prog Rows.wholeRequestRow.wrapper Rows.wholeRequestRow.mainSum:=by unfold Func.isWrapper;first | (rw [aj (by decide +kernel)];kernel_rfl) | (rw [ah (by decide +kernel)];exact ⟨rfl,rfl⟩)
theorem wreq_jh:Rows.wholeRequestRow.wfByText (OpenSpec.ofChange Rows.wholeRequestSpec)=true:=by kernel_rfl
theorem wreq_jg:false=Rows.wholeRequestRow.goesBy Tryz.pinned.checked.prog:=by kernel_rfl
theorem wreq_over:Rows.wholeRequestRow.holds Tryz.pinned (OpenSpec.ofChange Rows.wholeRequestSpec) :=
 OpenClaim.holds_of_wide 5 f5 rfl rfl rfl rfl rfl rfl rfl ⟨rfl,rfl,rfl,rfl,rfl⟩ rfl rfl rfl rfl rfl wreq_jn func5 wreq_j7
  wreq_j8 wreq_j9
  (fun os started H enc _=>wreq_lifted os started H enc)
theorem wreq_holds:Rows.WholeRequestCardSaid :=
 Claim7.holds_tied_plain_at .later [] [.handle] true _ _ wreq_over (fun _ h=>by cases h) wreq_jh (fun _ h=>by cases h) wholeRequest_row_tie rfl ⟨rfl,rfl⟩ (by kernel_rfl) rfl
  (fun f fn hf hfn=>by
    obtain rfl : f = 5 := Option.some.inj ((show Tryz.prog.funcNamed "hayward/haywardtop.WholeRequest" = some 5 from wreq_jn).symm.trans hf) |>.symm
    obtain rfl:fn=f5:=(bh (func5.symm.trans hfn)).symm
    exact ⟨by kernel_rfl,fun j t ht=>by
     rw [params5] at ht;have hm:t∈[22,59,53]:=by simpa using Array.mem_of_getElem? ht
     have hall:([22,59,53].all fun u=>!prog.wantsStandIn u)=true:=by kernel_rfl
     exact (show prog.wantsStandIn t=false by simpa using bQ.1 hall t hm)⟩)
  wreq_jg
end Fs
