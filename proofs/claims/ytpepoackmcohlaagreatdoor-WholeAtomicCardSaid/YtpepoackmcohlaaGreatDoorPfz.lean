/- The statement WholeAtomic of the whole,proved: it returns true for every input that can be read,and every argument reads as it did;the variable errors.errorType is tied to the text of the program. No other condition. -/
import Derived.Test.YtpepoackmcohlaaGreatDoorCards
import Derived.Test.YtpepoackmcohlaaGreatDoorTie
import Derived.Test.YtpepoackmcohlaaGreatDoorPf14
import Derived.Deep.SlicePairs
set_option maxRecDepth 100000
namespace Go.Proofs.YtpepoackmcohlaaGreatDoor
open Go.Proofs.Tryz
namespace Fs
open Go.ChangeShapes Go.WideShapes Go.ChangeAt Go.RowKit Go.Deep
theorem own:ownKnob prog.godebug=none:=by kernel_rfl
theorem laidOut:laidOutB prog=true:=by kernel_rfl
set_option maxRecDepth 100000 in
theorem Aa (os:Os) (started:os.Started) (H:Type) (enc:TypeId×Value->H) :
 ReturnsInHanded {} checked os 5 .any (fun w args=>(Rows.wholeAtomicSpec.pre enc prog f5 Rows.wholeAtomicRow.domain false w args/\laidMetH prog laid w)/\sizedMet enc prog f5 (OpenSpec.ofChange Rows.wholeAtomicSpec) false w args) (Rows.wholeAtomicSpec.post enc prog f5 false true false false):=by
 refine returnsInHanded_of_change_and (C:=checked) (X:=fun w _=>laidMetH prog laid w) (fun _ _ _ hh h=>h.of_heap hh) own started (by kernel_rfl) func5
  (ChangeSpec.witness_at (enc:=enc) (C:=checked) (os:=os) (X:=fun w _=>laidMetH prog laid w) false (AY os) #[.slice none 0 0,.slice none 0 0] 8 rfl (by kernel_rfl) (by kernel_rfl) (by kernel_rfl) (by kernel_rfl) (by kernel_rfl) (z8 os _)) ?_
 intro W base args ds gs before hval0 hW _ _ hL _
 have hval:∀ (j:Nat) t v,f5.params[j]? = some t->args[j]? = some v->Value.okWide prog W .any base t v:=hval0;have hW':=hW;obtain ⟨p,q,hA0,hV,rfl,hfz,hnd⟩:=hW;have hA:DataW.TrodAll enc prog W 0 (fun _=>true) true f5.params.toList args.toList ds p:=hA0;rw [params5] at hA hval;obtain ⟨v0,vs0,d0,ds0,p0,q0,hargs,rfl,rfl,h0,r0⟩:=trodAll_cons hA;obtain ⟨v1,vs1,d1,ds1,p1,q1,rfl,rfl,rfl,h1,r1⟩:=trodAll_cons r0;obtain ⟨rfl,rfl,rfl⟩:=trodAll_nil r1;obtain rfl:args=#[v0,v1]:=by cases args;simp_all
 obtain ⟨rfl,rfl⟩:=trodVars_none hV;have lt0:∀ x∈p0,x.block < W.heap.size:=by obtain ⟨m,hm⟩:=h0;exact DataW.trod_lt m _ _ _ hm
 obtain ⟨l0,L0⟩:=Cu.Sm (hval 0 22 v0 rfl rfl) h0;have lt1:∀ x∈p1,x.block < W.heap.size:=by obtain ⟨m,hm⟩:=h1;exact DataW.trod_lt m _ _ _ hm
 obtain ⟨l1,R1,O1⟩:=Cu.Ye (hval 1 23 v1 rfl rfl) h1;have T:=ZH hL;clear hA0 hval0 hL;refine (Cu.Ka T L0 R1 O1).mono fun e W' ⟨he,aG⟩=>?_;subst he;exact ⟨_,rfl,_,_,_,[],_,[],hW',trodAll_mk1 (shut_bool underlying4 _),(trodAll_cons_mk (Below.trod laidOut (by kernel_rfl) (of_decide_eq_true (by kernel_rfl)) h0 aG lt0) (trodAll_cons_mk (Below.trod laidOut (by kernel_rfl) (of_decide_eq_true (by kernel_rfl)) h1 aG lt1) trodAll_mk0)),rfl,aG.frame _,fun h=>by cases h⟩
theorem Bb:Tryz.pinned.checked.prog.funcNamed Rows.wholeAtomicRow.func=some 5:=by kernel_rfl
theorem Ny:(Rows.wholeAtomicRow.inPlace == Tryz.pinned.checked.prog.inPlace 5)=true:=by kernel_rfl
theorem Pw:(Rows.wholeAtomicRow.unfollowed == Tryz.pinned.checked.prog.unfollowed 5)=true:=by kernel_rfl
theorem QO:(Rows.wholeAtomicRow.recurses == Tryz.pinned.checked.prog.recurses 5)=true:=by kernel_rfl
theorem Pn:(Rows.wholeAtomicRow.named == Tryz.pinned.checked.prog.varsNamed 5)=true:=by kernel_rfl
theorem Qd:laidOutB Tryz.pinned.checked.prog=true:=by kernel_rfl
theorem QU:mapsRowed Tryz.pinned.checked.prog=true:=by kernel_rfl
theorem NV:joinedFacts Tryz.pinned.checked.prog 5 f5 Rows.wholeAtomicSpec Rows.wholeAtomicRow=true:=by
 unfold joinedFacts;rw [Ny,Pw,QO,Pn,Qd,QU]
 kernel_rfl
theorem Oh:f5.isInstance Tryz.pinned.checked.prog Rows.wholeAtomicRow.origin Rows.wholeAtomicRow.targs:=by exact of_decide_eq_true (by kernel_rfl)
theorem Nl:f5.isWrapper Tryz.pinned.checked.prog Rows.wholeAtomicRow.wrapper Rows.wholeAtomicRow.mainSum:=by unfold Func.isWrapper;first | (rw [aw (by decide +kernel)];kernel_rfl) | (rw [aq (by decide +kernel)];exact ⟨rfl,rfl⟩)
theorem OV:Rows.wholeAtomicRow.wfByText (OpenSpec.ofChange Rows.wholeAtomicSpec)=true:=by kernel_rfl
theorem OZ:false=Rows.wholeAtomicRow.goesBy Tryz.pinned.checked.prog:=by kernel_rfl
theorem FM:Rows.wholeAtomicRow.holds Tryz.pinned (OpenSpec.ofChange Rows.wholeAtomicSpec) :=
 OpenClaim.holds_of_wide 5 f5 rfl rfl rfl rfl rfl rfl rfl ⟨rfl,rfl,rfl,rfl,rfl⟩ rfl rfl rfl rfl rfl Bb func5 NV
  Oh Nl
  (fun os started H enc _=>Aa os started H enc)
theorem atomic_holds:Rows.WholeAtomicCardSaid :=
 Claim7.holds_tied_plain_at .later [] [.handle] true _ _ FM (fun _ h=>by cases h) OV (fun _ h=>by cases h) wholeAtomic_row_tie rfl ⟨rfl,rfl⟩ (by kernel_rfl) rfl
  (fun f fn hf hfn=>by
    obtain rfl : f = 5 := Option.some.inj ((show Tryz.prog.funcNamed "hayward/haywardtop.WholeAtomic" = some 5 from Bb).symm.trans hf) |>.symm
    obtain rfl:fn=f5:=(cP (func5.symm.trans hfn)).symm
    exact ⟨by kernel_rfl,fun j t ht=>by
     rw [params5] at ht;have hm:t∈[22,23]:=by simpa using Array.mem_of_getElem? ht
     have hall:([22,23].all fun u=>!prog.wantsStandIn u)=true:=by kernel_rfl
     exact (show prog.wantsStandIn t=false by simpa using eC.1 hall t hm)⟩)
  OZ
end Fs
