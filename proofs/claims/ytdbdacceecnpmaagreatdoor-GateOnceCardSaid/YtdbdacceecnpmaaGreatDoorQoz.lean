/- The statement GateOnce of layer 23,proved: it returns true for every input that can be read,and every argument reads as it did;the variable errors.errorType is tied to the text of the program. No other condition. -/
import Derived.Test.YtdbdacceecnpmaaGreatDoorCards
import Derived.Test.YtdbdacceecnpmaaGreatDoorTie
import Derived.Test.YtdbdacceecnpmaaGreatDoorQo13
import Derived.Deep.SlicePairs
set_option maxRecDepth 100000
namespace Go.Proofs.YtdbdacceecnpmaaGreatDoor
open Go.Proofs.Tryz
namespace Fs
open Go.ChangeShapes Go.WideShapes Go.ChangeAt Go.RowKit Go.Deep
theorem own:ownKnob prog.godebug=none:=by kernel_rfl
theorem laidOut:laidOutB prog=true:=by kernel_rfl
set_option maxRecDepth 100000 in
theorem Gx (os:Os) (started:os.Started) (H:Type) (enc:TypeId×Value->H) :
 ReturnsInHanded {} checked os 3 .any (fun w args=>(Rows.gateOnceSpec.pre enc prog f3 Rows.gateOnceRow.domain false w args/\laidMetH prog laid w)/\sizedMet enc prog f3 (OpenSpec.ofChange Rows.gateOnceSpec) false w args) (Rows.gateOnceSpec.post enc prog f3 false true false false):=by
 refine returnsInHanded_of_change_and (C:=checked) (X:=fun w _=>laidMetH prog laid w) (fun _ _ _ hh h=>h.of_heap hh) own started (by kernel_rfl) func3
  (ChangeSpec.witness_at (enc:=enc) (C:=checked) (os:=os) (X:=fun w _=>laidMetH prog laid w) false (z8 os) #[.slice none 0 0,.slice none 0 0] 8 rfl (by kernel_rfl) (by kernel_rfl) (by kernel_rfl) (by kernel_rfl) (by kernel_rfl) (zH os _)) ?_
 intro W base args ds gs before hval0 hW _ _ hL _
 have hval:∀ (j:Nat) t v,f3.params[j]? = some t->args[j]? = some v->Value.okWide prog W .any base t v:=hval0;have hW':=hW;obtain ⟨p,q,hA0,hV,rfl,hfz,hnd⟩:=hW;have hA:DataW.TrodAll enc prog W 0 (fun _=>true) true f3.params.toList args.toList ds p:=hA0;rw [params3] at hA hval;obtain ⟨v0,vs0,d0,ds0,p0,q0,hargs,rfl,rfl,h0,r0⟩:=trodAll_cons hA;obtain ⟨v1,vs1,d1,ds1,p1,q1,rfl,rfl,rfl,h1,r1⟩:=trodAll_cons r0;obtain ⟨rfl,rfl,rfl⟩:=trodAll_nil r1;obtain rfl:args=#[v0,v1]:=by cases args;simp_all
 obtain ⟨rfl,rfl⟩:=trodVars_none hV;have lt0:∀ x∈p0,x.block < W.heap.size:=by obtain ⟨m,hm⟩:=h0;exact DataW.trod_lt m _ _ _ hm
 obtain ⟨l0,L0⟩:=Cu.Vr (hval 0 22 v0 rfl rfl) h0;have lt1:∀ x∈p1,x.block < W.heap.size:=by obtain ⟨m,hm⟩:=h1;exact DataW.trod_lt m _ _ _ hm
 obtain ⟨l1,R1,O1⟩:=Ga.UY (hval 1 23 v1 rfl rfl) h1;have T:=Xk hL;clear hA0 hval0 hL;refine (Ga.TS T L0 R1 O1).mono fun e W' ⟨he,aD⟩=>?_;subst he;exact ⟨_,rfl,_,_,_,[],_,[],hW',trodAll_mk1 (shut_bool underlying4 _),(trodAll_cons_mk (Below.trod laidOut (by kernel_rfl) (of_decide_eq_true (by kernel_rfl)) h0 aD lt0) (trodAll_cons_mk (Below.trod laidOut (by kernel_rfl) (of_decide_eq_true (by kernel_rfl)) h1 aD lt1) trodAll_mk0)),rfl,aD.frame _,fun h=>by cases h⟩
theorem KZ:Tryz.pinned.checked.prog.funcNamed Rows.gateOnceRow.func=some 3:=by kernel_rfl
theorem VO:(Rows.gateOnceRow.inPlace == Tryz.pinned.checked.prog.inPlace 3)=true:=by kernel_rfl
theorem VW:(Rows.gateOnceRow.unfollowed == Tryz.pinned.checked.prog.unfollowed 3)=true:=by kernel_rfl
theorem Xq:(Rows.gateOnceRow.recurses == Tryz.pinned.checked.prog.recurses 3)=true:=by kernel_rfl
theorem VR:(Rows.gateOnceRow.named == Tryz.pinned.checked.prog.varsNamed 3)=true:=by kernel_rfl
theorem Xd:laidOutB Tryz.pinned.checked.prog=true:=by kernel_rfl
theorem VP:mapsRowed Tryz.pinned.checked.prog=true:=by kernel_rfl
theorem WX:joinedFacts Tryz.pinned.checked.prog 3 f3 Rows.gateOnceSpec Rows.gateOnceRow=true:=by
 unfold joinedFacts;rw [VO,VW,Xq,VR,Xd,VP]
 kernel_rfl
theorem Yy:f3.isInstance Tryz.pinned.checked.prog Rows.gateOnceRow.origin Rows.gateOnceRow.targs:=by exact of_decide_eq_true (by kernel_rfl)
theorem YE:f3.isWrapper Tryz.pinned.checked.prog Rows.gateOnceRow.wrapper Rows.gateOnceRow.mainSum:=by unfold Func.isWrapper;first | (rw [az (by decide +kernel)];kernel_rfl) | (rw [aq (by decide +kernel)];exact ⟨rfl,rfl⟩)
theorem Xj:Rows.gateOnceRow.wfByText (OpenSpec.ofChange Rows.gateOnceSpec)=true:=by kernel_rfl
theorem YL:false=Rows.gateOnceRow.goesBy Tryz.pinned.checked.prog:=by kernel_rfl
theorem OT:Rows.gateOnceRow.holds Tryz.pinned (OpenSpec.ofChange Rows.gateOnceSpec) :=
 OpenClaim.holds_of_wide 3 f3 rfl rfl rfl rfl rfl rfl rfl ⟨rfl,rfl,rfl,rfl,rfl⟩ rfl rfl rfl rfl rfl KZ func3 WX
  Yy YE
  (fun os started H enc _=>Gx os started H enc)
theorem once_holds:Rows.GateOnceCardSaid :=
 Claim7.holds_tied_plain_at .later [] [.handle] true _ _ OT (fun _ h=>by cases h) Xj (fun _ h=>by cases h) gateOnce_row_tie rfl ⟨rfl,rfl⟩ (by kernel_rfl) rfl
  (fun f fn hf hfn=>by
    obtain rfl : f = 3 := Option.some.inj ((show Tryz.prog.funcNamed "hayward/haywardlaw23.GateOnce" = some 3 from KZ).symm.trans hf) |>.symm
    obtain rfl:fn=f3:=(db (func3.symm.trans hfn)).symm
    exact ⟨by kernel_rfl,fun j t ht=>by
     rw [params3] at ht;have hm:t∈[22,23]:=by simpa using Array.mem_of_getElem? ht
     have hall:([22,23].all fun u=>!prog.wantsStandIn u)=true:=by kernel_rfl
     exact (show prog.wantsStandIn t=false by simpa using eS.1 hall t hm)⟩)
  YL
end Fs
