/- The statement WholeAny of the whole,proved: it returns true for every input that can be read,and every argument reads as it did;the variable errors.errorType is tied to the text of the program. No other condition. -/
import Derived.Test.YtdbdacceecnpmaaGreatDoorCards
import Derived.Test.YtdbdacceecnpmaaGreatDoorTie
import Derived.Test.YtdbdacceecnpmaaGreatDoorQa12
import Derived.Deep.SlicePairs
set_option maxRecDepth 100000
namespace Go.Proofs.YtdbdacceecnpmaaGreatDoor
open Go.Proofs.Tryz
namespace Fs
open Go.ChangeShapes Go.WideShapes Go.ChangeAt Go.RowKit Go.Deep
theorem own:ownKnob prog.godebug=none:=by kernel_rfl
theorem laidOut:laidOutB prog=true:=by kernel_rfl
set_option maxRecDepth 100000 in
theorem IK (os:Os) (started:os.Started) (H:Type) (enc:TypeId×Value->H) :
 ReturnsInHanded {} checked os 4 .any (fun w args=>(Rows.wholeAnySpec.pre enc prog f4 Rows.wholeAnyRow.domain false w args/\laidMetH prog laid w)/\sizedMet enc prog f4 (OpenSpec.ofChange Rows.wholeAnySpec) false w args) (Rows.wholeAnySpec.post enc prog f4 false true false false):=by
 refine returnsInHanded_of_change_and (C:=checked) (X:=fun w _=>laidMetH prog laid w) (fun _ _ _ hh h=>h.of_heap hh) own started (by kernel_rfl) func4
  (ChangeSpec.witness_at (enc:=enc) (C:=checked) (os:=os) (X:=fun w _=>laidMetH prog laid w) false (zN os) #[.slice none 0 0,.slice none 0 0,.int .u8 0,.int .u8 0] 8 rfl (by kernel_rfl) (by kernel_rfl) (by kernel_rfl) (by kernel_rfl) (by kernel_rfl) (yT os _)) ?_
 intro W base args ds gs before hval0 hW _ _ hL _
 have hval:∀ (j:Nat) t v,f4.params[j]? = some t->args[j]? = some v->Value.okWide prog W .any base t v:=hval0;have hW':=hW;obtain ⟨p,q,hA0,hV,rfl,hfz,hnd⟩:=hW;have hA:DataW.TrodAll enc prog W 0 (fun _=>true) true f4.params.toList args.toList ds p:=hA0;rw [params4] at hA hval;obtain ⟨v0,vs0,d0,ds0,p0,q0,hargs,rfl,rfl,h0,r0⟩:=trodAll_cons hA;obtain ⟨v1,vs1,d1,ds1,p1,q1,rfl,rfl,rfl,h1,r1⟩:=trodAll_cons r0;obtain ⟨v2,vs2,d2,ds2,p2,q2,rfl,rfl,rfl,h2,r2⟩:=trodAll_cons r1;obtain ⟨v3,vs3,d3,ds3,p3,q3,rfl,rfl,rfl,h3,r3⟩:=trodAll_cons r2;obtain ⟨rfl,rfl,rfl⟩:=trodAll_nil r3;obtain rfl:args=#[v0,v1,v2,v3]:=by cases args;simp_all
 obtain ⟨rfl,rfl⟩:=trodVars_none hV;have lt0:∀ x∈p0,x.block < W.heap.size:=by obtain ⟨m,hm⟩:=h0;exact DataW.trod_lt m _ _ _ hm
 obtain ⟨l0,L0⟩:=Cu.SL (hval 0 22 v0 rfl rfl) h0;have lt1:∀ x∈p1,x.block < W.heap.size:=by obtain ⟨m,hm⟩:=h1;exact DataW.trod_lt m _ _ _ hm
 obtain ⟨l1,R1,B1⟩:=Rq.Qo (hval 1 34 v1 rfl rfl) h1;obtain ⟨a2,rfl,rfl,rfl,w2⟩:=open_int underlying5 (hval 2 5 v2 rfl rfl) h2;obtain ⟨a3,rfl,rfl,rfl,w3⟩:=open_int underlying5 (hval 3 5 v3 rfl rfl) h3;have k2:=bounds_u8 w2;have k3:=bounds_u8 w3;have T:=UZ hL;clear hA0 hval0 hL;refine (Ga.Xw T L0 R1 B1 a2 a3 (by omega) (by omega)).mono fun e W' ⟨he,aD⟩=>?_;subst he;exact ⟨_,rfl,_,_,_,[],_,[],hW',trodAll_mk1 (shut_bool underlying4 _),(trodAll_cons_mk (Below.trod laidOut (by kernel_rfl) (of_decide_eq_true (by kernel_rfl)) h0 aD lt0) (trodAll_cons_mk (Below.trod laidOut (by kernel_rfl) (of_decide_eq_true (by kernel_rfl)) h1 aD lt1) (trodAll_cons_mk (shut_int underlying5 w2) (trodAll_cons_mk (shut_int underlying5 w3) trodAll_mk0)))),rfl,aD.frame _,fun h=>by cases h⟩
theorem S8:Tryz.pinned.checked.prog.funcNamed Rows.wholeAnyRow.func=some 4:=by kernel_rfl
theorem aak:(Rows.wholeAnyRow.inPlace == Tryz.pinned.checked.prog.inPlace 4)=true:=by kernel_rfl
theorem YV:(Rows.wholeAnyRow.unfollowed == Tryz.pinned.checked.prog.unfollowed 4)=true:=by kernel_rfl
theorem ZP:(Rows.wholeAnyRow.recurses == Tryz.pinned.checked.prog.recurses 4)=true:=by kernel_rfl
theorem aav:(Rows.wholeAnyRow.named == Tryz.pinned.checked.prog.varsNamed 4)=true:=by kernel_rfl
theorem YZ:laidOutB Tryz.pinned.checked.prog=true:=by kernel_rfl
theorem aaN:mapsRowed Tryz.pinned.checked.prog=true:=by kernel_rfl
theorem aaw:joinedFacts Tryz.pinned.checked.prog 4 f4 Rows.wholeAnySpec Rows.wholeAnyRow=true:=by
 unfold joinedFacts;rw [aak,YV,ZP,aav,YZ,aaN]
 kernel_rfl
theorem aax:f4.isInstance Tryz.pinned.checked.prog Rows.wholeAnyRow.origin Rows.wholeAnyRow.targs:=by exact of_decide_eq_true (by kernel_rfl)
theorem Zb:f4.isWrapper Tryz.pinned.checked.prog Rows.wholeAnyRow.wrapper Rows.wholeAnyRow.mainSum:=by unfold Func.isWrapper;first | (rw [an (by decide +kernel)];kernel_rfl) | (rw [ai (by decide +kernel)];exact ⟨rfl,rfl⟩)
theorem Zt:Rows.wholeAnyRow.wfByText (OpenSpec.ofChange Rows.wholeAnySpec)=true:=by kernel_rfl
theorem ZX:false=Rows.wholeAnyRow.goesBy Tryz.pinned.checked.prog:=by kernel_rfl
theorem Ui:Rows.wholeAnyRow.holds Tryz.pinned (OpenSpec.ofChange Rows.wholeAnySpec) :=
 OpenClaim.holds_of_wide 4 f4 rfl rfl rfl rfl rfl rfl rfl ⟨rfl,rfl,rfl,rfl,rfl⟩ rfl rfl rfl rfl rfl S8 func4 aaw
  aax Zb
  (fun os started H enc _=>IK os started H enc)
theorem any_holds:Rows.WholeAnyCardSaid :=
 Claim7.holds_tied_plain_at .later [] [.handle] true _ _ Ui (fun _ h=>by cases h) Zt (fun _ h=>by cases h) wholeAny_row_tie rfl ⟨rfl,rfl⟩ (by kernel_rfl) rfl
  (fun f fn hf hfn=>by
    obtain rfl : f = 4 := Option.some.inj ((show Tryz.prog.funcNamed "hayward/haywardtop.WholeAny" = some 4 from S8).symm.trans hf) |>.symm
    obtain rfl:fn=f4:=(cN (func4.symm.trans hfn)).symm
    exact ⟨by kernel_rfl,fun j t ht=>by
     rw [params4] at ht;have hm:t∈[22,34,5,5]:=by simpa using Array.mem_of_getElem? ht
     have hall:([22,34,5,5].all fun u=>!prog.wantsStandIn u)=true:=by kernel_rfl
     exact (show prog.wantsStandIn t=false by simpa using ew.1 hall t hm)⟩)
  ZX
end Fs
