/- The statement WholeApart of the whole,proved: it returns true for every input that can be read,and every argument reads as it did;the variable errors.errorType is tied to the text of the program. No other condition. -/
import Derived.Test.YtljnkaodhfnbbaaGreatDoorRows
import Derived.Test.YtljnkaodhfnbbaaGreatDoorCards
import Derived.Test.YtljnkaodhfnbbaaGreatDoorTie
import Derived.Test.YtljnkaodhfnbbaaGreatDoorPc6
import Derived.Test.YtljnkaodhfnbbaaGreatDoorPc3
import Derived.Test.YtljnkaodhfnbbaaGreatDoorPc12
import Derived.ChangeSame
import Derived.ChangeVars
import Derived.JoinedOf
import Derived.ProofKit
import Derived.OpenShut
import Derived.ChangeOld
import Derived.Deep.SlicePairs
import Derived.SevenTiedAt
set_option maxRecDepth 100000
namespace Go.Proofs.YtljnkaodhfnbbaaGreatDoor.Fs
open Go.ChangeShapes Go.WideShapes Go.ChangeAt Go.RowKit Go.Deep
theorem own:ownKnob Tryz.prog.godebug=none:=by kernel_rfl
theorem laidOut:laidOutB Tryz.prog=true:=by kernel_rfl
set_option maxRecDepth 100000 in
theorem wapart_lifted (os:Os) (started:os.Started) (H:Type) (enc:TypeId×Value→H) :
 ReturnsInHanded {} Tryz.checked os 9 .any (fun w args=>(Rows.wholeApartSpec.pre enc Tryz.prog Tryz.f9 Rows.wholeApartRow.domain false w args∧laidMetH Tryz.prog laid w)∧sizedMet enc Tryz.prog Tryz.f9 (OpenSpec.ofChange Rows.wholeApartSpec) false w args) (Rows.wholeApartSpec.post enc Tryz.prog Tryz.f9 false true false false):=by
 refine returnsInHanded_of_change_and (C:=Tryz.checked) (X:=fun w _=>laidMetH Tryz.prog laid w) (fun _ _ _ hh h=>h.of_heap hh) own started (by kernel_rfl) Tryz.func9
  (ChangeSpec.witness_at (enc:=enc) (C:=Tryz.checked) (os:=os) (X:=fun w _=>laidMetH Tryz.prog laid w) false (laidWorld os) #[.slice none 0 0,.slice none 0 0,.int .u16 0] 8 rfl (by kernel_rfl) (by kernel_rfl) (by kernel_rfl) (by kernel_rfl) (by kernel_rfl) (laidWorld_met os _)) ?_
 intro W base args ds gs before hval0 hW _ _ hL _
 have hval:∀ (j:Nat) t v,Tryz.f9.params[j]? = some t→args[j]? = some v→Value.okWide Tryz.prog W .any base t v:=hval0;have hW':=hW;obtain ⟨p,q,hA0,hV,rfl,hfz,hnd⟩:=hW;have hA:DataW.TrodAll enc Tryz.prog W 0 (fun _=>true) true Tryz.f9.params.toList args.toList ds p:=hA0;rw [Tryz.params9] at hA hval;obtain ⟨v0,vs0,d0,ds0,p0,q0,hargs,rfl,rfl,h0,r0⟩:=trodAll_cons hA;obtain ⟨v1,vs1,d1,ds1,p1,q1,rfl,rfl,rfl,h1,r1⟩:=trodAll_cons r0;obtain ⟨v2,vs2,d2,ds2,p2,q2,rfl,rfl,rfl,h2,r2⟩:=trodAll_cons r1;obtain ⟨rfl,rfl,rfl⟩:=trodAll_nil r2;obtain rfl:args=#[v0,v1,v2]:=by cases args;simp_all
 obtain ⟨rfl,rfl⟩:=trodVars_none hV;have lt0:∀ x∈p0,x.block < W.heap.size:=by obtain ⟨m,hm⟩:=h0;exact DataW.trod_lt m _ _ _ hm
 obtain ⟨L0,R0⟩:=Pa.cells_of (hval 0 77 v0 rfl rfl) h0;have lt1:∀ x∈p1,x.block < W.heap.size:=by obtain ⟨m,hm⟩:=h1;exact DataW.trod_lt m _ _ _ hm
 obtain ⟨L1,R1⟩:=Pa.spoils_of (hval 1 37 v1 rfl rfl) h1;obtain ⟨a2,rfl,rfl,rfl,w2⟩:=open_int Tryz.underlying94 (hval 2 94 v2 rfl rfl) h2;have k2:=bounds_u16 w2;have T:=glob_of hL;clear hA0 hval0 hL;refine (Wp.wapart_any T T R0 R1 a2 (by omega)).mono fun e W' ⟨he,bel⟩=>?_;subst he;exact ⟨_,rfl,_,_,_,[],_,[],hW',trodAll_mk1 (shut_bool Tryz.underlying4 _),(trodAll_cons_mk (Below.trod laidOut (by kernel_rfl) (of_decide_eq_true (by kernel_rfl)) h0 bel lt0) (trodAll_cons_mk (Below.trod laidOut (by kernel_rfl) (of_decide_eq_true (by kernel_rfl)) h1 bel lt1) (trodAll_cons_mk (shut_int Tryz.underlying94 w2) trodAll_mk0))),rfl,bel.frame _,fun h=>by cases h⟩
theorem wapart_jn:Tryz.pinned.checked.prog.funcNamed Rows.wholeApartRow.func=some 9:=by kernel_rfl
theorem wapart_j1:(Rows.wholeApartRow.inPlace == Tryz.pinned.checked.prog.inPlace 9)=true:=by kernel_rfl
theorem wapart_j2:(Rows.wholeApartRow.unfollowed == Tryz.pinned.checked.prog.unfollowed 9)=true:=by kernel_rfl
theorem wapart_j3:(Rows.wholeApartRow.recurses == Tryz.pinned.checked.prog.recurses 9)=true:=by kernel_rfl
theorem wapart_j4:(Rows.wholeApartRow.named == Tryz.pinned.checked.prog.varsNamed 9)=true:=by kernel_rfl
theorem wapart_j5:laidOutB Tryz.pinned.checked.prog=true:=by kernel_rfl
theorem wapart_j6:mapsRowed Tryz.pinned.checked.prog=true:=by kernel_rfl
theorem wapart_j7:joinedFacts Tryz.pinned.checked.prog 9 Tryz.f9 Rows.wholeApartSpec Rows.wholeApartRow=true:=by
 unfold joinedFacts;rw [wapart_j1,wapart_j2,wapart_j3,wapart_j4,wapart_j5,wapart_j6]
 kernel_rfl
theorem wapart_j8:Tryz.f9.isInstance Tryz.pinned.checked.prog Rows.wholeApartRow.origin Rows.wholeApartRow.targs:=by exact of_decide_eq_true (by kernel_rfl)
theorem wapart_j9:Tryz.f9.isWrapper Tryz.pinned.checked.prog Rows.wholeApartRow.wrapper Rows.wholeApartRow.mainSum:=by unfold Func.isWrapper;first | (rw [if_pos (by decide +kernel)];kernel_rfl) | (rw [if_neg (by decide +kernel)];exact ⟨rfl,rfl⟩)
theorem wapart_jh:Rows.wholeApartRow.wfByText (OpenSpec.ofChange Rows.wholeApartSpec)=true:=by kernel_rfl
theorem wapart_jg:false=Rows.wholeApartRow.goesBy Tryz.pinned.checked.prog:=by kernel_rfl
theorem wapart_over:Rows.wholeApartRow.holds Tryz.pinned (OpenSpec.ofChange Rows.wholeApartSpec) :=
 OpenClaim.holds_of_wide 9 Tryz.f9 rfl rfl rfl rfl rfl rfl rfl ⟨rfl,rfl,rfl,rfl,rfl⟩ rfl rfl rfl rfl rfl wapart_jn Tryz.func9 wapart_j7
  wapart_j8 wapart_j9
  (fun os started H enc _=>wapart_lifted os started H enc)
theorem wapart_holds:Rows.WholeApartCardSaid :=
 Claim7.holds_tied_plain_at .later [] [.handle] true _ _ wapart_over (fun _ h=>by cases h) wapart_jh (fun _ h=>by cases h) wholeApart_row_tie rfl ⟨rfl,rfl⟩ (by kernel_rfl) rfl
  (fun f fn hf hfn=>by
    obtain rfl : f = 9 := Option.some.inj ((show Tryz.prog.funcNamed "hayward/haywardtop.WholeApart" = some 9 from wapart_jn).symm.trans hf) |>.symm
    obtain rfl:fn=Tryz.f9:=(Option.some.inj (Tryz.func9.symm.trans hfn)).symm
    exact ⟨by kernel_rfl,fun j t ht=>by
     rw [Tryz.params9] at ht;have hm:t∈[77,37,94]:=by simpa using Array.mem_of_getElem? ht
     have hall:([77,37,94].all fun u=>!Tryz.prog.wantsStandIn u)=true:=by kernel_rfl
     exact (show Tryz.prog.wantsStandIn t=false by simpa using List.all_eq_true.1 hall t hm)⟩)
  wapart_jg
end Go.Proofs.YtljnkaodhfnbbaaGreatDoor.Fs
