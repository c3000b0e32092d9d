/- The statement ClusterServes,proved: it returns true for every input that can be read,and every argument reads as it did;the variable errors.errorType is tied to the text of the program. No other condition. -/
import Derived.Test.YtpepoackmcohlaaGreatDoorCards
import Derived.Test.YtpepoackmcohlaaGreatDoorTie
import Derived.Test.YtpepoackmcohlaaGreatDoorPg14
set_option maxRecDepth 100000
namespace Go.Proofs.YtpepoackmcohlaaGreatDoor
open Go.Proofs.Tryz
namespace Fs
open Go.ChangeShapes Go.WideShapes Go.ChangeAt Go.RowKit Go.Deep
theorem own:ownKnob prog.godebug=none:=by kernel_rfl
theorem laidOut:laidOutB prog=true:=by kernel_rfl
set_option maxRecDepth 100000 in
theorem xR (os:Os) (started:os.Started) (H:Type) (enc:TypeId×Value->H) :
 ReturnsInHanded {} checked os 4 .any (fun w args=>(Rows.clusterServesSpec.pre enc prog f4 Rows.clusterServesRow.domain false w args/\laidMetH prog laid w)/\sizedMet enc prog f4 (OpenSpec.ofChange Rows.clusterServesSpec) false w args) (Rows.clusterServesSpec.post enc prog f4 false true false false):=by
 refine returnsInHanded_of_change_and (C:=checked) (X:=fun w _=>laidMetH prog laid w) (fun _ _ _ hh h=>h.of_heap hh) own started (by kernel_rfl) func4
  (ChangeSpec.witness_at (enc:=enc) (C:=checked) (os:=os) (X:=fun w _=>laidMetH prog laid w) false (CJ os) #[.slice none 0 0,.slice none 0 0,.int .i64 0,.agg #[.int .i64 0,.int .i64 0,.int .i64 0],.agg #[.int .u8 0,.int .u8 0,.int .u8 0,.int .u8 0]] 8 rfl (by kernel_rfl) (by kernel_rfl) (by kernel_rfl) (by kernel_rfl) (by kernel_rfl) (Bt os _)) ?_
 intro W base args ds gs before hval0 hW _ _ hL _
 have hval:∀ (j:Nat) t v,f4.params[j]? = some t->args[j]? = some v->Value.okWide prog W .any base t v:=hval0;have hW':=hW;obtain ⟨p,q,hA0,hV,rfl,hfz,hnd⟩:=hW;have hA:DataW.TrodAll enc prog W 0 (fun _=>true) true f4.params.toList args.toList ds p:=hA0;rw [params4] at hA hval;obtain ⟨v0,vs0,d0,ds0,p0,q0,hargs,rfl,rfl,h0,r0⟩:=trodAll_cons hA;obtain ⟨v1,vs1,d1,ds1,p1,q1,rfl,rfl,rfl,h1,r1⟩:=trodAll_cons r0;obtain ⟨v2,vs2,d2,ds2,p2,q2,rfl,rfl,rfl,h2,r2⟩:=trodAll_cons r1;obtain ⟨v3,vs3,d3,ds3,p3,q3,rfl,rfl,rfl,h3,r3⟩:=trodAll_cons r2;obtain ⟨v4,vs4,d4,ds4,p4,q4,rfl,rfl,rfl,h4,r4⟩:=trodAll_cons r3;obtain ⟨rfl,rfl,rfl⟩:=trodAll_nil r4;obtain rfl:args=#[v0,v1,v2,v3,v4]:=by cases args;simp_all
 obtain ⟨rfl,rfl⟩:=trodVars_none hV;have lt0:∀ x∈p0,x.block < W.heap.size:=by obtain ⟨m,hm⟩:=h0;exact DataW.trod_lt m _ _ _ hm
 obtain ⟨l0,L0⟩:=Cu.Yt (hval 0 22 v0 rfl rfl) h0;have lt1:∀ x∈p1,x.block < W.heap.size:=by obtain ⟨m,hm⟩:=h1;exact DataW.trod_lt m _ _ _ hm
 obtain ⟨l1,R1,O1⟩:=Cu.aaF (hval 1 23 v1 rfl rfl) h1;obtain ⟨a2,rfl,rfl,rfl,w2⟩:=open_int underlying3 (hval 2 3 v2 rfl rfl) h2;have lt3:∀ x∈p3,x.block < W.heap.size:=by obtain ⟨m,hm⟩:=h3;exact DataW.trod_lt m _ _ _ hm
 obtain ⟨o3,f3,r3',rfl⟩:=Ad.Y9 (hval 3 59 v3 rfl rfl) h3;have lt4:∀ x∈p4,x.block < W.heap.size:=by obtain ⟨m,hm⟩:=h4;exact DataW.trod_lt m _ _ _ hm
 obtain ⟨x4,rfl,k4⟩:=Fl.acE (hval 4 42 v4 rfl rfl) h4;have T:=aaH hL;clear hA0 hval0 hL;refine (Cu.Kl T L0 R1 O1 a2 o3 f3 r3' x4 k4).mono fun e W' ⟨he,aI⟩=>?_;subst he;exact ⟨_,rfl,_,_,_,[],_,[],hW',trodAll_mk1 (shut_bool underlying4 _),(trodAll_cons_mk (Below.trod laidOut (by kernel_rfl) (of_decide_eq_true (by kernel_rfl)) h0 aI lt0) (trodAll_cons_mk (Below.trod laidOut (by kernel_rfl) (of_decide_eq_true (by kernel_rfl)) h1 aI lt1) (trodAll_cons_mk (shut_int underlying3 w2) (trodAll_cons_mk (Below.trod laidOut (by kernel_rfl) (of_decide_eq_true (by kernel_rfl)) h3 aI lt3) (trodAll_cons_mk (Below.trod laidOut (by kernel_rfl) (of_decide_eq_true (by kernel_rfl)) h4 aI lt4) trodAll_mk0))))),rfl,aI.frame _,fun h=>by cases h⟩
theorem xN:Tryz.pinned.checked.prog.funcNamed Rows.clusterServesRow.func=some 4:=by kernel_rfl
theorem Im:(Rows.clusterServesRow.inPlace == Tryz.pinned.checked.prog.inPlace 4)=true:=by kernel_rfl
theorem JQ:(Rows.clusterServesRow.unfollowed == Tryz.pinned.checked.prog.unfollowed 4)=true:=by kernel_rfl
theorem Gl:(Rows.clusterServesRow.recurses == Tryz.pinned.checked.prog.recurses 4)=true:=by kernel_rfl
theorem Gt:(Rows.clusterServesRow.named == Tryz.pinned.checked.prog.varsNamed 4)=true:=by kernel_rfl
theorem JA:laidOutB Tryz.pinned.checked.prog=true:=by kernel_rfl
theorem JE:mapsRowed Tryz.pinned.checked.prog=true:=by kernel_rfl
theorem H7:joinedFacts Tryz.pinned.checked.prog 4 f4 Rows.clusterServesSpec Rows.clusterServesRow=true:=by
 unfold joinedFacts;rw [Im,JQ,Gl,Gt,JA,JE]
 kernel_rfl
theorem H6:f4.isInstance Tryz.pinned.checked.prog Rows.clusterServesRow.origin Rows.clusterServesRow.targs:=by exact of_decide_eq_true (by kernel_rfl)
theorem Gf:f4.isWrapper Tryz.pinned.checked.prog Rows.clusterServesRow.wrapper Rows.clusterServesRow.mainSum:=by unfold Func.isWrapper;first | (rw [aw (by decide +kernel)];kernel_rfl) | (rw [am (by decide +kernel)];exact ⟨rfl,rfl⟩)
theorem Hz:Rows.clusterServesRow.wfByText (OpenSpec.ofChange Rows.clusterServesSpec)=true:=by kernel_rfl
theorem Ie:false=Rows.clusterServesRow.goesBy Tryz.pinned.checked.prog:=by kernel_rfl
theorem Bi:Rows.clusterServesRow.holds Tryz.pinned (OpenSpec.ofChange Rows.clusterServesSpec) :=
 OpenClaim.holds_of_wide 4 f4 rfl rfl rfl rfl rfl rfl rfl ⟨rfl,rfl,rfl,rfl,rfl⟩ rfl rfl rfl rfl rfl xN func4 H7
  H6 Gf
  (fun os started H enc _=>xR os started H enc)
theorem serves20_holds:Rows.ClusterServesCardSaid :=
 Claim7.holds_tied_plain_at .later [] [.handle] true _ _ Bi (fun _ h=>by cases h) Hz (fun _ h=>by cases h) clusterServes_row_tie rfl ⟨rfl,rfl⟩ (by kernel_rfl) rfl
  (fun f fn hf hfn=>by
    obtain rfl : f = 4 := Option.some.inj ((show Tryz.prog.funcNamed "hayward/haywardlaw20.ClusterServes" = some 4 from xN).symm.trans hf) |>.symm
    obtain rfl:fn=f4:=(cP (func4.symm.trans hfn)).symm
    exact ⟨by kernel_rfl,fun j t ht=>by
     rw [params4] at ht;have hm:t∈[22,23,3,59,42]:=by simpa using Array.mem_of_getElem? ht
     have hall:([22,23,3,59,42].all fun u=>!prog.wantsStandIn u)=true:=by kernel_rfl
     exact (show prog.wantsStandIn t=false by simpa using eh.1 hall t hm)⟩)
  Ie
end Fs
