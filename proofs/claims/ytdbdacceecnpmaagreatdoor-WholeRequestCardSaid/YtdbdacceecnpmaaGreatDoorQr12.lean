import Derived.Test.YtdbdacceecnpmaaGreatDoorQr11
import Derived.Deep.CutBlock
import Derived.ProofKit
import Derived.OpenShut
import Derived.Test.YtdbdacceecnpmaaGreatDoorRows
import Derived.LaidMore
import Derived.Stop.Joined
set_option maxRecDepth 100000
set_option maxHeartbeats 32000000
namespace Go.Proofs.YtdbdacceecnpmaaGreatDoor
open Go.Proofs.Tryz
open Ck (Hd sl zh)
open Cu (Ac CH ClE Cs KA KP OkC PlD Pls Syn aat actA actC actE actV ch_files ch_live ch_new ch_nodes fls_of gdP newC newE new_no new_ok pls pls_len pls_of rC run_buildB srC srE srV syn_new)
open Fl (K4 R4 goodF hdr newL newP okL okR rat rec4 row_cell row_frozen z4)
open Fs (Abs E3 Ent Fil FilesPost Fx Glob Ls OkA Only St Wf at3 dE dV gB look_none ow_only sA sB same_is)
open Pa (Fls KB KN S2 Sts apS eatF only_grown ptr push_at rdE rdL rdS rdS_at rdS_len recA recV rec_congr rec_none sat vat)
open Re (FilePost KI fileL rfile_any)
open Ro (E5 K5)
open Rq (KU PutPost ReadPost Y good isQ isQ_qb isY isY_yb may okV put_any qA qV qb qof qof_qb yA yV yb yof yof_yb zQ)
open Rw (At Ow Rd)
namespace Ga
open Go.RowKit
def GX (w0:World) (g s:Nat) (H:Nat->Prop) (G:Gs) (t:Nat) (W:World):Prop:=GE W g s H G t/\(∀ k,H k->w0.heap.size<=k)/\Below w0.heap.size w0 W
section
variable {w0 W w':World} {g s t:Nat} {H J:Nat->Prop} {G:Gs}
theorem GX.only (h:GX w0 g s H G t W) (hn:∀ k,H k->¬ J k) (o:Only J W w') (hj:∀ k,J k->w0.heap.size<=k):GX w0 g s H G t w' :=
 ⟨h.1.only hn o,h.2.1,h.2.2.trans (o.below h.2.2.size hj)⟩
theorem GX.below (h:GX w0 g s H G t W) (b:Below W.heap.size W w'):GX w0 g s H G t w' :=
 ⟨h.1.only (J:=fun _=>False) (fun _ _ f=>f) (Only.of_below b),h.2.1,h.2.2.trans (b.mono h.2.2.size)⟩
theorem GX.late (h:GX w0 g s H G t W):GX w0 g s H G (t+1) W:=⟨h.1.late,h.2⟩
theorem GX.bel (h:GX w0 g s H G t W):Below w0.heap.size w0 W:=h.2.2
theorem GX.low (h:GX w0 g s H G t W):∀ k,H k->k < W.heap.size:=by
 obtain ⟨⟨F,B,h1,h2,h3,h4,h5⟩,_⟩:=h;exact h5
theorem GX.ch (h:GX w0 g s H G t W):CH w0 s G.c t W:=by
 obtain ⟨⟨F,B,h1,h2,h3,h4,h5⟩,h6,h7⟩:=h;exact ⟨F,h1,fun k f=>h6 k (h4 k (.inl f)),h7⟩
theorem fx_new (w':World) (h6:∀ k,H k->w0.heap.size<=k) (b:Below w0.heap.size w0 W):∀ k,Fx H W w' k->w0.heap.size<=k:=fun k f=>by
 have:=b.size
 rcases f with f | f
 ·exact h6 k f
 ·omega
theorem GX.grown {G':Gs} {t':Nat} (h:GX w0 g s H G t W) (h':GE w' g s (Fx H W w') G' t') (o:Only H W w'):GX w0 g s (Fx H W w') G' t' w' :=
 ⟨h',fx_new w' h.2.1 h.2.2,h.2.2.trans (o.below h.2.2.size h.2.1)⟩
theorem gx_submit (h:GX w0 g s H G t W) (hg:Glob w0) (ok:OkG G t) {v:Value} {l:List Int} (R:Rd KU W v l) (hb:∀ x∈l,0<=x/\x < 256):Calls prog 15 #[ptr g,v] W fun e w'=>∃ u,e = .returned u/\Rd KU w' u (sbA G l)/\GX w0 g s (Fx H W w') (sbC G l) t w'/\Only H W w':=by
 have gl:=aC _ _ hg;obtain ⟨F,B,h1,h2,h3,h4,h5⟩:=h.1;refine (gsubmit_any h1 h2 (fun k f=>h5 k (h4 k (.inr f))) (hg.below h.2.2) (fun q=>by have:=h.2.1 _ (h4 _ (.inr q));exact absurd gl (by show ¬ 0 < _;omega)) ok.qo R hb).mono fun e w' d=>?_;obtain ⟨u,d1,d2,d3,d4⟩:=d;have o:Only H W w':=d4.mono fun k _ f=>h4 k (.inr f);have ec:(sbC G l).c=G.c/\(sbC G l).key=G.key:=by unfold sbC;split <;> exact ⟨rfl,rfl⟩
 refine ⟨u,d1,d2,h.grown ⟨F,Fx B W w',by rw [ec.1];exact cle_only h1 h3 d4,by rw [ec.2];exact d3,fun k f b=>?_,fun k f=>?_,fun k f=>?_⟩ o,o⟩
 ·rcases b with b | b
  ·exact h3 k f b
  ·have:=h5 k (h4 k (.inl f));omega
 ·rcases f with f | f
  ·exact .inl (h4 k (.inl f))
  ·rcases f with f | f
   ·exact .inl (h4 k (.inr f))
   ·exact .inr f
 ·rcases f with f | f
  ·exact aV (h5 k f) o.size
  ·exact f.2
theorem gx_step (h:GX w0 g s H G t W) (hg:Glob w0) (ok:OkG G t) (ht:t<=900):Calls prog 11 #[ptr g] W fun e w'=>∃ u,e = .returned u/\Rd KU w' u (stA G)/\GX w0 g s (Fx H W w') (stC G) (t+2) w'/\Only H W w':=by
 have gl:=aC _ _ hg;refine (gstep_any h.1 ok (hg.below h.2.2) (fun q=>by have:=h.2.1 _ q;exact absurd gl (by show ¬ 0 < _;omega)) ht).mono fun e w' d=>?_;obtain ⟨u,d1,d2,d3,d4⟩:=d;exact ⟨u,d1,d2,h.grown d3 d4,d4⟩
theorem gx_new {c:Cs} {key:Int} (h:CH w0 s c t W) (hk:0<=key/\key<=255):Calls prog 9 #[ptr s,.int .i64 key] W fun e w'=>∃ g H,e = .returned (.tuple #[ptr g,.int .i64 0])/\GX w0 g s H ⟨c,key,Qe.q0⟩ t w':=by
 obtain ⟨F,h1,h2,h3⟩:=h;refine (gnew_any W s key hk).mono fun e w' d=>?_;obtain ⟨g,B,d1,d2,d3,d4⟩:=d;have l1:=cle_low h1;have z:=h3.size;refine ⟨g,fun k=>F k\/B k,d1,⟨F,B,cle_only (J:=fun _=>False) h1 (fun _ _ f=>f) (Only.of_below d4),d2,fun k f b=>?_,fun k f=>f,fun k f=>?_⟩,fun k f=>?_,h3.trans (d4.mono z)⟩
 ·have:=l1 k f
  have:=(d3 k b).1
  omega
 ·rcases f with f | f
  ·exact aV (l1 k f) d4.size
  ·exact (d3 k f).2
 ·rcases f with f | f
  ·exact h2 k f
  ·exact aX z (d3 k f).1
end
end Ga
namespace Cu
open Fs (key)
open Pa (hr)
open Ro (tabL)
open Ck (LL lat tE)
open Re (iat sL sN seqP)
structure Blk (A:Abs) (l:List Int):Prop where
 has:fB A 40=true
 p:fP A 40=3
 r:fR A 40=fileL l
 seq:seqP l
theorem Blk.sq {A:Abs} {l:List Int} (h:Blk A l):sqB A=true/\sqL A=l:=by
 obtain ⟨e1,e2⟩:=Re.seq_file h.seq;unfold sqB sqL;rw [h.has,h.p,h.r,e1,e2];exact ⟨rfl,rfl⟩
def acR:Ac:=⟨1,0,0,0,z4,0,0,0⟩
theorem act_round (c:Cs):actE acR c=rE c/\actC acR c=rC c:=⟨aj rfl,aj rfl⟩
def A0:Abs:=[(40,3,fileL [0,1])]
def S0:Sts:=[(A0,0),(A0,0)]
theorem no0:∀ x∈S0,∀ n∈([0,1]:List Int),fB x.1 (32+n)=false:=fun x hx n hn=>by
 have hx:x=(A0,0):=by
  rcases aN.1 hx with h | h
  ·exact h
  ·exact bm.1 h
 rw [hx]
 rcases aN.1 hn with h | h
 ·rw [h];rfl
 ·rw [bm.1 h];rfl
def c1:Cs:=⟨S0,[true,true],Wt.new,1,[]⟩
def A1:Abs:=[(1,7,newL 7 1),(40,3,fileL [0])]
def r7:R4:=(7,0,0,0)
def A2:Abs:=[(1,7,[hdr 7 1,r7]),(40,3,fileL [0])]
def L1:List Pl:=[(A1,2000),(A1,2000)]
def d1:Cs:=⟨[(A1,0),(A2,0)],[true,true],Wt.new,0,[]⟩
theorem seq0:seqP [0]:=by decide
end Cu
namespace Ga
open Cu (Pl A1 seq0)
open Rq (Q)
open Qe (q0 ok_0)
theorem of_two {α:Type} {a p:α} (h:p∈[a,a]):p=a:=by
 rcases aN.1 h with h | h
 ·exact h
 ·exact bm.1 h
theorem okG_new {L:List Pl} (h:newE L=0) (ok:∀ p∈L,∀ e∈p.1,okL e.2.2) {key:Int} (hk:0<=key/\key<=255):OkG ⟨newC L,key,q0⟩ 0:=by
 have o:=new_ok h ok;refine ⟨o,syn_new _ ?_,ok_0,nofun,hk⟩;have:=o.len.1;have e:(newC L).S.length=L.length:=aL _
 omega
def A3:Abs:=[(40,3,fileL [0])]
def L3:List Pl:=[(A3,0),(A3,0)]
theorem blk3:Cu.Blk A3 [0]:=⟨rfl,rfl,rfl,seq0⟩
theorem gd3:gdP (A3,0):=⟨⟨List.pairwise_singleton _ _,fun e he=>by
 rw [bm.1 he]
 exact ⟨⟨by decide,by decide⟩,Re.file_good seq0⟩⟩,by decide,by decide⟩
theorem new3:newE L3=0:=by
 unfold newE;rw [ah (by decide),aj,aj]
 ·exact ⟨blk3.sq.1,rfl,rfl,rfl⟩
 ·intro p hp
  rw [of_two hp];exact gd3
def G3:Gs:=⟨newC L3,0,q0⟩
def x3:Q:=⟨4,4,1,0,0,z4,0⟩
theorem good3:good x3:=by decide
theorem ok3:OkG G3 0:=okG_new new3 (fun p hp e he=>by
 rw [of_two hp] at he;rw [bm.1 he]
 exact Re.ok_file seq0) (by decide)
theorem sb3:sbE G3 (qb x3)=0:=by
 unfold sbE;rw [ah (fun h=>h (isQ_qb good3)),qof_qb good3]
 rfl
def G3':Gs:=⟨newC L3,0,⟨[x3],0⟩⟩
theorem sc3:sbC G3 (qb x3)=G3':=by
 unfold sbC;rw [aj sb3,qof_qb good3]
 rfl
theorem st3:stA G3'=yb ⟨4,0,(1,2,0,0)⟩:=rfl
def L4:List Pl:=[(A1,0),(A1,0)]
def x5:Q:=⟨5,2,1,1,1,(9,0,0,0),7⟩
def x6:Q:=⟨6,2,1,1,1,z4,8⟩
def G5:Gs:=⟨newC L4,7,⟨[x5],0⟩⟩
end Ga
namespace Wn
open Go.RowKit
attribute [local irreducible] Sd.wpSd wpQuiet
theorem two_plans {w:World} {c:PlD} (h:Pa.Fls w (sl c.files) c.F w.heap.size):Pls (w.alloc (.cells #[sl c.files,.int .i64 c.rate,sl c.files,.int .i64 c.rate] 75)) (.slice (some ⟨w.heap.size,0,none⟩) 2 2) [c,c] (w.alloc (.cells #[sl c.files,.int .i64 c.rate,sl c.files,.int .i64 c.rate] 75)).heap.size:=by
 have rd:=(Rw.Ow.lit (K:=KP) w w.heap.size 75 [c,c] (ac _) (by unfold maxLen;simp)).rd;have b:=(aa w.heap.size w).alloc (ac _) (.cells #[sl c.files,.int .i64 c.rate,sl c.files,.int .i64 c.rate] 75);refine pls_of rd fun x hx=>?_;have e:x=c:=by
  rcases aN.1 hx with h | h
  ·exact h
  ·exact bm.1 h
 rw [e];have f:=h.below b;exact fls_of f.rd fun y hy=>by
  obtain ⟨i,hi⟩:=bH hy;have hl:=(aM.1 hi).1;have:=f.file i hl;unfold Pa.eatF at this;rw [af,hi] at this;exact this
end Wn
namespace Rq
open Go.RowKit
attribute [local irreducible] Sd.wpSd wpQuiet Sg.wpSg
theorem read_len (w:World) (a:Option Addr) (cap:Nat) (l:List Int) (hl:l.length≠9):Calls prog 12 #[.slice a l.length cap] w (ReadPost w l):=by
 have E:Hid (∀ w',Below w.heap.size w w'->ReadPost w l (.returned (.tuple #[yV zY,.int .i64 2])) w'):=fun w' b=>⟨by rw [ah fun h=>hl h.1,ah fun h=>hl h.1],b⟩;have B0:=Hh ((aa w.heap.size w).alloc (ac _) (.cells (yA zY) 44));have R0:=Hh (am w (.cells (yA zY) 44));generalize l.length=n at *;have h9:¬ (n:Int)=9:=by omega
 have m9:((n:Int) != 9)=true:=bne_iff_ne.2 h9;unfold yV yA zY z4 at *;dsimp only at E B0 R0
 go_enter func12,ntmps12
 go_wp2
 (try simp only [Exit.inBlock,Exit.then])
 exact aA (results_reply (p:=2) (r:=3) rfl _ _ w.heap.size _ rfl rfl R0.out rfl) rfl (E.out _ B0.out)
theorem splice_all (p0 p1:Value) (a b c d:Int):splice [p0,p1,.int .u8 0,.int .u8 0,.int .u8 0,.int .u8 0] 2 ([a,b,c,d].map (Value.int .u8)) = [p0,p1,.int .u8 a,.int .u8 b,.int .u8 c,.int .u8 d]:=rfl
theorem read_nine (w:World) (b off cap:Nat) (l:List Int) (hl:l.length=9) (hc:l.length<=cap) (hb:∀ x∈l,0<=x/\x < 256) (hA:At KU w b off l):Calls prog 12 #[.slice (some ⟨b,off,none⟩) l.length cap] w (ReadPost w l):=by
 have E:Hid (∀ c w',decide (may (yof l)/\yb (yof l)=l)=c->Below w.heap.size w w'->ReadPost w l (.returned (.tuple #[yV (if c then yof l else zY),.int .i64 (if c then 0 else 2)])) w'):=fun c w' hc b=>by
  refine ⟨?_,b⟩;rw [← hc]
  by_cases h:isY l
  ·rw [aj h,aj h,an h.2,aj rfl,aj rfl]
  ·rw [ah h,ah h,ak fun k=>h ⟨hl,k⟩]
   rfl
 have ge:=getD_byte hb;have c:=cells_at hA;have B0:=Hh ((aa w.heap.size w).alloc (ac _) (.cells (yA zY) 44));have R0:=Hh (am w (.cells (yA zY) 44));have HA:=Hh hA;have HB:=Hh hb;have HN:=Hh hl;have c2:=bCe B0.out (c 2 (by omega));have c3:=bCe B0.out (c 3 (by omega));have d4:=Sd.cell_by (bCe B0.out (c 4 (by omega)));have g2:=ge 2;have g3:=ge 3;have e4:IntKind.i64.wrap (l.getD 4 0)=l.getD 4 0:=aR _ (by have:=ge 4;omega);have MC:Hid (w.cell? ⟨b,off+5,none⟩=some (.int .u8 (l.getD 5 0))/\w.cell? ⟨b,off+6,none⟩=some (.int .u8 (l.getD 6 0))/\w.cell? ⟨b,off+7,none⟩=some (.int .u8 (l.getD 7 0))/\w.cell? ⟨b,off+8,none⟩=some (.int .u8 (l.getD 8 0))):=Hh ⟨c 5 (by omega),c 6 (by omega),c 7 (by omega),c 8 (by omega)⟩;have GV:Hid (okV (l.getD 5 0,l.getD 6 0,l.getD 7 0,l.getD 8 0)):=Hh ⟨ge 5,ge 6,ge 7,ge 8⟩;have QE:Hid (yof l=⟨l.getD 2 0 * 256+l.getD 3 0,l.getD 4 0,(l.getD 5 0,l.getD 6 0,l.getD 7 0,l.getD 8 0)⟩):=Hh rfl;rw [hl] at hc ⊢;have hcap:¬ cap=5:=by omega
 clear c ge hA hb hl;generalize l.getD 2 0=b2 at *;generalize l.getD 3 0=b3 at *;generalize l.getD 4 0=b4 at *;generalize l.getD 5 0=u0 at *;generalize l.getD 6 0=u1 at *;generalize l.getD 7 0=u2 at *;generalize l.getD 8 0=u3 at *;unfold yA zY z4 at B0 R0 d4 c2 c3;dsimp only at B0 R0 d4 c2 c3
 go_enter func12,ntmps12
 go_wp2_with fail;generalize w.alloc (.cells #[.int .i64 0,.int .i64 0,.int .u8 0,.int .u8 0,.int .u8 0,.int .u8 0] 44)=W at *;refine Sg.startP [(0,0),(0,2),(0,3),(0,4),(0,5),(1,1),(0,6),(2,7),(1,8)] [⟨7,4,#[.int .i64 0,.int .i64 0,.int .u8 0,.int .u8 0,.int .u8 0,.int .u8 0],44,none,none⟩] (by kernel_rfl) (by kernel_rfl) (by kernel_rfl) (by decide) (by decide) ?_ ?_ ?_
 ·simp
 ·intro f hf
  simp only [aN,bp,cG] at hf;subst hf;exact Sg.okP rfl rfl rfl fun ρ w=>by go_simp
 dsimp only [Sg.picks,List.getElem?_cons_succ,List.getElem?_cons_zero];have BW:=Hh ((aa W.heap.size W).drew)
 repeat (refine Sg.lit (fun xs=>?_);simp only [Sg.fill,aK,aD];quiet_step (fail);refine az ?_)
 refine Sg.callB (fun xs w5 hb hc=>⟨by rfl,fun K hK=>?_⟩);have B5:=bTr BW hb;have ID:=Hh (id_any w5 b off 9 cap b2 b3 (by omega) (bCe B5.out c2) (bCe B5.out c3) g2 g3);clear hb hc BW;simp only [Sg.fill,aK,aD];go_simp;refine ID.out.mono ?_;rintro e w6 ⟨rfl,b6'⟩;have B6:=bTr B5.out b6';refine hK _ _ (Sd.Cl.of B6.out) b6'.size (fun _=>b6') ?_;clear hK K ID B5 b6' c2 c3 g2 g3 d4
 repeat (refine Sg.lit (fun xs=>?_);simp only [Sg.fill,aK,aD];quiet_step (fail);refine az ?_)
 refine Sg.meetP (fun gF w7 hb hc row n7 hH hL=>?_);have B7:=bTr B6.out hb;have R7:=Hh (row);clear hb hc row hH hL B6;refine Sg.callB (fun xs w9 hb hc=>⟨by rfl,fun K hK=>?_⟩);have B9:=bTr B7.out hb;have R9:=Hh (bBl hb R7.out);clear hb hc B7 R7;simp only [Sg.fill,aD];refine wp_store_row 44 _ _ rfl gF #[.int .i64 (b2 * 256+b3),.int .i64 b4,.int .u8 0,.int .u8 0,.int .u8 0,.int .u8 0] rfl rfl 44 _ R9.out (by kernel_rfl) rfl (by simp [Value.oneCell']) ?_;have RA:=Hh (setRow_heap w9 gF _ #[.int .i64 (b2 * 256+b3),.int .i64 b4,.int .u8 0,.int .u8 0,.int .u8 0,.int .u8 0] _ _ R9.out);have BA:=Hh (below_setRow B9.out n7 #[.int .i64 (b2 * 256+b3),.int .i64 b4,.int .u8 0,.int .u8 0,.int .u8 0,.int .u8 0]);have hsz:(w9.setRow gF #[.int .i64 (b2 * 256+b3),.int .i64 b4,.int .u8 0,.int .u8 0,.int .u8 0,.int .u8 0]).heap.size=w9.heap.size:=by simp [World.setRow]
 refine hK _ _ (Sd.Cl.of BA.out) (by rw [hsz];exact ac _) (fun h=>absurd rfl h) ?_;clear hK K hsz;generalize w9.setRow gF #[.int .i64 (b2 * 256+b3),.int .i64 b4,.int .u8 0,.int .u8 0,.int .u8 0,.int .u8 0]=wA at *;refine Sg.done (fun wB hb hc=>?_);have BB:=bTr BA.out hb;have RB:=Hh (bBl hb RA.out);clear hb hc BA RA B9 R9;have BX:=bTr B0.out BB.out;go_wp2_with fail;have ne:Nonempty (Sc.In (fun _:World=>True)):=⟨⟨wB,trivial⟩⟩;refine Sc.start (fun _=>True) [(false,0),(false,1),(false,2),(false,3),(true,4)] (by kernel_rfl) (by kernel_rfl) (by kernel_rfl) trivial ?_;dsimp only [Sd.picks,List.getElem?_cons_succ,List.getElem?_cons_zero]
 repeat (refine Sd.lit ?_;quiet_step (fail);refine az ?_)
 refine Sd.call (by rfl) (fun K hK=>?_);refine wp_copy _ _ _ _ rfl 5 underlying34 (by kernel_rfl) _ _ _ _ _ _ rfl rfl gF 2 _ 44 RB.out ([u0,u1,u2,u3].map (Value.int .u8)) rfl ?_ (ac 6) ?_ W.heap.size W (BB.out.trans (aa _ _).drew) n7 ?_
 ·refine fun _=>⟨rfl,_,rfl,fun j v e=>?_⟩
  rw [show ∀ P:Nat,(⟨b,P,none⟩:Addr).add j=⟨b,P+j,none⟩ from fun P=>by simp [Addr.add]];refine bCe BX.out.drew ?_;obtain ⟨x5,x6,x7,x8⟩:=MC.out
  match j,e with
  | 0,e=>cases e;exact x5
  | 1,e=>cases e;exact x6
  | 2,e=>cases e;exact x7
  | 3,e=>cases e;exact x8
  | j+4,e=>simp at e
 ·intro v hv
  obtain ⟨x,_,rfl⟩:=bE.1 hv
  rfl
 intro wD hrow bD
 rw [splice_all] at hrow;have RD:=Hh hrow;have BD:=bTr B0.out bD;have RW:=Hh (bBl bD R0.out);refine hK _ _ (Sc.Cl.of trivial) ?_;clear hK K hrow bD MC BB RB BX ne hc hcap;refine Sd.done ?_
 replace RD:Hid (wD.heap[gF]? = some (.cells #[.int .i64 (b2 * 256+b3),.int .i64 b4,.int .u8 u0,.int .u8 u1,.int .u8 u2,.int .u8 u3] 44 (0,0))):=RD
 generalize b2 * 256+b3=I at *;rw [QE.out] at E;have k0:=rc1 RD.out 0;have k1:=rc1 RD.out 1;have k2:=rc1 RD.out 2;have k3:=rc1 RD.out 3;have k4:=rc1 RD.out 4;have k5:=rc1 RD.out 5;have GR:=Hh (answer_any wD ⟨I,b4,(u0,u1,u2,u3)⟩);unfold yV yA at GR;dsimp only at GR;go_wp2_with fail;refine GR.out.mono ?_;rintro e w1 ⟨u,rfl,o1,b1⟩;have B1:=bTr BD.out b1;have RW1:=Hh (bBl b1 RW.out);have RD1:=Hh (bBl b1 RD.out);have A1:=Hh (HA.out.below B1.out);clear GR RW b1 RD BD B0 R0 k0 k1 k2 k3 k4 k5
 by_cases hm:may ⟨I,b4,(u0,u1,u2,u3)⟩
 ·rw [aj hm] at o1
  rw [aj hm];obtain ⟨a',cap',rfl,_,_,hh⟩:=o1.rd;obtain ⟨b',off',rfl,A'⟩:=hh (Nat.succ_pos _);have hyb:=yb_byte hm GV.out;rw [show (yb ⟨I,b4,(u0,u1,u2,u3)⟩).length=9 from rfl]
  by_cases he:yb ⟨I,b4,(u0,u1,u2,u3)⟩=l
  ·have EA:=equal_any w1 b off 9 cap l b' off' 9 cap' _ HN.out rfl A1.out A' HB.out hyb true (an he.symm)
   have F:Hid (ReadPost w l (.returned (.tuple #[.agg #[.int .i64 I,.int .i64 b4,.int .u8 u0,.int .u8 u1,.int .u8 u2,.int .u8 u3],.int .i64 0])) (w1.setRow w.heap.size #[.int .i64 I,.int .i64 b4,.int .u8 u0,.int .u8 u1,.int .u8 u2,.int .u8 u3])):=Hh (E.out true _ (an ⟨hm,he⟩) (below_setRow B1.out (ac _) #[.int .i64 I,.int .i64 b4,.int .u8 u0,.int .u8 u1,.int .u8 u2,.int .u8 u3]));have k0:=rc1 RD1.out 0;have k1:=rc1 RD1.out 1;have k2:=rc1 RD1.out 2;have k3:=rc1 RD1.out 3;have k4:=rc1 RD1.out 4;have k5:=rc1 RD1.out 5;clear hyb o1 A' A1 HA HB hm he B1 E GV QE;go_wp2_with fail;refine EA.mono ?_;rintro e w2 ⟨rfl,rfl⟩
   go_wp2_with ((with_reducible refine wpList_store_row (o:=⟨none,_,_,_,_,_⟩) rfl 44 _ _ rfl w.heap.size #[.int .i64 I,.int .i64 b4,.int .u8 u0,.int .u8 u1,.int .u8 u2,.int .u8 u3] rfl rfl _ _ RW1.out (by kernel_rfl) rfl (by simp [Value.oneCell']) ?_))
   exact aA (results_reply (p:=2) (r:=3) rfl _ _ w.heap.size _ rfl rfl (setRow_heap w1 w.heap.size _ _ _ _ RW1.out) rfl) rfl F.out
  ·have EA:=equal_any w1 b off 9 cap l b' off' 9 cap' _ HN.out rfl A1.out A' HB.out hyb false (ak fun h=>he h.symm)
   have F:Hid (ReadPost w l (.returned (.tuple #[.agg #[.int .i64 0,.int .i64 0,.int .u8 0,.int .u8 0,.int .u8 0,.int .u8 0],.int .i64 2])) (w1.setRow w.heap.size #[.int .i64 0,.int .i64 0,.int .u8 0,.int .u8 0,.int .u8 0,.int .u8 0])):=Hh (E.out false _ (ak fun h=>he h.2) (below_setRow B1.out (ac _) #[.int .i64 0,.int .i64 0,.int .u8 0,.int .u8 0,.int .u8 0,.int .u8 0]));clear hyb o1 A' A1 HA HB hm he B1 E GV QE;go_wp2_with fail;refine EA.mono ?_;rintro e w2 ⟨rfl,rfl⟩
   go_wp2_with ((with_reducible refine wpList_store_row (o:=⟨none,_,_,_,_,_⟩) rfl 44 _ _ rfl w.heap.size #[.int .i64 0,.int .i64 0,.int .u8 0,.int .u8 0,.int .u8 0,.int .u8 0] rfl rfl _ _ RW1.out (by kernel_rfl) rfl (by simp [Value.oneCell']) ?_))
   exact aA (results_reply (p:=2) (r:=3) rfl _ _ w.heap.size _ rfl rfl (setRow_heap w1 w.heap.size _ _ _ _ RW1.out) rfl) rfl F.out
 ·rw [ah hm]
  have F:Hid (ReadPost w l (.returned (.tuple #[.agg #[.int .i64 0,.int .i64 0,.int .u8 0,.int .u8 0,.int .u8 0,.int .u8 0],.int .i64 2])) (w1.setRow w.heap.size #[.int .i64 0,.int .i64 0,.int .u8 0,.int .u8 0,.int .u8 0,.int .u8 0])):=Hh (E.out false _ (ak fun h=>hm h.1) (below_setRow B1.out (ac _) #[.int .i64 0,.int .i64 0,.int .u8 0,.int .u8 0,.int .u8 0,.int .u8 0]));clear o1 A1 HA HB hm B1 E GV QE
  go_wp2_with ((with_reducible refine wpList_store_row (o:=⟨none,_,_,_,_,_⟩) rfl 44 _ _ rfl w.heap.size #[.int .i64 0,.int .i64 0,.int .u8 0,.int .u8 0,.int .u8 0,.int .u8 0] rfl rfl _ _ RW1.out (by kernel_rfl) rfl (by simp [Value.oneCell']) ?_))
  exact aA (results_reply (p:=2) (r:=3) rfl _ _ w.heap.size _ rfl rfl (setRow_heap w1 w.heap.size _ _ _ _ RW1.out) rfl) rfl F.out
theorem read_any (w:World) (v:Value) (l:List Int) (hb:∀ x∈l,0<=x/\x < 256) (R:Rd KU w v l):Calls prog 12 #[v] w (ReadPost w l):=by
 obtain ⟨a,cap,rfl,h1,_,h2⟩:=R
 by_cases h:l.length=9
 ·obtain ⟨b,off,rfl,hA⟩:=h2 (by omega)
  exact read_nine w b off cap l h h1.1 hb hA
 ·exact read_len w a cap l h
end Rq
namespace Ga
open Go.RowKit
open Wn (two_plans)
open Rq (Q read_any)
attribute [local irreducible] Sd.wpSd wpQuiet
variable {W w:World} {u:Value}
theorem read_yb {y:Y} (h:may y) (hv:okV y.v) (R:Rd KU W u (yb y)):Calls prog 12 #[u] W fun e w'=>e = .returned (.tuple #[yV y,.int .i64 0])/\Below W.heap.size W w':=by
 have:=read_any W u (yb y) (Rq.yb_byte h hv) R;unfold ReadPost at this;rw [aj (isY_yb h),aj (isY_yb h),yof_yb h] at this;exact this
theorem put_qb {x:Q} (h:Rq.good x) (W:World):Calls prog 21 #[qV x] W fun e w'=>∃ v,e = .returned (.tuple #[v,.int .i64 0])/\Ow KU w' W.heap.size 5 v (qb x)/\Below W.heap.size W w':=by
 have:=put_any W x;unfold PutPost at this;rw [aj h,aj h] at this;exact this
theorem nil_slice (R:Rd KU W u []):∃ a cap,u = .slice a 0 cap:=by
 obtain ⟨a,cap,e,_⟩:=R;exact ⟨a,cap,e⟩
theorem opens_any (h:Glob w):Calls prog 20 #[] w fun e w'=>e = .returned (.bool true)/\Below w.heap.size w w':=by
 have HG:=Hh h;clear h;have L1:Hid (Rd KI (w.alloc (.cells #[.int .i64 0] 3)) (.slice (some ⟨w.heap.size,0,none⟩) 1 1) [0]):=Hh (Rw.Ow.lit (K:=KI) w w.heap.size 3 [0] (ac _) (by unfold maxLen;simp)).rd;have B1:=Hh ((aa w.heap.size w).alloc (ac _) (.cells #[.int .i64 0] 3))
 have C1:Hid (Calls prog 27 #[.slice (some ⟨w.heap.size,0,none⟩) 1 1] (w.alloc (.cells #[.int .i64 0] 3)) fun e w'=>∃ a cap,e = .returned (.tuple #[.agg #[.int .i64 3,.slice a 2 cap],.int .i64 0])/\Rd K4 w' (.slice a 2 cap) (fileL [0])/\Below (w.alloc (.cells #[.int .i64 0] 3)).heap.size (w.alloc (.cells #[.int .i64 0] 3)) w'):=Hh ((rfile_any _ _ [0] L1).mono fun e w' ⟨u,he,hu,hb⟩=>by
  have e1:Re.fL [0]=fileL [0]:=aj Cu.seq0;rw [e1] at hu;obtain ⟨a,cap,rfl,_⟩:=hu.slice
  exact ⟨a,cap,by rw [he];unfold Re.fP Re.fN;rw [aj Cu.seq0,aj Cu.seq0];rfl,hu,hb⟩)
 go_enter func20,ntmps20
 go_wp2_with fail;refine C1.mono ?_;rintro e w2 ⟨fa,fc,rfl,r2,b2⟩;have X2:=Hh (am w2 (.cells #[.int .i64 3,.slice fa 2 fc] 83));have N2:=Hh ((aa w2.heap.size w2).alloc (ac _) (.cells #[.int .i64 3,.slice fa 2 fc] 83));have R2:=Hh (r2.below N2);have B5:=Hh ((bTr B1 b2).trans (N2.mono (aX B1.size b2.size)));clear C1 L1 B1 r2 b2 N2;go_upto_region 2 with fail;generalize (w2.alloc (.cells #[.int .i64 3,.slice fa 2 fc] 83))=w5 at *;generalize w2.heap.size=g1 at *;obtain ⟨y0,y1⟩:=rc2 X2;have hBN:=Fs.run_buildN;have RE:=Hh (Rw.Ow.lit (K:=E3) w5 w5.heap.size 85 [⟨40,3,fa,fc,fileL [0]⟩] (ac _) (by unfold maxLen;simp)).rd;have B6:=Hh ((aa w5.heap.size w5).alloc (ac _) (.cells #[.int .i64 40,.int .i64 3,.slice fa 2 fc] 85));have Z6:Hid ((w5.alloc (.cells #[.int .i64 40,.int .i64 3,.slice fa 2 fc] 85)).heap.size=w5.heap.size+1):=Hh (by simp);have B7:=Hh (B6.alloc B6.size (.cells #[.slice (some ⟨w5.heap.size,0,none⟩) 1 1,.int .i64 0] 75));have X7:Hid (((w5.alloc (.cells #[.int .i64 40,.int .i64 3,.slice fa 2 fc] 85)).alloc (.cells #[.slice (some ⟨w5.heap.size,0,none⟩) 1 1,.int .i64 0] 75)).heap[w5.heap.size+1]? = some (.cells #[.slice (some ⟨w5.heap.size,0,none⟩) 1 1,.int .i64 0] 75 (0,0))):=Hh (by rw [← Z6.out];exact am _ _)
 have FL:Hid (Pa.Fls ((w5.alloc (.cells #[.int .i64 40,.int .i64 3,.slice fa 2 fc] 85)).alloc (.cells #[.slice (some ⟨w5.heap.size,0,none⟩) 1 1,.int .i64 0] 75)) (.slice (some ⟨w5.heap.size,0,none⟩) 1 1) [⟨40,3,fa,fc,fileL [0]⟩] ((w5.alloc (.cells #[.int .i64 40,.int .i64 3,.slice fa 2 fc] 85)).alloc (.cells #[.slice (some ⟨w5.heap.size,0,none⟩) 1 1,.int .i64 0] 75)).heap.size):=Hh (fls_of (RE.below ((aa _ _).alloc (ac _) _)) fun c hc=>by
  rw [bm.1 hc]
  exact ⟨R2.below B7,Re.ok_file Cu.seq0⟩)
 have BB:=bTr B5 B7;clear RE B6 Z6 B7 R2 B5 X2;go_upto_region 3 with fail;clear y0 y1 hBN;generalize ((w5.alloc (.cells #[.int .i64 40,.int .i64 3,.slice fa 2 fc] 85)).alloc (.cells #[.slice (some ⟨w5.heap.size,0,none⟩) 1 1,.int .i64 0] 75))=w7 at *;generalize w5.heap.size=g5 at *;obtain ⟨x0,x1⟩:=rc2 X7;have PL:=Hh (two_plans (c:=⟨(some ⟨g5,0,none⟩,1,1),0,[⟨40,3,fa,fc,fileL [0]⟩]⟩) FL);have NW:Hid (Calls prog 6 #[.slice (some ⟨w7.heap.size,0,none⟩) 2 2] (w7.alloc (.cells #[.slice (some ⟨g5,0,none⟩) 1 1,.int .i64 0,.slice (some ⟨g5,0,none⟩) 1 1,.int .i64 0] 75)) fun e w'=>∃ s,e = .returned (.tuple #[.pointer (some ⟨s,0,none⟩),.int .i64 0])/\CH w s (Cu.newC L3) 0 w'):=Hh (ch_new PL (w0:=w) new3 (BB.alloc BB.size _));clear FL PL BB X7;go_wp2_with fail;refine NW.mono ?_;rintro e w8 ⟨s,rfl,ch8⟩;have GN:=Hh (gx_new ch8 (key:=0) (by decide));clear NW x0 x1 ch8;unfold ptr at GN;go_wp2_with fail;refine GN.out.mono ?_;rintro e w9 ⟨g,H,rfl,gx9⟩;have G9:=Hh (show GX w g s H G3 0 w9 from gx9);have PT:=Hh (put_qb good3 w9);unfold qV qA x3 z4 at PT;clear GN gx9;go_wp2_with fail;refine PT.out.mono ?_;rintro e w10 ⟨v,rfl,o10,b10⟩;have SU:=gx_submit (G9.out.below b10) HG.out ok3 o10.rd (Rq.qb_byte good3 okV_z);rw [show qb ⟨4,4,1,0,0,(0,0,0,0),0⟩=qb x3 from rfl,sc3,show sbA G3 (qb x3) = [] from aj sb3] at SU;have SU:=Hh SU;unfold ptr at SU;clear PT b10 o10 G9;go_wp2_with fail;refine SU.out.mono ?_;rintro e w11 ⟨u,rfl,r11,gx11,-⟩;obtain ⟨ua,uc,rfl⟩:=nil_slice r11;have ST:=gx_step gx11 HG.out (by have:=ok3.sub (l:=qb x3) (Rq.qb_byte good3 okV_z);rw [sc3] at this;exact this) (by decide);rw [st3] at ST;have ST:=Hh ST;unfold ptr at ST;clear SU r11 gx11;go_wp2_with fail;refine ST.out.mono ?_;rintro e w12 ⟨u2,rfl,r12,gx12,-⟩;have RD:=Hh (read_yb (y:=⟨4,0,(1,2,0,0)⟩) (by decide) (by unfold okV;decide) r12);have B12:=Hh gx12.bel;unfold yV yA at RD;clear ST r12 gx12;dsimp only at RD;go_wp2_with fail;refine RD.out.mono ?_;rintro e w13 ⟨rfl,b13⟩;have BA:=Hh ((bTr B12.out b13).alloc (aX B12.out.size b13.size) (.cells #[.int .i64 4,.int .i64 0,.int .u8 1,.int .u8 2,.int .u8 0,.int .u8 0] 44));have YR:=Hh (am w13 (.cells #[.int .i64 4,.int .i64 0,.int .u8 1,.int .u8 2,.int .u8 0,.int .u8 0] 44));clear RD b13 B12;go_upto_region 12 with fail;generalize w13.alloc (.cells #[.int .i64 4,.int .i64 0,.int .u8 1,.int .u8 2,.int .u8 0,.int .u8 0] 44)=wA at *;generalize w13.heap.size=yb at *;have y0:=rc1 YR.out 0;have y2:=rc1 YR.out 2;have y3:=rc1 YR.out 3;have y4:=rc1 YR.out 4;have y5:=rc1 YR.out 5;clear YR;have e1:∀ w,(Op.equalIn 10000 36 (.agg #[.int .u8 1,.int .u8 2,.int .u8 0,.int .u8 0]) (.agg #[.int .u8 1,.int .u8 2,.int .u8 0,.int .u8 0])).run prog w = .ok true w:=fun w=>by have:=Fl.eq_rec (1,2,0,0) (1,2,0,0) w;rwa [an rfl] at this
 go_wp2
 go_ret
 exact ⟨rfl,BA.out⟩
end Ga
namespace Ga
open Qe (Qs ok fst poS faB faS puE puS q0)
open Rq (Q)
theorem rC_V (c:Cs):(rC c).V=c.V:=by
 unfold rC
 split
 ·rfl
 ·split <;> rfl
def rCn (c:Cs):Nat->Cs
 | 0=>c
 | k+1=>rC (rCn c k)
theorem rCn_V (c:Cs):∀ k,(rCn c k).V=c.V
 | 0=>rfl
 | k+1=>(rC_V _).trans (rCn_V c k)
theorem rCn_len (c:Cs):∀ k,(rCn c k).S.length=c.S.length
 | 0=>rfl
 | k+1=>(len_rC _).trans (rCn_len c k)
def one (c:Cs) (x:Q) (t:Int):Gs:=⟨c,x.key,⟨[x],t⟩⟩
section
variable {c:Cs} {x:Q}
theorem one_let (hx:good x) (hn:x.n < c.S.length):sbE ⟨c,x.key,q0⟩ (qb x)=0/\sbC ⟨c,x.key,q0⟩ (qb x)=one c x 0:=by
 have e:sbE ⟨c,x.key,q0⟩ (qb x)=0:=by
  unfold sbE;rw [ah (fun h=>h (Go.Proofs.YtdbdacceecnpmaaGreatDoor.Rq.isQ_qb hx)),Go.Proofs.YtdbdacceecnpmaaGreatDoor.Rq.qof_qb hx,ah (by dsimp only;omega),ah (fun h=>h.2 rfl)]
  rfl
 refine ⟨e,?_⟩;unfold sbC;rw [aj e,Go.Proofs.YtdbdacceecnpmaaGreatDoor.Rq.qof_qb hx]
 rfl
theorem sr_live (hx:good x) (hn:x.n < c.S.length) (hv:vat c.V x.n=true):srE c x.n (x.k - 1) x.f x.r≠13:=by
 have h0:=hx.2.2.1;have:=dE_in (sat c.S x.n).1 (x.k - 1) x.f x.r;unfold srE;rw [ah (by unfold Cu.no;omega),aj hv]
 omega
theorem sr_down (hx:good x) (hn:x.n < c.S.length) (hv:vat c.V x.n=false) (v:R4):srE c x.n (x.k - 1) x.f x.r=13/\srC c x.n (x.k - 1) x.f x.r v=c/\srV c x.n (x.k - 1) x.f x.r v=z4:=by
 have h0:=hx.2.2.1;have e:srE c x.n (x.k - 1) x.f x.r=13:=by
  unfold srE;rw [ah (by unfold Cu.no;omega),ah (by rw [hv];decide)]
 refine ⟨e,?_,srV_bare (by omega)⟩;unfold srC;rw [aj (.inr hv)]
theorem one_live (h4:x.k≠4) (hx:good x) (hn:x.n < c.S.length) (hv:vat c.V x.n=true):stA (one c x 0)=yb ⟨x.id,srE c x.n (x.k - 1) x.f x.r,srV c x.n (x.k - 1) x.f x.r x.v⟩/\(stC (one c x 0)).c=rC (srC c x.n (x.k - 1) x.f x.r x.v):=by
 have h0:0 < (one c x 0).q.L.length:=Nat.one_pos;have ef:Qe.fst (one c x 0).q=x:=rfl;have ne:=sr_live hx hn hv;unfold stA stC;rw [aj h0,aj h0,ef];unfold stE stR stK;rw [ah h4,ah h4,ah h4];exact ⟨ah ne,rfl⟩
theorem one_down (h4:x.k≠4) (hx:good x) (hn:x.n < c.S.length) (hv:vat c.V x.n=false):∀ t:Int,(t≠2->stA (one c x t) = []/\stC (one c x t)=one (rC c) x (t+1))/\(t=2->stA (one c x t)=yb ⟨x.id,13,z4⟩/\(stC (one c x t)).c=rC c):=fun t=>by
 have h0:0 < (one c x t).q.L.length:=Nat.one_pos;have ef:Qe.fst (one c x t).q=x:=rfl;obtain ⟨d1,d2,d3⟩:=sr_down hx hn hv x.v;have e13:stE (one c x t) x=13:=by
  unfold stE;rw [ah h4];exact d1
 have ek:stK (one c x t) x=c:=by
  unfold stK;rw [ah h4];exact d2
 unfold stA stC stQ;rw [aj h0,aj h0,aj h0,ef,e13,aj rfl,aj rfl,ek]
 constructor
 ·intro ht
  have hb:¬ faB (one c x t).q=true:=by
   unfold faB
   intro h
   exact ht (of_decide_eq_true h).2
  rw [ah hb,fa_stays h0 hb];exact ⟨rfl,rfl⟩
 ·intro ht
  have hb:faB (one c x t).q=true:=by
   unfold faB;exact an ⟨h0,ht⟩
  rw [aj hb];exact ⟨rfl,rfl⟩
structure Tr (c:Cs) (x:Q) (M:Nat) (e:Int) (v:R4) (c1:Cs):Prop where
 he:srE c x.n (x.k - 1) x.f x.r=e
 hv:srV c x.n (x.k - 1) x.f x.r x.v=v
 h1:srC c x.n (x.k - 1) x.f x.r x.v=c1
 hm:(vat c.V x.n=true/\M=1)\/(vat c.V x.n=false/\M=3/\e=13/\v=z4/\c1=c)
theorem tr_of (hx:good x) (hn:x.n < c.S.length):∃ M e v c1,Tr c x M e v c1:=by
 cases hv:vat c.V x.n with
 | true=>exact ⟨1,_,_,_,rfl,rfl,rfl,.inl ⟨hv,rfl⟩⟩
 | false =>
   obtain ⟨d1,d2,d3⟩:=sr_down hx hn hv x.v;exact ⟨3,13,z4,c,d1,d3,d2,.inr ⟨hv,rfl,rfl,rfl,rfl⟩⟩
section
variable {M:Nat} {e:Int} {v:R4} {c1:Cs}
theorem Tr.first (h:Tr c x M e v c1) (h4:x.k≠4) (hx:good x) (hn:x.n < c.S.length):(M=1/\stA (one c x 0)=yb ⟨x.id,e,v⟩/\(stC (one c x 0)).c=rCn c1 M)\/(M=3/\stA (one c x 0) = []/\stC (one c x 0)=one (rCn c 1) x 1):=by
 rcases h.hm with ⟨hv,hm⟩ | ⟨hv,hm,_⟩
 ·left
  have:=one_live h4 hx hn hv;rw [h.he,h.hv,h.h1] at this;subst hm;exact ⟨rfl,this⟩
 ·right
  exact ⟨hm,(one_down h4 hx hn hv 0).1 (by decide)⟩
theorem Tr.next (h:Tr c x M e v c1) (hM:M=3) (h4:x.k≠4) (hx:good x) (hn:x.n < c.S.length) {m:Nat} (hm:m < 3):vat c.V x.n=false/\((m=2/\stA (one (rCn c m) x m)=yb ⟨x.id,e,v⟩/\(stC (one (rCn c m) x m)).c=rCn c1 M)\/(m≠2/\stA (one (rCn c m) x m) = []/\stC (one (rCn c m) x m)=one (rCn c (m+1)) x (m+1:Nat))):=by
 rcases h.hm with ⟨_,g⟩ | ⟨hv,_,rfl,rfl,rfl⟩
 ·omega
 ·refine ⟨hv,?_⟩
  have d:=one_down (c:=rCn c1 m) (x:=x) h4 hx (by rw [rCn_len];exact hn) (by rw [rCn_V];exact hv) (m:Int)
  by_cases h2:m=2
  ·left
   subst h2;subst hM;exact ⟨rfl,d.2 rfl⟩
  ·right
   exact ⟨h2,d.1 (by omega)⟩
end
theorem Tr.may {M:Nat} {e:Int} {v:R4} {c1:Cs} {t:Nat} (h:Tr c x M e v c1) (ok:OkC c t) (h4:x.k≠4) (hx:good x) (hv:okV x.v):Go.Proofs.YtdbdacceecnpmaaGreatDoor.Rq.may ⟨x.id,e,v⟩/\okV v:=by
 have a:=may_st (s:=one c x 0) x hx;have b:=okR_srV ok x.n (x.k - 1) x.f x.r (okV_to hv);unfold stE stR at a;rw [ah h4,ah h4] at a;have e1:(one c x 0).c=c:=rfl;rw [e1,h.he,h.hv] at a;rw [h.hv] at b;exact ⟨a,okV_of b⟩
theorem one_ok {t:Nat} {m:Int} (ok:OkC c t) (sy:Syn c) (hx:good x) (hv:okV x.v) (hn:x.n < c.S.length) (hm:0<=m/\m<=2):OkG (one c x m) t :=
 ⟨ok,sy,⟨by show 1<=8;omega,hm,nofun⟩,fun y hy=>by rw [bm.1 hy];exact ⟨hx,hv,hn⟩,hx.2.2.2.2.2.1⟩
end
end Ga
namespace Cu
open Go.RowKit
variable {w:World} {b i B:Nat} {l:List Ac}
theorem at_ac {off:Nat} (h:At KA w b off l) (hi:i < l.length) :
 w.cell? ⟨b,off+i * 11,none⟩=some (.int .i64 (aat l i).k)/\w.cell? ⟨b,off+i * 11+1,none⟩=some (.int .i64 (aat l i).n)/\w.cell? ⟨b,off+i * 11+2,none⟩=some (.int .i64 (aat l i).f)/\w.cell? ⟨b,off+i * 11+3,none⟩=some (.int .i64 (aat l i).r)/\w.cell? ⟨b,off+i * 11+4,none⟩=some (.int .u8 (aat l i).v.1)/\w.cell? ⟨b,off+i * 11+5,none⟩=some (.int .u8 (aat l i).v.2.1)/\w.cell? ⟨b,off+i * 11+6,none⟩=some (.int .u8 (aat l i).v.2.2.1)/\w.cell? ⟨b,off+i * 11+7,none⟩=some (.int .u8 (aat l i).v.2.2.2)/\w.cell? ⟨b,off+i * 11+8,none⟩=some (.int .i64 (aat l i).s)/\w.cell? ⟨b,off+i * 11+9,none⟩=some (.int .i64 (aat l i).m)/\w.cell? ⟨b,off+i * 11+10,none⟩=some (.int .i64 (aat l i).t) :=
 ⟨h i hi 0 _ rfl,h i hi 1 _ rfl,h i hi 2 _ rfl,h i hi 3 _ rfl,h i hi 4 _ rfl,h i hi 5 _ rfl,h i hi 6 _ rfl,h i hi 7 _ rfl,h i hi 8 _ rfl,h i hi 9 _ rfl,h i hi 10 _ rfl⟩
theorem aat_mem (hi:i < l.length):aat l i∈l:=by
 unfold aat;rw [af,ai hi];exact bC hi
variable {v:Value} {L:List PlD}
theorem pls_okl (H:Pls w v L B):∀ p∈pls L,∀ e∈p.1,okL e.2.2:=fun p hp e he=>by
 obtain ⟨c,hc,rfl⟩:=bE.1 hp;obtain ⟨x,hx,rfl⟩:=bE.1 he;obtain ⟨i,hi⟩:=bH hc;have hl:=(aM.1 hi).1;have f:=H.file i hl;unfold pld at f;rw [af,hi] at f;obtain ⟨j,hj⟩:=bH hx;have hjl:=(aM.1 hj).1;have g:=(f.file j hjl).2;unfold eatF at g;rw [af] at g;have e2:((some c:Option PlD).getD plD).F[j]? = some x:=hj;rw [e2] at g;exact g
structure Oc (c:Cs) (t:Nat):Prop where
 ok:OkC c t
 sy:Syn c
theorem Oc.act {c:Cs} {t:Nat} (h:Oc c t) {x:Ac} (hx:okR x.v):Oc (actC x c) (t+1):=⟨h.ok.act x hx,h.sy.act h.ok x⟩
theorem Oc.serve {c:Cs} {t:Nat} (h:Oc c t) (n o f r:Int) {x:R4} (hx:okR x):Oc (srC c n o f r x) (t+1):=⟨h.ok.serve n o f r x hx,h.sy.serve n o f r x⟩
theorem oc_new (H:Pls w v L B) (h:newE (pls L)=0):Oc (newC (pls L)) 0:=by
 have o:=new_ok h (pls_okl H);refine ⟨o,syn_new _ ?_⟩;have:=o.len.1;have e:(newC (pls L)).S.length=(pls L).length:=aL _
 omega
section
end
def CC (w0:World) (s d:Nat) (c:Cs) (t:Nat) (c':Cs) (t':Nat) (W:World):Prop:=∃ F G,ClE W s F c t/\ClE W d G c' t'/\(∀ k,F k->¬ G k)/\(∀ k,F k->w0.heap.size<=k)/\(∀ k,G k->w0.heap.size<=k)/\Below w0.heap.size w0 W
section
variable {w0 W w':World} {s d t t':Nat} {c c':Cs}
theorem CC.bel (h:CC w0 s d c t c' t' W):Below w0.heap.size w0 W:=by obtain ⟨_,_,_,_,_,_,_,h⟩:=h;exact h
theorem CC.symm (h:CC w0 s d c t c' t' W):CC w0 d s c' t' c t W:=by
 obtain ⟨F,G,h1,h2,h3,h4,h5,h6⟩:=h;exact ⟨G,F,h2,h1,fun k g f=>h3 k f g,h5,h4,h6⟩
theorem CC.below (h:CC w0 s d c t c' t' W) (b:Below W.heap.size W w'):CC w0 s d c t c' t' w':=by
 obtain ⟨F,G,⟨vn,L,q,v2,Fz,h1⟩,⟨vn',L',q',v2',Fz',h2⟩,h3,h4,h5,h6⟩:=h;exact ⟨F,G,⟨vn,L,q,v2,Fz,h1.below b⟩,⟨vn',L',q',v2',Fz',h2.below b⟩,h3,h4,h5,h6.trans (b.mono h6.size)⟩
theorem CC.late (h:CC w0 s d c t c' t' W):CC w0 s d c (t+1) c' t' W:=by
 obtain ⟨F,G,⟨vn,L,q,v2,Fz,h1⟩,h2,h3,h4,h5,h6⟩:=h;exact ⟨F,G,⟨vn,L,q,v2,Fz,h1.late⟩,h2,h3,h4,h5,h6⟩
theorem CC.ch (h:CC w0 s d c t c' t' W):CH w0 s c t W:=by
 obtain ⟨F,G,h1,h2,h3,h4,h5,h6⟩:=h;exact ⟨F,h1,h4,h6⟩
theorem cc_new {w1:World} (h:CH w0 s c t w1) (b:Below w1.heap.size w1 W) (H:Pls W v L B) (e0:newE (pls L)=0):Calls prog 6 #[v] W fun e w'=>∃ d,e = .returned (.tuple #[.pointer (some ⟨d,0,none⟩),.int .i64 0])/\CC w0 s d c t (newC (pls L)) 0 w':=by
 obtain ⟨F,⟨vn,L1,q,v2,Fz,h1⟩,h2,h3⟩:=h.below b;have z:=h3.size;refine (cnew_any H).mono fun e w' d=>?_;obtain ⟨b',⟨_,d,G,rfl,cl,lo⟩ | ⟨g,_⟩⟩:=d
 ·exact ⟨d,rfl,F,G,⟨vn,L1,q,v2,Fz,h1.below b'⟩,cl,fun k f g=>by
   have:=h1.low k f;have:=lo k g
   omega,h2,fun k g=>aX z (lo k g),h3.trans (b'.mono z)⟩
 ·exact absurd e0 g
theorem cc_do (h:CC w0 s d c t c' t' W) (hg:Glob w0) (ok:OkC c t) (sy:Syn c) (ht:t<=1000) (x:Ac) (hx:okR x.v) (hf:Wf x.f):Calls prog 10 #[ptr s,actV x] W fun e w'=>e = .returned (.int .i64 (actE x c))/\CC w0 s d (actC x c) (t+1) c' t' w':=by
 obtain ⟨F,G,⟨vn,L,q,v2,Fz,h1⟩,⟨vn',L',q',v2',Fz',h2⟩,h3,h4,h5,h6⟩:=h;have gl:=aC _ _ hg;refine (cdo_any h1 ok sy ht (hg.below h6) (fun g=>by have:=h4 _ g;exact absurd gl (by show ¬ 0 < _;omega)) x hx hf).mono fun e w' d=>⟨d.1,Fx F W w',G,d.2.1,⟨vn',L',q',v2',Fz',h2.only (fun k g f=>h3 k f g) d.2.2⟩,fun k f g=>?_,fun k f=>?_,h5,h6.trans (d.2.2.below h6.size h4)⟩
 ·rcases f with f | f
  ·exact h3 k f g
  ·have:=h2.low k g
   omega
 ·have:=h6.size
  rcases f with f | f
  ·exact h4 k f
  ·omega
end
end Cu
namespace Ga
open Go.RowKit
open Cu (CC)
def Lies (B:List (Nat×Obj)) (H F:Nat->Prop) (W:World):Prop:=∀ p∈B,W.heap[p.1]? = some p.2/\¬ H p.1/\¬ F p.1
def GD (w0:World) (g s d:Nat) (G:Gs) (t:Nat) (c':Cs) (t':Nat) (B:List (Nat×Obj)) (W:World):Prop:=∃ H F:Nat->Prop,GX w0 g s H G t W/\ClE W d F c' t'/\(∀ k,H k->¬ F k)/\(∀ k,F k->w0.heap.size<=k)/\Lies B H F W
section
variable {w0 W w':World} {g s d t t':Nat} {G:Gs} {c c':Cs} {B:List (Nat×Obj)}
variable {b t2:Nat} {o:Obj}
theorem lies_lt (h:W.heap[b]? = some o):b < W.heap.size:=(Array.getElem?_eq_some_iff.1 h).1
theorem GD.bel (h:GD w0 g s d G t c' t' B W):Below w0.heap.size w0 W:=by obtain ⟨_,_,h,_⟩:=h;exact h.bel
theorem GD.ch (h:GD w0 g s d G t c' t' B W):CH w0 s G.c t W:=by obtain ⟨_,_,h,_⟩:=h;exact h.ch
theorem GD.dh (h:GD w0 g s d G t c' t' B W):CH w0 d c' t' W:=by obtain ⟨H,F,h1,h2,h3,h4,_⟩:=h;exact ⟨F,h2,h4,h1.bel⟩
theorem GD.lies (h:GD w0 g s d G t c' t' B W) (hb:(b,o)∈B):W.heap[b]? = some o:=by obtain ⟨H,F,h1,h2,h3,h4,h5⟩:=h;exact (h5 _ hb).1
theorem GD.below (h:GD w0 g s d G t c' t' B W) (b:Below W.heap.size W w'):GD w0 g s d G t c' t' B w':=by
 obtain ⟨H,F,h1,h2,h3,h4,h5⟩:=h
 exact ⟨H,F,h1.below b,cle_only (J:=fun _=>False) h2 (fun _ _ f=>f) (Only.of_below b),h3,h4,fun p hp=>by
  have:=h5 p hp
  exact ⟨(b.block _ (lies_lt this.1)).trans this.1,this.2⟩⟩
theorem GD.put (h:GD w0 g s d G t c' t' B W) (o:Obj):GD w0 g s d G t c' t' ((W.heap.size,o) :: B) (W.alloc o):=by
 have b:=(aa W.heap.size W).alloc (ac _) o;obtain ⟨H,F,h1,h2,h3,h4,h5⟩:=h.below b;obtain ⟨H',F',g1,g2,g3,g4,g5⟩:=h;refine ⟨H',F',g1.below b,cle_only (J:=fun _=>False) g2 (fun _ _ f=>f) (Only.of_below b),g3,g4,fun p hp=>?_⟩
 rcases aN.1 hp with e | hp
 ·subst e
  exact ⟨am W o,fun q=>Nat.lt_irrefl _ (g1.low _ q),fun q=>Nat.lt_irrefl _ (cle_low g2 _ q)⟩
 ·have:=g5 p hp
  exact ⟨(b.block _ (lies_lt this.1)).trans this.1,this.2⟩
theorem GD.late (h:GD w0 g s d G t c' t' B W):GD w0 g s d G t c' (t'+1) B W:=by
 obtain ⟨H,F,h1,h2,h3,h4⟩:=h;exact ⟨H,F,h1,cle_late h2,h3,h4⟩
variable {H F J:Nat->Prop}
theorem lies_fx (h5:Lies B H F W) (o:Only J W w') (hj:∀ p∈B,¬ J p.1):∀ p∈B,w'.heap[p.1]? = some p.2/\p.1 < W.heap.size:=fun p hp=>by
 have l:=lies_lt (h5 p hp).1;exact ⟨(o.block _ l (hj p hp)).trans (h5 p hp).1,l⟩
theorem GD.left {G':Gs} (h2:ClE W d F c' t') (h3:∀ k,H k->¬ F k) (h4:(∀ k,F k->w0.heap.size<=k)/\Lies B H F W) (h':GX w0 g s (Fx H W w') G' t2 w') (o:Only H W w'):GD w0 g s d G' t2 c' t' B w' :=
 ⟨_,F,h',cle_only h2 (fun k f h=>h3 k h f) o,fun k q f=>by
  rcases q with q | q
  ·exact h3 k q f
  ·have:=cle_low h2 k f;omega,h4.1,fun p hp=>by
   have l:=lies_fx h4.2 o (fun p hp=>(h4.2 p hp).2.1) p hp
   exact ⟨l.1,fun q=>by
    rcases q with q | q
    ·exact (h4.2 p hp).2.1 q
    ·omega,(h4.2 p hp).2.2⟩⟩
theorem gd_submit (h:GD w0 g s d G t c' t' B W) (hg:Glob w0) (ok:OkG G t) {v:Value} {l:List Int} (R:Rd KU W v l) (hb:∀ x∈l,0<=x/\x < 256):Calls prog 15 #[ptr g,v] W fun e w'=>∃ u,e = .returned u/\Rd KU w' u (sbA G l)/\GD w0 g s d (sbC G l) t c' t' B w':=by
 obtain ⟨H,F,h1,h2,h3,h4⟩:=h;refine (gx_submit h1 hg ok R hb).mono fun e w' d=>?_;obtain ⟨u,d1,d2,d3,d4⟩:=d;exact ⟨u,d1,d2,GD.left h2 h3 h4 d3 d4⟩
theorem gd_step (h:GD w0 g s d G t c' t' B W) (hg:Glob w0) (ok:OkG G t) (ht:t<=900):Calls prog 11 #[ptr g] W fun e w'=>∃ u,e = .returned u/\Rd KU w' u (stA G)/\GD w0 g s d (stC G) (t+2) c' t' B w':=by
 obtain ⟨H,F,h1,h2,h3,h4⟩:=h;refine (gx_step h1 hg ok ht).mono fun e w' d=>?_;obtain ⟨u,d1,d2,d3,d4⟩:=d;exact ⟨u,d1,d2,GD.left h2 h3 h4 d3 d4⟩
theorem GD.right {c2:Cs} (h1:GX w0 g s H G t W) (h3:∀ k,H k->¬ F k) (h4:(∀ k,F k->w0.heap.size<=k)/\Lies B H F W) (h':ClE w' d (Fx F W w') c2 t2) (o:Only F W w'):GD w0 g s d G t c2 t2 B w' :=
 ⟨H,_,h1.only h3 o h4.1,h',fun k q f=>by
  rcases f with f | f
  ·exact h3 k q f
  ·have:=h1.low k q;omega,fx_new w' h4.1 h1.bel,fun p hp=>by
   have l:=lies_fx h4.2 o (fun p hp=>(h4.2 p hp).2.2) p hp
   exact ⟨l.1,(h4.2 p hp).2.1,fun q=>by
    rcases q with q | q
    ·exact (h4.2 p hp).2.2 q
    ·omega⟩⟩
theorem gd_do (h:GD w0 g s d G t c' t' B W) (hg:Glob w0) (ok:OkC c' t') (sy:Syn c') (ht:t'<=1000) (x:Ac) (hx:okR x.v) (hf:Wf x.f):Calls prog 10 #[ptr d,actV x] W fun e w'=>e = .returned (.int .i64 (actE x c'))/\GD w0 g s d G t (actC x c') (t'+1) B w':=by
 obtain ⟨H,F,h1,h2,h3,h4⟩:=h;obtain ⟨vn,L,p,vq,Fz,hc⟩:=h2;have gl:=aC _ _ hg;refine (Cu.cdo_any hc ok sy ht (hg.below h1.bel) (fun q=>by have:=h4.1 _ q;exact absurd gl (by show ¬ 0 < _;omega)) x hx hf).mono fun e w' d=>⟨d.1,GD.right h1 h3 h4 d.2.1 d.2.2⟩
theorem gd_serve (h:GD w0 g s d G t c' t' B W) (hg:Glob w0) (ok:OkC c' t') (ht:t'<=1000) (n o f r:Int) (x:R4) (hx:okR x):Calls prog 23 #[ptr d,.int .i64 n,Ad.addr o f r,rec4 x] W fun e w'=>e = .returned (.tuple #[rec4 (srV c' n o f r x),.int .i64 (srE c' n o f r)])/\GD w0 g s d G t (srC c' n o f r x) (t'+1) B w':=by
 obtain ⟨H,F,h1,h2,h3,h4⟩:=h;obtain ⟨vn,L,p,vq,Fz,hc⟩:=h2;have gl:=aC _ _ hg;refine (Cu.cserve_any hc ok ht (hg.below h1.bel) (fun q=>by have:=h4.1 _ q;exact absurd gl (by show ¬ 0 < _;omega)) n o f r x hx).mono fun e w' d=>⟨d.1,GD.right h1 h3 h4 d.2.1 d.2.2⟩
theorem gd_new {key:Int} (h:CC w0 s d c t c' t' W) (hk:0<=key/\key<=255):Calls prog 9 #[ptr s,.int .i64 key] W fun e w'=>∃ g,e = .returned (.tuple #[ptr g,.int .i64 0])/\GD w0 g s d ⟨c,key,Qe.q0⟩ t c' t' [] w'/\Below W.heap.size W w':=by
 obtain ⟨F,F2,h1,h2,h3,h4,h5,h6⟩:=h;refine (gnew_any W s key hk).mono fun e w' q=>?_;obtain ⟨g,B,d1,d2,d3,d4⟩:=q;have l1:=cle_low h1;have l2:=cle_low h2;have z:=h6.size;refine ⟨g,d1,⟨fun k=>F k\/B k,F2,⟨⟨F,B,cle_only (J:=fun _=>False) h1 (fun _ _ f=>f) (Only.of_below d4),d2,fun k f b=>?_,fun k f=>f,fun k f=>?_⟩,fun k f=>?_,h6.trans (d4.mono z)⟩,cle_only (J:=fun _=>False) h2 (fun _ _ f=>f) (Only.of_below d4),fun k f q=>?_,h5,nofun⟩,d4⟩
 ·have:=l1 k f
  have:=(d3 k b).1
  omega
 ·rcases f with f | f
  ·exact aV (l1 k f) d4.size
  ·exact (d3 k f).2
 ·rcases f with f | f
  ·exact h4 k f
  ·exact aX z (d3 k f).1
 ·rcases f with f | f
  ·exact h3 k f q
  ·have:=(d3 k f).1
   have:=l2 k q
   omega
end
end Ga
namespace Pa
open Go.RowKit Go.Maps
open Ro (z5 ent)
open Ck (sto5 sto5_row sto5_below RowE)
theorem cut_any {α:Type} {K:Rw.Kind α} {w:World} {v:Value} {l:List α} {a:Option Addr} {n cap k:Nat} (R:Rd K w v l) (e:v = .slice a n cap) (hk:k<=l.length) (h0:0 < k):Rd K w (.slice a k cap) (l.take k):=by
 obtain ⟨a',cap',e',⟨h1,h2⟩,h3,h4⟩:=R;rw [e] at e';injection e' with e1 e2 e3;subst e1 e3;have hl:(l.take k).length=k:=by rw [aW];omega
 refine ⟨a,cap,by rw [hl],⟨by rw [hl];omega,h2⟩,h3,fun _=>?_⟩;obtain ⟨b,off,rfl,hA⟩:=h4 (by omega);refine ⟨b,off,rfl,fun i hi j u hu=>?_⟩;rw [hl] at hi;refine hA i (by omega) j u ?_;rw [← hu,List.getD,List.getD,db,aj hi]
end Pa
namespace Cu
open Go.RowKit
open Pa (cut_any)
attribute [local irreducible] Sd.wpSd wpQuiet
def cutE (e:Ent):Ent:={ e with l:=e.l.take 260 }
def cutP (p:Pl):Pl:=((p.1.take 12).map fun e=>(e.1,e.2.1,e.2.2.take 260),p.2)
def fewP (l:List Pl):List Pl:=(l.take 6).map cutP
theorem infoE3n:(prog.info? 85).map (fun i=>(i.zero,i.size,i.bytes))=some (some (.agg #[.int .i64 0,.int .i64 0,.slice none 0 0]),3,40):=by kernel_rfl
theorem infoPl:(prog.info? 75).map (fun i=>(i.zero,i.size,i.bytes))=some (some (.agg #[.slice none 0 0,.int .i64 0]),2,32):=by kernel_rfl
def FwPost (w:World) (B:Nat) (L:List PlD) (e:Ending) (w':World):Prop:=∃ v L',e = .returned v/\Pls w' v L' B/\pls L'=fewP (pls L)/\Below w.heap.size w w'
theorem rd_cut {w:World} {a:Option Addr} {cap:Nat} {l:List R4} (h:Rd K4 w (.slice a l.length cap) l):Rd K4 w (.slice a (l.take 260).length cap) (l.take 260):=by
 by_cases h1:260<=l.length
 ·have e:(l.take 260).length=260:=by rw [aW];omega
  rw [e];exact cut_any h rfl h1 (by decide)
 ·rw [bA (by omega)]
  exact h
structure FQI (wo:World) (c:PlD) (m g5 g6:Nat) (fa:Option Addr) (fc:Nat) (j:Nat) (o:Value) (wr:World):Prop where
 row5:wr.heap[g5]? = some (.cells #[.slice fa m fc,.int .i64 c.rate] 75 (0,0))
 row6:wr.heap[g6]? = some (.cells #[o,.int .i64 c.rate] 75 (0,0))
 own:Ow E3 wr wo.heap.size 85 o ((c.F.take j).map cutE)
 bel:Below wo.heap.size wo wr
 lo:wo.heap.size<=g5/\wo.heap.size<=g6/\g5≠g6
section
variable {wo wr w2:World} {c:PlD} {m g5 g6 fc j:Nat} {fa:Option Addr} {o o':Value}
theorem FQI.below (h:FQI wo c m g5 g6 fa fc j o wr) (b:Below wr.heap.size wr w2):FQI wo c m g5 g6 fa fc j o w2:=⟨bBl b h.row5,bBl b h.row6,h.own.keep b,h.bel.trans (b.mono h.bel.size),h.lo⟩
theorem FQI.off (h:FQI wo c m g5 g6 fa fc j o wr) {gx:Nat} (h0:wo.heap.size<=gx) (h5:gx≠g5) (h6:gx≠g6) (ho:o.ownBlock≠some gx) (k:Nat) (u:Value):FQI wo c m g5 g6 fa fc j o (wr.setCell ⟨gx,k,none⟩ u) :=
 ⟨(aH wr ⟨gx,k,none⟩ u g5 (fun e=>h5 e.symm)).trans h.row5,(aH wr ⟨gx,k,none⟩ u g6 (fun e=>h6 e.symm)).trans h.row6,h.own.off (p:=⟨gx,k,none⟩) ho u,h.bel.setCell h0 u,h.lo⟩
theorem FQI.push (h:FQI wo c m g5 g6 fa fc j o wr) {x:Ent} (hx:c.F[j]? = some x) (own:Ow E3 w2 wo.heap.size 85 o' ((c.F.take j).map cutE ++ [cutE x])) (gr:wr.grownBy w2 o.ownBlock):w2.heap[g6]? = some (.cells #[o,.int .i64 c.rate] 75 (0,0))/\FQI wo c m g5 g6 fa fc (j+1) o' (w2.setCell ⟨g6,0,none⟩ o'):=by
 have r5:=(gr.block g5 (ay h.row5) (fun e=>h.own.apart h.row5 (by decide) e.symm)).trans h.row5;have r6:=(gr.block g6 (ay h.row6) (fun e=>h.own.apart h.row6 (by decide) e.symm)).trans h.row6;have b2:=h.bel.grown gr h.bel.size fun j e=>(aU h.own j e).1;have e:(c.F.take (j+1)).map cutE=(c.F.take j).map cutE ++ [cutE x]:=by rw [bG,hx,cA];rfl
 refine ⟨r6,(aH w2 ⟨g6,0,none⟩ o' g5 h.lo.2.2).trans r5,Rw.heap_setCell_same (j:=0) r6 o',?_,b2.setCell h.lo.2.1 _,h.lo⟩;rw [e];exact own.far (p:=⟨g6,0,none⟩) r6 (by decide) _
end
theorem cutE_own (x:Ent):(cutE x).sl.ownBlock=x.sl.ownBlock:=by
 obtain ⟨n,p,a,cap,l⟩:=x;unfold cutE Ent.sl
 cases a <;> rfl
def ROk (w:World) (B:Nat) (e:Ent):Prop:=(Rd K4 w e.sl e.l/\okL e.l)/\(0 < e.l.length->∀ k,e.sl.ownBlock=some k->k < B)
variable {w:World} {v:Value} {B:Nat}
theorem fls_ofB {L:List Ent} (rd:Rd E3 w v L) (each:∀ c∈L,ROk w B c):Fls w v L B:=by
 have at_:∀ i,i < L.length->eatF L i∈L:=fun i hi=>by
  unfold eatF;rw [af,ai hi];exact bC hi
 exact ⟨rd,fun i hi=>(each _ (at_ i hi)).1,fun i hi h0 k hk=>(each _ (at_ i hi)).2 h0 k hk⟩
theorem pls_ofB {L:List PlD} (rd:Rd KP w v L) (each:∀ c∈L,Fls w (sl c.files) c.F B):Pls w v L B:=by
 refine ⟨rd,fun i hi=>each _ ?_⟩;unfold pld;rw [af,ai hi];exact bC hi
structure FWI (w:World) (B:Nat) (L:List PlD) (k:Nat) (o:Value) (LD:List PlD) (wr:World):Prop where
 own:Ow KP wr w.heap.size 75 o LD
 len:LD.length=k
 fil:∀ c∈LD,Ow E3 wr w.heap.size 85 (sl c.files) c.F
 rec_:∀ c∈LD,∀ e∈c.F,ROk w B e
 abs:pls LD=((pls L).take k).map cutP
 bel:Below w.heap.size w wr
section
variable {w wr w2:World} {B:Nat} {L LD:List PlD} {k:Nat} {o o':Value} {x:PlD}
theorem FWI.below (h:FWI w B L k o LD wr) (b:Below wr.heap.size wr w2):FWI w B L k o LD w2:=⟨h.own.keep b,h.len,fun c hc=>(h.fil c hc).keep b,h.rec_,h.abs,h.bel.trans (b.mono h.bel.size)⟩
theorem FWI.push (h:FWI w B L k o LD wr) (hk:k < L.length) (own:Ow KP w2 w.heap.size 75 o' (LD ++ [x])) (gr:wr.grownBy w2 o.ownBlock) (fx:Ow E3 wr w.heap.size 85 (sl x.files) x.F) (rx:∀ e∈x.F,ROk w B e) (ax:x.abs=cutP (pld L k).abs):FWI w B L (k+1) o' (LD ++ [x]) w2:=by
 have oq:=only_grown gr;refine ⟨own,by rw [bj,h.len];rfl,fun c hc=>?_,fun c hc=>?_,?_,h.bel.grown gr h.bel.size fun j e=>(aU h.own j e).1⟩
 ·rcases bM.1 hc with hc | hc
  ·exact ow_only (h.fil c hc) (fun k e=>Pa.ow_apart (h.fil c hc) h.own (by decide) k e) oq
  ·rw [bm.1 hc]
   exact ow_only fx (fun k e=>Pa.ow_apart fx h.own (by decide) k e) oq
 ·rcases bM.1 hc with hc | hc
  ·exact h.rec_ c hc
  ·rw [bm.1 hc]
   exact rx
 ·have e1:pls (LD ++ [x])=pls LD ++ [x.abs]:=by unfold pls;rw [cA];rfl
  have e2:(pls L).take (k+1)=(pls L).take k ++ [(pld L k).abs]:=by
   rw [bG];have:(pls L)[k]? = some (pld L k).abs:=by
    unfold pls pld;rw [a9,ai hk,af,ai hk]
    rfl
   rw [this]
   rfl
  rw [e1,e2,cA,h.abs,ax]
  rfl
theorem FWI.fin (h:FWI w B L k o LD wr) (hk:k=L.length\/k=6) (h6:k<=6):FwPost w B L (.returned o) wr:=by
 refine ⟨o,LD,rfl,pls_ofB h.own.rd fun c hc=>fls_ofB (h.fil c hc).rd fun e he=>⟨⟨(h.rec_ c hc e he).1.1.below h.bel,(h.rec_ c hc e he).1.2⟩,(h.rec_ c hc e he).2⟩,?_,h.bel⟩;rw [h.abs];unfold fewP
 congr 1
 rcases hk with e | e
 ·rw [bA (by rw [pls_len];omega),bA (by rw [pls_len];omega)]
 ·rw [e]
end
theorem cut_abs (c:PlD) (h:Hd):(⟨h,c.rate,(c.F.take 12).map cutE⟩:PlD).abs=cutP c.abs:=by
 show (((c.F.take 12).map cutE).map Ent.abs,c.rate)=(((c.F.map Ent.abs).take 12).map _,c.rate)
 rw [← List.map_take,List.map_map,List.map_map]
 rfl
theorem fewT_any {L:List PlD} (H:Pls w v L B):Calls prog 19 #[v] w (FwPost w B L):=by
 have HF:=Hh H.file;obtain ⟨a,cap,rfl,_,hm,h3⟩:=H.rd;have H3:=Hh h3;clear h3 H;unfold maxLen at hm;have FIN:Hid (∀ k o LD wr,FWI w B L k o LD wr->k=L.length\/k=6->k<=6->FwPost w B L (.returned o) wr):=Hh (fun k o LD wr I h1 h2=>I.fin h1 h2);have I0:Hid (FWI w B L 0 (.slice (some ⟨w.heap.size,0,none⟩) 0 0) [] (w.alloc (.cells #[] 75))):=Hh ⟨Rw.Ow.made _ _ _ (ac _),rfl,fun c hc=>(bp hc).elim,fun c hc=>(bp hc).elim,rfl,(aa _ _).alloc (ac _) _⟩;generalize hn:L.length=n at *;have HN:=Hh hn;clear hn
 go_enter func19,ntmps19
 go_wp2
 go_loopw [4,3] (fun i o wr=>∃ (k:Nat) (LD:List PlD) (p1:Value),k<=n/\k<=6/\i = .int .i64 k/\p1=o/\Hid (FWI w B L k o LD wr)) (fun i _ _=>6 - (intOf i).toNat)
 case atStart=>exact ⟨0,[],_,aI _,aI _,rfl,rfl,by simpa using I0⟩
 case round =>
  clear I0;obtain ⟨k,LD,o,hk,hk6,rfl,rfl,I⟩:=hrel
  by_cases hlt:k < n/\k < 6
  ·obtain ⟨hlt,h6⟩:=hlt
   have hkL:k < L.length:=by have:=HN.out;omega
   obtain ⟨b,off,rfl,hA⟩:=H3 (by omega);obtain ⟨x0,x1⟩:=at_pl (hA.below I.bel) hkL;have HAA:=Hh hA;have FK:=Hh (HF k hlt);have KL:=Hh hkL;have LDL:=Hh I.len;clear hA hkL;obtain ⟨ao,co,eo,-,-⟩:=I.own.slice;generalize LD.length=ln at eo;subst eo;generalize hc:pld L k=c at *;have HC:=Hh hc;clear hc;obtain ⟨fa0,fc0,es,hmf⟩:=FK.rd.slice;have ES:=Hh es;rw [es] at x0;clear es;have Y0:=Hh (am wr (.cells #[.slice fa0 c.F.length fc0,.int .i64 c.rate] 75));have BN:=Hh ((aa wr.heap.size wr).alloc (ac _) (.cells #[.slice fa0 c.F.length fc0,.int .i64 c.rate] 75))
   have FCAP:Hid (c.F.length<=fc0):=Hh (by
    obtain ⟨_,_,e,q,_⟩:=FK.rd;rw [ES.out] at e;injection e with _ _ e
    omega)
   unfold maxLen at hmf
   go_upto_if 27 with fail
   clear x0 x1;generalize (wr.alloc (.cells #[.slice fa0 c.F.length fc0,.int .i64 c.rate] 75))=W5 at *;have z0:=Fl.rc Y0 0;have f0:=row_frozen Y0 0
   go_cut [4] from 10 to 67 (fun z wx=>Value.int .i64 k=z/\Hid (Below wr.heap.size wr wx/\wx.heap[wr.heap.size]? = some (.cells #[.slice fa0 (c.F.take 12).length fc0,.int .i64 c.rate] 75 (0,0))))
   case first =>
    by_cases hl:12 < c.F.length
    ·have e12:(c.F.take 12).length=12:=by rw [aW];omega
     have q1:decide (12 < (c.F.length:Int))=true:=an (by omega);have fcap:=FCAP.out
     have P:Hid (Below wr.heap.size wr (W5.setCell ⟨wr.heap.size,0,none⟩ (.slice fa0 12 fc0))/\(W5.setCell ⟨wr.heap.size,0,none⟩ (.slice fa0 12 fc0)).heap[wr.heap.size]? = some (.cells #[.slice fa0 (c.F.take 12).length fc0,.int .i64 c.rate] 75 (0,0))):=Hh (by
      rw [e12]
      exact ⟨BN.setCell (ac _) (.slice fa0 12 fc0),Rw.heap_setCell_same (j:=0) Y0 (.slice fa0 12 fc0)⟩)
     clear e12 Y0 BN;generalize (c.F.take 12).length=fm at *;generalize c.F.length=fl at *;go_wp2
     go_meet
     exact ⟨rfl,P.out.1,P.out.2⟩
    ·have e12:c.F.take 12=c.F:=bA (by omega)
     have q1:decide (12 < (c.F.length:Int))=false:=ak (by omega);have q2:decide (12 < c.F.length)=false:=ak (by omega)
     have P:Hid (Below wr.heap.size wr W5/\W5.heap[wr.heap.size]? = some (.cells #[.slice fa0 (c.F.take 12).length fc0,.int .i64 c.rate] 75 (0,0))):=Hh (by
      rw [e12]
      exact ⟨BN,Y0⟩)
     clear e12 Y0 BN;generalize (c.F.take 12).length=fm at *;generalize c.F.length=fl at *;go_wp2
     go_meet
     exact ⟨rfl,P.out.1,P.out.2⟩
   case rest =>
    obtain ⟨e1,P⟩:=hcut;subst e1;clear z0 f0 Y0 BN
    have FR:=Hh (fun e (he:e∈c.F)=>(by
     obtain ⟨i,hi⟩:=bH he;have hl:=(aM.1 hi).1;have q:=FK.file i hl;have q2:=FK.low i hl;unfold eatF at q q2;rw [af,hi] at q q2
     exact ⟨q,q2⟩:ROk w B e))
    have FH:Hid (0 < c.F.length->∃ b off,fa0=some ⟨b,off,none⟩/\At E3 w b off c.F):=Hh (by
     obtain ⟨a',cap',e',_,_,h3⟩:=FK.rd;rw [ES.out] at e';injection e' with e1 _ _;subst e1
     exact h3)
    have MF:Hid ((c.F.take 12).length<=c.F.length/\(c.F.take 12).length<=12):=Hh (by rw [aW];omega)
    have TT:Hid ((c.F.take 12).map cutE=(c.F.take (c.F.take 12).length).map cutE):=Hh (by
     congr 1
     rw [aW]
     by_cases h:12<=c.F.length
     ·rw [Nat.min_eq_left h]
     ·rw [Nat.min_eq_right (by omega),bA (by omega),br])
    generalize (c.F.take 12).length=m at *;obtain ⟨wo,hwo⟩:∃ x,x=wr:=⟨_,rfl⟩;have IW:Hid (FWI w B L k (.slice ao ln co) LD wo):=Hh (by rw [hwo];exact I.out);rw [← hwo] at P;rw [← hwo];clear I hwo
    rename_i W5x
    have x5r:=Fl.rc P.out.2 1
    have Q0:Hid (FQI wo c m wo.heap.size wc.heap.size fa0 fc0 0 (.slice none 0 0) (wc.alloc (.cells #[.slice none 0 0,.int .i64 c.rate] 75))):=Hh (by
     have b6:=(aa wc.heap.size wc).alloc (ac _) (.cells #[.slice none 0 0,.int .i64 c.rate] 75);have zz:=P.out.1.size;have zl:=ay P.out.2
     exact ⟨(b6.block _ zl).trans P.out.2,am wc _,Rw.Ow.nil _ _ _,P.out.1.trans (b6.mono zz),ac _,zz,by omega⟩)
    go_upto_region 9 with fail;clear x5r P;generalize (wc.alloc (.cells #[.slice none 0 0,.int .i64 c.rate] 75))=w6 at *;generalize wc.heap.size=g6 at *;generalize wo.heap.size=g5 at Q0 ⊢;go_wp2
    go_loopw [7] (fun i wr2=>∃ (j:Nat) (o2:Value),j<=m/\i = .int .i64 j/\Hid (FQI wo c m g5 g6 fa0 fc0 j o2 wr2)) (fun i _=>m - (intOf i).toNat)
    case atStart=>exact ⟨0,_,aI _,rfl,Q0⟩
    case round =>
     clear Q0;obtain ⟨j,o2,hj,rfl,Q⟩:=hrel;have p0:=Fl.rc Q.row5 0
     by_cases hjm:j < m
     ·have hjF:j < c.F.length:=by have:=MF.out;omega
      have hc:c.F[j]? = some (eatF c.F j):=by
       unfold eatF;rw [ai hjF,af,ai hjF]
       rfl
      obtain ⟨b2,off2,rfl,hA⟩:=FH (by omega);obtain ⟨y0,y1,y2⟩:=at3 (hA.below (IW.bel.trans (Q.bel.mono IW.bel.size))) hc;have HAA2:=Hh hA;have RR:=Hh (FR _ (bo hc)).1;have HCJ:=Hh hc;clear hA hc hjF;generalize eatF c.F j=x at *;obtain ⟨cn,cp,ca,ccap,cl⟩:=x;unfold Ent.sl at y2;simp only at y0 y1 y2;have Y1:=Hh (am wr (.cells #[.int .i64 cn,.int .i64 cp,.slice ca cl.length ccap] 85));have BN2:=Hh ((aa wr.heap.size wr).alloc (ac _) (.cells #[.int .i64 cn,.int .i64 cp,.slice ca cl.length ccap] 85))
      have CAPC:Hid (cl.length<=ccap):=Hh (by
       obtain ⟨_,_,e,q,_⟩:=RR.out.1;unfold Ent.sl at e;simp only at e q;injection e with _ _ e;rw [e]
       exact q.1)
      have CLM:Hid (ccap<=maxLen):=Hh (by
       obtain ⟨_,_,e,_,q,_⟩:=RR.out.1;unfold Ent.sl at e;simp only at e;injection e with _ _ e;rw [e]
       exact q)
      have R26:=Hh (rd_cut (l:=cl) (a:=ca) (cap:=ccap) RR.out.1);have Q7:=Hh (Q.below BN2);have GX:Hid (wo.heap.size<=wr.heap.size/\wr.heap.size≠g6/\wr.heap.size≠g5/\o2.ownBlock≠some wr.heap.size):=Hh ⟨Q.bel.size,fun e=>by have:=ay Q.out.row6;omega,fun e=>by have:=ay Q.out.row5;omega,fun e=>by have:=(aU Q.out.own _ e).2;omega⟩
      go_upto_if 51 with fail
      clear y0 y1 y2 p0;generalize (wr.alloc (.cells #[.int .i64 cn,.int .i64 cp,.slice ca cl.length ccap] 85))=W7 at *;clear Q BN2;generalize wr.heap.size=gx at *;have z2:=Fl.rc Y1 2;have f2:=row_frozen Y1 2
      go_cut [7] from 35 to 63 (fun z wx=>Value.int .i64 j=z/\Hid (wx.heap[gx]? = some (.cells #[.int .i64 cn,.int .i64 cp,.slice ca (cl.take 260).length ccap] 85 (0,0))/\FQI wo c m g5 g6 (some ⟨b2,off2,none⟩) fc0 j o2 wx))
      case first =>
       by_cases hl:260 < cl.length
       ·have e12:(cl.take 260).length=260:=by rw [aW];omega
        have q1:decide (260 < (cl.length:Int))=true:=an (by omega);have capc:=CAPC.out;have clm:=CLM.out;unfold maxLen at clm
        have P:Hid ((W7.setCell ⟨gx,2,none⟩ (.slice ca 260 ccap)).heap[gx]? = some (.cells #[.int .i64 cn,.int .i64 cp,.slice ca (cl.take 260).length ccap] 85 (0,0))/\FQI wo c m g5 g6 (some ⟨b2,off2,none⟩) fc0 j o2 (W7.setCell ⟨gx,2,none⟩ (.slice ca 260 ccap))):=Hh (by
         rw [e12]
         exact ⟨Rw.heap_setCell_same (j:=2) Y1 _,Q7.off GX.out.1 GX.out.2.2.1 GX.out.2.1 GX.out.2.2.2 2 _⟩)
        clear e12 Y1 Q7 RR R26 HCJ;generalize (cl.take 260).length=fm at *;generalize cl.length=fl at *;go_wp2
        go_meet
        exact ⟨rfl,P⟩
       ·have e12:cl.take 260=cl:=bA (by omega)
        have q1:decide (260 < (cl.length:Int))=false:=ak (by omega);have q2:decide (260 < cl.length)=false:=ak (by omega)
        have P:Hid (W7.heap[gx]? = some (.cells #[.int .i64 cn,.int .i64 cp,.slice ca (cl.take 260).length ccap] 85 (0,0))/\FQI wo c m g5 g6 (some ⟨b2,off2,none⟩) fc0 j o2 W7):=Hh (by
         rw [e12]
         exact ⟨Y1,Q7⟩)
        clear e12 Y1 Q7 RR R26 HCJ;generalize (cl.take 260).length=fm at *;generalize cl.length=fl at *;go_wp2
        go_meet
        exact ⟨rfl,P⟩
      case rest =>
       obtain ⟨e1,P⟩:=hcut;subst e1;clear z2 f2 Y1 Q7;have X8:=Hh P.out.1;have Q8:=Hh P.out.2;clear P;obtain ⟨oa,oc,eo,-,-⟩:=Q8.own.slice;have FLN:Hid (((c.F.take j).map cutE).length<=12):=Hh (by rw [aL,aW];have:=MF.out;omega);generalize ((c.F.take j).map cutE).length=fln at eo;subst eo;have c6:=Fl.rc Q8.row6 0;obtain ⟨z0,z1,z2⟩:=rc3 X8;have LE:=Hh (am wc (.cells #[.int .i64 cn,.int .i64 cp,.slice ca (cl.take 260).length ccap] 85));have QE:=Hh (Q8.below ((aa wc.heap.size wc).alloc (ac _) (.cells #[.int .i64 cn,.int .i64 cp,.slice ca (cl.take 260).length ccap] 85)));have CE:Hid (cutE ⟨cn,cp,ca,ccap,cl⟩=⟨cn,cp,ca,ccap,cl.take 260⟩):=Hh rfl;clear Q8 X8;generalize hcr:cl.take 260=cr26 at *;generalize hrl:cr26.length=rl at *;have RLH:=Hh hrl;clear hcr hrl
       go_wp2_with (at_builtin;refine push_at (K:=E3) underlying49 infoE3n rfl (by omega) rfl _ _ rfl wo.heap.size _ _ rfl QE.out.own _ (⟨cn,cp,ca,ccap,cr26⟩:Ent) rfl ?d1 ?d2 ?d3 ?_)
       case d1 =>
        intro jj u hu
        have c:=row_cell LE jj
        match jj,hu with
        | 0,hu=>simp [E3] at hu;subst hu;first | exact c | rfl | go_simp
        | 1,hu=>simp [E3] at hu;subst hu;first | exact c | rfl | go_simp
        | 2,hu=>simp [E3,Ent.sl,RLH.out] at hu;subst hu;first | exact c | rfl | go_simp
        | jj+3,hu=>simp [E3] at hu
       case d2=>first | (have:=FLN;omega) | (have:=FLN.out;simp only [aL] at this ⊢;omega) | (have:=FLN.out;simp at this ⊢;omega)
       case d3=>have:=QE.bel.size;simpa using this
       intro v9 w9 o9 g9 _
       rw [← CE.out] at o9
       (try rw [← List.map_take] at o9)
       obtain ⟨r9,q9⟩:=QE.push HCJ o9 (by simpa using g9);have Q9:=Hh q9;have c6':=row_cell r9 0;have f6':=row_frozen r9 0;obtain ⟨v9a,v9c,n9,rfl⟩:∃ a c n,v9 = .slice a n c:=by obtain ⟨a,c,e,_⟩:=o9.slice;exact ⟨a,c,_,e⟩
       have m12:=MF.out.2;clear o9 g9 r9 q9 QE LE z0 z1 z2 c6 RR R26 HCJ CE;go_wp2
       go_roundw
       case rel=>exact ⟨j+1,_,by omega,by go_num,Q9⟩
       case measure=>simp [intOf];omega
     ·obtain rfl:j=m:=by omega
      obtain ⟨oa,oc,eo,-,-⟩:=Q.own.slice;have HO:=Hh eo;generalize ((c.F.take j).map cutE).length=fln at eo HO;subst eo;obtain ⟨c60,c61⟩:=rc2 Q.row6;have IR:=Hh (IW.below (Q.bel.mono (ac _)));have LE:=Hh (am wr (.cells #[.slice oa fln oc,.int .i64 c.rate] 75));have BE:=Hh ((aa wr.heap.size wr).alloc (ac _) (.cells #[.slice oa fln oc,.int .i64 c.rate] 75));have IE:=Hh (IR.below BE);have FX:Hid (Ow E3 (wr.alloc (.cells #[.slice oa fln oc,.int .i64 c.rate] 75)) w.heap.size 85 (sl (oa,fln,oc)) ((c.F.take 12).map cutE)):=Hh (by rw [TT.out];exact (Q.out.own.keep BE.out).low IW.out.bel.size)
      have RX:Hid (∀ e∈(c.F.take 12).map cutE,ROk w B e):=Hh (fun e he=>by
       obtain ⟨x,hx,rfl⟩:=bE.1 he;have q:=FR.out x (List.mem_of_mem_take hx)
       exact ⟨⟨rd_cut (l:=x.l) q.1.1,fun r hr=>q.1.2 r (List.mem_of_mem_take hr)⟩,fun h0 k hk=>q.2 (by have h1:0 < (x.l.take 260).length:=h0;rw [aW] at h1;omega) k (by rw [← cutE_own x];exact hk)⟩)
      have AX:Hid ((⟨(oa,fln,oc),c.rate,(c.F.take 12).map cutE⟩:PlD).abs=cutP (pld L k).abs):=Hh (by rw [HC.out];exact cut_abs c _);clear Q IR BE
      go_wp2_with (at_builtin;refine push_at (K:=KP) underlying22 infoPl rfl (by omega) rfl _ _ rfl w.heap.size _ _ rfl IE.out.own _ (⟨(oa,fln,oc),c.rate,(c.F.take 12).map cutE⟩:PlD) rfl ?d1 ?d2 ?d3 ?_)
      case d1 =>
       intro jj u hu
       have c:=row_cell LE jj
       match jj,hu with
       | 0,hu=>simp [KP,sl] at hu;subst hu;first | exact c | rfl | go_simp
       | 1,hu=>simp [KP] at hu;subst hu;first | exact c | rfl | go_simp
       | jj+2,hu=>simp [KP] at hu
      case d2=>rw [LDL.out];omega
      case d3=>have:=IE.bel.size;simpa using this
      intro v9 w9 o9 g9 _
      (try rw [← List.map_take] at o9)
      have NEW:=Hh (IE.push KL o9 (by simpa using g9) FX.out RX.out AX.out);obtain ⟨v9a,v9c,n9,rfl⟩:∃ a c n,v9 = .slice a n c:=by obtain ⟨a,c,e,_⟩:=o9.slice;exact ⟨a,c,_,e⟩
      clear o9 g9 IE FX RX AX LE c60 c61;go_wp2
      go_roundw
      case rel=>exact ⟨k+1,_,_,by omega,by omega,by go_num,rfl,NEW⟩
      case measure=>simp [intOf];omega
  ·have E:=Hh (FIN k _ LD wr I (by omega) hk6)
   clear FIN I
   by_cases hkn:k < n
   ·have q1:¬ ((k:Int) < 6):=by omega
    go_wp2
    go_ret
    exact E
   ·go_wp2
    go_ret
    exact E
end Cu
namespace Ga
open Go.RowKit
open Cu (CC cc_new cc_do aat_mem at_ac Oc oc_new FwPost fewT_any fewP)
open Rq (Q)
attribute [local irreducible] Sd.wpSd wpQuiet
def RR (w1:World) (g s d:Nat) (c:Cs) (x:Q) (k M:Nat) (e:Int) (v:R4) (c1:Cs) (m:Nat) (rv:Value) (W:World):Prop :=
 (m=M/\∃ (G:Gs) (T:Nat),T<=k+2 * m/\Rd KU W rv (yb ⟨x.id,e,v⟩)/\GD w1 g s d G T c k [] W/\G.c=rCn c1 M) \/
 (m < 3/\M=3/\Rd KU W rv []/\GD w1 g s d (one (rCn c m) x m) (k+2 * m) c k [] W/\OkG (one (rCn c m) x m) (k+2 * m))
theorem oc_rcn {c:Cs} {t:Nat} (h:Oc c t):∀ j,Oc (rCn c j) (t+j)
 | 0=>h
 | j+1=>by
   have:=(oc_rcn h j).act (x:=Cu.acR) Fl.okR_z;rw [(Cu.act_round _).2] at this;exact this
theorem req_law {w:World} (hg:Glob w) {v u:Value} {L:List PlD} {l:List Ac} (H:Pls w v L w.heap.size) (R:Rd KA w u l) (ok:∀ x∈l,okR x.v/\Wf x.f) (x:Q) (hx:okV x.v):Calls prog 5 #[v,u,qV x] w fun e w'=>e = .returned (.bool true)/\Below w.heap.size w w':=by
 have bx:=(aa w.heap.size w).alloc (ac _) (.cells (qA x) 53);have HG:=Hh (hg.below bx);have B0:=Hh bx;have X0:=Hh (am w (.cells (qA x) 53));have H0:=Hh (H.below bx);have OX:Hid (∀ k,k < l.length->okR (aat l k).v/\Wf (aat l k).f):=Hh (fun k hk=>ok _ (aat_mem hk));have AW:=Hh (fun W (b:Below w.heap.size w W)=>opens_any (hg.below b));obtain ⟨a,cap,rfl,_,hm,hA⟩:=R;have HA:Hid (0 < l.length->∃ b off,a=some ⟨b,off,none⟩/\At KA (w.alloc (.cells (qA x) 53)) b off l):=Hh (fun h=>by obtain ⟨b,off,e,g⟩:=hA h;exact ⟨b,off,e,g.below bx⟩);have HV:=Hh hx;clear hA ok hg H bx hx;generalize hn:l.length=n at *;have HN:=Hh hn;clear hn;unfold maxLen at hm;have PT:=Hh (fun W=>put_any W x);have GQ:=Hh (show (good x\/¬ good x) by by_cases h:good x <;> simp [h]);obtain ⟨xi,xk,xn,xf,xr,⟨v0,v1,v2,v3⟩,xy⟩:=x;unfold PutPost qV at PT;unfold qV;unfold qA at *;dsimp only at B0 X0 H0 HA HG HV PT GQ ⊢
 go_enter func5,ntmps5
 go_upto_region 1 with fail;generalize w.alloc (.cells #[.int .i64 xi,.int .i64 xk,.int .i64 xn,.int .i64 xf,.int .i64 xr,.int .u8 v0,.int .u8 v1,.int .u8 v2,.int .u8 v3,.int .i64 xy] 53)=wx at *;have F1:=Hh (fun W (b:Below wx.heap.size wx W)=>fewT_any (H0.out.below b));unfold FwPost at F1;have LP6:Hid ((fewP (pls L)).length<=6):=Hh (by unfold fewP;rw [aL,aW];omega);generalize fewP (pls L)=lp at *;have F2:=Hh (F1.out wx (aa _ _));go_wp2_with fail;refine F2.out.mono ?_;rintro e w1 ⟨va1,L1,rfl,h1,e1,b1⟩;clear F2;have H1:=Hh h1;have B1:=Hh b1;have E1:=Hh e1;clear h1 b1 e1;have G1:=Hh (HG.out.below B1.out)
 by_cases e0:newE lp=0
 ·have N1:=ch_new (w0:=w1) H1.out (by rw [E1.out];exact e0) (aa _ _)
  have K0:=oc_new H1.out (by rw [E1.out];exact e0);rw [E1.out] at N1 K0;have NN:=Hh N1;have KK:=Hh K0;clear N1 K0;go_wp2_with fail;refine NN.out.mono ?_;rintro e w2 ⟨s,rfl,ch2⟩;have C2:=Hh ch2;have F3:=Hh (F1.out w2 (B1.out.trans (ch2.bel.mono B1.out.size)));clear NN ch2 F1;go_wp2_with fail;refine F3.out.mono ?_;rintro e w3 ⟨va3,L3,rfl,h3,e3,b3⟩;have NS:=cc_new C2.out b3 h3 (by rw [e3];exact e0);rw [e3] at NS;have NC:=Hh NS;clear F3 NS h3 e3 b3 C2 e0 H1 E1 LP6 H0;generalize newC lp=c0 at *;go_wp2_with fail;refine NC.out.mono ?_;rintro e w4 ⟨d,rfl,cc4⟩;have C4:=Hh cc4;clear NC cc4;have FIN:=Hh (fun W (b:Below w1.heap.size w1 W)=>B0.out.trans ((B1.out.trans (b.mono B1.out.size)).mono B0.out.size));have XR:Hid (∀ W,Below w1.heap.size w1 W->W.heap[w.heap.size]? = some (.cells #[.int .i64 xi,.int .i64 xk,.int .i64 xn,.int .i64 xf,.int .i64 xr,.int .u8 v0,.int .u8 v1,.int .u8 v2,.int .u8 v3,.int .i64 xy] 53 (0,0))):=Hh (fun W b=>bBl (B1.out.trans (b.mono B1.out.size)) X0.out);have AWX:=Hh (fun W (b:Below w1.heap.size w1 W)=>AW.out W (FIN.out W b));clear AW X0
  go_upto_block 0 with fail
  go_cut [11] from 50 to 71 (fun _ W'=>∃ (c:Cs) (k:Nat),k<=12/\Hid (CC w1 s d c k c k W'/\Oc c k))
  case first =>
   go_wp2_with fail
   go_loopw [11] (fun i wr=>∃ (k:Nat) (c:Cs),k<=n/\k<=12/\i = .int .i64 k/\Hid (CC w1 s d c k c k wr)/\Hid (Oc c k)) (fun i _=>12 - (intOf i).toNat)
   case atStart=>exact ⟨0,c0,aI _,aI _,rfl,C4,KK⟩
   case round =>
    clear C4 KK;obtain ⟨k,c,hkn,hk12,rfl,D,KC⟩:=hrel
    by_cases hlt:k < n/\k < 12
    ·obtain ⟨hk1,hk2⟩:=hlt
     obtain ⟨b,off,rfl,hA⟩:=HA.out (by omega);have AX:=Hh (fun W (b:Below w1.heap.size w1 W)=>at_ac (hA.below (B1.out.trans (b.mono B1.out.size))) (i:=k) (by rw [HN.out];exact hk1));have XO:=Hh (OX.out k hk1);clear hA;generalize aat l k=y at *;obtain ⟨y0,y1,y2,y3,y4,y5,y6,y7,y8,y9,ya⟩:=AX.out wr D.out.bel;have CD:=Hh (cc_do D.out G1.out KC.out.ok KC.out.sy (by omega) y XO.out.1 XO.out.2);unfold actV actA ptr at CD;go_wp2_with fail;refine CD.out.mono ?_;rintro e w5 ⟨rfl,d5⟩;clear CD y0 y1 y2 y3 y4 y5 y6 y7 y8 y9 ya D;obtain ⟨y0,y1,y2,y3,y4,y5,y6,y7,y8,y9,ya⟩:=AX.out w5 d5.bel;have CD:=Hh (cc_do d5.symm G1.out KC.out.ok KC.out.sy (by omega) y XO.out.1 XO.out.2);have K1:=Hh (KC.out.act XO.out.1);unfold actV actA ptr at CD;clear d5 AX KC;go_wp2_with fail;refine CD.out.mono ?_;rintro e w6 ⟨rfl,d6⟩;have D6:=Hh d6.symm;clear CD d6 y0 y1 y2 y3 y4 y5 y6 y7 y8 y9 ya XO;generalize actC y c=c1 at *;go_wp2
     go_roundw
     case rel=>exact ⟨k+1,c1,by omega,by omega,by go_num,D6,K1⟩
     case measure=>simp [intOf];omega
    ·have DK:Hid (CC w1 s d c k c k wr/\Oc c k):=Hh ⟨D.out,KC.out⟩
     have EX:¬ ((k:Int) < n)\/((k:Int) < n/\¬ ((k:Int) < 12)):=by omega
     clear hlt D KC
     rcases EX with h1 | ⟨h1,h2⟩
     all_goals
      go_wp2
      go_meet
      exact ⟨c,k,hk12,DK⟩
  case rest =>
   obtain ⟨c,k,hk12,DK⟩:=hcut;clear C4 KK HA OX HN hm;have hx:=XR.out _ DK.out.1.bel;have x0:=rc1 hx 0;have x1:=rc1 hx 1;have x2:=rc1 hx 2;have x3:=rc1 hx 3;have x4:=rc1 hx 4;have x5:=rc1 hx 5;have x6:=rc1 hx 6;have x7:=rc1 hx 7;have x8:=rc1 hx 8;have x9:=rc1 hx 9;clear hx;go_wp2_with fail;refine (PT.out _).mono ?_;rintro e w5 ⟨bv,rfl,ob,b5⟩;have D5:Hid (CC w1 s d c k c k w5/\Oc c k):=Hh ⟨DK.out.1.below b5,DK.out.2⟩;have OB:=Hh ob.rd;clear PT ob b5 DK x0 x1 x2 x3 x4 x5 x6 x7 x8 x9;have CN:=Hh (fun W (b:Below w5.heap.size w5 W)=>ch_nodes (D5.out.1.ch.below b));unfold ptr at CN;generalize hq:c.S.length=q at *;have HQ:=Hh hq;clear hq;have q32:q<=32:=by have:=D5.out.2.ok.len.2;rw [HQ.out] at this;exact this
   have X1:=Sd.cell_by (rc1 (XR.out _ D5.out.1.bel) 1);have X2:=Sd.cell_by (rc1 (XR.out _ D5.out.1.bel) 2)
   by_cases hgood:good (⟨xi,xk,xn,xf,xr,(v0,v1,v2,v3),xy⟩:Q)
   ·rw [aj hgood]
    have OB:Hid (Rd KU w5 bv (qb (⟨xi,xk,xn,xf,xr,(v0,v1,v2,v3),xy⟩:Q))):=Hh (by have:=OB.out;rwa [aj hgood] at this);obtain ⟨xm,rfl⟩:∃ xm:Nat,xn=xm:=Int.eq_ofNat_of_zero_le hgood.2.2.1.1;have HGD:=Hh hgood;clear hgood GQ
    by_cases h4:xk=4
    ·have b4:decide (xk=4)=true:=an h4
     go_upto_region 11 with fail;refine Sd.start [(false,0),(false,1),(false,2),(false,3),(false,4),(false,5),(false,6),(false,7),(false,8),(false,9),(false,10),(true,11),(false,12),(false,13)] (by kernel_rfl) (by kernel_rfl) (by kernel_rfl) ?_;dsimp only [Sd.picks,List.getElem?_cons_succ,List.getElem?_cons_zero]
     iterate 11 (refine Sd.lit ?_;(first | (refine Qk.skip (by rfl) (by rfl) ?_) | quiet_step (fail));refine az ?_)
     refine Qk.past (by rfl) (by rfl) ?_
     iterate 2 (refine Sd.lit ?_;(first | (refine Qk.skip (by rfl) (by rfl) ?_) | quiet_step (fail));refine az ?_)
     refine Sd.done ?_;have B6:=Hh (D5.out.1.bel.drew);have AWK:=Hh (AWX.out _ B6.out);go_wp2_with fail;refine AWK.out.mono ?_;rintro e w6 ⟨rfl,b6⟩;have E:=Hh (FIN.out _ (B6.out.trans (b6.mono B6.out.size)));go_wp2
     go_ret
     exact ⟨rfl,E.out⟩
    ·go_upto_region 11 with fail
     have b4:decide (xk=4)=false:=ak h4;refine Sd.start [(false,0),(false,1),(false,2),(false,3),(false,4),(false,5),(false,6),(false,7),(false,8),(false,9),(false,10),(true,11),(false,12),(false,13)] (by kernel_rfl) (by kernel_rfl) (by kernel_rfl) ?_;dsimp only [Sd.picks,List.getElem?_cons_succ,List.getElem?_cons_zero]
     iterate 11 (refine Sd.lit ?_;(first | (refine Qk.skip (by rfl) (by rfl) ?_) | quiet_step (fail));refine az ?_)
     have b5:(xk == 4)=false:=by simp [h4]
     simp only [b5];have B0':=Hh ((aa w5.heap.size w5).drew);refine Sd.call (by rfl) (fun K hK=>?_);go_simp;refine (CN.out _ B0'.out).mono ?_;rintro e w6 ⟨rfl,b6⟩;have B6:=Hh (B0'.out.trans (b6.mono B0'.out.size));refine hK _ _ (Sd.Cl.of B6.out) ?_;clear hK K b6 CN
     by_cases hn:(q:Int)<=xm
     all_goals
      iterate 2 (refine Sd.lit ?_;(first | (refine Qk.skip (by rfl) (by rfl) ?_) | quiet_step (fail));refine az ?_)
      refine Sd.done ?_;clear X1 X2 B0' b4
     ·have B7:=Hh (D5.out.1.bel.trans (B6.out.mono D5.out.1.bel.size))
      have AWK:=Hh (AWX.out _ B7.out);go_wp2_with fail;refine AWK.out.mono ?_;rintro e w7 ⟨rfl,b6⟩;have E:=Hh (FIN.out _ (B7.out.trans (b6.mono B7.out.size)));go_wp2
      go_ret
      exact ⟨rfl,E.out⟩
     ·have D6:Hid (CC w1 s d c k c k w6/\Oc c k):=Hh ⟨D5.out.1.below B6.out,D5.out.2⟩
      have RB:=Hh (OB.out.below B6.out);have HN:Hid (((xm:Nat):Int) < c.S.length):=Hh (by rw [HQ.out];omega);have HK:Hid (0<=xy/\xy<=255):=Hh HGD.out.2.2.2.2.2.1;have NG:=Hh (gd_new D6.out.1 HK.out);have x9:=rc1 (XR.out _ D6.out.1.bel) 9;obtain ⟨M,E,V,c1,tr⟩:=tr_of (c:=c) HGD.out HN.out;have TR:=Hh tr;have KC:=Hh D6.out.2;clear D5 B6 OB D6 tr hn;unfold ptr at NG;go_wp2_with fail;refine NG.out.mono ?_;rintro e w9 ⟨g,rfl,gd9,b9⟩;have L1:=one_let HGD.out HN.out;dsimp only at L1;have SU:=gd_submit gd9 G1.out ⟨KC.out.ok,KC.out.sy,Qe.ok_0,nofun,HK.out⟩ (RB.out.below b9) (Rq.qb_byte HGD.out HV.out);unfold sbA at SU;rw [L1.1,aj rfl,L1.2] at SU;have SU:=Hh SU;unfold ptr at SU;clear NG gd9 L1 RB b9 x9;go_wp2_with fail;refine SU.out.mono ?_;rintro e w10 ⟨u0,rfl,r0,gd10⟩;obtain ⟨ua,uc,rfl⟩:=nil_slice r0;have ST:=Hh (gd_step gd10 G1.out (one_ok KC.out.ok KC.out.sy HGD.out HV.out HN.out (by decide)) (by omega));have OK1:=Hh (OkG.step (one_ok (m:=0) KC.out.ok KC.out.sy HGD.out HV.out HN.out (by decide)));unfold ptr at ST;clear SU r0 gd10;go_wp2_with fail;refine ST.out.mono ?_;rintro e w11 ⟨u1,rfl,r1,gd11⟩
      have START:Hid (RR w1 g s d c (⟨xi,xk,(xm:Nat),xf,xr,(v0,v1,v2,v3),xy⟩:Q) k M E V c1 1 u1 w11):=Hh (by
       rcases TR.out.first h4 HGD.out HN.out with ⟨hM,hs,hc⟩ | ⟨hM,hs,hc⟩
       ·rw [hs] at r1
        exact .inl ⟨hM.symm,_,_,ac _,r1,gd11,hc⟩
       ·rw [hs] at r1
        rw [hc] at gd11;have o:=OK1.out;rw [hc] at o
        exact .inr ⟨by decide,hM,r1,gd11,o⟩)
      clear ST r1 gd11 OK1
      go_upto_block 2 with fail
      go_cut [16,17] from 110 to 124 (fun tv rv W'=>∃ (G:Gs) (T:Nat),tv = .int .i64 M/\T<=k+6/\Hid (Rd KU W' rv (yb ⟨xi,E,V⟩)/\GD w1 g s d G T c k [] W'/\G.c=rCn c1 M))
      case first =>
       go_wp2_with fail
       go_loopw [16,17] (fun tv rv wr=>∃ (m:Nat) (p:Value),m<=3/\tv = .int .i64 m/\p=rv/\Hid (RR w1 g s d c (⟨xi,xk,(xm:Nat),xf,xr,(v0,v1,v2,v3),xy⟩:Q) k M E V c1 m rv wr)) (fun tv _ _=>3 - (intOf tv).toNat)
       case atStart=>exact ⟨1,_,by decide,rfl,rfl,START⟩
       case round =>
        clear START;obtain ⟨m,rv,hm,rfl,rfl,R⟩:=hrel
        rcases R.out with ⟨hmM,G,T,hT,rr,gd,hc⟩ | ⟨hm3,hM3,rr,gd,okg⟩
        ·obtain ⟨ra,rc,rfl,-⟩:=rr.slice
         have Z:Hid (Rd KU wr (.slice ra (yb ⟨xi,E,V⟩).length rc) (yb ⟨xi,E,V⟩)/\GD w1 g s d G T c k [] wr/\G.c=rCn c1 M):=Hh ⟨rr,gd,hc⟩;subst hmM;clear R rr gd hc;have h9:(yb ⟨xi,E,V⟩).length=9:=rfl;go_wp2
         go_meet
         exact ⟨G,T,rfl,by omega,Z⟩
        ·obtain ⟨ra,rc,rfl⟩:=nil_slice rr
         have GDm:=Hh gd;have OKm:=Hh okg;have TN:=TR.out.next hM3 h4 HGD.out HN.out hm3;dsimp only at TN;have LV:=ch_live gd.dh (n:=xm) (by have:=HN.out;omega);rw [TN.1] at LV;have LV:=Hh LV;have TN:=Hh TN.2;have wm:IntKind.i64.wrap ((m:Int)+1)=(m:Int)+1:=aR _ (by omega);have wm3:¬ (3:Int) < (m:Int)+1:=by omega
         have x2:=rc1 (XR.out _ gd.bel) 2;unfold ptr at LV;clear R rr gd okg;go_wp2_with fail;refine LV.out.mono ?_;rintro e w12 ⟨rfl,b12⟩;have ST:=Hh (gd_step (GDm.out.below b12) G1.out OKm.out (by omega));have OKn:=Hh (OkG.step OKm.out);unfold ptr at ST;clear LV b12 GDm OKm x2;go_wp2_with fail;refine ST.out.mono ?_;rintro e w13 ⟨u2,rfl,r2,gd13⟩
         have NEW:Hid (RR w1 g s d c (⟨xi,xk,(xm:Nat),xf,xr,(v0,v1,v2,v3),xy⟩:Q) k M E V c1 (m+1) u2 w13):=Hh (by
          rcases TN.out with ⟨h2,hs,hc⟩ | ⟨h2,hs,hc⟩
          ·rw [hs] at r2
           exact .inl ⟨by omega,_,_,by omega,r2,gd13,hc⟩
          ·rw [hs] at r2
           rw [hc] at gd13;have o:=OKn.out;rw [hc] at o
           exact .inr ⟨by omega,hM3,r2,gd13,o⟩)
         clear ST r2 gd13 OKn TN;go_wp2
         go_roundw
         case rel=>exact ⟨m+1,_,by omega,by go_num,rfl,NEW⟩
         case measure=>simp [intOf];omega
      case rest =>
       obtain ⟨G,T,rfl,hT,Z⟩:=hcut;clear START;obtain ⟨ra,rc,er,-⟩:=Z.out.1.slice;have MY:=TR.out.may KC.out.ok h4 HGD.out HV.out;dsimp only at MY;have RD:=read_yb (y:=⟨xi,E,V⟩) MY.1 MY.2 Z.out.1;have RD:=Hh RD;obtain ⟨q0,q1,q2,q3⟩:=V;unfold yV yA at RD;dsimp only at RD;subst er;go_wp2_with fail;refine RD.out.mono ?_;rintro e w14 ⟨rfl,b14⟩;have GY:=Hh ((Z.out.2.1.below b14).put (.cells #[.int .i64 xi,.int .i64 E,.int .u8 q0,.int .u8 q1,.int .u8 q2,.int .u8 q3] 44));have GC:=Hh Z.out.2.2;clear RD b14 Z;go_upto_region 24 with fail;generalize w14.alloc (.cells #[.int .i64 xi,.int .i64 E,.int .u8 q0,.int .u8 q1,.int .u8 q2,.int .u8 q3] 44)=w15 at *;generalize w14.heap.size=yb at *;have x1:=rc1 (XR.out _ GY.out.bel) 1
       go_upto_if 132 with fail
       go_cut [20] from 133 to 135 (fun ov W'=>ov = .int .i64 (xk - 1)/\W'=w15)
       case first =>
        have k3:xk=1\/xk=2\/xk=3:=by have:=HGD.out.2.1;dsimp only at this;omega
        rcases k3 with rfl | rfl | rfl
        all_goals
         go_wp2
         go_meet
         exact ⟨rfl,rfl⟩
       case rest =>
        obtain ⟨rfl,rfl⟩:=hcut;clear x1;have x2:=rc1 (XR.out _ GY.out.bel) 2;have LV:=Hh (ch_live GY.out.dh (n:=xm) (by have:=HN.out;omega));unfold ptr at LV;generalize hvv:vat c.V ((xm:Nat):Int)=vv at *;have VV:=Hh hvv;clear hvv;go_wp2_with fail;refine LV.out.mono ?_;rintro e w16 ⟨rfl,b16⟩;have G16:=Hh (GY.out.below b16);have SV:=gd_serve G16.out G1.out KC.out.ok (by omega) xm (xk - 1) xf xr (v0,v1,v2,v3) (okV_to HV.out);have he:=TR.out.he;have hv:=TR.out.hv;have h1:=TR.out.h1;dsimp only at he hv h1;rw [he,hv,h1] at SV;unfold rec4 ptr Ad.addr at SV;dsimp only at SV;have SV:=Hh SV;have OC1:Hid (Oc c1 (k+1)):=Hh (by have:=KC.out.serve xm (xk - 1) xf xr (x:=(v0,v1,v2,v3)) (okV_to HV.out);rwa [h1] at this);have LQ:Hid (c1.S.length=q):=Hh (by rw [← h1,len_srC];exact HQ.out);clear LV b16 GY he hv h1 x2;have hx:=XR.out _ G16.out.bel;have x2:=rc1 hx 2;have x3:=rc1 hx 3;have x4:=rc1 hx 4;have x5:=rc1 hx 5;have x6:=rc1 hx 6;have x7:=rc1 hx 7;have x8:=rc1 hx 8;clear hx;go_wp2_with fail;refine SV.out.mono ?_;rintro e w17 ⟨rfl,gd17⟩;have GV:=Hh (gd17.put (.cells #[.int .u8 q0,.int .u8 q1,.int .u8 q2,.int .u8 q3] 36));clear SV gd17 G16 x2 x3 x4 x5 x6 x7 x8;go_upto_region 31 with fail;generalize w17.alloc (.cells #[.int .u8 q0,.int .u8 q1,.int .u8 q2,.int .u8 q3] 36)=w18 at *;generalize w17.heap.size=vb at *;have hB:=Cu.run_buildB;have M3:M<=3:=by rcases TR.out.hm with h | h <;> omega
        go_wp2
        go_loopw [24] (fun i wr=>∃ j:Nat,j<=M/\i = .int .i64 j/\Hid (GD w1 g s d G T (rCn c1 j) (k+1+j) [(vb,.cells #[.int .u8 q0,.int .u8 q1,.int .u8 q2,.int .u8 q3] 36),(yb,.cells #[.int .i64 xi,.int .i64 E,.int .u8 q0,.int .u8 q1,.int .u8 q2,.int .u8 q3] 44)] wr)) (fun i _=>M - (intOf i).toNat)
        case atStart=>exact ⟨0,aI _,rfl,GV⟩
        case round =>
         clear GV;obtain ⟨j,hj,rfl,D⟩:=hrel
         by_cases hjM:j < M
         ·have CD:=gd_do D.out G1.out (oc_rcn OC1.out j).ok (oc_rcn OC1.out j).sy (by omega) Cu.acR Fl.okR_z (WalkArith.wf_i64 (by decide))
          rw [(Cu.act_round _).2] at CD;unfold actV actA ptr Cu.acR z4 at CD;dsimp only at CD;have CD:=Hh CD;clear D;go_wp2_with fail;refine CD.out.mono ?_;rintro e w19 ⟨rfl,d19⟩;have D9:Hid (GD w1 g s d G T (rCn c1 (j+1)) (k+1+(j+1)) [(vb,.cells #[.int .u8 q0,.int .u8 q1,.int .u8 q2,.int .u8 q3] 36),(yb,.cells #[.int .i64 xi,.int .i64 E,.int .u8 q0,.int .u8 q1,.int .u8 q2,.int .u8 q3] 44)] w19):=Hh d19;clear CD d19;go_wp2
          go_roundw
          case rel=>exact ⟨j+1,by omega,by go_num,D9⟩
          case measure=>simp [intOf];omega
         ·have hjM2:M=j:=by omega
          subst hjM2;have yr:=D.out.lies (aJ _ (aO ..));have vr:=D.out.lies (aO ..);have xr':=XR.out _ D.out.bel;have z0:=rc1 xr' 0;have y0:=rc1 yr 0;have y1:=rc1 yr 1;have y2:=rc1 yr 2;have y3:=rc1 yr 3;have y4:=rc1 yr 4;have y5:=rc1 yr 5;have u0:=rc1 vr 0;have u1:=rc1 vr 1;have u2:=rc1 vr 2;have u3:=rc1 vr 3;have e1:∀ w,(Op.equalIn 10000 36 (.agg #[.int .u8 q0,.int .u8 q1,.int .u8 q2,.int .u8 q3]) (.agg #[.int .u8 q0,.int .u8 q1,.int .u8 q2,.int .u8 q3])).run prog w = .ok true w:=fun w=>by have:=Fl.eq_rec (q0,q1,q2,q3) (q0,q1,q2,q3) w;rwa [an rfl] at this
          have VM:Hid ((vv=true)\/(vv=false/\M=3/\E=13)):=Hh (by
           rcases TR.out.hm with ⟨h,_⟩ | ⟨h,hm,he,_⟩
           ·exact .inl (VV.out.symm.trans h)
           ·exact .inr ⟨VV.out.symm.trans h,hm,he⟩)
          have CN:Hid (∀ W,Below wr.heap.size wr W->Calls prog 13 #[.pointer (some ⟨s,0,none⟩)] W fun e w'=>e = .returned (.int .i64 q)/\Below W.heap.size W w'):=Hh (fun W b=>by
           have:=ch_nodes (D.out.ch.below b);rw [GC.out,rCn_len,LQ.out] at this
           exact this)
          have OA:=Hh (fun i (hi:i < q)=>((oc_rcn OC1.out M).ok.st i (by rw [rCn_len,LQ.out];exact hi)).1.len);have DX:Hid (∀ W,Below wr.heap.size wr W->GD w1 g s d G T (rCn c1 M) (k+1+M) [(vb,.cells #[.int .u8 q0,.int .u8 q1,.int .u8 q2,.int .u8 q3] 36),(yb,.cells #[.int .i64 xi,.int .i64 E,.int .u8 q0,.int .u8 q1,.int .u8 q2,.int .u8 q3] 44)] W):=Hh (fun W b=>D.out.below b);clear yr vr xr' hjM D
          rcases VM.out with rfl | ⟨rfl,hM3,hE⟩
          all_goals
           clear VM VV TR;go_upto_region 37 with fail;clear y0 y1 y2 y3 y4 y5 u0 u1 u2 u3 z0 e1;go_wp2
           go_loopw [25] (fun i wx=>∃ m:Nat,m<=q/\i = .int .i64 m/\Hid (Below wr.heap.size wr wx)) (fun i _=>q - (intOf i).toNat)
           case atStart=>exact ⟨0,aI _,rfl,Hh (aa _ _)⟩
           case round =>
            obtain ⟨m,hm,rfl,BB⟩:=hrel;have CX:=Hh (CN.out _ BB.out)
            by_cases hmq:m < q
            ·have CF1:=Hh (fun W b=>ch_files (DX.out W b).ch (n:=m) (by rw [GC.out,rCn_len,LQ.out];exact hmq))
             have CF2:=Hh (fun W b=>ch_files (DX.out W b).dh (n:=m) (by rw [rCn_len,LQ.out];exact hmq));rw [GC.out] at CF1;have LE:=Hh (OA.out m hmq);generalize (sat (rCn c1 M).S m).1=A at *;unfold FilesPost ptr at CF1 CF2;go_wp2_with fail;refine CX.out.mono ?_;rintro e w20 ⟨rfl,b20⟩;have B20:=Hh (BB.out.trans (b20.mono BB.out.size));have CY:=Hh (CF1.out w20 B20.out);clear CX b20 BB CF1;go_wp2_with fail;refine CY.out.mono ?_;rintro e w21 ⟨f1,rfl,hf1,b21⟩;have LS1:=Hh (hf1 (fun _=>False) nofun);have B21:=Hh (B20.out.trans (b21.mono B20.out.size));have CY:=Hh (CF2.out w21 B21.out);clear hf1 b21 B20 CF2;go_wp2_with fail;refine CY.out.mono ?_;rintro e w22 ⟨f2,rfl,hf2,b22⟩;have CZ:=Hh (same_is (LS1.out.below b22) (hf2 (fun _=>False) nofun) LE.out);have B22:=Hh (B21.out.trans (b22.mono B21.out.size));clear CY hf2 b22 B21 LS1;go_wp2_with fail;refine CZ.out.mono ?_;rintro e w23 ⟨rfl,b23⟩;have B23:=Hh (B22.out.trans (b23.mono B22.out.size));clear CZ b23 B22;go_wp2
             go_roundw
             case rel=>exact ⟨m+1,by omega,by go_num,B23⟩
             case measure=>simp [intOf];omega
            ·go_wp2_with fail
             refine CX.out.mono ?_;rintro e w20 ⟨rfl,b20⟩;have B20:=Hh (DX.out _ (BB.out.trans (b20.mono BB.out.size))).bel;have AWK:=Hh (AWX.out _ B20.out);clear CX b20 BB;go_wp2_with fail;refine AWK.out.mono ?_;rintro e w21 ⟨rfl,b21⟩;have E:=Hh (FIN.out _ (B20.out.trans (b21.mono B20.out.size)));go_wp2
             go_ret
             exact ⟨rfl,E.out⟩
   ·rw [ah hgood]
    go_upto_region 11 with fail;refine Sd.start [(false,0),(false,1),(false,2),(false,3),(false,4),(false,5),(false,6),(false,7),(false,8),(false,9),(false,10),(true,11),(false,12),(false,13)] (by kernel_rfl) (by kernel_rfl) (by kernel_rfl) ?_;dsimp only [Sd.picks,List.getElem?_cons_succ,List.getElem?_cons_zero]
    iterate 11 (refine Sd.lit ?_;(first | (refine Qk.skip (by rfl) (by rfl) ?_) | quiet_step (fail));refine az ?_)
    refine Qk.past (by rfl) (by rfl) ?_
    iterate 2 (refine Sd.lit ?_;(first | (refine Qk.skip (by rfl) (by rfl) ?_) | quiet_step (fail));refine az ?_)
    refine Sd.done ?_;have B6:=Hh (D5.out.1.bel.drew);have AWK:=Hh (AWX.out _ B6.out);go_wp2_with fail;refine AWK.out.mono ?_;rintro e w6 ⟨rfl,b6⟩;have E:=Hh (FIN.out _ (B6.out.trans (b6.mono B6.out.size)));go_wp2
    go_ret
    exact ⟨rfl,E.out⟩
 ·generalize hz:newE lp=z at *
  have N1:=new_no H1.out (z:=z) (by rw [E1.out];exact hz) e0;have NN:=Hh N1;clear N1 H1;go_wp2_with fail;refine NN.out.mono ?_;rintro e w2 ⟨rfl,b2⟩;have B2:=Hh (B1.out.trans (b2.mono B1.out.size));have F3:=Hh (F1.out w2 B2.out);clear NN b2 F1;go_wp2_with fail;refine F3.out.mono ?_;rintro e w3 ⟨va3,L3,rfl,h3,e3,b3⟩;have N2:=new_no h3 (z:=z) (by rw [e3];exact hz) e0;have NN:=Hh N2;have B3:=Hh (B2.out.trans (b3.mono B2.out.size));clear N2 F3 h3 e3 b3 B2;go_wp2_with fail;refine NN.out.mono ?_;rintro e w4 ⟨rfl,b4⟩;have B4:=Hh (B3.out.trans (b4.mono B3.out.size));have AWK:=Hh (AW.out w4 (B0.out.trans (B4.out.mono B0.out.size)));clear NN b4 AW B3;go_wp2_with fail;refine AWK.out.mono ?_;rintro e w5 ⟨rfl,b5⟩;have E:=Hh (B0.out.trans ((B4.out.trans (b5.mono B4.out.size)).mono B0.out.size));go_wp2
  go_ret
  exact ⟨rfl,E.out⟩
end Ga
namespace Fl
open Go.ChangeShapes Go.WideShapes Go.ChangeAt Go.RowKit Go.Deep
variable {H:Type} {W:World} {base fuel:Nat} {sp:Nat->Bool} {held:Bool}
theorem rec_cells {enc:TypeId×Value->H} {cs:List Value} {x:DataW H×List MemPlace}
 (h:DataW.trod enc prog W base sp held fuel 36 cs=some x):∃ r:R4,cs=K4.enc r/\okR r:=by
 have c4:prog.cellsOf 36=4:=by kernel_rfl
 have c1:prog.cellsOf 5=1:=by kernel_rfl
 obtain ⟨xs,m,_,_,hs,hx,hi⟩:=DataW.trod_array underlying36 h;rw [c4] at hs
 match cs,hs,xs,hx,hi with
 | [u0,u1,u2,u3],_,[x0,x1,x2,x3],_,hi =>
   have e0:=hi 0 (by omega);have e1:=hi 1 (by omega);have e2:=hi 2 (by omega);have e3:=hi 3 (by omega);rw [c1] at e0 e1 e2 e3;obtain ⟨a,ha,_,wa⟩:=DataW.trod_int underlying5 (x:=x0) e0;obtain ⟨b,hb,_,wb⟩:=DataW.trod_int underlying5 (x:=x1) e1;obtain ⟨c,hc,_,wc⟩:=DataW.trod_int underlying5 (x:=x2) e2;obtain ⟨d,hd,_,wd⟩:=DataW.trod_int underlying5 (x:=x3) e3
   simp at ha hb hc hd
   subst ha hb hc hd;exact ⟨(a,b,c,d),rfl,bounds_u8 wa,bounds_u8 wb,bounds_u8 wc,bounds_u8 wd⟩
theorem recs_of {enc:TypeId×Value->H} {u:Value} {x:DataW H×List MemPlace}
 (h:DataW.trod enc prog W base sp held fuel 81 [u]=some x):∃ l,Rd K4 W u l/\okL l:=by
 have c4:prog.cellsOf 36=4:=by kernel_rfl
 rcases open_slice underlying81 h with ⟨e,_⟩ | ⟨a,len,cap,m,n,D,Pl,e,_,hl,hm,hmm,_,hx⟩
 ·simp at e
  subst e;exact ⟨[],Rw.Rd.nil _,fun r hr=>by cases hr⟩
 ·simp at e
  subst e;have hlm:len<=m:=by rw [hmm];split <;> omega
  have each:∀ i,i < m->∃ r:R4,okR r/\∀ j u,(K4.enc r)[j]? = some u->W.cell? (a.add (i * 4+j))=some u:=fun i hi=>by
   obtain ⟨cs',h1,h2⟩:=hx i hi;rw [c4] at h1;obtain ⟨_,hlen,hcell⟩:=World.cells?_some h1;obtain ⟨r,rfl,ok⟩:=rec_cells h2;refine ⟨r,ok,fun j u hu=>?_⟩;have hj:j < 4:=by have:=(aM.1 hu).1;rw [hlen] at this;exact this
   have e:=hcell j hj;rw [add_add] at e;exact e.trans hu
  obtain ⟨q,hq⟩:=choose_lt each;have hlen:((List.range len).map q).length=len:=by simp
  have get:∀ i,i < len->((List.range len).map q).getD i z4=q i:=fun i hi=>by simp [List.getD,hi]
  refine ⟨(List.range len).map q,⟨some a,cap,by rw [hlen],⟨by rw [hlen];exact hl,nofun⟩,hm,fun h0=>?_⟩,fun r hr=>?_⟩
  ·rw [hlen] at h0
   obtain ⟨b,off,spot⟩:=a;have c0:=(hq 0 (by omega)).2 0 _ rfl;have hs:spot=none:=by simpa [Addr.add] using World.cell?_spot c0
   subst hs;refine ⟨b,off,rfl,fun i hi j u hu=>?_⟩;rw [hlen] at hi;have hu':(K4.enc (q i))[j]? = some u:=by rw [← get i hi];exact hu
   have c:=(hq i (by omega)).2 j u hu';rw [add_plain] at c
   show W.cell? ⟨b,off+i * 4+j,none⟩=some u
   rw [Nat.add_assoc];exact c
  ·obtain ⟨i,hi,rfl⟩:=bE.1 hr
   exact (hq i (by have:=List.mem_range.1 hi;omega)).1
end Fl
namespace Fs
open Go.ChangeShapes Go.WideShapes Go.ChangeAt Go.RowKit Go.Deep
open Fl (rec_cells recs_of)
section
variable {H:Type} {enc:TypeId×Value->H} {W:World} {base fuel:Nat} {sp:Nat->Bool} {held:Bool} {cs:List Value} {x:DataW H×List MemPlace}
theorem file_cells (h:DataW.trod enc prog W base sp held fuel 83 cs=some x):∃ q u l,cs = [.int .i64 q,u]/\Rd K4 W u l/\okL l:=by
 have c2:prog.cellsOf 83=2:=by kernel_rfl
 have c1:prog.cellsOf 3=1:=by kernel_rfl
 have c3:prog.cellsOf 81=1:=by kernel_rfl
 obtain ⟨xs,m,_,_,hs,hx,hi⟩:=DataW.trod_struct underlying83 h;rw [c2] at hs
 match cs,hs,xs,hx,hi with
 | [u,v],_,[x0,x1],_,hi =>
   have e0:DataW.trod enc prog W base sp held m 3 (([u,v].drop 0).take (prog.cellsOf 3))=some x0:=hi 0 _ rfl;have e1:DataW.trod enc prog W base sp held m 81 (([u,v].drop 1).take (prog.cellsOf 81))=some x1:=hi 1 _ rfl;rw [c1] at e0;rw [c3] at e1;obtain ⟨a,ha,_⟩:=DataW.trod_int underlying3 (x:=x0) e0
   simp at ha
   subst ha;obtain ⟨l,R,ok⟩:=recs_of (u:=v) e1;exact ⟨a,v,l,rfl,R,ok⟩
end
def laid : List (String × DataW Unit) := [("errors.errorType", Rows.laid_errors_errorType)]
theorem et : Tryz.prog.globalNamed "errors.errorType" = some 0 := by kernel_rfl
theorem rt : (Tryz.prog.cutTypes.find? (·.1 == "internal/reflectlite.rtype")).map (·.2) = some 222 := by kernel_rfl
theorem oneRow:((List.range 377).filter fun t=>prog.rowNamed t [101,114,114,111,114]) = [107]:=by kernel_rfl
theorem tsize:prog.types.size=377:=by kernel_rfl
theorem glob_of {W:World} (h:laidMetH prog laid W):Glob W:=by
 have h':laidMet prog [] W/\handlesMet prog laid W:=h;obtain ⟨name,u,ty,e1,e2,e3,e4,e5⟩:=h'.2 _ (bm.2 rfl);have en:name = [101,114,114,111,114]:=(bh e1).symm;subst en;obtain rfl:=bh (rt.symm.trans e2);have hm:ty∈(List.range 377).filter fun t=>prog.rowNamed t [101,114,114,111,114]:=cg.2 ⟨List.mem_range.2 (by rw [← tsize];exact e3),e4⟩;rw [oneRow] at hm;obtain rfl:=bm.1 hm;have hh:typeHandle prog 107 = .pointer (some ⟨1,107,none⟩):=by kernel_rfl
 rw [hh] at e5;have:=World.var?_cell et e5 0;unfold Glob
 simpa using this
noncomputable def laidWorld (os:Os):World :=
 let w0:=World.holding prog os ⟨#[],#[],[]⟩
 { w0 with heap:=w0.heap.modify 0 fun
  | .cells _ t frozen=>.cells #[.iface 222 (.agg #[.pointer (some ⟨1,107,none⟩)])] t frozen
  | o=>o }
theorem laidWorld_met (os:Os) (args:Array Value):laidMetH prog laid ((laidWorld os).forCall (fun _ _=>0) ⟨#[],args,[]⟩).memory :=
 laidMetH_of_parts (laidMet_nil _ _) (by kernel_rfl)
end Fs
namespace Pa
open Go.ChangeShapes Go.WideShapes Go.ChangeAt Go.RowKit Go.Deep
theorem open_rd {α:Type} {K:Rw.Kind α} (Q:α->Prop) {H:Type} {enc:TypeId×Value->H} {W:World} {u:Value} {base fuel:Nat} {sp:Nat->Bool} {held:Bool} {x:DataW H×List MemPlace} {T E:TypeId}
 (hu:prog.underlying T=some (.slice E)) (hc:prog.cellsOf E=K.n) (el:∀ {n:Nat} {cs:List Value} {y:DataW H×List MemPlace},DataW.trod enc prog W base sp held n E cs=some y->∃ r:α,cs=K.enc r/\Q r)
 (h:DataW.trod enc prog W base sp held fuel T [u]=some x):∃ l,Rd K W u l/\∀ r∈l,Q r:=by
 rcases open_slice hu h with ⟨e,_⟩ | ⟨a,len,cap,m,n,D,Pl,e,_,hl,hm,hmm,_,hx⟩
 ·simp at e
  subst e;exact ⟨[],Rw.Rd.nil _,fun r hr=>by cases hr⟩
 ·simp at e
  subst e;have hlm:len<=m:=by rw [hmm];split <;> omega
  have each:∀ i,i < m->∃ r:α,Q r/\∀ j u,(K.enc r)[j]? = some u->W.cell? (a.add (i * K.n+j))=some u:=fun i hi=>by
   obtain ⟨cs',h1,h2⟩:=hx i hi;rw [hc] at h1;obtain ⟨_,hlen,hcell⟩:=World.cells?_some h1;obtain ⟨r,rfl,ok⟩:=el h2;refine ⟨r,ok,fun j u hu=>?_⟩;have hj:j < K.n:=by have:=(aM.1 hu).1;rw [hlen] at this;exact this
   have e:=hcell j hj;rw [add_add] at e;exact e.trans hu
  haveI:Inhabited α:=⟨K.dft⟩
  obtain ⟨q,hq⟩:=choose_lt each;have hlen:((List.range len).map q).length=len:=by simp
  have get:∀ i,i < len->((List.range len).map q).getD i K.dft=q i:=fun i hi=>by simp [List.getD,hi]
  refine ⟨(List.range len).map q,⟨some a,cap,by rw [hlen],⟨by rw [hlen];exact hl,nofun⟩,hm,fun h0=>?_⟩,fun r hr=>?_⟩
  ·rw [hlen] at h0
   obtain ⟨b,off,spot⟩:=a;have hp:0 < (K.enc (q 0)).length:=by rw [K.len];exact K.pos
   have c0:=(hq 0 (by omega)).2 0 _ (ai hp);have hs:spot=none:=by simpa [Addr.add] using World.cell?_spot c0
   subst hs;refine ⟨b,off,rfl,fun i hi j u hu=>?_⟩;rw [hlen] at hi;have hu':(K.enc (q i))[j]? = some u:=by rw [← get i hi];exact hu
   have c:=(hq i (by omega)).2 j u hu';rw [add_plain] at c
   show W.cell? ⟨b,off+i * K.n+j,none⟩=some u
   rw [Nat.add_assoc];exact c
  ·obtain ⟨i,hi,rfl⟩:=bE.1 hr
   exact (hq i (by have:=List.mem_range.1 hi;omega)).1
open Fs (file_cells)
section
variable {H:Type} {enc:TypeId×Value->H} {W:World} {base fuel:Nat} {sp:Nat->Bool} {held:Bool} {cs:List Value} {x:DataW H×List MemPlace}
theorem named_cells (h:DataW.trod enc prog W base sp held fuel 85 cs=some x):∃ c:Ent,cs=E3.enc c/\Rd K4 W c.sl c.l/\okL c.l:=by
 have c3:prog.cellsOf 85=3:=by kernel_rfl
 have c1:prog.cellsOf 3=1:=by kernel_rfl
 have c2:prog.cellsOf 83=2:=by kernel_rfl
 obtain ⟨xs,m,_,_,hs,hx,hi⟩:=DataW.trod_struct underlying85 h;rw [c3] at hs
 match cs,hs,xs,hx,hi with
 | [u0,u1,u2],_,[x0,x1],_,hi =>
   have e0:DataW.trod enc prog W base sp held m 3 (([u0,u1,u2].drop 0).take (prog.cellsOf 3))=some x0:=hi 0 _ rfl;have e1:DataW.trod enc prog W base sp held m 83 (([u0,u1,u2].drop 1).take (prog.cellsOf 83))=some x1:=hi 1 _ rfl;rw [c1] at e0;rw [c2] at e1;obtain ⟨k,hk,_,wk⟩:=DataW.trod_int underlying3 (x:=x0) e0;obtain ⟨p,u,l,h3,R,okl⟩:=file_cells e1;obtain ⟨a,cap,rfl,_⟩:=R.slice;have k' : [u0] = [.int .i64 k]:=hk;have h3' : [u1,u2] = [.int .i64 p,.slice a l.length cap]:=h3;simp only [List.cons.injEq,and_true] at k' h3';obtain rfl:=k';obtain ⟨rfl,rfl⟩:=h3';exact ⟨⟨k,p,a,cap,l⟩,rfl,R,okl⟩
theorem any_slice {T E:TypeId} {u:Value} (hu:prog.underlying T=some (.slice E)) (h:DataW.trod enc prog W base sp held fuel T [u]=some x):∃ s:Hd,u=sl s:=by
 rcases open_slice hu h with ⟨e,_⟩ | ⟨a,len,cap,m,n,D,Pl,e,_⟩
 ·simp at e
  exact ⟨zh,e⟩
 ·simp at e
  exact ⟨(some a,len,cap),e⟩
end
end Pa
namespace Cu
open Go.ChangeShapes Go.WideShapes Go.ChangeAt Go.RowKit Go.Deep
open Pa (open_rd named_cells any_slice)
section
variable {H:Type} {enc:TypeId×Value->H} {W:World} {base fuel:Nat} {sp:Nat->Bool} {held:Bool} {cs:List Value} {x:DataW H×List MemPlace}
def PlOk (W:World) (c:PlD):Prop:=Rd E3 W (sl c.files) c.F/\∀ e∈c.F,Rd K4 W e.sl e.l/\okL e.l
theorem plan_cells (h:DataW.trod enc prog W base sp held fuel 75 cs=some x):∃ c:PlD,cs=KP.enc c/\PlOk W c:=by
 have c2:prog.cellsOf 75=2:=by kernel_rfl
 have d0:prog.cellsOf 49=1:=by kernel_rfl
 have d1:prog.cellsOf 3=1:=by kernel_rfl
 obtain ⟨xs,m,_,_,hs,hx,hi⟩:=DataW.trod_struct underlying75 h;rw [c2] at hs
 match cs,hs,xs,hx,hi with
 | [u0,u1],_,[x0,x1],_,hi =>
   have e0:DataW.trod enc prog W base sp held m 49 (([u0,u1].drop 0).take (prog.cellsOf 49))=some x0:=hi 0 _ rfl;have e1:DataW.trod enc prog W base sp held m 3 (([u0,u1].drop 1).take (prog.cellsOf 3))=some x1:=hi 1 _ rfl;rw [d0] at e0;rw [d1] at e1;obtain ⟨F,RF,QF⟩:=open_rd (K:=E3) (fun c=>Rd K4 W c.sl c.l/\okL c.l) underlying49 (by kernel_rfl) (fun h=>named_cells h) (u:=u0) e0;obtain ⟨k,hk,_,_⟩:=DataW.trod_int underlying3 (x:=x1) e1;obtain ⟨s0,rfl⟩:=any_slice underlying49 (u:=u0) e0;have k' : [u1] = [.int .i64 k]:=hk;simp only [List.cons.injEq,and_true] at k';obtain rfl:=k';exact ⟨⟨s0,k,F⟩,rfl,RF,QF⟩
theorem act_cells (h:DataW.trod enc prog W base sp held fuel 38 cs=some x):∃ c:Ac,cs=KA.enc c/\okR c.v/\Fs.Wf c.f:=by
 have c11:prog.cellsOf 38=11:=by kernel_rfl
 have d0:prog.cellsOf 3=1:=by kernel_rfl
 have d1:prog.cellsOf 36=4:=by kernel_rfl
 obtain ⟨xs,m,_,_,hs,hx,hi⟩:=DataW.trod_struct underlying38 h;rw [c11] at hs
 match cs,hs,xs,hx,hi with
 | [u0,u1,u2,u3,u4,u5,u6,u7,u8,u9,u10],_,[x0,x1,x2,x3,x4,x5,x6,x7],_,hi =>
   have e0:DataW.trod enc prog W base sp held m 3 (([u0,u1,u2,u3,u4,u5,u6,u7,u8,u9,u10].drop 0).take (prog.cellsOf 3))=some x0:=hi 0 _ rfl;have e1:DataW.trod enc prog W base sp held m 3 (([u0,u1,u2,u3,u4,u5,u6,u7,u8,u9,u10].drop 1).take (prog.cellsOf 3))=some x1:=hi 1 _ rfl;have e2:DataW.trod enc prog W base sp held m 3 (([u0,u1,u2,u3,u4,u5,u6,u7,u8,u9,u10].drop 2).take (prog.cellsOf 3))=some x2:=hi 2 _ rfl;have e3:DataW.trod enc prog W base sp held m 3 (([u0,u1,u2,u3,u4,u5,u6,u7,u8,u9,u10].drop 3).take (prog.cellsOf 3))=some x3:=hi 3 _ rfl;have e4:DataW.trod enc prog W base sp held m 36 (([u0,u1,u2,u3,u4,u5,u6,u7,u8,u9,u10].drop 4).take (prog.cellsOf 36))=some x4:=hi 4 _ rfl;have e5:DataW.trod enc prog W base sp held m 3 (([u0,u1,u2,u3,u4,u5,u6,u7,u8,u9,u10].drop 8).take (prog.cellsOf 3))=some x5:=hi 5 _ rfl;have e6:DataW.trod enc prog W base sp held m 3 (([u0,u1,u2,u3,u4,u5,u6,u7,u8,u9,u10].drop 9).take (prog.cellsOf 3))=some x6:=hi 6 _ rfl;have e7:DataW.trod enc prog W base sp held m 3 (([u0,u1,u2,u3,u4,u5,u6,u7,u8,u9,u10].drop 10).take (prog.cellsOf 3))=some x7:=hi 7 _ rfl;rw [d0] at e0 e1 e2 e3 e5 e6 e7;rw [d1] at e4;obtain ⟨k0,h0,_⟩:=DataW.trod_int underlying3 (x:=x0) e0
   replace h0 : [u0] = [.int .i64 k0]:=h0
   obtain ⟨k1,h1,_⟩:=DataW.trod_int underlying3 (x:=x1) e1
   replace h1 : [u1] = [.int .i64 k1]:=h1
   obtain ⟨k2,h2,_,wf2⟩:=DataW.trod_int underlying3 (x:=x2) e2
   replace h2 : [u2] = [.int .i64 k2]:=h2
   obtain ⟨k3,h3,_⟩:=DataW.trod_int underlying3 (x:=x3) e3
   replace h3 : [u3] = [.int .i64 k3]:=h3
   obtain ⟨r,h4,ok⟩:=Fl.rec_cells e4
   replace h4 : [u4,u5,u6,u7] = [.int .u8 r.1,.int .u8 r.2.1,.int .u8 r.2.2.1,.int .u8 r.2.2.2]:=h4
   obtain ⟨k5,h5,_⟩:=DataW.trod_int underlying3 (x:=x5) e5
   replace h5 : [u8] = [.int .i64 k5]:=h5
   obtain ⟨k6,h6,_⟩:=DataW.trod_int underlying3 (x:=x6) e6
   replace h6 : [u9] = [.int .i64 k6]:=h6
   obtain ⟨k7,h7,_⟩:=DataW.trod_int underlying3 (x:=x7) e7
   replace h7 : [u10] = [.int .i64 k7]:=h7
   simp only [List.cons.injEq,and_true] at h0 h1 h2 h3 h4 h5 h6 h7;obtain rfl:=h0;obtain rfl:=h1;obtain rfl:=h2;obtain rfl:=h3;obtain ⟨rfl,rfl,rfl,rfl⟩:=h4;obtain rfl:=h5;obtain rfl:=h6;obtain rfl:=h7;exact ⟨⟨k0,k1,k2,k3,r,k5,k6,k7⟩,rfl,ok,wf2⟩
end
variable {H:Type} {W:World} {v:Value} {base b0:Nat} {sp:Nat->Bool} {held:Bool} {p:List MemPlace} {r:Reach}
theorem plans_of {enc:TypeId×Value->H} {d:DataW H}
 (hv:Value.okWide prog W r b0 22 v) (h:DataW.Trod enc prog W base sp held 22 v d p):∃ L,Pls W v L W.heap.size:=by
 obtain ⟨a,len,cap,rfl⟩:=okWide_slice underlying22 hv;obtain ⟨fuel,hf⟩:=h;obtain ⟨L,R,Q⟩:=open_rd (K:=KP) (PlOk W) underlying22 (by kernel_rfl) (fun h=>plan_cells h) (u:=.slice a len cap) hf;refine ⟨L,R,fun i hi=>?_⟩;have at_:pld L i∈L:=by
  unfold pld;rw [af,ai hi];exact bC hi
 obtain ⟨q1,q2⟩:=Q _ at_;have mem:∀ j,j < (pld L i).F.length->eatF (pld L i).F j∈(pld L i).F:=fun j hj=>by
  unfold eatF;rw [af,ai hj];exact bC hj
 exact ⟨q1,fun j hj=>q2 _ (mem j hj),fun j hj h0 k hk=>Fs.rd_low (q2 _ (mem j hj)).1 h0 k hk⟩
theorem acts_of {enc:TypeId×Value->H} {d:DataW H}
 (hv:Value.okWide prog W r b0 59 v) (h:DataW.Trod enc prog W base sp held 59 v d p):∃ l,Rd KA W v l/\∀ x∈l,okR x.v/\Fs.Wf x.f:=by
 obtain ⟨a,len,cap,rfl⟩:=okWide_slice underlying59 hv;obtain ⟨fuel,hf⟩:=h;exact open_rd (K:=KA) (fun x=>okR x.v/\Fs.Wf x.f) underlying59 (by kernel_rfl) (fun h=>act_cells h) (u:=.slice a len cap) hf
end Cu
namespace Rq
open Go.ChangeShapes Go.WideShapes Go.ChangeAt Go.RowKit Go.Deep
open Fl (rec_cells)
open Pa (open_rd)
section
variable {H:Type} {enc:TypeId×Value->H} {W:World} {v:Value} {base:Nat} {sp:Nat->Bool} {held:Bool} {d:DataW H} {p:List MemPlace} {r:Reach} {b0:Nat}
theorem okV_of {x:R4} (h:Fl.okR x):okV x:=by
 unfold Fl.okR at h;unfold okV
 omega
theorem req_cells {fuel:Nat} {cs:List Value} {x:DataW H×List MemPlace} (h:DataW.trod enc prog W base sp held fuel 53 cs=some x):∃ q,cs=(qA q).toList/\okV q.v:=by
 have cq:prog.cellsOf 53=10:=by kernel_rfl
 have c1:prog.cellsOf 3=1:=by kernel_rfl
 have c4:prog.cellsOf 36=4:=by kernel_rfl
 obtain ⟨xs,m,_,_,hs,hx,hi⟩:=DataW.trod_struct underlying53 h;rw [cq] at hs
 match cs,hs,xs,hx,hi with
 | [u0,u1,u2,u3,u4,u5,u6,u7,u8,u9],_,[x0,x1,x2,x3,x4,x5,x6],_,hi =>
   have e0:DataW.trod enc prog W base sp held m 3 (([u0,u1,u2,u3,u4,u5,u6,u7,u8,u9].drop 0).take (prog.cellsOf 3))=some x0:=hi 0 _ rfl;have e1:DataW.trod enc prog W base sp held m 3 (([u0,u1,u2,u3,u4,u5,u6,u7,u8,u9].drop 1).take (prog.cellsOf 3))=some x1:=hi 1 _ rfl;have e2:DataW.trod enc prog W base sp held m 3 (([u0,u1,u2,u3,u4,u5,u6,u7,u8,u9].drop 2).take (prog.cellsOf 3))=some x2:=hi 2 _ rfl;have e3:DataW.trod enc prog W base sp held m 3 (([u0,u1,u2,u3,u4,u5,u6,u7,u8,u9].drop 3).take (prog.cellsOf 3))=some x3:=hi 3 _ rfl;have e4:DataW.trod enc prog W base sp held m 3 (([u0,u1,u2,u3,u4,u5,u6,u7,u8,u9].drop 4).take (prog.cellsOf 3))=some x4:=hi 4 _ rfl;have e5:DataW.trod enc prog W base sp held m 36 (([u0,u1,u2,u3,u4,u5,u6,u7,u8,u9].drop 5).take (prog.cellsOf 36))=some x5:=hi 5 _ rfl;have e6:DataW.trod enc prog W base sp held m 3 (([u0,u1,u2,u3,u4,u5,u6,u7,u8,u9].drop 9).take (prog.cellsOf 3))=some x6:=hi 6 _ rfl;rw [c1] at e0 e1 e2 e3 e4 e6;rw [c4] at e5;obtain ⟨a0,h0,_⟩:=DataW.trod_int underlying3 (x:=x0) e0;obtain ⟨a1,h1,_⟩:=DataW.trod_int underlying3 (x:=x1) e1;obtain ⟨a2,h2,_⟩:=DataW.trod_int underlying3 (x:=x2) e2;obtain ⟨a3,h3,_⟩:=DataW.trod_int underlying3 (x:=x3) e3;obtain ⟨a4,h4,_⟩:=DataW.trod_int underlying3 (x:=x4) e4;obtain ⟨q,h5,ok⟩:=rec_cells e5;obtain ⟨a6,h6,_⟩:=DataW.trod_int underlying3 (x:=x6) e6
   simp [K4] at h0 h1 h2 h3 h4 h5 h6
   obtain ⟨rfl,rfl,rfl,rfl⟩:=h5;subst h0 h1 h2 h3 h4 h6;exact ⟨⟨a0,a1,a2,a3,a4,q,a6⟩,rfl,okV_of ok⟩
theorem req_of (hv:Value.okWide prog W r b0 53 v) (h:DataW.Trod enc prog W base sp held 53 v d p):∃ x,v=qV x/\okV x.v:=by
 obtain ⟨⟨l⟩,rfl,hs⟩:=WideShapes.okWide_struct underlying53 hv;obtain ⟨fuel,hf⟩:=h;obtain ⟨q,e,ok⟩:=req_cells hf;exact ⟨q,by show Value.agg _=Value.agg (qA q);congr 1;exact Array.toList_inj.1 e,ok⟩
end
end Rq
