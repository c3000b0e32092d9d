import Derived.Test.YtljnkaodhfnbbaaGreatDoorPh10
import Derived.BigQuiet
set_option maxRecDepth 100000
namespace Go.Proofs.YtljnkaodhfnbbaaGreatDoor.Cu
open Go.RowKit
open Rw (Rd Ow At)
open Fl (R4 K4 okL okR z4 rec4 row_cell row_frozen)
open Fs (Ent Abs Glob Wf FilesPost Ls Only Fx same_is)
open Pa (ptr sat vat push_at Fls rdE rdL)
open Ck (Hd sl zh)
attribute [local irreducible] Sd.wpSd Sn.wpSn wpQuiet
theorem rC_len (c:Cs):(rC c).S.length=c.S.length:=by
 unfold rC
 split
 ·rfl
 ·split
  ·show (if rdE c.S (rT c) c.V=0 then rdL c.S (rT c) c.V c.Q else c.S).length=_
   split
   ·rename_i e
    have er:rdL c.S (rT c) c.V c.Q=Pa.rdS c.S (rT c) c.V (Pa.hr c.S (rT c) c.V c.Q):=if_pos e;rw [er,Pa.rdS_len]
   ·rfl
  ·rfl
theorem act_len (x:Ac) (c:Cs):(actC x c).S.length=c.S.length:=by
 unfold actC
 split
 ·exact rC_len c
 ·split
  ·rfl
  ·split
   ·rfl
   ·split
    ·exact List.length_set
    ·split
     ·rfl
     ·split <;> rfl
def CC (w0:World) (s d:Nat) (c:Cs) (t:Nat) (c':Cs) (t':Nat) (W:World):Prop:=∃ F G,ClE W s F c t∧ClE W d G c' t'∧(∀ k,F k→¬ G k)∧(∀ k,F k→w0.heap.size≤k)∧(∀ k,G k→w0.heap.size≤k)∧Below w0.heap.size w0 W
section
variable {w0 W w':World} {s d t t':Nat} {c c':Cs}
theorem CC.bel (h:CC w0 s d c t c' t' W):Below w0.heap.size w0 W:=by obtain ⟨_,_,_,_,_,_,_,h⟩:=h;exact h
theorem CC.symm (h:CC w0 s d c t c' t' W):CC w0 d s c' t' c t W:=by
 obtain ⟨F,G,h1,h2,h3,h4,h5,h6⟩:=h;exact ⟨G,F,h2,h1,fun k g f=>h3 k f g,h5,h4,h6⟩
theorem CC.below (h:CC w0 s d c t c' t' W) (b:Below W.heap.size W w'):CC w0 s d c t c' t' w':=by
 obtain ⟨F,G,⟨vn,L,q,v2,Fz,h1⟩,⟨vn',L',q',v2',Fz',h2⟩,h3,h4,h5,h6⟩:=h;exact ⟨F,G,⟨vn,L,q,v2,Fz,h1.below b⟩,⟨vn',L',q',v2',Fz',h2.below b⟩,h3,h4,h5,h6.trans (b.mono h6.size)⟩
theorem CC.late (h:CC w0 s d c t c' t' W):CC w0 s d c (t+1) c' t' W:=by
 obtain ⟨F,G,⟨vn,L,q,v2,Fz,h1⟩,h2,h3,h4,h5,h6⟩:=h;exact ⟨F,G,⟨vn,L,q,v2,Fz,h1.late⟩,h2,h3,h4,h5,h6⟩
theorem CC.ch (h:CC w0 s d c t c' t' W):CH w0 s c t W:=by
 obtain ⟨F,G,h1,h2,h3,h4,h5,h6⟩:=h;exact ⟨F,h1,h4,h6⟩
theorem cc_new {w1:World} {L:List PlD} {v:Value} {B:Nat} (h:CH w0 s c t w1) (b:Below w1.heap.size w1 W) (H:Pls W v L B) (e0:newE (pls L)=0):Calls Tryz.prog 12 #[v] W fun e w'=>∃ d,e = .returned (.tuple #[.pointer (some ⟨d,0,none⟩),.int .i64 0])∧CC w0 s d c t (newC (pls L)) 0 w':=by
 obtain ⟨F,⟨vn,L1,q,v2,Fz,h1⟩,h2,h3⟩:=h.below b;have z:=h3.size;refine (cnew_any H).mono fun e w' d=>?_;obtain ⟨b',⟨_,d,G,rfl,cl,lo⟩ | ⟨g,_⟩⟩:=d
 ·exact ⟨d,rfl,F,G,⟨vn,L1,q,v2,Fz,h1.below b'⟩,cl,fun k f g=>by
   have:=h1.low k f;have:=lo k g
   omega,h2,fun k g=>Nat.le_trans z (lo k g),h3.trans (b'.mono z)⟩
 ·exact absurd e0 g
theorem new_some {v:Value} {L:List PlD} {B:Nat} (H:Pls W v L B):Calls Tryz.prog 12 #[v] W fun e w'=>(∃ u z,e = .returned (.tuple #[u,.int .i64 z]))∧Below W.heap.size W w':=by
 refine (cnew_any H).mono fun e w' d=>?_;obtain ⟨b',⟨_,d,G,rfl,cl,lo⟩ | ⟨_,rfl⟩⟩:=d
 ·exact ⟨⟨_,_,rfl⟩,b'⟩
 ·exact ⟨⟨_,_,rfl⟩,b'⟩
theorem cc_do (h:CC w0 s d c t c' t' W) (hg:Glob w0) (ok:OkC c t) (sy:Syn c) (ht:t≤1000) (x:Ac) (hx:okR x.v) (hf:Wf x.f):Calls Tryz.prog 17 #[ptr s,actV x] W fun e w'=>e = .returned (.int .i64 (actE x c))∧CC w0 s d (actC x c) (t+1) c' t' w':=by
 obtain ⟨F,G,⟨vn,L,q,v2,Fz,h1⟩,⟨vn',L',q',v2',Fz',h2⟩,h3,h4,h5,h6⟩:=h;have gl:=World.block_lt_of_cell? _ _ hg;refine (cdo_any h1 ok sy ht (hg.below h6) (fun g=>by have:=h4 _ g;exact absurd gl (by show ¬ 1 < _;omega)) x hx hf).mono fun e w' d=>⟨d.1,Fx F W w',G,d.2.1,⟨vn',L',q',v2',Fz',h2.only (fun k g f=>h3 k f g) d.2.2⟩,fun k f g=>?_,fun k f=>?_,h5,h6.trans (d.2.2.below h6.size h4)⟩
 ·rcases f with f | f
  ·exact h3 k f g
  ·have:=h2.low k g
   omega
 ·have:=h6.size
  rcases f with f | f
  ·exact h4 k f
  ·omega
end
theorem Oc.next {c:Cs} {t:Nat} (h:Oc c t):Oc c (t+1):=⟨h.ok.next,h.sy⟩
def noR (c:PlD):PlD:=⟨c.files,0,c.F⟩
theorem noR_pls (L:List PlD):pls (L.map noR)=(pls L).map fun p=>(p.1,0):=by
 unfold pls;rw [List.map_map,List.map_map]
 rfl
theorem plat_no (l:List Pl) (i:Nat):(plat (l.map fun p=>(p.1,(0:Int))) i).1=(plat l i).1:=by
 unfold plat;rw [List.getD_eq_getElem?_getD,List.getD_eq_getElem?_getD,List.getElem?_map]
 cases l[i]? <;> rfl
theorem noR_new {l:List Pl} (h:newE l=0):newE (l.map fun p=>(p.1,(0:Int)))=0:=by
 unfold newE at h ⊢;rw [List.length_map]
 split at h
 ·omega
 ·rename_i hl
  rw [if_neg hl]
  split at h
  ·rename_i hg
   have hg':∀ p∈l.map fun p=>(p.1,(0:Int)),gdP p:=fun p hp=>by
    obtain ⟨x,hx,rfl⟩:=List.mem_map.1 hp;exact ⟨(hg x hx).1,by show (-2000:Int)≤0;omega,by show (0:Int)≤2000;omega⟩
   rw [if_pos hg']
   split at h
   ·rename_i ha
    have ha':agree (l.map fun p=>(p.1,(0:Int))):=by
     unfold agree at ha ⊢;rw [plat_no,plat_no];exact ha
    rw [if_pos ha']
   ·omega
  ·omega
theorem noR_newC (l:List Pl):newC (l.map fun p=>(p.1,(0:Int)))=newC l:=by
 unfold newC;rw [List.map_map,List.map_map]
 rfl
structure DRI (w:World) (L:List PlD) (k:Nat) (o:Value) (wr:World):Prop where
 own:Ow KP wr w.heap.size 60 o ((L.take k).map noR)
 bel:Below w.heap.size w wr
theorem DRI.below {w wr w2:World} {L:List PlD} {k:Nat} {o:Value} (h:DRI w L k o wr) (b:Below wr.heap.size wr w2):DRI w L k o w2:=⟨h.own.keep b,h.bel.trans (b.mono h.bel.size)⟩
theorem run_buildP (a:Option Addr) (n c:Nat) (w:World):(Instr.build 60 #[(0,.slice a n c)]).run Tryz.prog w = .ok (.agg #[.slice a n c,.int .i64 0]) w:=by kernel_rfl
theorem run_buildD (n t:Int) (w:World):(Instr.build 44 #[(0,.int .i64 6),(1,.int .i64 n),(7,.int .i64 t)]).run Tryz.prog w = .ok (.agg #[.int .i64 6,.int .i64 n,.int .i64 0,.int .i64 0,.int .u8 0,.int .u8 0,.int .u8 0,.int .u8 0,.int .i64 0,.int .i64 0,.int .i64 t]) w:=by kernel_rfl
theorem DRI.fin {w wr:World} {L:List PlD} {k B:Nat} {v o:Value} (h:DRI w L k o wr) (hk:k=L.length) (H:Pls w v L B):Pls wr o (L.map noR) B:=by
 have e:(L.take k).map noR=L.map noR:=by rw [List.take_of_length_le (by omega)]
 have own:=h.own;rw [e] at own;refine pls_ofB own.rd fun c hc=>?_;obtain ⟨x,hx,rfl⟩:=List.mem_map.1 hc;obtain ⟨i,hi⟩:=List.getElem?_of_mem hx;have hl:=(List.getElem?_eq_some_iff.1 hi).1;have f:=H.file i hl;unfold pld at f;rw [List.getD_eq_getElem?_getD,hi] at f;exact f.below h.bel
theorem DRI.push {w wr w2:World} {L:List PlD} {k:Nat} {o o':Value} (h:DRI w L k o wr) (hk:k < L.length) (own:Ow KP w2 w.heap.size 60 o' ((L.take k).map noR ++ [noR (pld L k)])) (gr:wr.grownBy w2 o.ownBlock):DRI w L (k+1) o' w2:=by
 refine ⟨?_,h.bel.grown gr h.bel.size fun j e=>(World.ownsRow.lt h.own j e).1⟩;have e:(L.take (k+1)).map noR=(L.take k).map noR ++ [noR (pld L k)]:=by
  have:L[k]? = some (pld L k):=by
   unfold pld;rw [List.getElem?_eq_getElem hk,List.getD_eq_getElem?_getD,List.getElem?_eq_getElem hk]
   rfl
  rw [List.take_add_one,this,List.map_append]
  rfl
 rw [e];exact own
set_option maxHeartbeats 8000000 in
theorem drifts_law {w:World} (hg:Glob w) {v u y:Value} {L:List PlD} {l:List Ac} {r:List Int} (H:Pls w v L w.heap.size) (R:Rd KA w u l) (ok:∀ x∈l,okR x.v∧Wf x.f) (S:Rd (Rw.int .i16) w y r) (kr:∀ x∈r,-32768≤x∧x≤32767):Calls Tryz.prog 4 #[v,u,y] w fun e w'=>e = .returned (.bool true)∧Below w.heap.size w w':=by
 have HG:=Lib.hid hg;have OX:Hid (∀ k,k < l.length→okR (aat l k).v∧Wf (aat l k).f):=Lib.hid (fun k hk=>ok _ (aat_mem hk));have F1:=Lib.hid (few20_any H);have AW:=Lib.hid (fun W (b:Below w.heap.size w W)=>awake20_any (hg.below b));obtain ⟨a,cap,rfl,_,hm,hA⟩:=R;obtain ⟨a',cap',rfl,_,hm',hA'⟩:=S;have HA:=Lib.hid hA;have OK:=Lib.hid hm;have HA':=Lib.hid hA';have OK':=Lib.hid hm';have KR:Hid (∀ k,k < r.length→-32768≤r.getD k 0∧r.getD k 0≤32767):=Lib.hid (fun k hk=>kr _ (by rw [List.getD_eq_getElem?_getD,List.getElem?_eq_getElem hk];exact List.getElem_mem hk));clear hA hm ok hg H hA' hm' kr;unfold FwPost at F1;have LP6:Hid ((fewP (pls L)).length≤6):=Lib.hid (by unfold fewP;rw [List.length_map,List.length_take];omega);generalize fewP (pls L)=lp at *;generalize hn:l.length=n at *;have HN:=Lib.hid hn;clear hn;generalize hn:r.length=nr at *;have HR:=Lib.hid hn;clear hn;unfold maxLen at OK OK';have hm:=OK.out;have hm':=OK'.out;clear OK OK'
 go_enter Tryz.func4,Tryz.ntmps4
 go_wp2_with fail;refine F1.out.mono ?_;rintro e w1 ⟨v1,L1,rfl,h1,e1,b1⟩;clear F1;obtain ⟨va,vc,rfl,vcap,vm,hP⟩:=h1.rd;have H1:=Lib.hid h1;have B1:=Lib.hid b1;have HP:=Lib.hid hP;have E1:=Lib.hid e1;have VM:=Lib.hid vm;unfold maxLen at VM;have vm':=VM.out;clear VM vm hP h1 b1 e1;have FIN:=Lib.hid (fun W (b:Below w1.heap.size w1 W)=>B1.out.trans (b.mono B1.out.size));have G1:=Lib.hid (HG.out.below B1.out);generalize hq:L1.length=q at *;have HQ:=Lib.hid hq;clear hq
 by_cases e0:newE lp=0
 ·have N1:=ch_new (w0:=w1) H1.out (by rw [E1.out];exact e0) (Below.refl _ _)
  have K0:=oc_new H1.out (by rw [E1.out];exact e0);rw [E1.out] at N1 K0;have NN:=Lib.hid N1;have KK:=Lib.hid K0;clear N1 K0
  have HL32:Hid (q≤32∧2≤q∧(newC lp).S.length=q):=Lib.hid (by
   have l1:=KK.out.ok.len;have l2:(newC lp).S.length=lp.length:=List.length_map _;have l3:lp.length=q:=by rw [← E1.out,pls_len,HQ.out]
   omega)
  have E02:Hid (newE (pls (L1.map noR))=0):=Lib.hid (by rw [noR_pls,E1.out];exact noR_new e0);have EC2:Hid (newC (pls (L1.map noR))=newC lp):=Lib.hid (by rw [noR_pls,E1.out];exact noR_newC lp);go_wp2_with fail;refine NN.out.mono ?_;rintro e w2 ⟨s,rfl,c2⟩;have C2:=Lib.hid c2;have B2:=Lib.hid c2.bel;clear c2 NN e0;have I0:Hid (DRI w2 L1 0 (.slice (some ⟨w2.heap.size,0,none⟩) 0 0) (w2.alloc (.cells #[] 60))):=Lib.hid ⟨Rw.Ow.made _ _ _ (Nat.le_refl _),(Below.refl _ _).alloc (Nat.le_refl _) _⟩;go_wp2
  go_loopw [11,10] (fun i o wr=>∃ (k:Nat) (p1:Value),k≤q∧i = .int .i64 k∧p1=o∧Hid (DRI w2 L1 k o wr)) (fun i _ _=>q - (intOf i).toNat)
  case atStart=>exact ⟨0,_,Nat.zero_le _,rfl,rfl,by simpa using I0⟩
  case round =>
   clear I0;obtain ⟨k,o,hk,rfl,rfl,I⟩:=hrel
   by_cases hlt:k < q
   ·have hkL:k < L1.length:=by have:=HQ.out;omega
    obtain ⟨b,off,rfl,hA⟩:=HP.out (by omega);obtain ⟨x0,-⟩:=at_pl (hA.below (B2.out.trans (I.out.bel.mono B2.out.size))) hkL;have KL:=Lib.hid hkL;have LDL:Hid (((L1.take k).map noR).length=k):=Lib.hid (by rw [List.length_map,List.length_take];omega);clear hA hkL;obtain ⟨ao,co,eo,-,-⟩:=I.out.own.slice;rw [LDL.out] at eo;subst eo;generalize hc:pld L1 k=c at *;have HC:=Lib.hid hc;clear hc;obtain ⟨⟨fa,fn,fc⟩,rt,FF⟩:=c;have y0:wr.cell? ⟨b,off+k * 2,none⟩=some (.slice fa fn fc):=x0;clear x0;have hBP:=run_buildP;have LE:=Lib.hid (heap_alloc_new wr (.cells #[.slice fa fn fc,.int .i64 0] 60));have BE:=Lib.hid ((Below.refl wr.heap.size wr).alloc (Nat.le_refl _) (.cells #[.slice fa fn fc,.int .i64 0] 60));have IE:=Lib.hid (I.out.below BE.out);clear I BE
    go_wp2_with (at_builtin;refine push_at (K:=KP) Tryz.underlying22 infoPl rfl (by omega) rfl _ _ rfl w2.heap.size _ _ rfl IE.out.own _ (⟨(fa,fn,fc),0,FF⟩:PlD) rfl ?d1 ?d2 ?d3 ?_)
    case d1 =>
     intro jj u hu
     have c:=row_cell LE.out jj
     match jj,hu with
     | 0,hu=>simp [KP,sl] at hu;subst hu;first | exact c | rfl | go_simp
     | 1,hu=>simp [KP] at hu;subst hu;first | exact c | rfl | go_simp
     | jj+2,hu=>simp [KP] at hu
    case d2=>rw [LDL.out];have:=HL32.out;omega
    case d3=>have:=IE.out.bel.size;simpa using this
    intro v9 w9 o9 g9 _
    have NEW:Hid (DRI w2 L1 (k+1) v9 w9):=Lib.hid (IE.out.push KL.out (by rw [HC.out];first | exact o9 | (rw [List.map_take];exact o9)) (by simpa using g9));obtain ⟨v9a,v9c,n9,rfl⟩:∃ a c n,v9 = .slice a n c:=by obtain ⟨a,c,e,_⟩:=o9.slice;exact ⟨a,c,_,e⟩
    clear o9 g9 IE LE y0;go_wp2
    go_roundw
    case rel=>exact ⟨k+1,_,by omega,by go_num,rfl,NEW⟩
    case measure=>simp [intOf];omega
   ·obtain rfl:k=q:=by omega
    have NS:=cc_new C2.out I.out.bel (I.out.fin HQ.out.symm (H1.out.below B2.out)) E02.out;rw [EC2.out] at NS;have NC:=Lib.hid NS;clear I NS C2 B2 E02 EC2;go_wp2_with fail;refine NC.out.mono ?_;rintro e w3 ⟨d,rfl,cc3⟩;have C3:=Lib.hid cc3;clear NC cc3;have HL2:Hid (2≤k∧k≤32∧(newC lp).S.length=k):=Lib.hid ⟨HL32.out.2.1,HL32.out.1,HL32.out.2.2⟩;have kk2:=HL2.out.1;have kk32:=HL2.out.2.1;clear HL32;generalize newC lp=c0 at *;generalize k=q at *;go_upto_region 11 with fail;clear HP H1 E1;go_wp2
    go_loopw [14] (fun i wr=>∃ (k:Nat) (c:Cs),k≤n∧k≤25∧i = .int .i64 k∧Hid (CC w1 s d c (k+k) c (k+k) wr)∧Hid (Oc c (k+k))∧Hid (c.S.length=q)) (fun i _=>25 - (intOf i).toNat)
    case atStart=>exact ⟨0,c0,Nat.zero_le _,Nat.zero_le _,rfl,C3,KK,Lib.hid HL2.out.2.2⟩
    case round =>
     clear C3 KK;obtain ⟨k,c,hk,hk25,rfl,D,KC,SL⟩:=hrel
     by_cases hlt:k < n∧k < 25
     ·obtain ⟨hkn,hk3⟩:=hlt
      obtain ⟨b,off,rfl,hA⟩:=HA.out (by omega);have AA:=Lib.hid (at_ac (hA.below B1.out) (i:=k) (by rw [HN.out];exact hkn));have XO:=Lib.hid (OX.out k hkn);clear hA;generalize aat l k=x at *
      by_cases hr:k < nr
      ·obtain ⟨b',off',rfl,hA'⟩:=HA'.out (by omega)
       have q0:w1.cell? ⟨b',off'+k,none⟩=some (.int .i16 (r.getD k 0)):=by
        have:=(hA'.below B1.out) k (by rw [HR.out];exact hr) 0 _ rfl
        simpa [Rw.int] using this
       have yb:=KR.out k hr;clear hA';generalize r.getD k 0=yy at *;have X0:=Sc.cell_in (C:=Below w1.heap.size w1) (fun W' h=>(h.cell (World.block_lt_of_cell? _ _ q0)).trans q0);clear q0;have wy:IntKind.i64.wrap yy=yy:=IntWalk.i64_in _ (by omega);have tb : -2000≤Int.tmod yy 2001∧Int.tmod yy 2001≤2000:=by
        rcases Int.le_total 0 yy with h | h
        ·rw [Int.tmod_eq_emod_of_nonneg h];omega
        ·have e:Int.tmod yy 2001 = - (Int.tmod (-yy) 2001):=by rw [Int.neg_tmod];omega
         rw [e,Int.tmod_eq_emod_of_nonneg (by omega)];omega
       have hmd:Int.tmod (k:Int) (q:Int)=((k % q:Nat):Int):=by rw [Int.tmod_eq_emod_of_nonneg (by omega)];rfl
       have hml:k % q < q:=Nat.mod_lt _ (by omega);generalize htt:Int.tmod yy 2001=tt at *;generalize hmm:k % q=mm at *;have wt:IntKind.i64.wrap tt=tt:=IntWalk.i64_in _ (by omega);have wm:IntKind.i64.wrap (mm:Int)=mm:=IntWalk.i64_in _ (by omega);have hq0:¬ (q=0):=by omega
       have hBD:=run_buildD
       have CD0:Hid (Calls Tryz.prog 17 #[.pointer (some ⟨s,0,none⟩),.agg #[.int .i64 6,.int .i64 mm,.int .i64 0,.int .i64 0,.int .u8 0,.int .u8 0,.int .u8 0,.int .u8 0,.int .i64 0,.int .i64 0,.int .i64 tt]] wr.drew fun e w'=>e = .returned (.int .i64 0)∧CC w1 s d c (k+k+1) c (k+k) w'):=Lib.hid (by
        have dr:=drift_act (c:=c) (k:=mm) (by rw [SL.out];exact hml) ⟨6,mm,0,0,z4,0,0,tt⟩ rfl rfl tb;have:=cc_do (D.out.below (Below.refl wr.heap.size wr).drew) G1.out KC.out.ok KC.out.sy (by omega) ⟨6,mm,0,0,z4,0,0,tt⟩ Fl.okR_z (show Wf 0 from WalkArith.wf_i64 (by decide));rw [dr.1,dr.2] at this
        exact this)
       have BD:=Lib.hid (D.out.bel.drew);have ne:Nonempty (Sc.In (Below w1.heap.size w1)):=⟨⟨_,Below.refl _ _⟩⟩;clear D;go_upto_region 14 with fail;refine Sc.start (Below w1.heap.size w1) [(false,0),(false,1),(false,2),(false,3),(false,4),(false,5),(false,6),(false,7),(false,10),(false,11),(false,12),(false,13),(false,14),(false,15),(false,8),(false,9),(false,16),(true,17),(false,18),(false,19)] (by kernel_rfl) (by kernel_rfl) (by kernel_rfl) BD.out ?_;dsimp only [Sd.picks,List.getElem?_cons_succ,List.getElem?_cons_zero]
       iterate 17 (refine Sd.lit ?_;quiet_step (fail);refine wpQuiet_nil ?_)
       refine Sd.call (by rfl) (fun K hK=>?_);go_simp;refine CD0.out.mono ?_;rintro e w5 ⟨rfl,d5⟩;have D5:=Lib.hid d5;refine hK _ _ (Sc.Cl.of d5.bel) ?_;clear hK K d5 CD0 X0
       iterate 2 (refine Sd.lit ?_;quiet_step (fail);refine wpQuiet_nil ?_)
       refine Sd.done ?_;clear ne wy tb hmd wt wm hq0 hBD;go_upto_region 16 with fail;obtain ⟨a0,a1,a2,a3,a4,a5,a6,a7,a8,a9,a10⟩:=AA.out;have x0:=Sc.cell_in (C:=Below w1.heap.size w1) (fun W' h=>(h.cell (World.block_lt_of_cell? _ _ a0)).trans a0);have x1:=Sc.cell_in (C:=Below w1.heap.size w1) (fun W' h=>(h.cell (World.block_lt_of_cell? _ _ a1)).trans a1);have x2:=Sc.cell_in (C:=Below w1.heap.size w1) (fun W' h=>(h.cell (World.block_lt_of_cell? _ _ a2)).trans a2);have x3:=Sc.cell_in (C:=Below w1.heap.size w1) (fun W' h=>(h.cell (World.block_lt_of_cell? _ _ a3)).trans a3);have x4:=Sc.cell_in (C:=Below w1.heap.size w1) (fun W' h=>(h.cell (World.block_lt_of_cell? _ _ a4)).trans a4);have x5:=Sc.cell_in (C:=Below w1.heap.size w1) (fun W' h=>(h.cell (World.block_lt_of_cell? _ _ a5)).trans a5);have x6:=Sc.cell_in (C:=Below w1.heap.size w1) (fun W' h=>(h.cell (World.block_lt_of_cell? _ _ a6)).trans a6);have x7:=Sc.cell_in (C:=Below w1.heap.size w1) (fun W' h=>(h.cell (World.block_lt_of_cell? _ _ a7)).trans a7);have x8:=Sc.cell_in (C:=Below w1.heap.size w1) (fun W' h=>(h.cell (World.block_lt_of_cell? _ _ a8)).trans a8);have x9:=Sc.cell_in (C:=Below w1.heap.size w1) (fun W' h=>(h.cell (World.block_lt_of_cell? _ _ a9)).trans a9);have x10:=Sc.cell_in (C:=Below w1.heap.size w1) (fun W' h=>(h.cell (World.block_lt_of_cell? _ _ a10)).trans a10);have ne:Nonempty (Sc.In (Below w1.heap.size w1)):=⟨⟨_,Below.refl _ _⟩⟩;clear a0 a1 a2 a3 a4 a5 a6 a7 a8 a9 a10;have CD1:=Lib.hid (cc_do (D5.out.below (Below.refl w5.heap.size w5).drew) G1.out KC.out.next.ok KC.out.sy (by omega) x XO.out.1 XO.out.2);have CD2:=Lib.hid (fun W (e:CC w1 s d (actC x c) (k+k+1+1) c (k+k) W)=>cc_do e.symm G1.out KC.out.ok KC.out.sy (by omega) x XO.out.1 XO.out.2);have K1:Hid (Oc (actC x c) (k+1+(k+1))):=Lib.hid (by rw [show k+1+(k+1)=k+k+1+1 by omega];exact KC.out.next.act XO.out.1);have SL1:Hid ((actC x c).S.length=q):=Lib.hid ((act_len x c).trans SL.out);have BD:=Lib.hid (D5.out.bel.drew);clear D5 KC SL;unfold actV actA ptr at CD1 CD2;generalize actC x c=c1 at *;generalize actE x c=z at *;have nz:(z != z)=false:=by simp
       have nz2:(((c1.pl:Nat):Int) != (c1.pl:Int))=false:=by simp
       refine Sc.start (Below w1.heap.size w1) [(false,0),(false,1),(false,2),(false,3),(false,4),(false,6),(false,7),(false,8),(false,9),(false,10),(true,5),(true,11),(false,12),(false,13),(false,14),(false,16),(true,15),(true,17),(false,18),(false,19)] (by kernel_rfl) (by kernel_rfl) (by kernel_rfl) BD.out ?_;dsimp only [Sd.picks,List.getElem?_cons_succ,List.getElem?_cons_zero]
       iterate 10 (refine Sd.lit ?_;quiet_step (fail);refine wpQuiet_nil ?_)
       clear x0 x1 x2 x3 x4 x5 x6 x7 x8 x9 x10;refine Sd.call (by rfl) (fun K hK=>?_);go_simp;refine CD1.out.mono ?_;rintro e w6 ⟨rfl,d6⟩;have E6:=Lib.hid (CD2.out w6 d6);refine hK _ _ (Sc.Cl.of d6.bel) ?_;clear hK K d6 CD1 CD2;refine Sd.call (by rfl) (fun K hK=>?_);go_simp;refine E6.out.mono ?_;rintro e w7 ⟨rfl,d7⟩;have D7:=Lib.hid d7;refine hK _ _ (Sc.Cl.of d7.bel) ?_;clear hK K d7 E6
       iterate 4 (refine Sd.lit ?_;quiet_step (fail);refine wpQuiet_nil ?_)
       have PC:=ch_place D7.out.symm.ch;unfold ptr at PC;refine Sd.call (by rfl) (fun K hK=>?_);go_simp;refine PC.mono ?_;rintro e w8 ⟨rfl,b8⟩;have D8:=Lib.hid (D7.out.below b8);refine hK _ _ (Sc.Cl.of D8.out.bel) ?_;clear hK K b8 PC D7;have PC:=ch_place D8.out.ch;unfold ptr at PC;refine Sd.call (by rfl) (fun K hK=>?_);go_simp;refine PC.mono ?_;rintro e w9 ⟨rfl,b9⟩;have D9:Hid (CC w1 s d c1 (k+1+(k+1)) c1 (k+1+(k+1)) w9):=Lib.hid (by rw [show k+1+(k+1)=k+k+1+1 by omega];exact (D8.out.late.below b9).symm);refine hK _ _ (Sc.Cl.of D9.out.bel) ?_;clear hK K b9 PC D8
       iterate 2 (refine Sd.lit ?_;quiet_step (fail);refine wpQuiet_nil ?_)
       refine Sd.done ?_;clear ne nz nz2;go_wp2
       go_roundw
       case rel=>exact ⟨k+1,c1,by omega,by omega,by go_num,D9,K1,SL1⟩
       case measure=>simp [intOf];omega
      ·have BD:=Lib.hid (D.out.bel.drew)
       have D5:=Lib.hid (D.out.late.below (Below.refl wr.heap.size wr).drew);have ne:Nonempty (Sc.In (Below w1.heap.size w1)):=⟨⟨_,Below.refl _ _⟩⟩;clear D;go_upto_region 14 with fail;refine Sc.start (Below w1.heap.size w1) [(false,0),(false,1),(false,2),(false,3),(false,4),(false,5),(false,6),(false,7),(false,10),(false,11),(false,12),(false,13),(false,14),(false,15),(false,8),(false,9),(false,16),(true,17),(false,18),(false,19)] (by kernel_rfl) (by kernel_rfl) (by kernel_rfl) BD.out ?_;dsimp only [Sd.picks,List.getElem?_cons_succ,List.getElem?_cons_zero]
       iterate 17 (refine Sd.lit ?_;quiet_step (fail);refine wpQuiet_nil ?_)
       refine Sd.past (by rfl) ?_
       iterate 2 (refine Sd.lit ?_;quiet_step (fail);refine wpQuiet_nil ?_)
       refine Sd.done ?_;clear ne;generalize wr.drew=w5 at *;go_upto_region 16 with fail;obtain ⟨a0,a1,a2,a3,a4,a5,a6,a7,a8,a9,a10⟩:=AA.out;have x0:=Sc.cell_in (C:=Below w1.heap.size w1) (fun W' h=>(h.cell (World.block_lt_of_cell? _ _ a0)).trans a0);have x1:=Sc.cell_in (C:=Below w1.heap.size w1) (fun W' h=>(h.cell (World.block_lt_of_cell? _ _ a1)).trans a1);have x2:=Sc.cell_in (C:=Below w1.heap.size w1) (fun W' h=>(h.cell (World.block_lt_of_cell? _ _ a2)).trans a2);have x3:=Sc.cell_in (C:=Below w1.heap.size w1) (fun W' h=>(h.cell (World.block_lt_of_cell? _ _ a3)).trans a3);have x4:=Sc.cell_in (C:=Below w1.heap.size w1) (fun W' h=>(h.cell (World.block_lt_of_cell? _ _ a4)).trans a4);have x5:=Sc.cell_in (C:=Below w1.heap.size w1) (fun W' h=>(h.cell (World.block_lt_of_cell? _ _ a5)).trans a5);have x6:=Sc.cell_in (C:=Below w1.heap.size w1) (fun W' h=>(h.cell (World.block_lt_of_cell? _ _ a6)).trans a6);have x7:=Sc.cell_in (C:=Below w1.heap.size w1) (fun W' h=>(h.cell (World.block_lt_of_cell? _ _ a7)).trans a7);have x8:=Sc.cell_in (C:=Below w1.heap.size w1) (fun W' h=>(h.cell (World.block_lt_of_cell? _ _ a8)).trans a8);have x9:=Sc.cell_in (C:=Below w1.heap.size w1) (fun W' h=>(h.cell (World.block_lt_of_cell? _ _ a9)).trans a9);have x10:=Sc.cell_in (C:=Below w1.heap.size w1) (fun W' h=>(h.cell (World.block_lt_of_cell? _ _ a10)).trans a10);have ne:Nonempty (Sc.In (Below w1.heap.size w1)):=⟨⟨_,Below.refl _ _⟩⟩;clear a0 a1 a2 a3 a4 a5 a6 a7 a8 a9 a10;have CD1:=Lib.hid (cc_do (D5.out.below (Below.refl w5.heap.size w5).drew) G1.out KC.out.next.ok KC.out.sy (by omega) x XO.out.1 XO.out.2);have CD2:=Lib.hid (fun W (e:CC w1 s d (actC x c) (k+k+1+1) c (k+k) W)=>cc_do e.symm G1.out KC.out.ok KC.out.sy (by omega) x XO.out.1 XO.out.2);have K1:Hid (Oc (actC x c) (k+1+(k+1))):=Lib.hid (by rw [show k+1+(k+1)=k+k+1+1 by omega];exact KC.out.next.act XO.out.1);have SL1:Hid ((actC x c).S.length=q):=Lib.hid ((act_len x c).trans SL.out);have BD:=Lib.hid (D5.out.bel.drew);clear D5 KC SL;unfold actV actA ptr at CD1 CD2;generalize actC x c=c1 at *;generalize actE x c=z at *;have nz:(z != z)=false:=by simp
       have nz2:(((c1.pl:Nat):Int) != (c1.pl:Int))=false:=by simp
       refine Sc.start (Below w1.heap.size w1) [(false,0),(false,1),(false,2),(false,3),(false,4),(false,6),(false,7),(false,8),(false,9),(false,10),(true,5),(true,11),(false,12),(false,13),(false,14),(false,16),(true,15),(true,17),(false,18),(false,19)] (by kernel_rfl) (by kernel_rfl) (by kernel_rfl) BD.out ?_;dsimp only [Sd.picks,List.getElem?_cons_succ,List.getElem?_cons_zero]
       iterate 10 (refine Sd.lit ?_;quiet_step (fail);refine wpQuiet_nil ?_)
       clear x0 x1 x2 x3 x4 x5 x6 x7 x8 x9 x10;refine Sd.call (by rfl) (fun K hK=>?_);go_simp;refine CD1.out.mono ?_;rintro e w6 ⟨rfl,d6⟩;have E6:=Lib.hid (CD2.out w6 d6);refine hK _ _ (Sc.Cl.of d6.bel) ?_;clear hK K d6 CD1 CD2;refine Sd.call (by rfl) (fun K hK=>?_);go_simp;refine E6.out.mono ?_;rintro e w7 ⟨rfl,d7⟩;have D7:=Lib.hid d7;refine hK _ _ (Sc.Cl.of d7.bel) ?_;clear hK K d7 E6
       iterate 4 (refine Sd.lit ?_;quiet_step (fail);refine wpQuiet_nil ?_)
       have PC:=ch_place D7.out.symm.ch;unfold ptr at PC;refine Sd.call (by rfl) (fun K hK=>?_);go_simp;refine PC.mono ?_;rintro e w8 ⟨rfl,b8⟩;have D8:=Lib.hid (D7.out.below b8);refine hK _ _ (Sc.Cl.of D8.out.bel) ?_;clear hK K b8 PC D7;have PC:=ch_place D8.out.ch;unfold ptr at PC;refine Sd.call (by rfl) (fun K hK=>?_);go_simp;refine PC.mono ?_;rintro e w9 ⟨rfl,b9⟩;have D9:Hid (CC w1 s d c1 (k+1+(k+1)) c1 (k+1+(k+1)) w9):=Lib.hid (by rw [show k+1+(k+1)=k+k+1+1 by omega];exact (D8.out.late.below b9).symm);refine hK _ _ (Sc.Cl.of D9.out.bel) ?_;clear hK K b9 PC D8
       iterate 2 (refine Sd.lit ?_;quiet_step (fail);refine wpQuiet_nil ?_)
       refine Sd.done ?_;clear ne nz nz2;go_wp2
       go_roundw
       case rel=>exact ⟨k+1,c1,by omega,by omega,by go_num,D9,K1,SL1⟩
       case measure=>simp [intOf];omega
     ·have EX:¬ ((k:Int) < n)∨((k:Int) < n∧¬ ((k:Int) < 25)):=by omega
      clear hlt
      rcases EX with h1 | ⟨h1,h2⟩
      all_goals
       go_upto_region 18 with fail;go_wp2
       go_loopw [15] (fun i wr=>∃ m:Nat,m≤q∧i = .int .i64 m∧Hid (CC w1 s d c (k+k) c (k+k) wr)) (fun i _=>q - (intOf i).toNat)
       case atStart=>exact ⟨0,Nat.zero_le _,rfl,D⟩
       case round =>
        clear D;obtain ⟨m,hms,rfl,D⟩:=hrel
        by_cases hmq:m < q
        ·have CF:=Lib.hid (ch_files D.out.ch (n:=m) (by rw [SL.out];exact hmq))
         have CG:=Lib.hid (fun W (e:CC w1 s d c (k+k) c (k+k) W)=>ch_files e.symm.ch (n:=m) (by rw [SL.out];exact hmq));have CL:=Lib.hid (fun W (e:CC w1 s d c (k+k) c (k+k) W)=>ch_live e.ch (n:=m) (by rw [SL.out];exact hmq));have CM:=Lib.hid (fun W (e:CC w1 s d c (k+k) c (k+k) W)=>ch_live e.symm.ch (n:=m) (by rw [SL.out];exact hmq));have LE:=Lib.hid ((KC.out.ok.st m (by rw [SL.out];exact hmq)).1.len);generalize (sat c.S m).1=A at *;generalize vat c.V m=bl at *;have nz:(bl != bl)=false:=by simp
         unfold ptr at CF CG CL CM;unfold FilesPost at CF CG;go_wp2_with fail;refine CF.out.mono ?_;rintro e w5 ⟨f1,rfl,hf1,b5⟩;have LF:=Lib.hid (hf1 (fun _=>False) nofun);have D5:=Lib.hid (D.out.below b5);have CX:=Lib.hid (CG.out w5 D5.out);clear CF CG hf1 b5 D;go_wp2_with fail;refine CX.out.mono ?_;rintro e w6 ⟨f2,rfl,hf2,b6⟩;have LG:=Lib.hid (hf2 (fun _=>False) nofun);have LF6:=Lib.hid (LF.out.below b6);have D6:=Lib.hid (D5.out.below b6);have CX:=Lib.hid (same_is LF6.out LG.out LE.out);clear LF hf2 b6 D5 LF6 LG;go_wp2_with fail;refine CX.out.mono ?_;rintro e w7 ⟨rfl,b7⟩;have D7:=Lib.hid (D6.out.below b7);have CX:=Lib.hid (CL.out w7 D7.out);clear CL b7 D6;go_wp2_with fail;refine CX.out.mono ?_;rintro e w8 ⟨rfl,b8⟩;have D8:=Lib.hid (D7.out.below b8);have CX:=Lib.hid (CM.out w8 D8.out);clear CM b8 D7;go_wp2_with fail;refine CX.out.mono ?_;rintro e w9 ⟨rfl,b9⟩;have D9:=Lib.hid (D8.out.below b9);clear CX b9 D8;go_wp2
         go_roundw
         case rel=>exact ⟨m+1,by omega,by go_num,D9⟩
         case measure=>simp [intOf];omega
        ·have AWK:=Lib.hid (AW.out wr (FIN.out _ D.out.bel))
         clear AW;go_wp2_with fail;refine AWK.out.mono ?_;rintro e w5 ⟨rfl,b5⟩;have E:=Lib.hid (FIN.out _ (D.out.below b5).bel);clear b5 AWK D;go_wp2
         go_ret
         exact ⟨rfl,E.out⟩
 ·generalize hz:newE lp=z at *
  have N1:=new_no H1.out (z:=z) (by rw [E1.out];exact hz) e0;have NN:=Lib.hid N1;clear N1 hz
  have HL32:Hid (q≤6):=Lib.hid (by
   have l6:=LP6.out;have l3:lp.length=q:=by rw [← E1.out,pls_len,HQ.out]
   omega)
  go_wp2_with fail;refine NN.out.mono ?_;rintro e w2 ⟨rfl,b2⟩;have B2:=Lib.hid b2;clear b2 NN;have I0:Hid (DRI w2 L1 0 (.slice (some ⟨w2.heap.size,0,none⟩) 0 0) (w2.alloc (.cells #[] 60))):=Lib.hid ⟨Rw.Ow.made _ _ _ (Nat.le_refl _),(Below.refl _ _).alloc (Nat.le_refl _) _⟩;go_wp2
  go_loopw [11,10] (fun i o wr=>∃ (k:Nat) (p1:Value),k≤q∧i = .int .i64 k∧p1=o∧Hid (DRI w2 L1 k o wr)) (fun i _ _=>q - (intOf i).toNat)
  case atStart=>exact ⟨0,_,Nat.zero_le _,rfl,rfl,by simpa using I0⟩
  case round =>
   clear I0;obtain ⟨k,o,hk,rfl,rfl,I⟩:=hrel
   by_cases hlt:k < q
   ·have hkL:k < L1.length:=by have:=HQ.out;omega
    obtain ⟨b,off,rfl,hA⟩:=HP.out (by omega);obtain ⟨x0,-⟩:=at_pl (hA.below (B2.out.trans (I.out.bel.mono B2.out.size))) hkL;have KL:=Lib.hid hkL;have LDL:Hid (((L1.take k).map noR).length=k):=Lib.hid (by rw [List.length_map,List.length_take];omega);clear hA hkL;obtain ⟨ao,co,eo,-,-⟩:=I.out.own.slice;rw [LDL.out] at eo;subst eo;generalize hc:pld L1 k=c at *;have HC:=Lib.hid hc;clear hc;obtain ⟨⟨fa,fn,fc⟩,rt,FF⟩:=c;have y0:wr.cell? ⟨b,off+k * 2,none⟩=some (.slice fa fn fc):=x0;clear x0;have hBP:=run_buildP;have LE:=Lib.hid (heap_alloc_new wr (.cells #[.slice fa fn fc,.int .i64 0] 60));have BE:=Lib.hid ((Below.refl wr.heap.size wr).alloc (Nat.le_refl _) (.cells #[.slice fa fn fc,.int .i64 0] 60));have IE:=Lib.hid (I.out.below BE.out);clear I BE
    go_wp2_with (at_builtin;refine push_at (K:=KP) Tryz.underlying22 infoPl rfl (by omega) rfl _ _ rfl w2.heap.size _ _ rfl IE.out.own _ (⟨(fa,fn,fc),0,FF⟩:PlD) rfl ?d1 ?d2 ?d3 ?_)
    case d1 =>
     intro jj u hu
     have c:=row_cell LE.out jj
     match jj,hu with
     | 0,hu=>simp [KP,sl] at hu;subst hu;first | exact c | rfl | go_simp
     | 1,hu=>simp [KP] at hu;subst hu;first | exact c | rfl | go_simp
     | jj+2,hu=>simp [KP] at hu
    case d2=>rw [LDL.out];have:=HL32.out;omega
    case d3=>have:=IE.out.bel.size;simpa using this
    intro v9 w9 o9 g9 _
    have NEW:Hid (DRI w2 L1 (k+1) v9 w9):=Lib.hid (IE.out.push KL.out (by rw [HC.out];first | exact o9 | (rw [List.map_take];exact o9)) (by simpa using g9));obtain ⟨v9a,v9c,n9,rfl⟩:∃ a c n,v9 = .slice a n c:=by obtain ⟨a,c,e,_⟩:=o9.slice;exact ⟨a,c,_,e⟩
    clear o9 g9 IE LE y0;go_wp2
    go_roundw
    case rel=>exact ⟨k+1,_,by omega,by go_num,rfl,NEW⟩
    case measure=>simp [intOf];omega
   ·obtain rfl:k=q:=by omega
    have NS:=Lib.hid (new_some (I.out.fin HQ.out.symm (H1.out.below B2.out)));have B3:=Lib.hid (B2.out.trans (I.out.bel.mono B2.out.size));clear I;go_wp2_with fail;refine NS.out.mono ?_;rintro e w3 ⟨⟨uu,zz,rfl⟩,b3⟩;have B4:=Lib.hid (B3.out.trans (b3.mono B3.out.size));have AWK:=Lib.hid (AW.out w3 (FIN.out _ B4.out));clear NS b3 B3 AW;go_wp2_with fail;refine AWK.out.mono ?_;rintro e w4 ⟨rfl,b4⟩;have E:=Lib.hid (FIN.out _ (B4.out.trans (b4.mono B4.out.size)));go_wp2
    go_ret
    exact ⟨rfl,E.out⟩
end Go.Proofs.YtljnkaodhfnbbaaGreatDoor.Cu
