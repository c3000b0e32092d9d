import Derived.Test.YtdbdacceecnpmaaGreatDoorQr6
set_option maxRecDepth 100000
set_option maxHeartbeats 4000000
namespace Go.Proofs.YtdbdacceecnpmaaGreatDoor
open Go.Proofs.Tryz Go.RowKit
open Ck (Hd KS RdL lat sl zh)
open Fl (K4 NewOwn R4 at4 at_bool file goodF goodFB hdr infoR newL newP new_own okL okR okR_at rat rec4 results_file results_new ret_bool rhdr_any row_cell row_frozen sameF sto2 sto2_below sto2_off sto2_row sto4 sto4_below sto4_other sto4_own z4)
open Fs (Abs AddPost E3 Ent FilesPost Fx Lst OkA Only St addA addE at3 ins_at key look_none ow_only put_new)
open Pa (K2 KB KN S2 Sts only_grown ptr push_at sat vat)
open Re (KI NextPost SeqPost at1 iat iat_get ints_same isS nE nR nT nxP sL sN seqP)
open Ro (E5 K5 at5 eat eat_mem ent eq_ent okE tabL tabN z5)
open Rw (At Kind Ow Rd)
namespace Cu
open Go.Maps
open Fs (files_any)
attribute [local irreducible] Sd.wpSd wpQuiet
section
variable {s t p:Nat} {F G:Nat->Prop} {c:Cs} {vn vq:Value} {L:List Nd} {Fs:Nat->Nat->Prop} {w w':World}
variable {i g cap n:Nat}
theorem Cl.one (h:Cl w s F c t vn L p vq Fs) (hi:i < c.S.length):∃ g cap,vn = .slice (some ⟨g,0,none⟩) c.S.length cap/\c.S.length<=cap/\cap<=maxLen/\w.cell? ⟨g,i * 3,none⟩=some (ptr (nda L i).s)/\w.cell? ⟨g,i * 3+1,none⟩=some (.bool (vat c.V i))/\w.cell? ⟨g,i * 3+2,none⟩=some (.int .i64 (nda L i).rate)/\∀ k,w.frozen? ⟨g,k,none⟩=false:=by
 have hl:=h.len;obtain ⟨g,cap,e,_,_,h1,h2,fz,hA⟩:=h.no.form (by omega);have q:=atD hA (i:=i) (by omega);rw [cd,h.lv i (by omega)] at q;rw [hl] at e h1;exact ⟨g,cap,e,h1,h2,q.1,q.2.1,q.2.2,fz⟩
theorem Cl.nod (h:Cl w s F c t (.slice (some ⟨g,0,none⟩) c.S.length cap) L p vq Fs) (hi:i < c.S.length):w.cell? ⟨g,i * 3,none⟩=some (ptr (nda L i).s)/\w.cell? ⟨g,i * 3+1,none⟩=some (.bool (nda L i).live)/\w.cell? ⟨g,i * 3+2,none⟩=some (.int .i64 (nda L i).rate):=by
 have hl:=h.len;obtain ⟨g',cap',e,_,_,h1,h2,fz,hA⟩:=h.no.form (by omega);injection e with e1 _ _;injection e1 with e1;injection e1 with e1 _ _;subst e1;have q:=atD hA (i:=i) (by omega);rw [cd] at q;exact q
theorem Cl.slice (h:Cl w s F c t vn L p vq Fs):∃ a cap,vn = .slice a c.S.length cap/\c.S.length<=cap/\cap<=maxLen:=by
 obtain ⟨a,cap,e,h1,h2⟩:=h.no.slice;rw [h.len] at e h1;exact ⟨a,cap,e,h1,h2⟩
theorem Cl.sto (h:Cl w s F c t vn L p vq Fs) (hi:i < c.S.length):St w (nda L i).s (Fs i) (sat c.S i).1 (sat c.S i).2:=h.st i (by rw [h.len];exact hi)
theorem chas_in (h:Cl w s F c t vn L p vq Fs) (hn:n < c.S.length):Calls prog 32 #[ptr s,.int .i64 n] w fun e w'=>e = .returned (.bool true)/\Below w.heap.size w w':=by
 obtain ⟨a,cap,rfl,_,_⟩:=h.slice;have d0:=h.cells.1;clear h;generalize c.S.length=ln at *;have p1:decide ((0:Int)<=(n:Int))=true:=an (by omega);have p2:decide ((n:Int) < (ln:Int))=true:=an (by omega);unfold ptr
 go_enter func32,ntmps32
 go_wp2
 go_ret
 exact ⟨rfl,aa _ _⟩
theorem chas_out (h:Cl w s F c t vn L p vq Fs) {n:Int} (hn:no c n):Calls prog 32 #[ptr s,.int .i64 n] w fun e w'=>e = .returned (.bool false)/\Below w.heap.size w w':=by
 obtain ⟨a,cap,rfl,_,_⟩:=h.slice;have d0:=h.cells.1;clear h;unfold no at hn;generalize c.S.length=ln at *;unfold ptr
 by_cases h0:0<=n
 ·have p2:decide (n < (ln:Int))=false:=ak (by omega)
  clear hn
  go_enter func32,ntmps32
  go_wp2
  go_ret
  exact ⟨rfl,aa _ _⟩
 ·have p1:decide (0<=n)=false:=ak h0
  clear hn
  go_enter func32,ntmps32
  go_wp2
  go_ret
  exact ⟨rfl,aa _ _⟩
theorem cnodes_any (h:Cl w s F c t vn L p vq Fs):Calls prog 13 #[ptr s] w fun e w'=>e = .returned (.int .i64 c.S.length)/\Below w.heap.size w w':=by
 obtain ⟨a,cap,rfl,_,_⟩:=h.slice;have d0:=h.cells.1;clear h;generalize c.S.length=ln at *;unfold ptr
 go_enter func13,ntmps13
 go_wp2
 go_ret
 exact ⟨rfl,aa _ _⟩
theorem cplace_any (h:Cl w s F c t vn L p vq Fs):Calls prog 121 #[ptr s] w fun e w'=>e = .returned (.int .i64 c.pl)/\Below w.heap.size w w':=by
 have d2:=h.cells.2.2.1;clear h;generalize c.pl=pl at *;unfold ptr
 go_enter func121,ntmps121
 go_wp2
 go_ret
 exact ⟨rfl,aa _ _⟩
theorem crole_any (h:Cl w s F c t vn L p vq Fs) (n:Int):Calls prog 120 #[ptr s,.int .i64 n] w fun e w'=>e = .returned (.int .i64 (Wt.rl c.P n))/\Below w.heap.size w w':=by
 have d1:=h.cells.2.1;have C1:=Hh (Wt.role_any h.pr n);clear h;generalize Wt.rl c.P n=r at *;unfold ptr at *
 go_enter func120,ntmps120
 go_wp2_with fail;refine C1.mono ?_;rintro e w1 ⟨rfl,b1⟩;go_wp2
 go_ret
 exact ⟨rfl,b1⟩
theorem clive_in (h:Cl w s F c t vn L p vq Fs) (hn:n < c.S.length):Calls prog 22 #[ptr s,.int .i64 n] w fun e w'=>e = .returned (.bool (vat c.V n))/\Below w.heap.size w w':=by
 have C1:=Hh (chas_in h hn);have H:=Hh h;obtain ⟨g,cap,rfl,_,hm,_⟩:=h.one hn;clear h;unfold ptr at *
 go_enter func22,ntmps22
 go_wp2_with fail;refine C1.mono ?_;rintro e w1 ⟨rfl,b1⟩;obtain ⟨g',cap',e',_,_,_,d1,_⟩:=(H.below b1).one hn;injection e' with e1 _ e3;injection e1 with e1;injection e1 with e1 _ _;subst e1 e3;have d0:=(H.below b1).cells.1;have B1:=Hh b1;have p5:decide (c.S.length<=n)=false:=ak (by omega);clear H C1 b1;generalize c.S.length=ln at *;go_wp2
 go_ret
 exact ⟨rfl,B1⟩
theorem cfiles_in (h:Cl w s F c t vn L p vq Fs) (hn:n < c.S.length):Calls prog 14 #[ptr s,.int .i64 n] w (FilesPost w (sat c.S n).1):=by
 have C1:=Hh (chas_in h hn);have H:=Hh h;obtain ⟨g,cap,rfl,_,hm,_⟩:=h.one hn;clear h;unfold ptr at *
 go_enter func14,ntmps14
 go_wp2_with fail;refine C1.mono ?_;rintro e w1 ⟨rfl,b1⟩;obtain ⟨g',cap',e',_,_,d1,_⟩:=(H.below b1).one hn;injection e' with e1 _ e3;injection e1 with e1;injection e1 with e1 _ _;subst e1 e3;have d0:=(H.below b1).cells.1;have B1:=Hh b1;have C2:=Hh (files_any ((H.below b1).sto hn));have p5:decide (c.S.length<=n)=false:=ak (by omega);unfold FilesPost at C2;unfold ptr at *;clear H C1 b1;generalize c.S.length=ln at *;generalize (sat c.S n).1=A at *;generalize (nda L n).s=q at *;go_wp2_with fail;refine C2.mono ?_;rintro e w2 ⟨v,rfl,hv,b2⟩;have E:Hid (FilesPost w A (.returned v) w2):=Hh ⟨v,rfl,fun F hF=>hv F fun k hk=>aV (hF k hk) B1.size,bTr B1 b2⟩;clear hv b2 C2 B1;go_wp2
 go_ret
 exact E
end
section
variable {s t p:Nat} {F G:Nat->Prop} {c:Cs} {vn vq:Value} {L:List Nd} {Fs:Nat->Nat->Prop} {w w':World}
variable {g n cap i p' t':Nat}
theorem ow_node (h:Ow KD w 0 78 (.slice (some ⟨g,0,none⟩) n cap) L) (hn:L.length=n) (hi:i < n) (j:Nat) (hj:j < 3) (u:Value) (x:Nd) (hx:KD.enc x=(KD.enc (nda L i)).set j u):Ow KD (w.setCell ⟨g,i * 3+j,none⟩ u) 0 78 (.slice (some ⟨g,0,none⟩) n cap) (L.set i x):=by
 subst hn;exact Rw.Ow.set h i j hi hj u x hx
theorem Cl.setLive (h:Cl w s F c t (.slice (some ⟨g,0,none⟩) n cap) L p vq Fs) (hn:c.S.length=n) (hv:c.V.length=n) (hi:i < n) (b:Bool):Cl (w.setCell ⟨g,i * 3+1,none⟩ (.bool b)) s F { c with V:=c.V.set i b } t (.slice (some ⟨g,0,none⟩) n cap) (L.set i { nda L i with live:=b }) p vq Fs/\Only F w (w.setCell ⟨g,i * 3+1,none⟩ (.bool b)):=by
 have hl:=h.len.trans hn;have o:Only (fun k=>k=g) w (w.setCell ⟨g,i * 3+1,none⟩ (.bool b)):=Only.set (fun k=>k=g) w (a:=⟨g,i * 3+1,none⟩) rfl _;refine ⟨h.node (g:=g) rfl o (ow_node h.no hl hi 1 (by decide) (.bool b) { nda L i with live:=b } rfl) aT (fun j hj=>?_) (fun j hj=>?_) (fun j hj=>?_),o.mono fun k _ e=>by rw [e];exact h.fv g (.inl rfl)⟩
 ·rw [nda_set (by omega)]
  split
  ·rename_i e;rw [e]
  ·rfl
 ·rw [nda_set (by omega)]
  have q:vat (c.V.set i b) j=if (j:Int)=(i:Int) then b else vat c.V j:=by
   have:=vat_set (V:=c.V) (n:=(i:Int)) (b:=b) (by omega) (by omega) j (by omega);rw [a7] at this;exact this
  rw [q]
  by_cases e:j=i
  ·rw [aj e,aj (by omega)]
  ·rw [ah e,ah (by omega)]
   exact h.lv j hj
 ·rw [nda_set (by omega)]
  split
  ·exact h.rt i (by omega)
  ·exact h.rt j hj
variable {x:Int}
theorem Cl.setRate (h:Cl w s F c t (.slice (some ⟨g,0,none⟩) n cap) L p vq Fs) (hn:c.S.length=n) (hi:i < n) (hx : -2000<=x/\x<=2000):Cl (w.setCell ⟨g,i * 3+2,none⟩ (.int .i64 x)) s F c t (.slice (some ⟨g,0,none⟩) n cap) (L.set i { nda L i with rate:=x }) p vq Fs/\Only F w (w.setCell ⟨g,i * 3+2,none⟩ (.int .i64 x)):=by
 have hl:=h.len.trans hn;have o:Only (fun k=>k=g) w (w.setCell ⟨g,i * 3+2,none⟩ (.int .i64 x)):=Only.set (fun k=>k=g) w (a:=⟨g,i * 3+2,none⟩) rfl _;refine ⟨h.node (g:=g) (V:=c.V) rfl o (ow_node h.no hl hi 2 (by decide) (.int .i64 x) { nda L i with rate:=x } rfl) aT (fun j hj=>?_) (fun j hj=>?_) (fun j hj=>?_),o.mono fun k _ e=>by rw [e];exact h.fv g (.inl rfl)⟩
 ·rw [nda_set (by omega)]
  split
  ·rename_i e;rw [e]
  ·rfl
 ·rw [nda_set (by omega)]
  split
  ·rename_i e;rw [e];exact h.lv i (by omega)
  ·exact h.lv j hj
 ·rw [nda_set (by omega)]
  split
  ·exact hx
  ·exact h.rt j hj
variable {a:Wt.A}
theorem crA_far {n:Int} (h:2<=n):Wt.crA a n=a:=by unfold Wt.crA;rw [ah (by omega),ah (by omega)]
theorem rsA_far {n:Int} (h:2<=n):Wt.rsA a n=a:=by unfold Wt.rsA;rw [ah (by omega),ah (by omega)]
theorem Syn.cr0 (h:Syn c) (hn:n < 2) (hv:vat c.V n=true):Wt.crE c.P n=0:=by
 unfold Wt.crE
 rcases (by omega:n=0\/n=1) with rfl | rfl
 ·rw [aj (by rfl),ah (h.1.1 hv)]
 ·rw [ah (by decide),aj (by rfl),ah (h.2.1 hv)]
theorem Syn.rs0 (h:Syn c) (hn:n < 2) (hv:vat c.V n=false):Wt.rsE c.P n=0:=by
 unfold Wt.rsE
 rcases (by omega:n=0\/n=1) with rfl | rfl
 ·have r4:c.P.r0=4:=Classical.not_not.1 fun g=>by have:=h.1.2 g;rw [show vat c.V 0=false from hv] at this;cases this
  rw [aj (by rfl),aj r4]
 ·have r4:c.P.r1=4:=Classical.not_not.1 fun g=>by have:=h.2.2 g;rw [show vat c.V 1=false from hv] at this;cases this
  rw [ah (by decide),aj (by rfl),aj r4]
theorem doc_below (h:Cl w s F c t vn L p vq Fs) (b:Below w.heap.size w w') (x:Int):DoC w s F c t x (.returned (.int .i64 x)) w' :=
 ⟨rfl,⟨vn,L,p,vq,Fs,(h.below b).fx w⟩,Only.of_below b⟩
theorem doc_of {c':Cs} {vn' vq':Value} {L':List Nd} {Fs':Nat->Nat->Prop} (h:Cl w' s F c' t' vn' L' p' vq' Fs') (o:Only F w w') (x:Int):DoC w s F c' t' x (.returned (.int .i64 x)) w' :=
 ⟨rfl,⟨vn',L',p',vq',Fs',h.fx w⟩,o⟩
theorem ccrash_any (h:Cl w s F c t vn L p vq Fs) (ok:OkC c t) (sy:Syn c) (hn:n < c.S.length) (hv:vat c.V n=true):Calls prog 34 #[ptr s,.int .i64 n] w (DoC w s F { c with V:=c.V.set n false,P:=Wt.crA c.P n } t 0):=by
 obtain ⟨g,cap,rfl,hc,hm,_,y1,_,fz⟩:=h.one hn;have d0:=h.cells.1;have H:=Hh (h.setLive rfl ok.lv hn false);have H0:=Hh h;have CR:=Hh (fun (w1:World) (P:Wt.Pr w1 p c.P t)=>Wt.crash_any P n);have E0:=Hh (fun h2=>sy.cr0 (n:=n) h2 hv);have EF:=Hh (fun h2=>crA_far (a:=c.P) (n:=(n:Int)) h2);have fy:=fz (n * 3+1);rw [hv] at y1;have p5:decide (c.S.length<=n)=false:=ak (by omega);clear h ok sy hv fz;generalize c.S.length=ln at *;unfold ptr at *
 by_cases h2:n < 2
 ·have k1:=H.out.1.cells.2.1
  have CC:=Hh (CR _ H.out.1.pr);unfold Wt.CdeedPost at CC;rw [E0.out h2] at CC;unfold ptr at k1;have p6:decide ((n:Int) < 2)=true:=an (by omega);clear CR E0 EF
  go_enter func34,ntmps34
  go_wp2_with fail;refine CC.mono ?_;rintro e w2 ⟨rfl,pr2,o2⟩;have E:=Hh (doc_of (w:=w) (H.out.1.pair o2 pr2) (H.out.2.trans o2 fun k _ e=>by rw [e];exact H.out.1.fp) 0);clear pr2 o2 H CC;go_wp2
  go_ret
  exact E
 ·have E:=Hh (doc_of (w:=w) H.out.1 H.out.2 0)
  rw [← EF.out (by omega)] at E;have p6:decide ((n:Int) < 2)=false:=ak (by omega);clear CR E0 EF H
  go_enter func34,ntmps34
  go_wp2
  go_ret
  exact E
theorem ccrash_no (h:Cl w s F c t vn L p vq Fs) (hn:n < c.S.length) (hv:vat c.V n=false):Calls prog 34 #[ptr s,.int .i64 n] w (DoC w s F c t 10):=by
 obtain ⟨g,cap,rfl,_,hm,_,y1,_⟩:=h.one hn;have d0:=h.cells.1;have E:=Hh (doc_below h (aa _ _) 10);rw [hv] at y1;have p5:decide (c.S.length<=n)=false:=ak (by omega);clear h hv;generalize c.S.length=ln at *;unfold ptr at *
 go_enter func34,ntmps34
 go_wp2
 go_ret
 exact E
theorem crestart_any (h:Cl w s F c t vn L p vq Fs) (ok:OkC c t) (sy:Syn c) (hn:n < c.S.length) (hv:vat c.V n=false):Calls prog 35 #[ptr s,.int .i64 n] w (DoC w s F { c with V:=c.V.set n true,P:=Wt.rsA c.P n } t 0):=by
 obtain ⟨g,cap,rfl,hc,hm,_,y1,_,fz⟩:=h.one hn;have d0:=h.cells.1;have H:=Hh (h.setLive rfl ok.lv hn true);have H0:=Hh h;have CR:=Hh (fun (w1:World) (P:Wt.Pr w1 p c.P t)=>Wt.restart_any P n);have E0:=Hh (fun h2=>sy.rs0 (n:=n) h2 hv);have EF:=Hh (fun h2=>rsA_far (a:=c.P) (n:=(n:Int)) h2);have fy:=fz (n * 3+1);rw [hv] at y1;have p5:decide (c.S.length<=n)=false:=ak (by omega);clear h ok sy hv fz;generalize c.S.length=ln at *;unfold ptr at *
 by_cases h2:n < 2
 ·have k1:=H.out.1.cells.2.1
  have CC:=Hh (CR _ H.out.1.pr);unfold Wt.CdeedPost at CC;rw [E0.out h2] at CC;unfold ptr at k1;have p6:decide ((n:Int) < 2)=true:=an (by omega);clear CR E0 EF
  go_enter func35,ntmps35
  go_wp2_with fail;refine CC.mono ?_;rintro e w2 ⟨rfl,pr2,o2⟩;have E:=Hh (doc_of (w:=w) (H.out.1.pair o2 pr2) (H.out.2.trans o2 fun k _ e=>by rw [e];exact H.out.1.fp) 0);clear pr2 o2 H CC;go_wp2
  go_ret
  exact E
 ·have E:=Hh (doc_of (w:=w) H.out.1 H.out.2 0)
  rw [← EF.out (by omega)] at E;have p6:decide ((n:Int) < 2)=false:=ak (by omega);clear CR E0 EF H
  go_enter func35,ntmps35
  go_wp2
  go_ret
  exact E
theorem crestart_no (h:Cl w s F c t vn L p vq Fs) (hn:n < c.S.length) (hv:vat c.V n=true):Calls prog 35 #[ptr s,.int .i64 n] w (DoC w s F c t 10):=by
 obtain ⟨g,cap,rfl,_,hm,_,y1,_⟩:=h.one hn;have d0:=h.cells.1;have E:=Hh (doc_below h (aa _ _) 10);rw [hv] at y1;have p5:decide (c.S.length<=n)=false:=ak (by omega);clear h hv;generalize c.S.length=ln at *;unfold ptr at *
 go_enter func35,ntmps35
 go_wp2
 go_ret
 exact E
def cal (x:Int):Bool:=decide (-2000<=x) && decide (x<=2000)
theorem ciscalm_any (w:World) (x:Int):Calls prog 50 #[.int .i64 x] w fun e w'=>e = .returned (.bool (cal x))/\w=w':=by
 have E:Hid (cal x=(decide (-2000<=x) && decide (x<=2000))):=Hh rfl;generalize cal x=b at *
 by_cases h0 : -2000<=x
 ·by_cases h2:x<=2000
  ·obtain rfl:b=true:=by rw [E.out];simp [h0,h2]
   clear E
   go_enter func50,ntmps50
   go_wp2
   go_ret
   exact ⟨rfl,rfl⟩
  ·obtain rfl:b=false:=by rw [E.out];simp [h2]
   have q:decide (x<=2000)=false:=ak h2;clear E
   go_enter func50,ntmps50
   go_wp2
   go_ret
   exact ⟨rfl,rfl⟩
 ·obtain rfl:b=false:=by rw [E.out];simp [h0]
  have q:decide (-2000<=x)=false:=ak h0;clear E
  go_enter func50,ntmps50
  go_wp2
  go_ret
  exact ⟨rfl,rfl⟩
theorem cal_of : cal x=true↔-2000<=x/\x<=2000:=by unfold cal;simp
theorem cdrift_yes (w:World) (g o:Nat) (x:Int) (u:Value) (hu:w.cell? ⟨g,o+2,none⟩=some u) (hf:w.frozen? ⟨g,o+2,none⟩=false) (hx:cal x=true):Calls prog 36 #[.pointer (some ⟨g,o,none⟩),.int .i64 x] w fun e w'=>e = .returned (.int .i64 0)/\w'=w.setCell ⟨g,o+2,none⟩ (.int .i64 x):=by
 have C:=Hh (ciscalm_any w x);rw [hx] at C;clear hx
 go_enter func36,ntmps36
 go_wp2_with fail;refine C.mono ?_;rintro e w1 ⟨rfl,rfl⟩;go_wp2
 go_ret
 exact ⟨rfl,rfl⟩
theorem cdrift_no (w:World) (g o:Nat) (x:Int) (hx:cal x=false):Calls prog 36 #[.pointer (some ⟨g,o,none⟩),.int .i64 x] w fun e w'=>e = .returned (.int .i64 1)/\w=w':=by
 have C:=Hh (ciscalm_any w x);rw [hx] at C;clear hx
 go_enter func36,ntmps36
 go_wp2_with fail;refine C.mono ?_;rintro e w1 ⟨rfl,rfl⟩;go_wp2
 go_ret
 exact ⟨rfl,rfl⟩
end
end Cu
namespace Pa
open Go.Maps
open Fs (infoE3 rd_low)
attribute [local irreducible] Sd.wpSd wpQuiet
def entD:Ent:=⟨0,0,none,0,[]⟩
def eatF (L:List Ent) (i:Nat):Ent:=L.getD i entD
structure Fls (w:World) (v:Value) (L:List Ent) (B:Nat):Prop where
 rd:Rd E3 w v L
 file:∀ i,i < L.length->Rd K4 w (eatF L i).sl (eatF L i).l/\okL (eatF L i).l
 low:∀ i,i < L.length->0 < (eatF L i).l.length->∀ k,(eatF L i).sl.ownBlock=some k->k < B
theorem Fls.below {w w':World} {v:Value} {L:List Ent} {B:Nat} (h:Fls w v L B) (b:Below w.heap.size w w'):Fls w' v L B:=⟨h.rd.below b,fun i hi=>⟨(h.file i hi).1.below b,(h.file i hi).2⟩,h.low⟩
end Pa
namespace Ck
theorem infoS:(prog.info? 175).map (fun i=>(i.zero,i.size,i.bytes))=some (some (.slice none 0 0),1,24):=by kernel_rfl
end Ck
namespace Pa
open Go.Maps
open Fs (put ins)
open Ck (LL)
structure Cel where
 files:Hd
 table:Hd
 live:Bool
 steps:Hd
 F:List Ent
 T:List E5
 S:List S2
def celD:Cel:=⟨zh,zh,false,zh,[],[],[]⟩
def cel (L:List Cel) (i:Nat):Cel:=L.getD i celD
theorem ow_apart {α β:Type} {K:Kind α} {J:Kind β} {w:World} {B B' E E':Nat} {v v':Value} {l:List α} {l':List β} (h:Ow K w B E v l) (h':Ow J w B' E' v' l') (hE:E≠E'):∀ k,v.ownBlock=some k->v'.ownBlock≠some k:=fun k hk=>by
 obtain ⟨_,h⟩:=h
 rcases h with ⟨rfl,_⟩ | ⟨g,cap,cur,rfl,_,hh,_⟩
 ·simp [Value.ownBlock] at hk
 ·simp only [Value.ownBlock,bY] at hk
  subst hk;exact h'.apart hh hE
section
end
section
end
end Pa
namespace Cu
open Fs (Fil Srt)
open Pa (Fls eatF entD)
structure PlD where
 files:Hd
 rate:Int
 F:List Ent
def plD:PlD:=⟨zh,0,[]⟩
def KP:Kind PlD:=⟨fun c=>[sl c.files,.int .i64 c.rate],2,by decide,fun _=>rfl,fun _ u h=>by simp [sl] at h;rcases h with rfl | rfl <;> rfl,plD⟩
def pld (L:List PlD) (i:Nat):PlD:=L.getD i plD
structure Pls (w:World) (v:Value) (L:List PlD) (B:Nat):Prop where
 rd:Rd KP w v L
 file:∀ i,i < L.length->Fls w (sl (pld L i).files) (pld L i).F B
theorem Pls.below {w w':World} {v:Value} {L:List PlD} {B:Nat} (h:Pls w v L B) (b:Below w.heap.size w w'):Pls w' v L B:=⟨h.rd.below b,fun i hi=>(h.file i hi).below b⟩
def PlD.abs (c:PlD):Pl:=(c.F.map Ent.abs,c.rate)
def pls (L:List PlD):List Pl:=L.map PlD.abs
theorem pls_len (L:List PlD):(pls L).length=L.length:=aL _
variable {i b off k:Nat}
theorem pls_at {L:List PlD} (h:i < L.length):plat (pls L) i=(pld L i).abs:=by
 unfold plat pls pld;rw [af,a9,ai h,af,ai h]
 rfl
theorem at_pl {w:World} {L:List PlD} (h:At KP w b off L) (hi:i < L.length):w.cell? ⟨b,off+i * 2,none⟩=some (sl (pld L i).files)/\w.cell? ⟨b,off+i * 2+1,none⟩=some (.int .i64 (pld L i).rate):=⟨h i hi 0 _ rfl,h i hi 1 _ rfl⟩
def actL (x:Ac):List Value:=[.int .i64 x.k,.int .i64 x.n,.int .i64 x.f,.int .i64 x.r,.int .u8 x.v.1,.int .u8 x.v.2.1,.int .u8 x.v.2.2.1,.int .u8 x.v.2.2.2,.int .i64 x.s,.int .i64 x.m,.int .i64 x.t]
def acD:Ac:=⟨0,0,0,0,z4,0,0,0⟩
def KA:Kind Ac:=⟨actL,11,by decide,fun _=>rfl,fun _ u h=>by simp [actL] at h;rcases h with rfl | rfl | rfl | rfl | rfl | rfl | rfl | rfl | rfl | rfl | rfl <;> rfl,acD⟩
def aat (L:List Ac) (i:Nat):Ac:=L.getD i acD
def Inn (A:Abs) (k:Nat):Prop:=Srt key (A.take k)/\∀ e∈A.take k,(0<=e.1/\e.1<=63)/\goodF e.2.1 e.2.2
theorem inn_zero (A:Abs):Inn A 0:=⟨cN,nofun⟩
variable {A:Abs}
theorem inn_end (h:Inn A A.length):gdF A:=by
 unfold Inn at h;rw [br] at h;exact h
theorem inn_step {n p:Int} {l:List R4} (h:Inn A k) (hk:A[k]? = some (n,p,l)) (ord:∀ c,0 < k->A[k - 1]? = some c->key c < n) :
 (addE (A.take k) n p l=0/\addA (A.take k) n p l=A.take (k+1)/\Inn A (k+1))\/(addE (A.take k) n p l≠0/\¬ gdF A):=by
 have hkl:=(aM.1 hk).1;have hm:(n,p,l)∈A:=bo hk;have lt:∀ x∈A.take k,key x < n:=fun x hx=>by
  obtain ⟨i,hi⟩:=List.mem_iff_getElem?.1 hx;have hil:=(aM.1 hi).1;rw [aW] at hil;have h1:A[k - 1]? = some A[k - 1]:=ai (by omega);have o:=ord _ (by omega) h1;rw [db,aj (by omega)] at hi
  by_cases e:i=k - 1
  ·subst e
   rw [h1] at hi;injection hi with hi;rw [← hi];exact o
  ·have q:=cx.1 h.1 i (k - 1) (by rw [aW];omega) (by rw [aW];omega) (by omega)
   rw [List.getElem_take,List.getElem_take] at q;rw [ai (by omega)] at hi;injection hi with hi;rw [hi] at q
   omega
 have hn:Fs.look key n (A.take k)=none:=look_none.2 fun x hx=>by have:=lt x hx;omega
 have tk:A.take (k+1)=A.take k ++ [(n,p,l)]:=by rw [bG,hk];rfl
 by_cases g1:0<=n/\n<=63
 ·by_cases g2:goodF p l
  ·have e0:addE (A.take k) n p l=0:=by
    unfold addE;rw [aj g1,aj g2,hn]
    rfl
   refine .inl ⟨e0,?_,?_,?_⟩
   ·unfold addA
    rw [aj e0,put_new (c:=(n,p,l)) hn,ins_at (k:=(A.take k).length) (fun x hx=>lt x (List.mem_of_mem_take hx)) (fun x hx=>by rw [cI (ac _)] at hx;cases hx),br,List.drop_length,tk]
   ·rw [tk]
    refine List.pairwise_append.2 ⟨h.1,List.pairwise_singleton _ _,fun x hx y hy=>?_⟩;rw [bm] at hy;subst hy;exact lt x hx
   ·rw [tk]
    intro e he
    rcases bM.1 he with he | he
    ·exact h.2 e he
    ·rw [bm] at he
     subst he;exact ⟨g1,g2⟩
  ·refine .inr ⟨?_,fun g=>g2 (g.2 _ hm).2⟩
   unfold addE;rw [aj g1,ah g2]
   decide
 ·refine .inr ⟨?_,fun g=>g1 (g.2 _ hm).1⟩
  unfold addE;rw [ah g1]
  decide
theorem inn_no {c d:Fil} (h0:0 < k) (hk:A[k]? = some c) (h1:A[k - 1]? = some d) (hle:key c<=key d):¬ gdF A:=fun g=>by
 have a:=(aM.1 hk);have b:=(aM.1 h1);obtain ⟨a1,rfl⟩:=a;obtain ⟨b1,rfl⟩:=b;have q:=cx.1 g.1 (k - 1) k b1 a1 (by omega)
 omega
def Gds (L:List Pl) (i:Nat):Prop:=∀ j,j < i->gdP (plat L j)
theorem gds_zero (L:List Pl):Gds L 0:=fun j hj=>by omega
variable {L:List Pl}
theorem gds_next (h:Gds L i) (g:gdP (plat L i)):Gds L (i+1):=fun j hj=>by
 by_cases e:j=i
 ·rw [e];exact g
 ·exact h j (by omega)
theorem gds_all (h:Gds L L.length):∀ p∈L,gdP p:=fun p hp=>by
 obtain ⟨i,hi,rfl⟩:=bK hp;have:=h i hi;unfold plat at this;rw [af,ai hi] at this;exact this
theorem new_short (h:L.length < 2\/32 < L.length):newE L=1:=by unfold newE;rw [aj h]
theorem new_bad (h:¬ (L.length < 2\/32 < L.length)) (hi:i < L.length) (g:¬ gdP (plat L i)):newE L=2:=by
 unfold newE;rw [ah h,ah]
 intro a
 refine g (a _ ?_);unfold plat;rw [af,ai hi];exact bC hi
theorem new_end (h:¬ (L.length < 2\/32 < L.length)) (g:∀ p∈L,gdP p):(agree L->newE L=0)/\(¬ agree L->newE L=10):=by
 unfold newE;rw [ah h,aj g];exact ⟨fun a=>aj a,fun a=>ah a⟩
theorem newC_next (h:i < L.length):(newC (L.take (i+1))).S=(newC (L.take i)).S ++ [((plat L i).1,0)]/\(newC (L.take (i+1))).V=(newC (L.take i)).V ++ [true]:=by
 have tk:L.take (i+1)=L.take i ++ [plat L i]:=by
  rw [bG];unfold plat;rw [af,ai h]
  rfl
 unfold newC;rw [tk]
 simp
open Fs (add_any new_any new_st)
attribute [local irreducible] Sd.wpSd wpQuiet
def sto3 (w:World) (g:Nat) (a b c:Value):World:=((w.setCell ⟨g,0,none⟩ a).setCell ⟨g,1,none⟩ b).setCell ⟨g,2,none⟩ c
variable {w wr w':World} {g B q:Nat}
theorem sto3_row {x y z:Value} (h:w.heap[g]? = some (.cells #[x,y,z] 78 (0,0))) (a b c:Value):(sto3 w g a b c).heap[g]? = some (.cells #[a,b,c] 78 (0,0)):=by
 have h1:=Rw.heap_setCell_same (j:=0) h a;have h2:=Rw.heap_setCell_same (j:=1) h1 b;exact Rw.heap_setCell_same (j:=2) h2 c
theorem sto3_only (w:World) (g:Nat) (a b c:Value):Only (fun k=>k=g) w (sto3 w g a b c) :=
 ((Only.set (fun k=>k=g) w (a:=⟨g,0,none⟩) rfl a).trans (Only.set (fun k=>k=g) _ (a:=⟨g,1,none⟩) rfl b) fun _ _ q=>q).trans (Only.set (fun k=>k=g) _ (a:=⟨g,2,none⟩) rfl c) fun _ _ q=>q
theorem results_nd {fn:Func} {p r:Tmp} (h:fn.results=#[.cell p 78,.tmp r]) (tmps:Array Value) (w:World) (g:Nat) (a b c v:Value)
 (hp:tmps.getD p undef = .pointer (some ⟨g,0,none⟩)) (hr:tmps.getD r undef=v) (h1:w.heap[g]? = some (.cells #[a,b,c] 78 (0,0))) :
 (results fn tmps).run prog w = .ok (.tuple #[.agg #[a,b,c],v]) w:=by
 have e2:=ce (P:=prog) w g 78 78 #[a,b,c] (0,0) _ h1 underlying78 rfl (by show _=some 3;kernel_rfl);have hp':tmps[p]?.getD undef = .pointer (some ⟨g,0,none⟩):=by simpa using hp
 have hr':tmps[r]?.getD undef=v:=by simpa using hr
 simp only [results,h]
 simp [Result.andThen,hp',hr',asAddr,e2]
def lastN (A:Abs) (k:Nat):Int:=match k with | 0=>-1 | j+1=>(A.getD j (0,0,[])).1
def PlC (w:World) (x:Pl) (e:Ending) (w':World):Prop:=Below w.heap.size w w'/\((gdP x/\∃ q G,e = .returned (.tuple #[.agg #[ptr q,.bool true,.int .i64 x.2],.int .i64 0])/\St w' q G x.1 0/\∀ j,G j->w.heap.size<=j)\/(¬ gdP x/\e = .returned (.tuple #[.agg #[.pointer none,.bool false,.int .i64 0],.int .i64 2])))
structure PNI (w:World) (B:Nat) (q:Nat) (A:Abs) (k:Nat) (G:Nat->Prop) (wr:World):Prop where
 st:St wr q G (A.take k) 0
 lo:∀ j,G j->B<=j
 bel:Below w.heap.size w wr
 inn:Inn A k
theorem PNI.below {w wr w':World} {B q k:Nat} {A:Abs} {G:Nat->Prop} (h:PNI w B q A k G wr) (b:Below wr.heap.size wr w'):PNI w B q A k G w':=⟨h.st.below b,h.lo,h.bel.trans (b.mono h.bel.size),h.inn⟩
theorem PNI.step {G:Nat->Prop} (h:PNI w B q A k G wr) (hw:w.heap.size<=B) (hB:B<=wr.heap.size) (st:St w' q (Fx G wr w') (A.take (k+1)) 0) (o:Only G wr w') (i:Inn A (k+1)):PNI w B q A (k+1) (Fx G wr w') w' :=
 ⟨st,fun j g=>by
  rcases g with g | g
  ·exact h.lo j g
  ·omega,h.bel.trans (o.below h.bel.size fun j g=>aX hw (h.lo j g)),i⟩
variable {c:Fil}
theorem last_no (hk:A[k]? = some c) (h:c.1<=lastN A k):¬ gdF A:=by
 cases k with
 | zero =>
   intro g
   have:=(g.2 c (bo hk)).1.1;have h:c.1<=-1:=h
   omega
 | succ j =>
   have hl:=(aM.1 hk).1;have h1:A[j+1 - 1]? = some (A.getD j (0,0,[])):=by
    rw [Nat.add_sub_cancel,af,ai (by omega)]
    rfl
   exact inn_no (Nat.succ_pos j) hk h1 h
theorem last_ord {n:Int} (h:¬ n<=lastN A k):∀ c,0 < k->A[k - 1]? = some c->Fs.key c < n:=fun c h0 hc=>by
 obtain ⟨j,rfl⟩:∃ j,k=j+1:=⟨k - 1,by omega⟩;rw [Nat.add_sub_cancel] at hc;have:lastN A (j+1)=c.1:=by
  show (A.getD j (0,0,[])).1=c.1
  rw [af,hc]
  rfl
 show c.1 < n
 omega
theorem last_next (hk:A[k]? = some c):lastN A (k+1)=c.1:=by
 show (A.getD k (0,0,[])).1=c.1
 rw [af,hk]
 rfl
theorem abs_at {L:List Ent} (hk:k < L.length):(L.map Ent.abs)[k]? = some (eatF L k).abs:=by
 unfold eatF;rw [a9,ai hk,af,ai hk]
 rfl
theorem cplanned_any (c:PlD) (hf:Fls w (sl c.files) c.F B):Calls prog 25 #[.agg #[sl c.files,.int .i64 c.rate]] w (PlC w c.abs):=by
 show Calls _ _ _ w (PlC w (c.F.map Ent.abs,c.rate))
 obtain ⟨cf,cr,cF⟩:=c;simp only at hf ⊢;obtain ⟨a,cap,es,hm⟩:=hf.rd.slice;rw [es] at hf ⊢;clear es;have B1:=Hh ((aa w.heap.size w).alloc (ac _) (.cells #[.slice a cF.length cap,.int .i64 cr] 75));have B2:=Hh (B1.alloc B1.size (.cells #[.pointer none,.bool false,.int .i64 0] 78));have Z2:Hid (((w.alloc (.cells #[.slice a cF.length cap,.int .i64 cr] 75)).alloc (.cells #[.pointer none,.bool false,.int .i64 0] 78)).heap.size=w.heap.size+2):=Hh (by simp);have X1:Hid (((w.alloc (.cells #[.slice a cF.length cap,.int .i64 cr] 75)).alloc (.cells #[.pointer none,.bool false,.int .i64 0] 78)).heap[w.heap.size]? = some (.cells #[.slice a cF.length cap,.int .i64 cr] 75 (0,0))):=Hh ((aQ _ _ _ (by simp)).trans (am w _))
 have X2:Hid (((w.alloc (.cells #[.slice a cF.length cap,.int .i64 cr] 75)).alloc (.cells #[.pointer none,.bool false,.int .i64 0] 78)).heap[w.heap.size+1]? = some (.cells #[.pointer none,.bool false,.int .i64 0] 78 (0,0))):=Hh (by
  have:=am (w.alloc (.cells #[.slice a cF.length cap,.int .i64 cr] 75)) (.cells #[.pointer none,.bool false,.int .i64 0] 78);rw [show (w.alloc (.cells #[.slice a cF.length cap,.int .i64 cr] 75)).heap.size=w.heap.size+1 by simp] at this
  exact this)
 have BAD:Hid (¬ gdP (cF.map Ent.abs,cr)->∀ W,Below w.heap.size w W->PlC w (cF.map Ent.abs,cr) (.returned (.tuple #[.agg #[.pointer none,.bool false,.int .i64 0],.int .i64 2])) (sto3 W (w.heap.size+1) (.pointer none) (.bool false) (.int .i64 0))):=Hh (fun h W b=>⟨b.trans ((sto3_only W _ _ _ _).below b.size fun k e=>by omega),.inr ⟨h,rfl⟩⟩);have CAL:=Hh (fun W=>ciscalm_any W cr);have HF:=Hh hf;clear hf
 cases hc:cal cr with
 | false =>
   have NG:=Hh (BAD (fun g=>by
    have:=cal_of.2 g.2;rw [show ((cF.map Ent.abs,cr):Pl).2=cr from rfl,hc] at this
    cases this))
   rw [hc] at CAL;clear BAD HF hc;generalize ((cF.map Ent.abs,cr):Pl)=pp at *;generalize cF.length=N at *
   go_enter func25,ntmps25
   go_wp2_with fail;refine (CAL _).mono ?_;rintro e w1 ⟨rfl,rfl⟩;generalize ((w.alloc (.cells #[.slice a N cap,.int .i64 cr] 75)).alloc (.cells #[.pointer none,.bool false,.int .i64 0] 78))=W at *;have E:=Hh (NG W B2);obtain ⟨z0,z1,z2⟩:=rc3 X2;have f0:=row_frozen X2 0;have f1:=row_frozen X2 1;have f2:=row_frozen X2 2;have R:=Hh (sto3_row X2 (.pointer none) (.bool false) (.int .i64 0));clear NG CAL B1 B2 Z2 X1 X2;go_wp2
   (try simp only [Exit.inBlock,Exit.then])
   exact aA (results_nd (p:=2) (r:=3) rfl _ _ (w.heap.size+1) _ _ _ (.int .i64 2) rfl rfl R) rfl E
 | true =>
   have FI:=Hh (fun i (hi:i < cF.length)=>(HF.file i hi).1);have FO:=Hh (fun i (hi:i < cF.length)=>(HF.file i hi).2);obtain ⟨a',cap',e',_,_,h3⟩:=HF.rd;injection e' with e1 _ e3;subst e1 e3;have H3:=Hh h3;have CR:=Hh (cal_of.1 hc);have AT:=Hh (fun k (hk:k < cF.length)=>abs_at hk)
   have OKL:Hid (∀ e∈cF.map Ent.abs,okL e.2.2):=Hh (fun e he=>by
    obtain ⟨i,hi⟩:=bH he;have hl:=(aM.1 hi).1;rw [aL] at hl;rw [abs_at hl] at hi;injection hi with hi;rw [← hi]
    exact (HF.file i hl).2)
   rw [hc] at CAL;have AL:Hid ((cF.map Ent.abs).length=cF.length):=Hh (aL _);clear h3 hc HF;unfold maxLen at hm;generalize hA:cF.map Ent.abs=A at *;clear hA;generalize hN:cF.length=N at *;have HN:=Hh hN;clear hN
   go_enter func25,ntmps25
   go_wp2_with fail;refine (CAL _).mono ?_;rintro e w1 ⟨rfl,rfl⟩;generalize ((w.alloc (.cells #[.slice a N cap,.int .i64 cr] 75)).alloc (.cells #[.pointer none,.bool false,.int .i64 0] 78))=W at *;clear B1;have P0:=Hh (new_st W);have B3:=Hh (B2.alloc B2.size (.cells #[.map none,.int .i64 0] 150));have BN:=Hh ((aa W.heap.size W).alloc (ac _) (.cells #[.map none,.int .i64 0] 150));have X3:=Hh (bBl BN X1);have X4:=Hh (bBl BN X2);have Z3:Hid ((W.alloc (.cells #[.map none,.int .i64 0] 150)).heap.size=w.heap.size+3):=Hh (by have:=Z2.out;simp;omega);clear X1 X2 B2 BN
   go_upto_region 4 with (go_at_call 51;refine (new_any _).mono ?_;rintro e w1 ⟨rfl,rfl⟩)
   generalize (W.alloc (.cells #[.map none,.int .i64 0] 150))=W2 at *;rw [Z2.out] at *;have Q0:Hid (PNI w (w.heap.size+2) (w.heap.size+2) A 0 (fun k=>k=w.heap.size+2) W2):=Hh ⟨P0,fun j e=>Nat.le_of_eq e.symm,B3,inn_zero A⟩;have d0:=Fl.rc X3 0;clear P0 B3 CAL;go_wp2;clear d0
   go_loopw [17,5] (fun i la wr=>∃ (k:Nat) (G:Nat->Prop),k<=N/\i = .int .i64 k/\la = .int .i64 (lastN A k)/\Hid (PNI w (w.heap.size+2) (w.heap.size+2) A k G wr)/\Hid (Below (w.heap.size+2) W2 wr)) (fun i _ _=>N - (intOf i).toNat)
   case atStart=>exact ⟨0,_,aI _,rfl,rfl,Q0,Hh (aa _ _)⟩
   case round =>
    clear Q0;obtain ⟨k,G,hk,rfl,rfl,I,BW⟩:=hrel
    by_cases hlt:k < N
    ·have hkL:k < cF.length:=by have:=HN.out;omega
     have hc:cF[k]? = some (eatF cF k):=by
      unfold eatF;rw [ai hkL,af,ai hkL]
      rfl
     obtain ⟨b,off,rfl,hA⟩:=H3 (by omega);obtain ⟨x0,x1,x2⟩:=at3 (hA.below I.bel) hc;have HAA:=Hh hA;have RF:=Hh ((FI k hlt).below I.bel);have OF:=Hh (FO k hlt);have AK:Hid (A[k]? = some ((eatF cF k).n,(eatF cF k).p,(eatF cF k).l)):=Hh (AT k hlt);clear hc hA;unfold Ent.sl at x2 RF;generalize (eatF cF k).a=ca at *;generalize (eatF cF k).cap=ccap at *;generalize (eatF cF k).p=cp at *;generalize (eatF cF k).n=cn at *;generalize (eatF cF k).l=cl at *;have Y0:=Hh (am wr (.cells #[.int .i64 cn,.int .i64 cp,.slice ca cl.length ccap] 85));have BN:=Hh ((aa wr.heap.size wr).alloc (ac _) (.cells #[.int .i64 cn,.int .i64 cp,.slice ca cl.length ccap] 85));have GL:=Hh I.st.low;go_upto_region 7 with fail;clear x0 x1 x2;generalize wr.alloc (.cells #[.int .i64 cn,.int .i64 cp,.slice ca cl.length ccap] 85)=W at *;have I2:=Hh (I.below BN);have XW:=Hh ((BN.block _ (by have:=I.out.bel.size;have:=ay X4.out;have:=BW.out.size;omega)).trans ((BW.out.block (w.heap.size+1) (by omega)).trans X4.out));have BW2:=Hh (BW.trans (BN.mono (by have:=BW.out.size;have:=Z3.out;omega)));have RF2:=Hh (RF.below BN);have GX:Hid (¬ G wr.heap.size/\¬ G (w.heap.size+1)):=Hh ⟨fun g=>by have:=GL.out _ g;omega,fun g=>by have:=I.out.lo _ g;omega⟩;have LW:Hid (w.heap.size+2<=W.heap.size):=Hh (by have:=BW2.out.size;have:=Z3.out;omega);generalize wr.heap.size=gx at *;obtain ⟨y0,y1,y2⟩:=rc3 Y0;clear I BW BN RF GL;generalize hla:lastN A k=la at *;have HLA:=Hh hla;clear hla
     by_cases hle:cn<=la
     ·have E:=Hh (BAD (fun g=>last_no AK (by rw [HLA.out];exact hle) g.1) W I2.out.bel)
      have q:decide (cn<=la)=true:=an hle;have XR:=Hh XW;obtain ⟨z0,z1,z2⟩:=rc3 XR;have f0:=row_frozen XR 0;have f1:=row_frozen XR 1;have f2:=row_frozen XR 2;have R:=Hh (sto3_row XR (.pointer none) (.bool false) (.int .i64 0));clear hle I2 BW2 RF2 BAD FI FO AT OKL OF AK;go_wp2
      (try simp only [Exit.inBlock,Exit.then])
      exact aA (results_nd (p:=2) (r:=3) rfl _ _ (w.heap.size+1) _ _ _ (.int .i64 2) rfl rfl R) rfl E
     ·have ADD:=Hh (add_any I2.st cn cp (.slice ca cl.length ccap) cl RF2 OF)
      have ST:=Hh (inn_step I2.inn AK (last_ord (by rw [HLA.out];exact hle)));have NX:=Hh (last_next AK);have q:decide (cn<=la)=false:=ak hle;unfold AddPost file at ADD;generalize addE (A.take k) cn cp cl=ae at *;generalize addA (A.take k) cn cp cl=A' at *;generalize cl.length=cll at *;clear hle RF2 AK OF;go_wp2_with fail;refine ADD.mono ?_;rintro e w5 ⟨rfl,st5,o5⟩;have ST5:=Hh st5;have O5:=Hh o5;have YN:=Hh ((o5.block gx (ay Y0) GX.out.1).trans Y0);have XR:=Hh ((o5.block _ (ay XW) GX.out.2).trans XW);clear st5 o5 ADD y0 y1 y2 XW
      rcases ST.out with ⟨e0,e1,e2⟩ | ⟨e0,ng⟩
      ·have I5:=Hh (I2.step (by omega) LW.out (by rw [← e1];exact ST5.out) O5.out e2)
       have BW5:=Hh (BW2.trans (O5.below (B:=w.heap.size+2) LW I2.lo));subst e0;have y0:=Fl.rc YN 0;clear ST e1 e2 ST5 O5 YN XR I2 BW2;go_wp2
       go_roundw
       case rel=>exact ⟨k+1,_,by omega,by go_num,by rw [NX.out],I5,BW5⟩
       case measure=>simp [intOf];omega
      ·have E:=Hh (BAD (fun g=>ng g.1) w5 (I2.bel.trans (O5.below I2.bel.size fun j g=>by have:=I2.out.lo j g;omega)))
       have q1:(ae != 0)=true:=by simpa using e0
       obtain ⟨z0,z1,z2⟩:=rc3 XR;have f0:=row_frozen XR 0;have f1:=row_frozen XR 1;have f2:=row_frozen XR 2;have R:=Hh (sto3_row XR (.pointer none) (.bool false) (.int .i64 0));clear ST ng ST5 O5 YN I2 BW2 BAD FI FO AT OKL e0;go_wp2
       (try simp only [Exit.inBlock,Exit.then])
       exact aA (results_nd (p:=2) (r:=3) rfl _ _ (w.heap.size+1) _ _ _ (.int .i64 2) rfl rfl R) rfl E
    ·obtain rfl:k=N:=by omega
     have GD:=Hh (inn_end (A:=A) (by have:=I.out.inn;rw [AL.out];exact this));have ST:=I.st;have XR:=Hh ((BW.block (w.heap.size+1) (by omega)).trans X4.out);have XP:=Hh ((BW.block w.heap.size (by omega)).trans X3.out);rw [← AL.out,br] at ST;have E:Hid (PlC w (A,cr) (.returned (.tuple #[.agg #[.pointer (some ⟨w.heap.size+2,0,none⟩),.bool true,.int .i64 cr],.int .i64 0])) (sto3 wr (w.heap.size+1) (.pointer (some ⟨w.heap.size+2,0,none⟩)) (.bool true) (.int .i64 cr))):=Hh
      ⟨I.bel.trans ((sto3_only wr _ _ _ _).below I.bel.size fun k e=>by omega),.inl ⟨⟨GD.out,CR.out⟩,w.heap.size+2,G,rfl,ST.only (G:=fun j=>j=w.heap.size+1) (fun j g e=>by have:=I.out.lo j g;omega) (sto3_only wr _ _ _ _),fun j g=>by have:=I.out.lo j g;omega⟩⟩
     obtain ⟨z0,z1,z2⟩:=rc3 XR;have p1:=Fl.rc XP 1;have f0:=row_frozen XR 0;have f1:=row_frozen XR 1;have f2:=row_frozen XR 2;have R:=Hh (sto3_row XR (.pointer (some ⟨w.heap.size+2,0,none⟩)) (.bool true) (.int .i64 cr));clear GD ST I BW BAD FI FO AT OKL XP;generalize lastN A k=la at *;go_wp2
     (try simp only [Exit.inBlock,Exit.then])
     exact aA (results_nd (p:=2) (r:=3) rfl _ _ (w.heap.size+1) _ _ _ (.int .i64 0) rfl rfl R) rfl E
end Cu
namespace Re
attribute [local irreducible] wpQuiet
theorem isseq_any (w:World) (v:Value) (l:List Int) (R:Rd KI w v l):Calls prog 119 #[v] w fun e w'=>e = .returned (.bool (seqB l))/\Below w.heap.size w w':=by
 have HNO:Hid (∀ k,k < l.length->¬ okI (iat l k)->false=seqB l):=Hh (fun k hk h=>seq_no hk h);have HLO:Hid (¬ (0 < l.length/\l.length<=64)->false=seqB l):=Hh (fun h=>seq_long h);have HYES:Hid (0 < l.length/\l.length<=64->(∀ i,i < l.length->okI (iat l i))->true=seqB l):=Hh (fun h g=>seq_yes h g);obtain ⟨a,cap,rfl,_,hm,hA⟩:=R;have HA:=Hh hA;unfold maxLen at hm;clear hA;generalize hn:l.length=n at *;have HN:=Hh hn;clear hn
 rcases (by omega:n=0\/64 < n\/(0 < n/\n<=64)) with h | h | h
 ·have E:=Hh (HLO (by omega))
  have h0:((n:Int) == 0)=true:=by rw [h];rfl
  clear HNO HLO HYES HA HN h
  go_enter func119,ntmps119
  go_wp2
  go_ret
  exact ⟨ret_bool E,aa _ _⟩
 ·have E:=Hh (HLO (by omega))
  have h0:((n:Int) == 0)=false:=by simp;omega
  clear HNO HLO HYES HA HN
  go_enter func119,ntmps119
  go_wp2
  go_ret
  exact ⟨ret_bool E,aa _ _⟩
 ·have h0:((n:Int) == 0)=false:=by simp;omega
  have h64:n<=64:=h.2;have HY:=Hh (HYES h);clear HLO HYES h
  go_enter func119,ntmps119
  go_wp2
  go_loopw [15] (fun i wr=>∃ k:Nat,k<=n/\i = .int .i64 k/\Hid (Below w.heap.size w wr)/\Hid (∀ i,i < k->okI (iat l i))) (fun i _=>n - (intOf i).toNat)
  case atStart=>exact ⟨0,aI _,rfl,Hh (aa _ _),Hh (fun i hi=>by omega)⟩
  case round =>
   obtain ⟨k,hk,rfl,bw,hs⟩:=hrel
   by_cases hlt:k < n
   ·obtain ⟨b,off,rfl,A⟩:=HA (by omega)
    have c0:=at1 (A.below bw) k (by have:=HN.out;omega);have P1:=Hh (HNO k hlt)
    have P3:Hid (okI (iat l k)->∀ i,i < k+1->okI (iat l i)):=Hh (fun g i hi=>by
     by_cases e:i=k
     ·rw [e];exact g
     ·exact hs i (by omega))
    have HAA:=Hh A;clear A;unfold okI at P1 P3;generalize iat l k=x at *
    rcases (by omega:x < 0\/(0<=x/\6<=x)\/(0<=x/\x<=5)) with h | ⟨h,h2⟩ | ⟨h,h2⟩
    ·have E:=Hh (P1 (by omega))
     clear P1 P3;go_wp2
     go_ret
     exact ⟨ret_bool E,bw⟩
    ·have E:=Hh (P1 (by omega))
     clear P1 P3;go_wp2
     go_ret
     exact ⟨ret_bool E,bw⟩
    ·have ST:=Hh (P3 ⟨h,h2⟩)
     clear P1 P3;go_wp2
     go_roundw
     case rel=>exact ⟨k+1,by omega,by go_num,bw,ST⟩
     case measure=>simp [intOf];omega
   ·obtain rfl:k=n:=by omega
    have E:=Hh (HY (fun i hi=>hs i hi));go_wp2
    go_ret
    exact ⟨ret_bool E,bw⟩
theorem rmay_any (w:World) (v:Value) (l:List Int) (R:Rd KI w v l):Calls prog 56 #[v] w fun e w'=>e = .returned (.bool (seqB l))/\Below w.heap.size w w':=by
 have HNO:Hid (∀ k,k < l.length->¬ okI (iat l k)->false=seqB l):=Hh (fun k hk h=>seq_no hk h);have HLO:Hid (¬ (0 < l.length/\l.length<=64)->false=seqB l):=Hh (fun h=>seq_long h);have HYES:Hid (0 < l.length/\l.length<=64->(∀ i,i < l.length->okI (iat l i))->true=seqB l):=Hh (fun h g=>seq_yes h g);obtain ⟨a,cap,rfl,_,hm,hA⟩:=R;have HA:=Hh hA;unfold maxLen at hm;clear hA;generalize hn:l.length=n at *;have HN:=Hh hn;clear hn
 go_enter func56,ntmps56
 go_wp2
 go_loopw [3] (fun i wr=>∃ k:Nat,k<=n/\i = .int .i64 k/\Hid (Below w.heap.size w wr)/\Hid (∀ i,i < k->okI (iat l i))) (fun i _=>n - (intOf i).toNat)
 case atStart=>exact ⟨0,aI _,rfl,Hh (aa _ _),Hh (fun i hi=>by omega)⟩
 case round =>
  obtain ⟨k,hk,rfl,bw,hs⟩:=hrel
  by_cases hlt:k < n
  ·obtain ⟨b,off,rfl,A⟩:=HA (by omega)
   have c0:=at1 (A.below bw) k (by have:=HN.out;omega);have P1:=Hh (HNO k hlt)
   have P3:Hid (okI (iat l k)->∀ i,i < k+1->okI (iat l i)):=Hh (fun g i hi=>by
    by_cases e:i=k
    ·rw [e];exact g
    ·exact hs i (by omega))
   have HAA:=Hh A;clear A;unfold okI at P1 P3;generalize iat l k=x at *
   rcases (by omega:x < 0\/(0<=x/\6<=x)\/(0<=x/\x<=5)) with h | ⟨h,h2⟩ | ⟨h,h2⟩
   ·have E:=Hh (P1 (by omega))
    clear P1 P3;go_wp2
    go_ret
    exact ⟨ret_bool E,bw⟩
   ·have E:=Hh (P1 (by omega))
    clear P1 P3;go_wp2
    go_ret
    exact ⟨ret_bool E,bw⟩
   ·have ST:=Hh (P3 ⟨h,h2⟩)
    clear P1 P3;go_wp2
    go_roundw
    case rel=>exact ⟨k+1,by omega,by go_num,bw,ST⟩
    case measure=>simp [intOf];omega
  ·obtain rfl:k=n:=by omega
   rcases (by omega:k=0\/64 < k\/(0 < k/\k<=64)) with h | h | h
   ·have E:=Hh (HLO (by omega))
    have h0:¬ ((0:Int) < (k:Int)):=by omega
    clear HNO HLO HYES;go_wp2
    go_ret
    exact ⟨ret_bool E,bw⟩
   ·have E:=Hh (HLO (by omega))
    have h0:(0:Int) < (k:Int):=by omega
    have h1:¬ ((k:Int) < 65):=by omega
    clear HNO HLO HYES;go_wp2
    go_ret
    exact ⟨ret_bool (by simpa [h1] using E.out),bw.out⟩
   ·have E:=Hh (HYES h (fun i hi=>hs i hi))
    have h0:(0:Int) < (k:Int):=by omega
    have h1:(k:Int) < 65:=by omega
    clear HNO HLO HYES;go_wp2
    go_ret
    exact ⟨ret_bool (by simpa [h1] using E.out),bw.out⟩
theorem next_any (w:World) (v:Value) (l:List Int) (t:Int) (R:Rd KI w v l):Calls prog 89 #[v,.int .i64 t] w (NextPost w l t):=by
 have R0:=Hh R;have IS:=Hh (fun w v R=>isseq_any w v l R)
 by_cases hs:seqP l
 ·have hb:seqB l=true:=an hs
  rw [hb] at IS;have HS:=Hh hs;have hl:=hs.1;clear hb hs
  by_cases ht:0<=t/\t < l.length
  ·obtain ⟨k,rfl⟩:∃ k:Nat,t=k:=⟨t.toNat,by omega⟩
   have hk:k < l.length:=by omega
   have NP:nxP l k:=⟨HS,ht.1,ht.2⟩;have EL:=Hh (fun h w' hb=>next_last (w:=w) (w':=w') NP h hb);have EM:=Hh (fun h w' hb=>next_more (w:=w) (w':=w') NP h hb);obtain ⟨a,cap,rfl,_,hm,hA⟩:=R;obtain ⟨b,off,rfl,hA2⟩:=hA (by omega);have c0:=at1 hA2 k hk;clear hA hA2 NP HS ht;generalize iat l k=x at *;generalize hn:l.length=n at *;have W0:IntKind.i64.wrap ((n:Int) - 1)=(n:Int) - 1:=aR _ (by omega);have W1:IntKind.i64.wrap ((k:Int)+1)=(k:Int)+1:=aR _ (by omega);clear hn hm
   by_cases h1:k+1=n
   ·have E:=Hh (EL h1)
    have t0:¬ ((k:Int) < 0):=by omega
    have t1:¬ ((n:Int) - 1 < k):=by omega
    have t2:¬ ((k:Int) < (n:Int) - 1):=by omega
    have H1:=Hh h1;clear EL EM h1
    go_enter func89,ntmps89
    go_wp2_with fail;refine (IS _ _ R0).mono ?_;rintro e w1 ⟨rfl,b1⟩;have d0:=bCe b1 c0;have E1:=Hh (E _ b1);clear b1;go_wp2
    go_ret3
    exact E1
   ·have E:=Hh (EM h1)
    have t0:¬ ((k:Int) < 0):=by omega
    have t1:¬ ((n:Int) - 1 < k):=by omega
    have t2:(k:Int) < (n:Int) - 1:=by omega
    have H1:=Hh h1;clear EL EM h1
    go_enter func89,ntmps89
    go_wp2_with fail;refine (IS _ _ R0).mono ?_;rintro e w1 ⟨rfl,b1⟩;have d0:=bCe b1 c0;have E1:=Hh (E _ b1);clear b1;go_wp2
    go_ret3
    exact E1
  ·have NP:¬ nxP l t:=fun h=>ht h.2
   have E:=Hh (fun w' hb=>next_no (w:=w) NP w' hb);obtain ⟨a,cap,rfl,_,hm,hA⟩:=R;clear hA HS NP;generalize hn:l.length=n at *;have W0:IntKind.i64.wrap ((n:Int) - 1)=(n:Int) - 1:=aR _ (by omega);clear hn hm
   rcases (by omega:t < 0\/(0<=t/\(n:Int) - 1 < t)) with h | ⟨h,h2⟩
   all_goals
    clear ht
    go_enter func89,ntmps89
    go_wp2_with fail;refine (IS _ _ R0).mono ?_;rintro e w1 ⟨rfl,b1⟩;have E1:=Hh (E _ b1);clear b1;go_wp2
    go_ret3
    exact E1
 ·have hb:seqB l=false:=ak hs
  rw [hb] at IS;have NP:¬ nxP l t:=fun h=>hs h.1;have E:=Hh (fun w' hb=>next_no (w:=w) NP w' hb);obtain ⟨a,cap,rfl,_,hm,hA⟩:=R;clear hA hs NP hb;unfold maxLen at hm;generalize l.length=n at *;have W0:IntKind.i64.wrap ((n:Int) - 1)=(n:Int) - 1:=aR _ (by omega)
  go_enter func89,ntmps89
  go_wp2_with fail;refine (IS _ _ R0).mono ?_;rintro e w1 ⟨rfl,b1⟩;have E1:=Hh (E _ b1);clear b1;go_wp2
  go_ret3
  exact E1
attribute [local irreducible] Sd.wpSd Sz.wpSz
theorem wp_push {α:Type} {Kd:Rw.Kind α} {P:Program} {K:Act->World->Prop} {w:World} {E:TypeId} {o:Oper} {a:Act} {Q:Exit->Act->World->Prop} {T:TypeId} {z:Value} {bytes:Nat} (ht:P.underlying T=some (.slice E))
 (hi:(P.info? E).map (fun i=>(i.zero,i.size,i.bytes))=some (some z,Kd.n,bytes)) (hz:z.cells.size=Kd.n) (hby:bytes<=64) (s x:Operand)
 (ho:o.op = .call { callee:=.builtin .append,args:=#[s,x],argTypes:=#[T,T] }) (B:Nat) (v:Value) (l:List α) (hs:a.eval s=v) (hown:Ow Kd w B E v l)
 (ad:Addr) (c:α) (hx:a.eval x = .slice (some ad) 1 1) (hc:∀ j u,(Kd.enc c)[j]? = some u->w.cell? (ad.add j)=some u) (hlen:l.length < 2199023255552) (hB:B<=w.heap.size)
 (h:∀ v' w',Ow Kd w' B E v' (l ++ [c])->Below B w w'->Rw.Far E w w'->K (a.put o.dst v') w'):o.wp P a w K Q:=by
 obtain ⟨i0,hi0,hz0,hz1,hz2⟩:=cz hi;have hb:(l.length+1) * bytes<=140737488355328:=aX (cX (show l.length+1<=2199023255552 by omega) hby) (by omega);refine wp_append_own _ s x T ho B E i0 z Kd.n bytes ht hi0 hz0 hz1 hz2 hz Kd.pos v l.length (Kd.flat l) hs hown ad 1 1 (Kd.enc c) hx (by rw [Kd.len,Nat.one_mul]) hc (Kd.one c) (by unfold maxLen;omega) hb hB ?_
 intro v' w' h2 h3 _
 exact h v' w' (Rw.Ow.push h2) ((aa B w).grown h3 hB fun k hk=>(aU hown k hk).1) (Rw.far_grown hown h3)
structure GRel (w:World) (m:List R4) (gF:Nat) (v:Value) (wr:World):Prop where
 row:wr.heap[gF]? = some (.cells #[.int .i64 3,v] 83 (0,0))
 res:wr.heap[w.heap.size]? = some (.cells #[.int .i64 0,.slice none 0 0] 83 (0,0))
 own:Ow K4 wr (w.heap.size+1) 36 v m
 bel:Below w.heap.size w wr
 lt:w.heap.size < gF
def GC (gF:Nat) (v:Value) (ad:Addr) (x:Int) (W:World):Prop:=W.heap[gF]? = some (.cells #[.int .i64 3,v] 83 (0,0))/\W.cell? ad=some (.int .i64 x)
theorem rfile_any (w:World) (v:Value) (l:List Int) (R:Rd KI w v l):Calls prog 27 #[v] w (FilePost w l):=by
 have B0:=Hh ((aa w.heap.size w).alloc (ac _) (.cells #[.int .i64 0,.slice none 0 0] 83));have R0:=Hh (R.below B0)
 by_cases hm:seqP l
 ·have GA:=Hh (at_bool (show seqB l=true from an hm) (rmay_any _ v l R0))
  have HE:=Hh (fun u w'=>file_yes (w:=w) hm u w');have hl:=hm.1.2;have OK:=Hh hm.2;clear hm R0;obtain ⟨a,cap0,rfl,_,hm,hA⟩:=R;have HA:=Hh hA;unfold maxLen at hm;clear hA;have HF:Hid (fileL l=hdr 3 (l.length:Int) :: l.map putI):=Hh rfl;have PS:=Hh (fun h k=>own_next (k:=k) (l:=l) h);have PE:Hid (∀ h:R4,(h :: (l.take l.length).map putI)=h :: l.map putI):=Hh (fun h=>by rw [br]);have PL:Hid (∀ (h:R4) k,k<=l.length->(h :: (l.take k).map putI).length=k+1):=Hh (fun h k hk=>by simp [List.length_take];omega);have HH:=Hh (fun w=>rhdr_any w 3 (l.length:Int) (by omega) (by omega) (by omega) (by omega));unfold rec4 at HH;generalize hdr 3 (l.length:Int)=h at *;generalize hn:l.length=n at *;have HN:=Hh hn;clear hn
  go_enter func27,ntmps27
  go_wp2_with fail;refine GA.mono ?_;rintro e w0 ⟨rfl,b1⟩;have z0:w.heap.size+1<=w0.heap.size:=by have:=b1.size;simp at this;omega
  have B1:=bTr B0 b1;have S1:=Hh ((b1.block _ (by simp)).trans (am w _));clear b1 GA B0;go_wp2_with fail;refine (HH _).mono ?_;rintro e w1 ⟨rfl,b1⟩;have z1:w.heap.size < w1.heap.size:=by have:=b1.size;omega
  have B2:=bTr B1 b1;have r0:=(b1.block _ (by omega)).trans S1.out;have hz:(w1.alloc (.cells #[.int .u8 h.1,.int .u8 h.2.1,.int .u8 h.2.2.1,.int .u8 h.2.2.2] 36)).heap.size=w1.heap.size+1:=by simp
  have N0:Hid (GRel w [h] (w1.heap.size+1) (.slice (some ⟨w1.heap.size,0,none⟩) 1 1) ((w1.alloc (.cells #[.int .u8 h.1,.int .u8 h.2.1,.int .u8 h.2.2.1,.int .u8 h.2.2.2] 36)).alloc (.cells #[.int .i64 3,.slice (some ⟨w1.heap.size,0,none⟩) 1 1] 83))):=by
   refine Hh ⟨?_,?_,(Rw.Ow.lit (K:=K4) w1 (w.heap.size+1) 36 [h] (by omega) (by unfold maxLen;simp)).alloc _,(B2.out.alloc (by omega) _).alloc (by rw [hz];omega) _,by omega⟩
   ·have:=am (w1.alloc (.cells #[.int .u8 h.1,.int .u8 h.2.1,.int .u8 h.2.2.1,.int .u8 h.2.2.2] 36)) (.cells #[.int .i64 3,.slice (some ⟨w1.heap.size,0,none⟩) 1 1] 83)
    rw [hz] at this;exact this
   ·exact (aQ _ _ _ (by rw [hz];omega)).trans ((aQ _ _ _ z1).trans r0)
  clear b1 r0 HH hz S1 B1;go_wp2;generalize (w1.alloc (.cells #[.int .u8 h.1,.int .u8 h.2.1,.int .u8 h.2.2.1,.int .u8 h.2.2.2] 36)).alloc (.cells #[.int .i64 3,.slice (some ⟨w1.heap.size,0,none⟩) 1 1] 83)=W at *;generalize w1.heap.size+1=g at *;generalize Value.slice (some ⟨w1.heap.size,0,none⟩) 1 1=v0 at *
  go_loopw [5] (fun i wr=>∃ (k:Nat) (v:Value),k<=n/\i = .int .i64 k/\Hid (GRel w (h :: (l.take k).map putI) g v wr)) (fun i _=>n - (intOf i).toNat)
  case atStart=>exact ⟨0,v0,aI _,rfl,N0⟩
  case round =>
   obtain ⟨k,v,hk,rfl,RR⟩:=hrel;obtain ⟨av,cv,ev,_,_⟩:=RR.own.slice;rw [PL.out h k hk] at ev;generalize k+1=L at ev;subst ev;have glt:=RR.lt
   by_cases hlt:k < n
   ·obtain ⟨b,off,rfl,A⟩:=HA (by omega)
    have cw:=at1 A k (by rw [HN.out];exact hlt);have bw:=aC _ _ cw;have CW:=Hh cw;have ok:=OK.out k hlt;have PK:=Hh (PS h k hlt);have PLK:=Hh (PL h k hk);have AA:=Hh A;clear A cw;unfold okI at ok;generalize iat l k=x at *;have W2:IntKind.u8.wrap x=x:=by rw [IntKind.wrap];simp [IntKind.signed,IntKind.bits];omega
    go_upto_region 7 with fail;have C0:GC g (.slice av L cv) ⟨b,off+k,none⟩ x wr.drew:=⟨RR.row,(RR.bel.cell bw).trans CW⟩;have c0:=Sc.cell_in (C:=GC g (.slice av L cv) ⟨b,off+k,none⟩ x) (a:=⟨b,off+k,none⟩) (fun W' h=>h.2);have c1:=Sc.cell_in (C:=GC g (.slice av L cv) ⟨b,off+k,none⟩ x) (a:=⟨g,1,none⟩) (fun W' h=>row_cell h.1 1);have ne:Nonempty (Sc.In (GC g (.slice av L cv) ⟨b,off+k,none⟩ x)):=⟨⟨_,C0⟩⟩;have GG:Hid (GRel w (h :: (l.take k).map putI) g (.slice av L cv) wr.drew):=Hh ⟨RR.row,RR.res,RR.own,RR.bel.drew,RR.lt⟩;clear RR;refine Sz.start (GC g (.slice av L cv) ⟨b,off+k,none⟩ x) [(false,0),(false,1),(false,2),(false,3),(false,4),(false,5),(false,6),(false,7),(true,8),(true,9),(false,10)] 11 (by kernel_rfl) (by kernel_rfl) (by kernel_rfl) rfl rfl C0 ?_;dsimp only [Sd.picks,List.getElem?_cons_succ,List.getElem?_cons_zero]
    repeat (refine Sz.lit ?_;quiet_step (fail);refine az ?_)
    have C1:=Hh C0;clear C0 c0 c1;generalize wr.drew=w4 at *;refine Sz.call (by rfl) (fun K hK=>?_);go_simp;have zB:=GG.bel.size;have ba:=aQ w4 (.cells #[.int .u8 x,.int .u8 0,.int .u8 0,.int .u8 0] 36);have C5:GC g (.slice av L cv) ⟨b,off+k,none⟩ x (w4.alloc (.cells #[.int .u8 x,.int .u8 0,.int .u8 0,.int .u8 0] 36)):=⟨(ba g (ay C1.out.1)).trans C1.out.1,(((aa w4.heap.size w4).alloc (ac _) _).cell (aC _ _ C1.out.2)).trans C1.out.2⟩;have B5:=Hh (GG.bel.alloc zB (.cells #[.int .u8 x,.int .u8 0,.int .u8 0,.int .u8 0] 36));have O5:=Hh (GG.own.alloc (.cells #[.int .u8 x,.int .u8 0,.int .u8 0,.int .u8 0] 36));have S5:=Hh ((ba w.heap.size (ay GG.res)).trans GG.res);have Y5:=Hh (am w4 (.cells #[.int .u8 x,.int .u8 0,.int .u8 0,.int .u8 0] 36));have hz5:Hid (w.heap.size+1<=(w4.alloc (.cells #[.int .u8 x,.int .u8 0,.int .u8 0,.int .u8 0] 36)).heap.size):=Hh (by simp;omega);refine hK _ _ (Sc.Cl.of C5) ?_;have C5':=Hh C5;clear hK K ba C5 C1 GG;generalize (w4.alloc (.cells #[.int .u8 x,.int .u8 0,.int .u8 0,.int .u8 0] 36))=w5 at *;generalize w4.heap.size=g4 at *;refine Sz.call (by rfl) (fun K hK=>?_);refine wp_push (Kd:=K4) underlying81 infoR rfl (by omega) _ _ rfl (w.heap.size+1) _ _ rfl O5.out ⟨g4,0,none⟩ (putI x) rfl ?a1 ?a2 hz5.out ?_
    case a1 =>
     intro j u hu
     have c:=row_cell Y5 j
     match j,hu with
     | 0,hu=>simp [K4,putI] at hu;subst hu;exact c
     | 1,hu=>simp [K4,putI] at hu;subst hu;exact c
     | 2,hu=>simp [K4,putI] at hu;subst hu;exact c
     | 3,hu=>simp [K4,putI] at hu;subst hu;exact c
     | j+4,hu=>simp [K4] at hu
    case a2=>rw [PLK.out];omega
    intro v6 w6 o6 b6 f6
    rw [PK.out] at o6;have rr:=f6 g _ _ C5'.out.1 (by decide);have rs:=f6 w.heap.size _ _ S5 (by decide);have C6:GC g (.slice av L cv) ⟨b,off+k,none⟩ x w6:=⟨rr,((B5.trans (b6.mono (Nat.le_succ _))).cell bw).trans CW⟩;obtain ⟨v6a,v6c,n6,rfl⟩:∃ a c n,v6 = .slice a n c:=by obtain ⟨a,c,e,_⟩:=o6.slice;exact ⟨a,c,_,e⟩
    have N6:Hid (GRel w (h :: (l.take (k+1)).map putI) g (.slice v6a n6 v6c) (w6.setCell ⟨g,1,none⟩ (.slice v6a n6 v6c))):=by
     refine Hh ⟨Rw.heap_setCell_same rr _,(aH w6 ⟨g,1,none⟩ _ w.heap.size (show w.heap.size≠g by omega)).trans rs,o6.far (p:=⟨g,1,none⟩) rr (by decide) _,?_,glt⟩;exact (B5.trans (b6.mono (Nat.le_succ _))).setCell (by simp;omega) _
    have c6:=Fl.rc rr 1;have e6:=row_frozen rr 1;refine hK _ _ (Sc.Cl.of C6) ?_;have c1:=Sc.cell_in (C:=GC g (.slice av L cv) ⟨b,off+k,none⟩ x) (a:=⟨g,1,none⟩) (fun W' h=>row_cell h.1 1);clear hK K rr rs b6 f6 o6 B5 O5 S5 Y5 C5' hz5 C6
    repeat (refine Sz.lit ?_;quiet_step (fail);refine az ?_)
    refine Sz.done ?_;clear c1;go_simp;clear c6 e6;generalize (w6.setCell ⟨g,1,none⟩ (.slice v6a n6 v6c))=w8 at *;refine NoPanic.normal ?_;go_wp2
    go_roundw
    case rel=>exact ⟨k+1,_,by omega,by go_num,N6⟩
    case measure=>simp [intOf];omega
   ·obtain rfl:k=n:=by omega
    have PEK:=Hh (PE h);clear PE PL PS OK;have O5:=Hh (show Ow K4 wr (w.heap.size+1) 36 (.slice av L cv) (fileL l) by rw [HF.out,← PEK.out];exact RR.out.own);obtain ⟨d0,d1⟩:=rc2 RR.row;obtain ⟨r0,r1,s0,s1⟩:=rf2 RR.res;have hne:(Value.slice av L cv).ownBlock≠some w.heap.size:=O5.range (.inl (by omega));have RV:=Hh (sto2_row RR.res 3 (.slice av L cv));have O6:=Hh (sto2_off (u:=.slice av L cv) O5 hne 3);have B6:=Hh (sto2_below (p:=3) (v:=.slice av L cv) RR.bel (ac _));clear RR O5 hne PEK;go_wp2
    (try simp only [Exit.inBlock,Exit.then])
    exact aA (v:=.tuple #[file 3 _,.int .i64 0]) (results_new (p:=2) (r:=3) rfl _ _ w.heap.size 3 _ 0 rfl rfl RV) rfl (HE _ _ O6.rd B6)
 ·have GA:=Hh (at_bool (show seqB l=false from ak hm) (rmay_any _ v l R0))
  have E:=Hh (file_no (w:=w) hm);clear hm;obtain ⟨a,cap,rfl,_,hm,_⟩:=R;clear R0;generalize l.length=n at *
  go_enter func27,ntmps27
  go_wp2_with fail;refine GA.mono ?_;rintro e w1 ⟨rfl,b1⟩;have z1:w.heap.size < w1.heap.size:=by have:=b1.size;simp at this;omega
  have B1:=bTr B0 b1;have r0:=(b1.block _ (by simp)).trans (am w _);obtain ⟨c0,c1,f0,f1⟩:=rf2 r0;have RR:=Hh (sto2_row r0 0 (.slice none 0 0));clear b1 B0 r0 GA;go_wp2
  (try simp only [Exit.inBlock,Exit.then])
  exact aA (v:=.tuple #[file 0 (.slice none 0 0),.int .i64 1]) (results_new (p:=2) (r:=3) rfl _ _ w.heap.size 0 _ 1 rfl rfl RR) rfl (E _ (sto2_below B1 (ac _)))
end Re
namespace Re
structure FRel (w:World) (h:R4) (l:List Int) (g gF N cap k:Nat) (wr:World):Prop where
 row:wr.heap[gF]? = some (.cells #[.int .i64 3,.slice (some ⟨g,0,none⟩) N cap] 83 (0,0))
 res:wr.heap[w.heap.size]? = some (.cells #[.int .i64 0,.slice none 0 0] 83 (0,0))
 own:Ow K4 wr (w.heap.size+1) 36 (.slice (some ⟨g,0,none⟩) N cap) (part h l k)
 bel:Below w.heap.size w wr
theorem file_any (w:World) (v:Value) (l:List Int) (R:Rd KI w v l):Calls prog 109 #[v] w (FilePost w l):=by
 have B0:=Hh ((aa w.heap.size w).alloc (ac _) (.cells #[.int .i64 0,.slice none 0 0] 83));have R0:=Hh (R.below B0)
 by_cases hm:seqP l
 ·have GA:=Hh (at_bool (show seqB l=true from an hm) (isseq_any _ v l R0))
  have HE:=Hh (fun u w'=>file_yes (w:=w) hm u w');have hl:=hm.1.2;have OK:=Hh hm.2;clear hm R0;obtain ⟨a,cap0,rfl,_,hm,hA⟩:=R;have HA:=Hh hA;unfold maxLen at hm;clear hA;have HF:Hid (fileL l=hdr 3 (l.length:Int) :: l.map putI):=Hh rfl;have PS:=Hh (fun h k=>part_set (k:=k) h (l:=l));have PE:=Hh (fun h=>part_end h l);have PL:=Hh (fun h k=>part_len h l k);have NL:Hid (newL 3 (l.length:Int)=part (hdr 3 (l.length:Int)) l 0):=Hh (by rw [part_start];rfl);have NO:=Hh (fun w=>new_own w 3 (l.length:Int) ⟨by omega,by omega,by omega,by omega⟩);unfold NewOwn at NO;rw [NL.out] at NO;clear NL;generalize hdr 3 (l.length:Int)=h at *;generalize hn:l.length=n at *;have HN:=Hh hn;clear hn;unfold file at NO
  go_enter func109,ntmps109
  go_wp2_with fail;refine GA.mono ?_;rintro e w1 ⟨rfl,b1⟩;have z1:w.heap.size+1<=w1.heap.size:=by have:=b1.size;simp at this;omega
  have B1:=bTr B0 b1;have r1:=(b1.block _ (by simp)).trans (am w _);have S1:=Hh r1;clear b1 GA B0 r1;go_wp2_with fail;refine (NO _).mono ?_;rintro e w2 ⟨u,rfl,o2,b2⟩;obtain ⟨g,cap,rfl,hg1,hg2,hcc,hcm,_,_⟩:=o2.form (by rw [PL.out _ _ (aI _)];omega);rw [PL.out _ _ (aI _)] at o2 hcc ⊢;have hz:∀ o,(w2.alloc o).heap.size=w2.heap.size+1:=fun o=>by simp
  have F0:Hid (FRel w h l g w2.heap.size (n+1) cap 0 (w2.alloc (.cells #[.int .i64 3,.slice (some ⟨g,0,none⟩) (n+1) cap] 83))):=Hh
   ⟨am w2 _,(aQ _ _ _ (by have:=b2.size;omega)).trans ((b2.block _ (by omega)).trans S1.out),(o2.alloc _).low (by omega),(B1.out.trans (b2.mono (by omega))).alloc (by have:=b2.size;omega) _⟩
  have hgF:w.heap.size < w2.heap.size:=by have:=b2.size;omega
  have hg0:w.heap.size < g:=by omega
  clear b2 o2 S1 B1 NO hz;go_wp2;generalize w2.alloc (.cells #[.int .i64 3,.slice (some ⟨g,0,none⟩) (n+1) cap] 83)=W at *;generalize w2.heap.size=gF at *;generalize hN2:n+1=N at *;have HN2:=Hh hN2;clear hN2
  go_loopw [20] (fun i wr=>∃ k:Nat,k<=n/\i = .int .i64 k/\Hid (FRel w h l g gF N cap k wr)) (fun i _=>n - (intOf i).toNat)
  case atStart=>exact ⟨0,aI _,rfl,F0⟩
  case round =>
   obtain ⟨k,hk,rfl,RR⟩:=hrel
   by_cases hlt:k < n
   ·obtain ⟨b,off,rfl,A⟩:=HA (by omega)
    have c0:=at1 (A.below RR.bel) k (by rw [HN.out];exact hlt);have PK:=Hh (PS h k hlt);have PLK:=Hh (PL h k hk);have ok:=OK.out k hlt;have AA:=Hh A;clear A;unfold okI at ok;generalize iat l k=x at *;have W2:IntKind.u8.wrap x=x:=by rw [IntKind.wrap];simp [IntKind.signed,IntKind.bits];omega
    obtain ⟨K1,hK1⟩:∃ K1,K1=k+1:=⟨_,rfl⟩;have W1:IntKind.i64.wrap (1+(k:Int))=(K1:Int):=by rw [aR _ (by omega)];omega
    have hkN:K1 < N:=by have:=HN2.out;omega
    obtain ⟨g',cap',eg,_,_,_,_,hfr,hat⟩:=RR.own.form (by rw [PLK.out];omega);have eg':g'=g:=by
     injection eg with e1;injection e1 with e1;injection e1 with e1 _ _;exact e1.symm
    subst eg';have hKL:K1 < (part h l k).length:=by rw [PLK.out];have:=HN2.out;omega
    have eK:K1=1+k:=by omega
    have O5:=Hh (sto4_own (i:=K1) RR.own (by rw [PLK.out]) hKL (putI x));rw [show (part h l k).set K1 (putI x)=part h l (k+1) by rw [eK];exact PK.out] at O5;clear eK;have HK:=Hh hK1;clear hK1;obtain ⟨d0,d1,d2,d3⟩:=at4 hat K1 hKL;rw [cd] at d0 d1 d2 d3;have f0:=hfr (K1 * 4);have f1:=hfr (K1 * 4+1);have f2:=hfr (K1 * 4+2);have f3:=hfr (K1 * 4+3);have k1:=Fl.rc RR.row 1;have hne:gF≠g':=fun e=>by
     have:=RR.own.apart RR.row (by decide);exact this (by simp [Value.ownBlock,e])
    have row5:=sto4_other (g:=g') (o:=K1 * 4) (r:=putI x) RR.row hne;have r5:=sto4_other (g:=g') (o:=K1 * 4) (r:=putI x) RR.res (by omega);have B5:=Hh (sto4_below (o:=K1 * 4) (r:=putI x) RR.bel (show w.heap.size<=g' by omega));have N5:Hid (FRel w h l g' gF N cap (k+1) (sto4 wr g' (K1 * 4) (putI x))):=Hh ⟨row5,r5,O5,B5⟩;clear hfr hat eg O5 B5 row5 r5 RR hne;unfold sto4 putI at N5;go_wp2
    go_roundw
    case rel=>exact ⟨k+1,by omega,by go_num,N5⟩
    case measure=>simp [intOf];omega
   ·obtain rfl:k=n:=by omega
    have PK:=Hh (PE h);have PLK:=Hh (PL h k (ac _));clear PS PE PL OK;have O5:=Hh (show Ow K4 wr (w.heap.size+1) 36 (.slice (some ⟨g,0,none⟩) N cap) (fileL l) by rw [HF.out,← PK.out];exact RR.out.own);obtain ⟨d0,d1⟩:=rc2 RR.row;obtain ⟨e0,e1,f0,f1⟩:=rf2 RR.res;have hne:(Value.slice (some ⟨g,0,none⟩) N cap).ownBlock≠some w.heap.size:=O5.range (.inl (by omega));have RV:=Hh (sto2_row RR.res 3 (.slice (some ⟨g,0,none⟩) N cap));have O6:=Hh (sto2_off (u:=.slice (some ⟨g,0,none⟩) N cap) O5 hne 3);have B6:=Hh (sto2_below (p:=3) (v:=.slice (some ⟨g,0,none⟩) N cap) RR.bel (ac _));clear RR O5 hne PK PLK;go_wp2
    (try simp only [Exit.inBlock,Exit.then])
    exact aA (v:=.tuple #[file 3 _,.int .i64 0]) (results_new (p:=2) (r:=3) rfl _ _ w.heap.size 3 _ 0 rfl rfl RV) rfl (HE _ _ O6.rd B6)
 ·have GA:=Hh (at_bool (show seqB l=false from ak hm) (isseq_any _ v l R0))
  have E:=Hh (file_no (w:=w) hm);clear hm;obtain ⟨a,cap,rfl,_,hm,_⟩:=R;clear R0;generalize l.length=n at *
  go_enter func109,ntmps109
  go_wp2_with fail;refine GA.mono ?_;rintro e w1 ⟨rfl,b1⟩;have z1:w.heap.size < w1.heap.size:=by have:=b1.size;simp at this;omega
  have B1:=bTr B0 b1;have r0:=(b1.block _ (by simp)).trans (am w _);obtain ⟨c0,c1,f0,f1⟩:=rf2 r0;have RR:=Hh (sto2_row r0 0 (.slice none 0 0));clear b1 B0 r0 GA;go_wp2
  (try simp only [Exit.inBlock,Exit.then])
  exact aA (v:=.tuple #[file 0 (.slice none 0 0),.int .i64 1]) (results_new (p:=2) (r:=3) rfl _ _ w.heap.size 0 _ 1 rfl rfl RR) rfl (E _ (sto2_below B1 (ac _)))
end Re
namespace Fl
def eqB (l l':List R4):Bool:=decide (l=l')
theorem equal_any (w:World) (v v':Value) (l l':List R4) (R:Rd K4 w v l) (R':Rd K4 w v' l'):Calls prog 130 #[v,v'] w fun e w'=>e = .returned (.bool (eqB l l'))/\Below w.heap.size w w':=by
 have HNO:Hid (¬ l=l'->false=eqB l l'):=fun h=>(ak h).symm;have HYES:Hid (l=l'->true=eqB l l'):=fun b=>(an b).symm;have HL:Hid (l.length=l'.length->(∀ i,i < l.length->rat l i=rat l' i)->l=l'):=fun a b=>list_same a b;obtain ⟨a,cap,rfl,_,hm,hA⟩:=R;obtain ⟨a',cap',rfl,_,hm',hA'⟩:=R';have HA:=Hh hA;have HA':=Hh hA';unfold maxLen at hm hm';clear hA hA';have HNE:Hid (l.length≠l'.length->¬ (l=l')):=fun h2 h=>h2 (by rw [h]);generalize hn:l.length=n at *;generalize hn':l'.length=n' at *;have HN:=Hh hn;have HN':=Hh hn';clear hn hn'
 by_cases h2:n=n'
 ·subst h2
  go_enter func130,ntmps130
  go_wp2
  go_loopw [13,5] (fun i j wr=>∃ k:Nat,k<=n/\i = .int .i64 k/\Hid (Below w.heap.size w wr)/\Hid (∀ i,i < k->rat l i=rat l' i)) (fun i j _=>n - (intOf i).toNat)
  case atStart=>exact ⟨0,aI _,rfl,aa _ _,fun i hi=>by omega⟩
  case round =>
   obtain ⟨j,hj,rfl,bw,hs⟩:=hrel
   by_cases hlt:j < n
   ·obtain ⟨b,off,rfl,A⟩:=HA (by omega)
    obtain ⟨b',off',rfl,A'⟩:=HA' (by omega);obtain ⟨c0,c1,c2,c3⟩:=at4 (A.below bw) j (by have:=HN.out;omega);obtain ⟨d0,d1,d2,d3⟩:=at4 (A'.below bw) j (by have:=HN'.out;omega);have HAA:=Hh A;have HAA':=Hh A';clear A A';have es:=eq_rec (rat l j) (rat l' j)
    by_cases he:rat l j=rat l' j
    ·have ST:Hid (∀ i,i < j+1->rat l i=rat l' i):=fun i hi=>by
      by_cases e:i=j
      ·rw [e];exact he
      ·exact hs i (by omega)
     rw [an he] at es;clear he;generalize rat l j=r at *;generalize rat l' j=r' at *;go_wp2
     go_quiet (fail)
     go_wp2
     go_roundw
     case rel=>exact ⟨j+1,by omega,by go_num,cL bw.out _,ST⟩
     case measure=>simp [intOf];omega
    ·have E:=Hh (HNO (fun h=>he (by rw [h])))
     rw [ak he] at es;clear he;generalize rat l j=r at *;generalize rat l' j=r' at *;go_wp2
     go_quiet (fail)
     go_wp2
     go_ret
     exact ⟨ret_bool E,cL bw _⟩
   ·obtain rfl:j=n:=by omega
    have E:=Hh (HYES (HL (by trivial) (fun i hi=>hs i hi)));go_wp2
    go_ret
    exact ⟨ret_bool E,bw⟩
 ·have E:=Hh (HNO (HNE h2))
  have h3:¬ ((n:Int)=n'):=by omega
  clear HL HA HA' HYES HNO
  go_enter func130,ntmps130
  go_wp2
  go_ret
  exact ⟨ret_bool E,aa _ _⟩
theorem same_any (w:World) (p p':Int) (v v':Value) (l l':List R4) (R:Rd K4 w v l) (R':Rd K4 w v' l'):Calls prog 110 #[file p v,file p' v'] w fun e w'=>e = .returned (.bool (sameF p l p' l'))/\Below w.heap.size w w':=by
 have bb:=((aa w.heap.size w).alloc (ac _) (.cells #[.int .i64 p,v] 83)).alloc (by simp) (.cells #[.int .i64 p',v'] 83);have B0:=Hh bb;have Q:=Hh (equal_any _ v v' l l' (R.below bb) (R'.below bb));obtain ⟨a,cap,rfl,_⟩:=R;obtain ⟨a',cap',rfl,_⟩:=R';clear bb;generalize l.length=n at *;generalize l'.length=n' at *;unfold file
 by_cases h:p=p'
 ·subst h
  have E:Hid (eqB l l'=sameF p l p l'):=Hh (by unfold eqB sameF;rw [bf];exact ⟨fun h=>⟨rfl,h⟩,fun h=>h.2⟩)
  go_enter func110,ntmps110
  go_wp2_with fail;refine Q.mono ?_;rintro e w1 ⟨rfl,b1⟩;have B1:=bTr B0 b1;clear b1 Q;generalize eqB l l'=bq at *;go_wp2
  go_ret
  exact ⟨ret_bool E,B1⟩
 ·have E:Hid (false=sameF p l p' l'):=Hh (ak (fun k=>h k.1)).symm
  go_enter func110,ntmps110
  go_wp2
  go_ret
  exact ⟨ret_bool E,B0⟩
end Fl
namespace Re
structure TRel (w1:World) (L:List Int) (k:Nat) (u:Value) (wr:World):Prop where
 own:Ow KI wr w1.heap.size 3 u (L.take k)
 bel:Below w1.heap.size w1 wr
variable {w:World} {b off:Nat} {l:List R4}
theorem at_drop (h:At K4 w b off l):At K4 w b (off+4) (l.drop 1):=fun i hi j u hu=>by
 rw [cD] at hi;have e:=h (i+1) (by omega) j u (by rw [← hu];congr 1;simp [List.getD]);rw [show off+(i+1) * K4.n+j=off+4+i * K4.n+j by show off+(i+1) * 4+j=off+4+i * 4+j;omega] at e;exact e
theorem at_none (h:l.length<=1):At K4 w b off (l.drop 1):=fun i hi=>by rw [cD] at hi;omega
theorem okL_drop (h:okL l) (k:Nat):okL (l.drop k):=fun r hr=>h r (List.mem_of_mem_drop hr)
theorem rat_drop (l:List R4) (k:Nat):rat (l.drop 1) k=rat l (k+1):=by unfold rat;simp only [af,List.getElem?_drop];rw [Nat.add_comm 1 k]
theorem sequence_any (w:World) (p:Int) (v:Value) (l:List R4) (R:Rd K4 w v l) (ok:okL l):Calls prog 82 #[file p v] w (SeqPost w p l):=by
 have B0:=Hh ((aa w.heap.size w).alloc (ac _) (.cells #[.int .i64 p,v] 83));have R0:=Hh (R.below B0);clear R
 by_cases hg:goodF p l
 ·have GA:=Hh (at_bool (show goodFB p l=true from an hg) (Fl.good_any _ p v l R0.out))
  have hl:=hg.2.2.1;have hl2:=hg.2.2.2.1;have HG:=Hh hg;have OK:=Hh ok;clear hg ok;have SA:=Hh (fun w v' l' R R'=>Fl.same_any w p 3 v v' l l' R R');obtain ⟨a,cap,rfl,⟨hc,_⟩,hm,hA⟩:=R0.out;obtain ⟨b,off,rfl,hA⟩:=hA (by omega);have HA:=Hh hA;unfold maxLen at hm;clear hA;have FA:=Hh (fun w v R=>file_any w v (takL l) R);have YES:=Hh (fun h u w'=>sq_yes (w:=w) (p:=p) (l:=l) (w':=w') h u);have NO:=Hh (fun h w'=>sq_no (w:=w) (p:=p) (l:=l) (w':=w') h);have RN:Hid (∀ k,k+1 < l.length->(takL l).take k ++ [(rat (l.drop 1) k).1]=(takL l).take (k+1)):=Hh (fun k h=>by rw [rat_drop];exact tak_next h);have RA:Hid ((takL l).take (l.length - 1)=takL l):=Hh (by rw [← tak_len,br]);have RL:Hid (∀ k,k<=l.length - 1->((takL l).take k).length=k):=Hh (fun k h=>by rw [aW,tak_len];omega);have IS:Hid (isS p l↔seqP (takL l)/\(p=3/\l=fileL (takL l))):=Hh ⟨fun h=>h.2,fun h=>⟨HG.out,h⟩⟩;generalize hn:l.length=n at *;have HN:=Hh hn;clear hn;unfold file at *
  go_enter func82,ntmps82
  go_wp2_with fail;refine GA.out.mono ?_;rintro e w1 ⟨rfl,b1⟩;have B1:=Hh (B0.out.trans (b1.mono B0.out.size));have A1:=Hh (HA.out.below b1);have R1:=Hh (R0.out.below b1);have X1:=(b1.block _ (by simp)).trans (am w _);have c1:=Fl.rc X1 1;have Y1:=Hh X1;clear b1 GA B0 HA R0 X1;have AI:Hid (n<=1->At K4 w1 b off (l.drop 1)):=Hh (fun h=>at_none (by rw [HN.out];exact h));have AR:=Hh (at_drop A1);have KR:=Hh (okL_drop OK 1);have LR:Hid ((l.drop 1).length=n - 1):=Hh (by rw [cD,HN.out]);clear HG OK A1;have hn1:n - 1<=255:=by omega
  have RN2:Hid (∀ k,k < n - 1->(takL l).take k ++ [(rat (l.drop 1) k).1]=(takL l).take (k+1)):=Hh (fun k h=>RN k (by omega));clear RN;generalize l.drop 1=r at *;generalize takL l=L at *;go_wp2
  case' inl =>
   have A2:=Hh (AI (by omega));clear AI AR
  case' inr =>
   have A2:=AR;clear AI AR;generalize off+4=off2 at *
  all_goals
   generalize n - 1=m at *;clear c1
   go_loopw [16,4] (fun i u wr=>∃ (k:Nat),k<=m/\i = .int .i64 k/\Hid (TRel w1 L k u wr)) (fun i _ _=>m - (intOf i).toNat)
   case atStart=>exact ⟨0,aI _,rfl,Hh ⟨by rw [List.take_zero];exact Rw.Ow.nil _ _ _,aa _ _⟩⟩
   case round =>
    obtain ⟨k,hk,rfl,RR⟩:=hrel;obtain ⟨av,cv,ev,hcv,hmv⟩:=RR.own.slice;rw [RL.out k hk] at ev hcv;subst ev
    by_cases hlt:k < m
    ·obtain ⟨c0,c1',c2,c3⟩:=at4 (A2.below RR.bel) k (by rw [LR.out];exact hlt)
     have kv:=(okR_at KR k).1;have RX:=Hh (RN2 k hlt);have RK:=Hh (RL k hk);generalize rat r k=y at *;have W0:IntKind.i64.wrap y.1=y.1:=aR _ (by omega);have zb:=RR.bel.size
     go_wp2_with (at_builtin;refine Rw.push_step underlying33 infoI rfl (by omega) rfl _ _ rfl w1.heap.size _ _ rfl ((RR.out.own.alloc _).alloc _) _ y.1 rfl ?d1 ?d2 ?d3 ?_)
     case d1 =>
      intro j u hu
      match j,hu with
      | 0,hu=>simp [KI,Rw.int] at hu;subst hu;rw [addr_zero];go_simp
     case d2=>rw [RK.out];omega
     case d3=>simp;omega
     intro v' w3 o3 b3
     rw [RX.out] at o3;have N3:Hid (TRel w1 L (k+1) v' w3):=Hh ⟨o3,((RR.bel.alloc zb _).alloc (by simp;omega) _).trans (b3.mono (ac _))⟩;obtain ⟨av',cv',ev',_,_⟩:=o3.slice;rw [RL.out _ (by omega)] at ev';subst ev';clear o3 b3 RR RX RK kv;go_wp2
     go_roundw
     case rel=>exact ⟨k+1,by omega,by go_num,N3⟩
     case measure=>simp [intOf];omega
    ·obtain rfl:k=m:=by omega
     have O2:=RR.own;rw [RA.out] at O2;have RL2:=Hh O2.rd;have BW:=Hh (B1.trans (RR.bel.mono B1.size));have RF:=Hh (R1.below RR.bel);have XF:=bBl RR.bel Y1;clear RR O2 RN2 RL RA A2 KR LR R1 Y1 B1;unfold FilePost file at FA;go_wp2_with fail;refine (FA _ _ RL2).mono ?_;rintro e w4 ⟨u4,rfl,r4,b4⟩;obtain ⟨a4,n4,k4,rfl⟩:∃ a n c,u4 = .slice a n c:=by obtain ⟨a,c,e,_⟩:=r4;exact ⟨a,_,c,e⟩
     have B4:=bTr BW b4;have RF4:=Hh (RF.below b4);have RL4:=Hh (RL2.below b4);have X4:=bBl b4 XF;have r4h:=Hh r4;have BB:Hid (Below w4.heap.size w4 (w4.alloc (.cells #[.int .i64 (fP L),.slice a4 n4 k4] 83))):=Hh ((aa _ _).alloc (ac _) _);have B5:=bTr B4 BB;have RF5:=Hh (RF4.below BB);have RL5:=Hh (RL4.below BB);have RU5:=Hh (r4.below BB);have X5:=bBl BB X4;have Y5:=am w4 (.cells #[.int .i64 (fP L),.slice a4 n4 k4] 83);clear b4 BW RF RL2 XF r4 r4h FA BB B4 RF4 RL4 X4
     by_cases hs:seqP L
     ·have e1:fP L=3:=aj hs
      have e2:fN L=0:=aj hs;have e3:fL L=fileL L:=aj hs;rw [e1] at B5 RF5 RL5 RU5 X5 Y5 ⊢;rw [e3] at RU5;rw [e2];clear e1 e2 e3
      by_cases hq:p=3/\l=fileL L
      ·have E:=Hh (YES (IS.out.2 ⟨hs,hq⟩))
       have S4:=Hh (fun w v' R R'=>at_bool (show sameF p l 3 (fileL L)=true from an hq) (SA w v' (fileL L) R R'));clear YES NO IS SA hs hq;go_upto_region 10 with fail
       (try (rename cap=1=>hc1;subst hc1))
       generalize w4.alloc (.cells #[.int .i64 3,.slice a4 n4 k4] 83)=W at *;generalize w4.heap.size=gF at *;obtain ⟨d0,d1⟩:=rc2 X5;obtain ⟨e0,e1⟩:=rc2 Y5;go_wp2_with fail;refine (S4 _ _ RF5 RU5).mono ?_;rintro e w6 ⟨rfl,b6⟩;have E6:=Hh (E _ _ (RL5.below b6) (bTr B5 b6));clear b6 S4 d0 d1 e0 e1;go_wp2
       go_ret2
       exact E6
      ·have E:=Hh (NO (fun h=>hq (IS.out.1 h).2))
       have S4:=Hh (fun w v' R R'=>at_bool (show sameF p l 3 (fileL L)=false from ak hq) (SA w v' (fileL L) R R'));clear YES NO IS SA hs hq;go_upto_region 10 with fail
       (try (rename cap=1=>hc1;subst hc1))
       generalize w4.alloc (.cells #[.int .i64 3,.slice a4 n4 k4] 83)=W at *;generalize w4.heap.size=gF at *;obtain ⟨d0,d1⟩:=rc2 X5;obtain ⟨e0,e1⟩:=rc2 Y5;go_wp2_with fail;refine (S4 _ _ RF5 RU5).mono ?_;rintro e w6 ⟨rfl,b6⟩;have E6:=Hh (E.out _ (B5.out.trans (b6.mono B5.out.size)));clear b6 S4 d0 d1 e0 e1;go_wp2
       go_ret2
       exact E6.out
     ·have e2:fN L=1:=ah hs
      rw [e2];have E:=Hh (NO.out (fun h=>hs (IS.out.1 h).1));clear YES NO IS SA hs e2 RU5 RL5 RF5 X5 Y5;go_wp2
      go_ret2
      exact E.out _ B5.out
 ·have GA:=Hh (at_bool (show goodFB p l=false from ak hg) (Fl.good_any _ p v l R0.out))
  have E:=Hh (fun w'=>sq_no (w:=w) (p:=p) (l:=l) (w':=w') (fun h=>hg h.1));clear hg ok;obtain ⟨a,cap,rfl,_,hm,hA⟩:=R0.out;clear hA R0;generalize l.length=n at *;unfold file at *
  go_enter func82,ntmps82
  go_wp2_with fail;refine GA.mono ?_;rintro e w1 ⟨rfl,b1⟩;have B1:=bTr B0 b1;clear b1 GA B0;go_wp2
  go_ret2
  exact E _ B1
end Re
namespace Cu
open Go.Maps
open Fs (abs_look)
variable {L:List Ent} {n:Int}
theorem f_none (h:∀ j,j < L.length->∀ e,L[j]? = some e->e.n≠n):fB (L.map Ent.abs) n=false/\fP (L.map Ent.abs) n=0/\fR (L.map Ent.abs) n = []:=by
 have e:Fs.look key n (L.map Ent.abs)=none:=by
  rw [abs_look]
  rw [Fs.look_none.2 fun x hx=>by
   obtain ⟨i,hi⟩:=bH hx
   exact h i (aM.1 hi).1 x hi]
  rfl
 unfold fB fP fR;rw [e];exact ⟨rfl,rfl,rfl⟩
theorem f_some {k:Nat} {c:Ent} (hc:L[k]? = some c) (hn:c.n=n) (h:∀ j,j < k->∀ e,L[j]? = some e->e.n≠n):fB (L.map Ent.abs) n=true/\fP (L.map Ent.abs) n=c.p/\fR (L.map Ent.abs) n=c.l:=by
 have e:Fs.look Ent.n n L=some c:=by
  unfold Fs.look;rw [List.find?_eq_some_iff_getElem];obtain ⟨hk,hc2⟩:=aM.1 hc;refine ⟨by simpa using hn,k,hk,hc2,fun j hj=>?_⟩;have:=h j hj _ (ai (by omega))
  simpa using this
 have e2:Fs.look key n (L.map Ent.abs)=some c.abs:=by rw [abs_look,e];rfl
 unfold fB fP fR;rw [e2];exact ⟨rfl,rfl,rfl⟩
end Cu
namespace Ro
def TabPostO (w:World) (p:Int) (l:List R4) (e:Ending) (w':World):Prop:=∃ u,e = .returned (.tuple #[u,.int .i64 (tabN p l)])/\Ow K5 w' w.heap.size 244 u (tabL p l)/\Below w.heap.size w w'
structure TRel (w:World) (r:List R4) (k:Nat) (u:Value) (L:List E5) (wr:World):Prop where
 own:Ow K5 wr w.heap.size 244 u L
 red:Read r k L
 bel:Below w.heap.size w wr
variable {w:World} {b off:Nat} {l:List R4}
theorem at_drop (h:At K4 w b off l):At K4 w b (off+4) (l.drop 1):=fun i hi j u hu=>by
 rw [cD] at hi;have e:=h (i+1) (by omega) j u (by rw [← hu];congr 1;simp [List.getD]);rw [show off+(i+1) * K4.n+j=off+4+i * K4.n+j by show off+(i+1) * 4+j=off+4+i * 4+j;omega] at e;exact e
theorem at_none (h:l.length<=1):At K4 w b off (l.drop 1):=fun i hi=>by rw [cD] at hi;omega
theorem okL_drop (h:okL l) (k:Nat):okL (l.drop k):=fun r hr=>h r (List.mem_of_mem_drop hr)
def TabEnd (w:World) (p:Int) (l:List R4) (L:List E5):Prop:=(mayP L->∀ u w',Ow K5 w' w.heap.size 244 u L->Below w.heap.size w w'->TabPostO w p l (.returned (.tuple #[u,.int .i64 0])) w')/\(¬ mayP L->∀ w',Below w.heap.size w w'->TabPostO w p l (.returned (.tuple #[.slice none 0 0,.int .i64 2])) w')
theorem tab_end {p:Int} {L:List E5} (hg:goodF p l) (h:scan (l.drop 1)=some L):TabEnd w p l L :=
 ⟨fun hm u w' hu hb=>by
  have e:=tab_yes hg h hm;exact ⟨u,by rw [e.2],by rw [e.1];exact hu,hb⟩,fun hm w' hb=>by
  have e:=tab_no (p:=p) h hm
  exact ⟨_,by rw [e.2],by rw [e.1];exact Rw.Ow.nil _ _ _,hb⟩⟩
theorem tableO_any (w:World) (p:Int) (v:Value) (l:List R4) (R:Rd K4 w v l) (ok:okL l):Calls prog 112 #[file p v] w (TabPostO w p l):=by
 have B0:=Hh ((aa w.heap.size w).alloc (ac _) (.cells #[.int .i64 p,v] 83));have R0:=Hh (R.below B0);have HE:Hid (tabL p l = []/\tabN p l=2->∀ w',Below w.heap.size w w'->TabPostO w p l (.returned (.tuple #[.slice none 0 0,.int .i64 2])) w'):=Hh (fun h w' hb=>⟨_,by rw [h.2],by rw [h.1];exact Rw.Ow.nil _ _ _,hb⟩);clear R
 by_cases hg:goodF p l
 ·have GA:=Hh (at_bool (show goodFB p l=true from an hg) (Fl.good_any _ p v l R0.out))
  have hl:=hg.2.2.1;have hl2:=hg.2.2.2.1;have HG:=Hh hg;have OK:=Hh ok;clear hg ok;obtain ⟨a,cap,rfl,⟨hc,_⟩,hm,hA⟩:=R0.out;obtain ⟨b,off,rfl,hA⟩:=hA (by omega);have HA:=Hh hA;unfold maxLen at hm;clear hA R0;generalize hn:l.length=n at *;have HN:=Hh hn;clear hn;unfold file at *
  go_enter func112,ntmps112
  go_wp2_with fail;refine GA.mono ?_;rintro e w1 ⟨rfl,b1⟩;have B1:=bTr B0 b1;have A1:=Hh (HA.below b1);have c1:w1.cell? ⟨w.heap.size,1,none⟩=some (.slice (some ⟨b,off,none⟩) n cap):=(b1.cell (by simp)).trans (by go_simp);clear b1 GA B0 HA;have HS:Hid (scan (l.drop 1)=none->∀ w',Below w.heap.size w w'->TabPostO w p l (.returned (.tuple #[.slice none 0 0,.int .i64 2])) w'):=Hh (fun h=>HE (tab_stop h));have HT:Hid (∀ L,scan (l.drop 1)=some L->TabEnd w p l L):=Hh (fun L h=>tab_end HG h);have AI:Hid (n<=1->At K4 w1 b off (l.drop 1)):=Hh (fun h=>at_none (by rw [HN.out];exact h));have AR:=Hh (at_drop A1);have KR:=Hh (okL_drop OK 1);have LR:Hid ((l.drop 1).length=n - 1):=Hh (by rw [cD,HN.out]);clear HE HG OK A1;have hn1:n - 1<=255:=by omega
  generalize l.drop 1=r at *;go_wp2
  case' inl =>
   have A2:=Hh (AI (by omega));clear AI AR;generalize off=off2 at *
  case' inr =>
   have A2:=AR;clear AI AR;generalize off+4=off2 at *
  all_goals
   generalize n - 1=m at *
   go_loopw [16,4] (fun i u wr=>∃ (k:Nat) (L:List E5),k<=m/\i = .int .i64 k/\Hid (TRel w1 r k u L wr)) (fun i _ _=>m - (intOf i).toNat)
   case atStart=>exact ⟨0,[],aI _,rfl,Hh ⟨Rw.Ow.nil _ _ _,read_start r,aa _ _⟩⟩
   case round =>
    obtain ⟨k,L,hk,rfl,RR⟩:=hrel;obtain ⟨av,cv,ev,hcv,hmv⟩:=RR.own.slice;have LL:=Hh RR.red.1;generalize L.length=Ln at ev hcv LL;subst ev
    by_cases hlt:k < m
    ·obtain ⟨c0,c1',c2,c3⟩:=at4 (A2.below RR.bel) k (by rw [LR.out];exact hlt)
     have kv:=okR_at KR k;have TA:=Hh (fun w=>take_any w (rat r k) kv);have Q1:=Hh (read_bad RR.red (by rw [LR.out];exact hlt));have Q2:=Hh (read_end RR.red (by rw [LR.out];exact hlt));have Q3:=Hh (read_next RR.red (by rw [LR.out];exact hlt));clear kv
     by_cases h1:okE (takeX (rat r k))
     ·have e1:takeE (rat r k)=takeX (rat r k):=aj h1
      have e2:takeN (rat r k)=0:=aj h1;rw [e1,e2] at TA;have P2:=Hh (Q2 h1);have P3:=Hh (Q3 h1);clear e1 e2 Q1 Q2 Q3 h1;unfold ent rec4 at TA;generalize takeX (rat r k)=x at *;generalize rat r k=y at *
      by_cases h4:x.1=4
      ·have TE:=Hh (HT L (P2 h4))
       clear P2 P3 HS HT;go_wp2_with fail;refine (TA _).mono ?_;rintro e w2 ⟨rfl,b2⟩;have BA:=RR.bel.alloc RR.bel.size (.cells #[.int .u8 y.1,.int .u8 y.2.1,.int .u8 y.2.2.1,.int .u8 y.2.2.2] 36);have B2:=Hh (BA.trans (b2.mono BA.size));have O2:=Hh ((RR.own.alloc (.cells #[.int .u8 y.1,.int .u8 y.2.1,.int .u8 y.2.2.1,.int .u8 y.2.2.2] 36)).keep b2);have BW:Hid (∀ o,Below w.heap.size w (w2.alloc o)):=Hh (fun o=>B1.trans ((B2.alloc B2.size o).mono B1.size));have RW:Hid (∀ o,Ow K5 (w2.alloc o) w.heap.size 244 (.slice av Ln cv) L):=Hh (fun o=>(O2.alloc o).low B1.size);clear BA b2 B2 O2 RR c0 c1' c2 c3 TA
       by_cases hm:mayP L
       ·have E:=Hh (TE.out.1 hm)
        have IT:=Hh (fun w v R=>at_bool (show mayB L=true from an hm) (istable_any w v L R));clear TE hm;go_wp2_with fail;refine (IT _ _ (Rw.Ow.rd (RW _))).mono ?_;rintro e w4 ⟨rfl,b4⟩;have E4:=Hh (E _ _ (Rw.Ow.keep (RW _) b4) (cC (BW _) (b4.mono (Below.size (BW _)))));clear b4 E IT;go_wp2
        go_ret2
        exact E4
       ·have E:=Hh (TE.out.2 hm)
        have IT:=Hh (fun w v R=>at_bool (show mayB L=false from ak hm) (istable_any w v L R));clear TE hm;go_wp2_with fail;refine (IT _ _ (Rw.Ow.rd (RW _))).mono ?_;rintro e w4 ⟨rfl,b4⟩;have E4:=Hh (E _ (cC (BW _) (b4.mono (Below.size (BW _)))));clear b4 E IT;go_wp2
        go_ret2
        exact E4
      ·have PR:=Hh (P3 h4)
       clear P2 P3 HS HT;go_wp2_with fail;refine (TA _).mono ?_;rintro e w2 ⟨rfl,b2⟩;have BA:=RR.bel.alloc RR.bel.size (.cells #[.int .u8 y.1,.int .u8 y.2.1,.int .u8 y.2.2.1,.int .u8 y.2.2.2] 36);have B2:=Hh (BA.trans (b2.mono BA.size));have O2:=Hh ((RR.own.alloc (.cells #[.int .u8 y.1,.int .u8 y.2.1,.int .u8 y.2.2.1,.int .u8 y.2.2.2] 36)).keep b2);have LN:=Hh RR.red.1;have z2:=B2.size;clear BA b2 RR c0 c1' c2 c3 TA
       go_wp2_with (at_builtin;refine Rw.push_step underlying175 infoE rfl (by omega) rfl _ _ rfl w1.heap.size _ _ rfl ((O2.out.alloc _).alloc _) _ x rfl ?d1 ?d2 ?d3 ?_)
       case d1 =>
        intro j u hu
        match j,hu with
        | 0,hu=>simp [K5] at hu;subst hu;go_simp
        | 1,hu=>simp [K5] at hu;subst hu;go_simp
        | 2,hu=>simp [K5] at hu;subst hu;go_simp
        | 3,hu=>simp [K5] at hu;subst hu;go_simp
        | 4,hu=>simp [K5] at hu;subst hu;go_simp
        | j+5,hu=>simp [K5] at hu
       case d2=>rw [LN.out];omega
       case d3=>simp;omega
       intro v' w3 o3 b3
       have N3:Hid (TRel w1 r (k+1) v' (L ++ [x]) w3):=Hh ⟨o3,PR,((B2.alloc z2 _).alloc (by simp;omega) _).trans (b3.mono (ac _))⟩;obtain ⟨av',cv',ev',_,_⟩:=o3.slice;generalize (L ++ [x]).length=Ln' at ev';subst ev';clear o3 b3 O2 B2 PR LN;go_wp2
       go_roundw
       case rel=>exact ⟨k+1,L ++ [x],by omega,by go_num,N3⟩
       case measure=>simp [intOf];omega
     ·have e1:takeE (rat r k)=z5:=ah h1
      have e2:takeN (rat r k)=2:=ah h1;rw [e1,e2] at TA;have E:=Hh (HS (Q1 h1));clear e1 e2 Q1 Q2 Q3 h1 HS HT;unfold ent rec4 at TA;simp only [z5] at TA;generalize rat r k=y at *;go_wp2_with fail;refine (TA _).mono ?_;rintro e w2 ⟨rfl,b2⟩;have BA:=RR.bel.alloc RR.bel.size (.cells #[.int .u8 y.1,.int .u8 y.2.1,.int .u8 y.2.2.1,.int .u8 y.2.2.2] 36);have B2:=Hh (BA.trans (b2.mono BA.size));have O2:=Hh ((RR.own.alloc (.cells #[.int .u8 y.1,.int .u8 y.2.1,.int .u8 y.2.2.1,.int .u8 y.2.2.2] 36)).keep b2);have BW:Hid (∀ o,Below w.heap.size w (w2.alloc o)):=Hh (fun o=>B1.trans ((B2.alloc B2.size o).mono B1.size));clear BA b2 B2 O2 RR c0 c1' c2 c3 TA;go_wp2
      go_ret2
      exact E _ (BW _)
    ·obtain rfl:k=m:=by omega
     have TE:=Hh (HT L (read_all (by rw [LR.out];exact RR.out.red)));have BW:=Hh (B1.trans (RR.bel.mono B1.size));have RW:=Hh (RR.own.low B1.size);clear RR HS HT
     by_cases hm:mayP L
     ·have E:=Hh (TE.out.1 hm)
      have IT:=Hh (fun w v R=>at_bool (show mayB L=true from an hm) (istable_any w v L R));clear TE hm;go_wp2_with fail;refine (IT _ _ (Rw.Ow.rd RW)).mono ?_;rintro e w4 ⟨rfl,b4⟩;have E4:=Hh (E _ _ (Rw.Ow.keep RW b4) (cC BW (b4.mono (Below.size BW))));clear b4 E IT;go_wp2
      go_ret2
      exact E4
     ·have E:=Hh (TE.out.2 hm)
      have IT:=Hh (fun w v R=>at_bool (show mayB L=false from ak hm) (istable_any w v L R));clear TE hm;go_wp2_with fail;refine (IT.out _ _ (Rw.Ow.rd RW.out)).mono ?_;rintro e w4 ⟨rfl,b4⟩;have E4:=Hh (E.out _ (cC BW.out (b4.mono (Below.size BW.out))));clear b4 E IT;go_wp2
      go_ret2
      exact E4.out
 ·have GA:=Hh (at_bool (show goodFB p l=false from ak hg) (Fl.good_any _ p v l R0.out))
  have E:=Hh (HE.out (tab_bad hg));clear hg HE ok;obtain ⟨a,cap,rfl,_,hm,hA⟩:=R0.out;clear hA R0;generalize l.length=n at *;unfold file at *
  go_enter func112,ntmps112
  go_wp2_with fail;refine GA.mono ?_;rintro e w1 ⟨rfl,b1⟩;have B1:=bTr B0 b1;clear b1 GA B0;go_wp2
  go_ret2
  exact E _ B1
end Ro
namespace Cu
open Go.Maps
open Fs (rd_only)
open Ro (tableO_any TabPostO)
attribute [local irreducible] Sd.wpSd wpQuiet
def FilC (w:World) (A:Abs) (n:Int) (e:Ending) (w':World):Prop:=∃ v,e = .returned (file (fP A n) v)/\Rd K4 w' v (fR A n)/\Below w.heap.size w w'
section
variable {s t p:Nat} {F G:Nat->Prop} {c:Cs} {vn vq:Value} {L:List Nd} {Fs:Nat->Nat->Prop} {w w':World}
variable {nn:Nat}
theorem cfile_any (h:Cl w s F c t vn L p vq Fs) (hn:nn < c.S.length) (n:Int):Calls prog 83 #[ptr s,.int .i64 nn,.int .i64 n] w (FilC w (sat c.S nn).1 n):=by
 have B0:=Hh ((aa w.heap.size w).alloc (ac _) (.cells #[.int .i64 0,.slice none 0 0] 83));have X0:=Hh (am w (.cells #[.int .i64 0,.slice none 0 0] 83));have C1:=Hh (cfiles_in (h.below B0) hn);unfold FilesPost at C1;clear h hn;generalize (sat c.S nn).1=A at *;unfold ptr at *
 go_enter func83,ntmps83
 go_wp2_with fail;refine C1.mono ?_;rintro e w1 ⟨v,rfl,hv,b1⟩;obtain ⟨L,hL,rfl⟩:=hv (fun k=>k=w.heap.size) (fun k e=>by rw [e];simp);have FO:=Hh hL.foff;have X1:=Hh (bBl b1 X0);have B1:=bTr B0 b1;have FI:=Hh hL.file;have hlen:L.length<=9223372036854775807:=by
  obtain ⟨_,_,_,⟨_,_⟩,hm,_⟩:=hL.rd;unfold maxLen at hm
  omega
 obtain ⟨a,cap,rfl,_,_,h3⟩:=hL.rd;have H3:=Hh h3;have NO:Hid ((∀ j,j < L.length->∀ e,L[j]? = some e->e.n≠n)->fB (L.map Ent.abs) n=false/\fP (L.map Ent.abs) n=0/\fR (L.map Ent.abs) n = []):=Hh f_none;have YES:Hid (∀ (k:Nat) (c:Ent),L[k]? = some c->c.n=n->(∀ j,j < k->∀ e,L[j]? = some e->e.n≠n)->fB (L.map Ent.abs) n=true/\fP (L.map Ent.abs) n=c.p/\fR (L.map Ent.abs) n=c.l):=Hh (fun _ _=>f_some);have BB:=Hh (aa w1.heap.size w1);clear hv hL h3 b1 C1 X0 B0;generalize hN:L.length=N at *;have HN:=Hh hN;clear hN;go_wp2
 go_loopw [13] (fun i wr=>∃ k:Nat,k<=N/\i = .int .i64 k/\Hid (∀ j,j < k->∀ e,L[j]? = some e->e.n≠n)/\Hid (Below w1.heap.size w1 wr)) (fun i _=>N - (intOf i).toNat)
 case atStart=>exact ⟨0,aI _,rfl,fun j hj=>by omega,BB⟩
 case round =>
  clear BB;obtain ⟨k,hk,rfl,hb,B⟩:=hrel
  by_cases hlt:k < N
  ·have hkL:k < L.length:=by have:=HN.out;omega
   obtain ⟨c,hc⟩:∃ c,L[k]? = some c:=⟨_,ai hkL⟩;obtain ⟨b,off,rfl,hA⟩:=H3 (by omega);obtain ⟨x0,x1,x2⟩:=at3 (hA.below B) hc;have HAA:=Hh hA;have RF:=Hh (FI c (bo hc));have FF:=Hh (FO c (bo hc));have Y:=Hh (YES k c hc)
   have NB:Hid (c.n≠n->∀ j,j < k+1->∀ e,L[j]? = some e->e.n≠n):=Hh (fun he j hj e hje=>by
    by_cases ej:j=k
    ·subst ej
     rw [hc] at hje;obtain rfl:=bh hje;exact he
    ·exact hb j (by omega) e hje)
   clear hc hkL hA;unfold Ent.sl at x2 RF FF;generalize c.a=ca at *;generalize c.cap=ccap at *;generalize c.p=cp at *;generalize c.n=cn at *;generalize c.l=cl at *;have Z0:=Hh (am wr (.cells #[.int .i64 cn,.int .i64 cp,.slice ca cl.length ccap] 85));have BN:=Hh ((aa wr.heap.size wr).alloc (ac _) (.cells #[.int .i64 cn,.int .i64 cp,.slice ca cl.length ccap] 85));go_upto_region 4 with fail;clear x0 x1 x2;generalize wr.alloc (.cells #[.int .i64 cn,.int .i64 cp,.slice ca cl.length ccap] 85)=W at *;have B2:=bTr B BN;clear BN B;generalize wr.heap.size=gx at *;obtain ⟨y0,y1,y2⟩:=rc3 Z0
   by_cases he:cn=n
   ·have Y1:=Hh (Y he hb)
    subst he;have XW:=Hh (bBl B2 X1);obtain ⟨z0,z1,f0,f1⟩:=rf2 XW;have R1:=Hh (sto2_row XW cp (.slice ca cl.length ccap));have BS:=Hh (sto2_below (p:=cp) (v:=.slice ca cl.length ccap) (bTr B1 B2) (ac _));have RS:=Hh (rd_only (RF.below B2) (G:=fun k=>k=w.heap.size) FF ((Only.set (fun k=>k=w.heap.size) W (a:=⟨w.heap.size,0,none⟩) rfl (.int .i64 cp)).trans (Only.set (fun k=>k=w.heap.size) _ (a:=⟨w.heap.size,1,none⟩) rfl (.slice ca cl.length ccap)) fun _ _ g=>g))
    have E:Hid (FilC w (L.map Ent.abs) cn (.returned (file cp (.slice ca cl.length ccap))) (sto2 W w.heap.size cp (.slice ca cl.length ccap))):=Hh (by
     obtain ⟨y1,y2,y3⟩:=Y1;refine ⟨_,by rw [y2],?_,BS.out⟩;rw [y3]
     exact RS)
    clear Y Y1 RF FF NO YES hb NB X1 Z0 B2 BS RS;generalize w.heap.size=g0 at *;go_wp2
    (try simp only [Exit.inBlock,Exit.then])
    exact aA (results_file (p:=6) rfl _ _ g0 cp (.slice ca cl.length ccap) rfl R1) rfl E
   ·have NB1:=Hh (NB he)
    clear Y RF FF NB hb;go_wp2
    go_roundw
    case rel=>exact ⟨k+1,by omega,by go_num,NB1,B2⟩
    case measure=>simp [intOf];omega
  ·obtain rfl:k=N:=by omega
   have E:=Hh (NO (fun j hj=>hb j (by have:=HN.out;omega)));have XW:=Hh (bBl B X1);obtain ⟨z0,z1,f0,f1⟩:=rf2 XW;have R1:=Hh (sto2_row XW 0 (.slice none 0 0));have BS:=Hh (sto2_below (p:=0) (v:=.slice none 0 0) (bTr B1 B) (ac _))
   have E1:Hid (FilC w (L.map Ent.abs) n (.returned (file 0 (.slice none 0 0))) (sto2 wr w.heap.size 0 (.slice none 0 0))):=Hh (by
    obtain ⟨y1,y2,y3⟩:=E;refine ⟨_,by rw [y2],?_,BS.out⟩;rw [y3]
    exact Rw.Rd.nil _)
   clear NO YES hb E BS B X1;generalize w.heap.size=g0 at *;go_wp2
   (try simp only [Exit.inBlock,Exit.then])
   exact aA (results_file (p:=6) rfl _ _ g0 0 (.slice none 0 0) rfl R1) rfl E1
def TbC (w:World) (l:List E5) (e:Ending) (w':World):Prop:=∃ u,e = .returned u/\Ow K5 w' w.heap.size 244 u l/\Below w.heap.size w w'
theorem ctable_any (h:Cl w s F c t vn L p vq Fs) (hn:nn < c.S.length) {k:Int} (hk:0<=k/\k<=100):Calls prog 87 #[ptr s,.int .i64 nn,.int .i64 k] w (TbC w (tabL (fP (sat c.S nn).1 (32+k)) (fR (sat c.S nn).1 (32+k)))):=by
 have C1:=Hh (cfile_any h hn (32+k));have OK:=Hh (fR_ok (h.sto hn).okA (32+k));have hw:=aR (32+k) (by omega);unfold FilC at C1;clear h hn;generalize (sat c.S nn).1=A at *;generalize fP A (32+k)=fp at *;generalize fR A (32+k)=fr at *;unfold ptr at *
 go_enter func87,ntmps87
 go_wp2_with fail;refine C1.mono ?_;rintro e w1 ⟨v,rfl,rv,b1⟩;have C2:=Hh (tableO_any w1 fp v fr rv OK);have B1:=Hh b1;obtain ⟨a,cap,rfl,_⟩:=rv.slice;unfold TabPostO at C2;clear C1 rv b1 OK;generalize tabL fp fr=l at *;generalize tabN fp fr=z at *;generalize fr.length=n at *;unfold file at *;go_wp2_with fail;refine C2.mono ?_;rintro e w2 ⟨u,rfl,ow,b2⟩;have E:Hid (TbC w l (.returned u) w2):=Hh ⟨u,rfl,ow.low B1.size,bTr B1 b2⟩;clear C2 ow b2 B1;go_wp2
 go_ret
 exact E
end
end Cu
namespace Cu
open Go.Extern.Stop Go.Stop Go.Extern
open Fs (Glob isTypeOf valP valE typP mKind mElem mImp mAsg kindP kindE elemP impE asgE elvP nilP setE valF typF nilF kinF eleF impF asgF elvF AsPost)
def flw (n e:Int):Value:=.agg #[.int .i64 n,.iface 25 (.int .i64 e)]
def flaw (n e:Int):Value:=.iface 166 (flw n e)
theorem isTypeOfW (v:Value) (w:World):(Extern.ReflectliteType.typeOf #[.iface 166 v]).run prog w = .ok (.iface 222 (.agg #[.pointer (some ⟨1,166,none⟩)])) w:=by kernel_rfl
theorem hasUnwrapW (v:Value) (xT:TypeId) (w:World):(Instr.typeAssert (.iface 166 v) xT 227 true).run prog w = .ok (.tuple #[.iface 166 v,.bool true]) w:=run_typeAssert_hasB underlying227 (by kernel_rfl) v xT w
theorem methodUnwrapW (v : Value) (w : World) : (Go.method 477 166 v "Unwrap").run Tryz.prog w = .ok (252, v) w := by kernel_rfl
theorem wunwrap_any (w:World) (n:Int) (x:Value):Calls prog 252 #[.agg #[.int .i64 n,x]] w fun e w'=>e = .returned x/\Below w.heap.size w w':=by
 go_enter func252,ntmps252
 go_wp2
 go_ret
 exact ⟨rfl,(aa w.heap.size w).alloc (ac _) _⟩
theorem asgW (w:World):(asgF #[.agg #[.pointer (some ⟨1,166,none⟩)],.iface 222 (.agg #[.pointer (some ⟨1,25,none⟩)])]).run prog w = .ok (.bool false) w:=by kernel_rfl
theorem noAsW (v:Value) (xT:TypeId) (w:World):(Instr.typeAssert (.iface 166 v) xT 236 true).run prog w = .ok (.tuple #[.nilIface,.bool false]) w:=run_typeAssert_lacksB underlying236 (by kernel_rfl) (by kernel_rfl) v xT w
theorem was_loop (n e:Int) (tb b:Nat) (w:World) (hb:w.cell? ⟨b,0,none⟩=some (.pointer (some ⟨tb,0,none⟩))) (ht:w.heap[tb]? = some (.cells #[.int .i64 0] 25 (0,0))) :
 Calls prog 104 #[flaw n e,.iface 157 (.pointer (some ⟨tb,0,none⟩)),.agg #[.pointer (some ⟨1,157,none⟩),.pointer (some ⟨b,0,none⟩),.int .u64 150],.iface 222 (.agg #[.pointer (some ⟨1,25,none⟩)])] w (AsPost w tb e):=by
 have h42:=@run_callFunc_extern prog 94 _ Extern.ReflectliteType.typeOf func94 (by kernel_rfl) (by kernel_rfl) (by kernel_rfl) (by kernel_rfl);have h102:=@run_callFunc_extern prog 261 _ asgF func261 (by kernel_rfl) (by kernel_rfl) (by kernel_rfl) (by kernel_rfl);have h60:=@run_callFunc_extern prog 125 _ elvF func125 (by kernel_rfl) (by kernel_rfl) (by kernel_rfl) (by kernel_rfl);have h50:=@run_callFunc_extern prog 101 _ valF func101 (by kernel_rfl) (by kernel_rfl) (by kernel_rfl) (by kernel_rfl);have h61:=@run_callFunc_extern prog 126 _ ReflectliteValue.set func126 (by kernel_rfl) (by kernel_rfl) (by kernel_rfl) (by kernel_rfl);have tF:=isTypeOfW;have tE:=isTypeOf;have mA:=mAsg;have aF:=asgW;have aE:=asgE;have nA:=noAsW;have uF:=hasUnwrapW;have mU:=methodUnwrapW;have vE:=valE;have HB:=Hh hb;have HT:=Hh ht;have B0:=Hh ((aa w.heap.size w).alloc (ac _) (.cells #[.pointer (some ⟨1,157,none⟩),.pointer (some ⟨b,0,none⟩),.int .u64 150] 196));clear hb ht;unfold flaw flw
 go_enter func104,ntmps104
 go_wp2;refine wp_loop_rounds 2 ?_;rw [rounds_succ]
 go_wp2_with (go_at_call 252;refine (wunwrap_any _ _ _).mono ?_;rintro ev w1 ⟨rfl,b1⟩)
 have B1:=bTr B0 b1;have G0:=(b1.block _ (by simp)).trans (am w _);obtain ⟨e0,e1,e2⟩:=rc3 G0;have hbl:=aC _ _ HB;have el:=elvP ⟨b,0,none⟩ ⟨tb,0,none⟩ w1 ((B1.cell hbl).trans HB);have htl:=ay HT;have T1:=(B1.block tb htl).trans HT;have T2:=(aQ w1 (.cells #[.int .i64 e] 25) tb (by have:=B1.out.size;omega)).trans T1;have st:=setE ⟨tb,0,none⟩ ⟨w1.heap.size,0,none⟩ e (.int .i64 0) (w1.alloc (.cells #[.int .i64 e] 25)) (by simp) (row_cell T2 0) (row_frozen T2 0);have RES:Hid (AsPost w tb e (.returned (.bool true)) ((w1.alloc (.cells #[.int .i64 e] 25)).setCell ⟨tb,0,none⟩ (.int .i64 e))):=by
  refine ⟨rfl,?_,?_⟩
  ·have:=Rw.heap_setCell_same (j:=0) T2 (.int .i64 e)
   rw [this]
   simp
  ·exact (Only.of_below (B1.alloc B1.size _)).trans (Only.set (fun k=>k=tb) _ (a:=⟨tb,0,none⟩) rfl _) fun _ _ g=>g
 clear b1 G0 T1 T2 HB HT B0 B1 hbl htl;rw [rounds_succ];go_wp2
 go_ret
 exact RES
theorem was_any (n e:Int) (tb:Nat) (w:World) (hg:Glob w) (ht:w.heap[tb]? = some (.cells #[.int .i64 0] 25 (0,0))) :
 Calls prog 75 #[flaw n e,.iface 157 (.pointer (some ⟨tb,0,none⟩))] w (AsPost w tb e):=by
 have h50:=@run_callFunc_extern prog 101 _ valF func101 (by kernel_rfl) (by kernel_rfl) (by kernel_rfl) (by kernel_rfl);have h51:=@run_callFunc_extern prog 102 _ typF func102 (by kernel_rfl) (by kernel_rfl) (by kernel_rfl) (by kernel_rfl);have h52:=@run_callFunc_extern prog 103 _ nilF func103 (by kernel_rfl) (by kernel_rfl) (by kernel_rfl) (by kernel_rfl);have h95:=@run_callFunc_extern prog 244 _ kinF func244 (by kernel_rfl) (by kernel_rfl) (by kernel_rfl) (by kernel_rfl);have h104:=@run_callFunc_extern prog 263 _ eleF func263 (by kernel_rfl) (by kernel_rfl) (by kernel_rfl) (by kernel_rfl);have h105:=@run_callFunc_extern prog 264 _ impF func264 (by kernel_rfl) (by kernel_rfl) (by kernel_rfl) (by kernel_rfl);have f6:=valP;have f7:=typP;have mK:=mKind;have mE:=mElem;have mI:=mImp;have kP:=kindP;have kE:=kindE;have eP:=elemP;have iE:=impE;have hlt:=Nat.lt_of_le_of_lt (aI _) (aC _ _ hg);have htl:=ay ht;have B2:Below w.heap.size w ((w.alloc (.cells #[.pointer (some ⟨tb,0,none⟩)] 157)).alloc (.cells #[.pointer (some ⟨1,157,none⟩),.pointer (some ⟨w.heap.size,0,none⟩),.int .u64 150] 196)):=((aa w.heap.size w).alloc (ac _) _).alloc (by simp) _;have n8:=nilP ⟨w.heap.size,0,none⟩ ⟨tb,0,none⟩ ((w.alloc (.cells #[.pointer (some ⟨tb,0,none⟩)] 157)).alloc (.cells #[.pointer (some ⟨1,157,none⟩),.pointer (some ⟨w.heap.size,0,none⟩),.int .u64 150] 196)) (by simp);have hg2:((w.alloc (.cells #[.pointer (some ⟨tb,0,none⟩)] 157)).alloc (.cells #[.pointer (some ⟨1,157,none⟩),.pointer (some ⟨w.heap.size,0,none⟩),.int .u64 150] 196)).cell? ⟨0,0,none⟩=some (.iface 222 (.agg #[.pointer (some ⟨1,107,none⟩)])):=hg.below B2;have AL:=Hh (was_loop n e tb w.heap.size ((w.alloc (.cells #[.pointer (some ⟨tb,0,none⟩)] 157)).alloc (.cells #[.pointer (some ⟨1,157,none⟩),.pointer (some ⟨w.heap.size,0,none⟩),.int .u64 150] 196)) (by simp) ((B2.block tb htl).trans ht));have BB:=Hh B2;have HTL:=Hh htl;clear hg ht B2 htl;unfold flaw flw at *
 go_enter func75,ntmps75
 go_wp2_with (go_at_call 104;refine AL.mono ?_;rintro ev w1 ⟨rfl,r1,o1⟩)
 go_ret
 exact ⟨rfl,r1,(Only.of_below BB).trans o1 fun _ _ g=>g⟩
theorem cnumber_any (n e:Int) (w:World) (hg:Glob w):Calls prog 59 #[flaw n e] w fun ev w'=>ev = .returned (.int .i64 e)/\Below w.heap.size w w':=by
 have B0:=Hh ((aa w.heap.size w).alloc (ac _) (.cells #[.int .i64 0] 25));have AS:=Hh (was_any n e w.heap.size (w.alloc (.cells #[.int .i64 0] 25)) (hg.below B0) (am w _));clear hg;unfold flaw flw at *
 go_enter func59,ntmps59
 go_wp2_with fail;refine AS.mono ?_;rintro ev w1 ⟨rfl,r1,o1⟩;have c1:=Fl.rc r1 0;have BB:=Hh (B0.trans (o1.below (by simp) fun k hk=>by rw [hk];exact ac _));clear r1 o1 B0 AS;go_wp2
 go_ret
 exact ⟨rfl,BB⟩
open Go.Maps
open Re (sequence_any next_any)
attribute [local irreducible] Sd.wpSd wpQuiet
def SqC (w:World) (A:Abs) (nn:Int) (e:Ending) (w':World):Prop:=Below w.heap.size w w'/\((sqB A=true/\∃ u,e = .returned (.tuple #[u,.nilIface])/\Rd KI w' u (sqL A))\/(sqB A=false/\e = .returned (.tuple #[.slice none 0 0,flaw nn 2])))
theorem sN_zero (A:Abs) (h:sN (fP A 40) (fR A 40)=0):sqB A=true:=by
 unfold sqB;rw [h,aG];refine ⟨?_,rfl⟩
 cases hb:fB A 40 with
 | true=>rfl
 | false =>
   exfalso
   have e:Fs.look Fs.key 40 A=none:=by
    unfold fB at hb
    cases hl:Fs.look Fs.key 40 A with
    | none=>rfl
    | some x=>rw [hl] at hb;cases hb
   have p0:fP A 40=0:=by unfold fP;rw [e]
   unfold sN at h
   split at h
   ·rename_i g
    have:=g.2.2.1
    omega
   ·omega
theorem sN_two (A:Abs) (h:¬ sN (fP A 40) (fR A 40)=0):sqB A=false/\sN (fP A 40) (fR A 40)=2:=by
 refine ⟨?_,?_⟩
 ·unfold sqB
  rw [ak h,Bool.and_false]
 ·unfold sN at h ⊢
  split
  ·rename_i g;rw [aj g] at h;exact absurd rfl h
  ·rfl
section
variable {s t p:Nat} {F G:Nat->Prop} {c:Cs} {vn vq:Value} {L:List Nd} {Fs:Nat->Nat->Prop} {w w':World}
theorem csequence_any (h:Cl w s F c t vn L p vq Fs) {nn:Nat} (hn:nn < c.S.length):Calls prog 53 #[ptr s,.int .i64 nn] w (SqC w (sat c.S nn).1 nn):=by
 have C1:=Hh (cfile_any h hn 40);have OK:=Hh (fR_ok (h.sto hn).okA 40);unfold FilC at C1;clear h hn;generalize (sat c.S nn).1=A at *;have Z:=Hh (sN_zero A);have T:=Hh (sN_two A);have HL:Hid (sL (fP A 40) (fR A 40)=sqL A):=Hh rfl;unfold ptr at *
 go_enter func53,ntmps53
 go_wp2_with fail;refine C1.mono ?_;rintro e w1 ⟨v,rfl,rv,b1⟩;have C2:=Hh (sequence_any w1 (fP A 40) v (fR A 40) rv OK);have B1:=Hh b1;obtain ⟨a,cap,rfl,_⟩:=rv.slice;unfold SeqPost at C2;rw [HL.out] at C2;clear C1 rv b1 OK HL;generalize sN (fP A 40) (fR A 40)=z at *;generalize fP A 40=fp at *;generalize (fR A 40).length=n at *;unfold file at *;go_wp2_with fail;refine C2.mono ?_;rintro e w2 ⟨u,rfl,ru,b2⟩;have B2:=bTr B1 b2;have RU:=Hh ru;obtain ⟨ua,uc,rfl,_⟩:=RU.slice;clear ru b2 C2 B1;generalize (sqL A).length=ln at RU ⊢
 by_cases hz:z=0
 ·have E:Hid (SqC w A nn (.returned (.tuple #[.slice ua ln uc,.nilIface])) w2):=Hh ⟨B2,.inl ⟨Z hz,_,rfl,RU⟩⟩
  subst hz;clear Z T RU B2;go_wp2
  go_ret2
  exact E
 ·obtain ⟨t1,t2⟩:=T hz
  subst t2;have E:Hid (SqC w A nn (.returned (.tuple #[.slice none 0 0,.iface 166 (.agg #[.int .i64 nn,.iface 25 (.int .i64 2)])])) w2):=Hh ⟨B2,.inr ⟨t1,rfl⟩⟩;clear Z T RU B2 hz t1;go_wp2
  go_ret2
  exact E
variable {l:List Int}
theorem nx_in (hs:seqP l) (h:c.pl < l.length):nE l c.pl=0/\nR l c.pl=iat l (at0 c l)/\nT l c.pl=(at1 c l:Int):=by
 have hx:nxP l c.pl:=⟨hs,by omega,by omega⟩;unfold nE nR nT at1 at0;rw [aj hx,aj hx,aj hx,ah (by omega),a7];refine ⟨rfl,rfl,?_⟩
 by_cases e:c.pl+1=l.length
 ·rw [aj (by omega),aj e];rfl
 ·rw [ah (by omega),ah e];omega
theorem nx_out (hs:seqP l) (h:¬ c.pl < l.length):nE l c.pl=1/\nR l 0=iat l (at0 c l)/\nT l 0=(at1 c l:Int):=by
 have hx:¬ nxP l c.pl:=fun g=>by have:=g.2.2;omega
 have hy:nxP l 0:=⟨hs,by omega,by have:=hs.1;omega⟩;unfold nE nR nT at1 at0;rw [ah hx,aj hy,aj hy,aj (by omega)];refine ⟨rfl,rfl,?_⟩
 by_cases e:0+1=l.length
 ·rw [aj (by omega),aj e];rfl
 ·rw [ah (by omega),ah e];rfl
def NxC (w:World) (s:Nat) (x:Int) (n:Nat) (e:Ending) (w':World):Prop:=e = .returned (.int .i64 x)/\∃ w1,Below w.heap.size w w1/\w'=w1.setCell ⟨s,2,none⟩ (.int .i64 n)
theorem cnext_any (h:Cl w s F c t vn L p vq Fs) {v:Value} (R:Rd KI w v l) (hs:seqP l):Calls prog 61 #[ptr s,v] w (NxC w s (iat l (at0 c l)) (at1 c l)):=by
 have C1:=Hh (next_any w v l c.pl R);have C2:=Hh (fun w1 b=>next_any w1 v l 0 (R.below (w':=w1) b));have H:=Hh h;have d2:=h.cells.2.2.1;have IN:=Hh (nx_in (c:=c) hs);have OUT:=Hh (nx_out (c:=c) hs);obtain ⟨a,cap,rfl,_⟩:=R.slice;clear h hs R;unfold NextPost at C1 C2;generalize iat l (at0 c l)=x at *;generalize at1 c l=y at *
 by_cases hp:c.pl < l.length
 ·obtain ⟨e1,e2,e3⟩:=IN hp
  rw [e1,e2,e3] at C1;have HH:=Hh (fun w1 b=>(H.below (w':=w1) b).cells.2.2.1);have HF:=Hh (fun w1 b=>(H.below (w':=w1) b).frz 2);clear e1 e2 e3 IN OUT C2 hp H;generalize c.pl=pl at *;generalize l.length=n at *;unfold ptr at *
  go_enter func61,ntmps61
  go_wp2_with fail;refine C1.mono ?_;rintro e w1 ⟨rfl,b1⟩;have k2:=HH.out w1 b1;have f2:=HF.out w1 b1;have E:Hid (NxC w s x y (.returned (.int .i64 x)) (w1.setCell ⟨s,2,none⟩ (.int .i64 y))):=Hh ⟨rfl,w1,b1,rfl⟩;clear C1 HH HF b1 d2;go_wp2
  go_ret
  exact E
 ·obtain ⟨e1,e2,e3⟩:=OUT hp
  rw [e1] at C1;rw [e2,e3] at C2;have HH:=Hh (fun w1 b=>(H.below (w':=w1) b).cells.2.2.1);have HF:=Hh (fun w1 b=>(H.below (w':=w1) b).frz 2);clear e1 e2 e3 IN OUT hp H;generalize nR l c.pl=x0 at *;generalize nT l c.pl=y0 at *;generalize nE l 0=z0 at *;generalize c.pl=pl at *;generalize l.length=n at *;unfold ptr at *
  go_enter func61,ntmps61
  go_wp2_with fail;refine C1.mono ?_;rintro e w1 ⟨rfl,b1⟩;have D2:=Hh (C2 w1 b1);have B1:=Hh b1;clear C1 C2 b1 d2;go_wp2_with fail;refine D2.mono ?_;rintro e w2 ⟨rfl,b2⟩;have B2:=bTr B1 b2;have k2:=HH.out w2 B2;have f2:=HF.out w2 B2;have E:Hid (NxC w s x y (.returned (.int .i64 x)) (w2.setCell ⟨s,2,none⟩ (.int .i64 y))):=Hh ⟨rfl,w2,B2,rfl⟩;clear D2 HH HF B1 B2 b2;go_wp2
  go_ret
  exact E
end
def er (a:Option (Int×Int)):Value:=match a with | none=>.nilIface | some x=>flaw x.1 x.2
def KE:Rw.Kind (Option (Int×Int)):=⟨fun a=>[er a],1,by decide,fun _=>rfl,fun a u h=>by simp at h;subst h;cases a <;> rfl,none⟩
theorem infoE1:(prog.info? 107).map (fun i=>(i.zero,i.size,i.bytes))=some (some .nilIface,1,16):=by kernel_rfl
theorem join_none (w:World) (b:Nat) (h0:w.cell? ⟨b,0,none⟩=some .nilIface) (h1:w.cell? ⟨b,1,none⟩=some .nilIface):Calls prog 54 #[.slice (some ⟨b,0,none⟩) 2 2] w fun e w'=>e = .returned .nilIface/\Below w.heap.size w w':=by
 go_enter func54,ntmps54
 go_wp2;refine wp_loop_rounds 3 ?_;rw [rounds_succ];go_wp2;rw [rounds_succ];go_wp2;rw [rounds_succ];go_wp2
 go_ret
 exact ⟨rfl,aa _ _⟩
structure JI (w:World) (g6:Nat) (v:Value) (l:List (Option (Int×Int))) (wr:World):Prop where
 row:wr.heap[g6]? = some (.cells #[v] 170 (0,0))
 own:Ow KE wr w.heap.size 107 v l
 bel:Below w.heap.size w wr
 lo:w.heap.size<=g6
variable {w w1 w2:World} {g6:Nat} {v v':Value} {l l':List (Option (Int×Int))}
theorem JI.push (h:JI w g6 v l w1) (own:Ow KE w2 w.heap.size 107 v' l') (gr:w1.grownBy w2 v.ownBlock):w2.heap[g6]? = some (.cells #[v] 170 (0,0))/\JI w g6 v' l' (w2.setCell ⟨g6,0,none⟩ v'):=by
 have r2:=(gr.block g6 (ay h.row) (fun e=>h.own.apart h.row (by decide) e.symm)).trans h.row;have b2:=h.bel.grown gr h.bel.size fun j e=>(aU h.own j e).1;exact ⟨r2,Rw.heap_setCell_same (j:=0) r2 v',own.far (p:=⟨g6,0,none⟩) r2 (by decide) _,b2.setCell h.lo _,h.lo⟩
theorem JI.below (h:JI w g6 v l w1) (b:Below w1.heap.size w1 w2):JI w g6 v l w2:=⟨(b.block g6 (ay h.row)).trans h.row,h.own.keep b,h.bel.trans (b.mono h.bel.size),h.lo⟩
theorem join_l (w:World) (b:Nat) (n0 z0:Int) (h0:w.cell? ⟨b,0,none⟩=some (flaw n0 z0)) (h1:w.cell? ⟨b,1,none⟩=some .nilIface):Calls prog 54 #[.slice (some ⟨b,0,none⟩) 2 2] w fun e w'=>(∃ p,e = .returned (.iface 168 (.pointer (some p))))/\Below w.heap.size w w':=by
 have H0:=Hh h0;have H1:=Hh h1;obtain ⟨i0,hi0,hz0,hz1,hz2⟩:=cz infoE1;unfold flaw flw at *
 go_enter func54,ntmps54
 go_wp2;refine wp_loop_rounds 3 ?_;rw [rounds_succ];go_wp2;rw [rounds_succ];go_wp2;rw [rounds_succ]
 go_wp2_with (at_make;refine wpList_make_own _ rfl _ _ _ rfl w.heap.size 107 i0 .nilIface 1 underlying167 hi0 hz0 hz1 .i64 .i64 1 1 rfl rfl rfl (by rw [hz2];decide) (by unfold maxLen;decide) (ac _) ?_)
 intro w2 ow2 gr2
 have B2:=Below.grown (aa w.heap.size w) gr2 (ac _) (fun j e=>by cases e);have J0:Hid (JI w w2.heap.size (.slice (some ⟨w.heap.size,0,none⟩) 0 1) [] (w2.alloc (.cells #[.slice (some ⟨w.heap.size,0,none⟩) 0 1] 170))):=Hh ⟨am w2 _,cB ow2 _,B2.alloc B2.size _,B2.size⟩;clear ow2 gr2 B2 h0 h1 hi0 hz0 hz1 hz2;go_upto_region 11 with fail;generalize (w2.alloc (.cells #[.slice (some ⟨w.heap.size,0,none⟩) 0 1] 170))=wa at *;generalize w2.heap.size=g6 at *;have k0:=bCe J0.bel H0;go_wp2;refine wp_loop_rounds 3 ?_;rw [rounds_succ];have c6:=row_cell J0.row 0;have J0a:=Hh (J0.below ((aa wa.heap.size wa).alloc (ac _) (.cells #[.iface 166 (.agg #[.int .i64 n0,.iface 25 (.int .i64 z0)])] 107)))
 go_wp2_with (at_builtin;refine push_at (K:=KE) underlying167 infoE1 rfl (by omega) rfl _ _ rfl w.heap.size _ _ rfl J0a.out.own _ (some (n0,z0)) rfl ?d1 ?d2 ?d3 ?_)
 case d1 =>
  intro j u hu
  match j,hu with
  | 0,hu=>simp [KE,er,flaw,flw] at hu;subst hu;go_simp
  | j+1,hu=>simp [KE] at hu
 case d2=>simp
 case d3=>exact J0a.bel.size
 intro v0 wb0 o0 gr0 _
 obtain ⟨r0,j0⟩:=J0a.push o0 (by simpa using gr0);have J0b:=Hh j0;have c6':=row_cell r0 0;have f6':=row_frozen r0 0;obtain ⟨av0,cv0,ev0,_⟩:=o0.slice;clear o0 gr0 j0 J0 J0a c6 k0;generalize List.length _=lv0 at ev0;subst ev0;have k0:=bCe J0b.bel H1;go_upto_region 12 with fail;clear c6' f6' r0;generalize (wb0.setCell ⟨g6,0,none⟩ (.slice av0 lv0 cv0))=wc0 at *;rw [rounds_succ];have E:=Hh J0b.bel;go_wp2;rw [rounds_succ];go_wp2
 go_ret
 exact ⟨⟨_,rfl⟩,E⟩
theorem join_r (w:World) (b:Nat) (n1 z1:Int) (h0:w.cell? ⟨b,0,none⟩=some .nilIface) (h1:w.cell? ⟨b,1,none⟩=some (flaw n1 z1)):Calls prog 54 #[.slice (some ⟨b,0,none⟩) 2 2] w fun e w'=>(∃ p,e = .returned (.iface 168 (.pointer (some p))))/\Below w.heap.size w w':=by
 have H0:=Hh h0;have H1:=Hh h1;obtain ⟨i0,hi0,hz0,hz1,hz2⟩:=cz infoE1;unfold flaw flw at *
 go_enter func54,ntmps54
 go_wp2;refine wp_loop_rounds 3 ?_;rw [rounds_succ];go_wp2;rw [rounds_succ];go_wp2;rw [rounds_succ]
 go_wp2_with (at_make;refine wpList_make_own _ rfl _ _ _ rfl w.heap.size 107 i0 .nilIface 1 underlying167 hi0 hz0 hz1 .i64 .i64 1 1 rfl rfl rfl (by rw [hz2];decide) (by unfold maxLen;decide) (ac _) ?_)
 intro w2 ow2 gr2
 have B2:=Below.grown (aa w.heap.size w) gr2 (ac _) (fun j e=>by cases e);have J0:Hid (JI w w2.heap.size (.slice (some ⟨w.heap.size,0,none⟩) 0 1) [] (w2.alloc (.cells #[.slice (some ⟨w.heap.size,0,none⟩) 0 1] 170))):=Hh ⟨am w2 _,cB ow2 _,B2.alloc B2.size _,B2.size⟩;clear ow2 gr2 B2 h0 h1 hi0 hz0 hz1 hz2;go_upto_region 11 with fail;generalize (w2.alloc (.cells #[.slice (some ⟨w.heap.size,0,none⟩) 0 1] 170))=wa at *;generalize w2.heap.size=g6 at *;have k0:=bCe J0.bel H0;go_wp2;refine wp_loop_rounds 3 ?_;rw [rounds_succ];go_wp2;clear k0;have k0:=bCe J0.bel H1;rw [rounds_succ];have c6:=row_cell J0.row 0;have J1a:=Hh (J0.below ((aa wa.heap.size wa).alloc (ac _) (.cells #[.iface 166 (.agg #[.int .i64 n1,.iface 25 (.int .i64 z1)])] 107)))
 go_wp2_with (at_builtin;refine push_at (K:=KE) underlying167 infoE1 rfl (by omega) rfl _ _ rfl w.heap.size _ _ rfl J1a.out.own _ (some (n1,z1)) rfl ?d1 ?d2 ?d3 ?_)
 case d1 =>
  intro j u hu
  match j,hu with
  | 0,hu=>simp [KE,er,flaw,flw] at hu;subst hu;go_simp
  | j+1,hu=>simp [KE] at hu
 case d2=>simp
 case d3=>exact J1a.bel.size
 intro v1 wb1 o1 gr1 _
 obtain ⟨r1,j1⟩:=J1a.push o1 (by simpa using gr1);have J1b:=Hh j1;have c6':=row_cell r1 0;have f6':=row_frozen r1 0;obtain ⟨av1,cv1,ev1,_⟩:=o1.slice;clear o1 gr1 j1 J0 J1a c6 k0;generalize List.length _=lv1 at ev1;subst ev1;have E:=Hh J1b.bel;clear r1 J1b;go_wp2;rw [rounds_succ];go_wp2
 go_ret
 exact ⟨⟨_,rfl⟩,E⟩
theorem join_b (w:World) (b:Nat) (n0 z0:Int) (n1 z1:Int) (h0:w.cell? ⟨b,0,none⟩=some (flaw n0 z0)) (h1:w.cell? ⟨b,1,none⟩=some (flaw n1 z1)):Calls prog 54 #[.slice (some ⟨b,0,none⟩) 2 2] w fun e w'=>(∃ p,e = .returned (.iface 168 (.pointer (some p))))/\Below w.heap.size w w':=by
 have H0:=Hh h0;have H1:=Hh h1;obtain ⟨i0,hi0,hz0,hz1,hz2⟩:=cz infoE1;unfold flaw flw at *
 go_enter func54,ntmps54
 go_wp2;refine wp_loop_rounds 3 ?_;rw [rounds_succ];go_wp2;rw [rounds_succ];go_wp2;rw [rounds_succ]
 go_wp2_with (at_make;refine wpList_make_own _ rfl _ _ _ rfl w.heap.size 107 i0 .nilIface 1 underlying167 hi0 hz0 hz1 .i64 .i64 2 2 rfl rfl rfl (by rw [hz2];decide) (by unfold maxLen;decide) (ac _) ?_)
 intro w2 ow2 gr2
 have B2:=Below.grown (aa w.heap.size w) gr2 (ac _) (fun j e=>by cases e);have J0:Hid (JI w w2.heap.size (.slice (some ⟨w.heap.size,0,none⟩) 0 2) [] (w2.alloc (.cells #[.slice (some ⟨w.heap.size,0,none⟩) 0 2] 170))):=Hh ⟨am w2 _,cB ow2 _,B2.alloc B2.size _,B2.size⟩;clear ow2 gr2 B2 h0 h1 hi0 hz0 hz1 hz2;go_upto_region 11 with fail;generalize (w2.alloc (.cells #[.slice (some ⟨w.heap.size,0,none⟩) 0 2] 170))=wa at *;generalize w2.heap.size=g6 at *;have k0:=bCe J0.bel H0;go_wp2;refine wp_loop_rounds 3 ?_;rw [rounds_succ];have c6:=row_cell J0.row 0;have J0a:=Hh (J0.below ((aa wa.heap.size wa).alloc (ac _) (.cells #[.iface 166 (.agg #[.int .i64 n0,.iface 25 (.int .i64 z0)])] 107)))
 go_wp2_with (at_builtin;refine push_at (K:=KE) underlying167 infoE1 rfl (by omega) rfl _ _ rfl w.heap.size _ _ rfl J0a.out.own _ (some (n0,z0)) rfl ?d1 ?d2 ?d3 ?_)
 case d1 =>
  intro j u hu
  match j,hu with
  | 0,hu=>simp [KE,er,flaw,flw] at hu;subst hu;go_simp
  | j+1,hu=>simp [KE] at hu
 case d2=>simp
 case d3=>exact J0a.bel.size
 intro v0 wb0 o0 gr0 _
 obtain ⟨r0,j0⟩:=J0a.push o0 (by simpa using gr0);have J0b:=Hh j0;have c6':=row_cell r0 0;have f6':=row_frozen r0 0;obtain ⟨av0,cv0,ev0,_⟩:=o0.slice;clear o0 gr0 j0 J0 J0a c6 k0;generalize List.length _=lv0 at ev0;subst ev0;have k0:=bCe J0b.bel H1;go_upto_region 12 with fail;clear c6' f6' r0;generalize (wb0.setCell ⟨g6,0,none⟩ (.slice av0 lv0 cv0))=wc0 at *;rw [rounds_succ];have c6:=row_cell J0b.row 0;have J1a:=Hh (J0b.below ((aa wc0.heap.size wc0).alloc (ac _) (.cells #[.iface 166 (.agg #[.int .i64 n1,.iface 25 (.int .i64 z1)])] 107)))
 go_wp2_with (at_builtin;refine push_at (K:=KE) underlying167 infoE1 rfl (by omega) rfl _ _ rfl w.heap.size _ _ rfl J1a.out.own _ (some (n1,z1)) rfl ?d1 ?d2 ?d3 ?_)
 case d1 =>
  intro j u hu
  match j,hu with
  | 0,hu=>simp [KE,er,flaw,flw] at hu;subst hu;go_simp
  | j+1,hu=>simp [KE] at hu
 case d2=>simp
 case d3=>exact J1a.bel.size
 intro v1 wb1 o1 gr1 _
 obtain ⟨r1,j1⟩:=J1a.push o1 (by simpa using gr1);have J1b:=Hh j1;have c6':=row_cell r1 0;have f6':=row_frozen r1 0;obtain ⟨av1,cv1,ev1,_⟩:=o1.slice;clear o1 gr1 j1 J0b J1a c6 k0;generalize List.length _=lv1 at ev1;subst ev1;have E:=Hh J1b.bel;clear r1 J1b;go_wp2;rw [rounds_succ];go_wp2
 go_ret
 exact ⟨⟨_,rfl⟩,E⟩
end Cu
