import Derived.Test.YtdbdacceecnpmaaGreatDoorQa6
set_option maxRecDepth 100000
set_option maxHeartbeats 4000000
namespace Go.Proofs.YtdbdacceecnpmaaGreatDoor
open Go.Proofs.Tryz Go.RowKit
open Ck (Hd KS dH lM sl zh)
open Fl (FP K4 Kg R4 aG aH aI aJ aL aM aZ ah aj ak at4 bG bH bf dG dR dh fG file fq hdr iP jL jX newL newP qX rat tZ z4)
open Fs (BV Ce E3 Fx Hf Only St aA aB aT at3 bY dJ eO ig jq key nN)
open Pa (K2 KB KN S2 aX bU bW bX ptr sat)
open Re (GU H9 KI fA fT jT mQ nE nR nT pM qm sL sN tq)
open Ro (E5 Gq K5 Sv dI ent gT gY kU qj z5)
open Rw (At Kind Ow Rd)
namespace Cu
open Go.Maps
open Fs (Ak)
attribute [local irreducible] Sd.aV wpQuiet
section
variable {s t p:Nat} {F G:Nat->Prop} {c:Cs} {vn vq:Value} {L:List Nd} {Fs:Nat->Nat->Prop} {w w':World}
variable {i g cap n:Nat}
theorem Cl.one (h:Cl w s F c t vn L p vq Fs) (hi:i < c.S.length):∃ g cap,vn = .slice (some ⟨g,0,none⟩) c.S.length cap/\c.S.length<=cap/\cap<=maxLen/\w.cell? ⟨g,i * 3,none⟩=some (ptr (eU L i).s)/\w.cell? ⟨g,i * 3+1,none⟩=some (.bool (bX c.V i))/\w.cell? ⟨g,i * 3+2,none⟩=some (.int .i64 (eU L i).rate)/\∀ k,w.frozen? ⟨g,k,none⟩=false:=by
 have hl:=h.len;obtain ⟨g,cap,e,_,_,h1,h2,fz,hA⟩:=h.no.form (by omega);have q:=atD hA (i:=i) (by omega);rw [eI,h.lv i (by omega)] at q;rw [hl] at e h1;exact ⟨g,cap,e,h1,h2,q.1,q.2.1,q.2.2,fz⟩
theorem Cl.nod (h:Cl w s F c t (.slice (some ⟨g,0,none⟩) c.S.length cap) L p vq Fs) (hi:i < c.S.length):w.cell? ⟨g,i * 3,none⟩=some (ptr (eU L i).s)/\w.cell? ⟨g,i * 3+1,none⟩=some (.bool (eU L i).live)/\w.cell? ⟨g,i * 3+2,none⟩=some (.int .i64 (eU L i).rate):=by
 have hl:=h.len;obtain ⟨g',cap',e,_,_,h1,h2,fz,hA⟩:=h.no.form (by omega);injection e with e1 _ _;injection e1 with e1;injection e1 with e1 _ _;subst e1;have q:=atD hA (i:=i) (by omega);rw [eI] at q;exact q
theorem Cl.slice (h:Cl w s F c t vn L p vq Fs):∃ a cap,vn = .slice a c.S.length cap/\c.S.length<=cap/\cap<=maxLen:=by
 obtain ⟨a,cap,e,h1,h2⟩:=h.no.slice;rw [h.len] at e h1;exact ⟨a,cap,e,h1,h2⟩
theorem Cl.UL (h:Cl w s F c t vn L p vq Fs) (hi:i < c.S.length):St w (eU L i).s (Fs i) (sat c.S i).1 (sat c.S i).2:=h.st i (by rw [h.len];exact hi)
theorem iw (h:Cl w s F c t vn L p vq Fs) (hn:n < c.S.length):Calls prog 32 #[ptr s,.int .i64 n] w fun e w'=>e = .returned (.bool true)/\Below w.heap.size w w':=by
 obtain ⟨a,cap,rfl,_,_⟩:=h.slice;have d0:=h.cells.1;clear h;generalize c.S.length=ln at *;have p1:decide ((0:Int)<=(n:Int))=true:=az (by omega);have p2:decide ((n:Int) < (ln:Int))=true:=az (by omega);unfold ptr
 go_enter func32,ntmps32
 go_wp2
 go_ret
 exact ⟨rfl,aa _ _⟩
theorem wP (h:Cl w s F c t vn L p vq Fs) {n:Int} (hn:no c n):Calls prog 32 #[ptr s,.int .i64 n] w fun e w'=>e = .returned (.bool false)/\Below w.heap.size w w':=by
 obtain ⟨a,cap,rfl,_,_⟩:=h.slice;have d0:=h.cells.1;clear h;unfold no at hn;generalize c.S.length=ln at *;unfold ptr
 by_cases h0:0<=n
 ·have p2:decide (n < (ln:Int))=false:=aq (by omega)
  clear hn
  go_enter func32,ntmps32
  go_wp2
  go_ret
  exact ⟨rfl,aa _ _⟩
 ·have p1:decide (0<=n)=false:=aq h0
  clear hn
  go_enter func32,ntmps32
  go_wp2
  go_ret
  exact ⟨rfl,aa _ _⟩
theorem xK (h:Cl w s F c t vn L p vq Fs):Calls prog 13 #[ptr s] w fun e w'=>e = .returned (.int .i64 c.S.length)/\Below w.heap.size w w':=by
 obtain ⟨a,cap,rfl,_,_⟩:=h.slice;have d0:=h.cells.1;clear h;generalize c.S.length=ln at *;unfold ptr
 go_enter func13,ntmps13
 go_wp2
 go_ret
 exact ⟨rfl,aa _ _⟩
theorem IQ (h:Cl w s F c t vn L p vq Fs):Calls prog 121 #[ptr s] w fun e w'=>e = .returned (.int .i64 c.pl)/\Below w.heap.size w w':=by
 have d2:=h.cells.2.2.1;clear h;generalize c.pl=pl at *;unfold ptr
 go_enter func121,ntmps121
 go_wp2
 go_ret
 exact ⟨rfl,aa _ _⟩
theorem M7 (h:Cl w s F c t vn L p vq Fs) (n:Int):Calls prog 120 #[ptr s,.int .i64 n] w fun e w'=>e = .returned (.int .i64 (Wt.rl c.P n))/\Below w.heap.size w w':=by
 have d1:=h.cells.2.1;have C1:=Hh (Wt.Sw h.pr n);clear h;generalize Wt.rl c.P n=r at *;unfold ptr at *
 go_enter func120,ntmps120
 go_wp2_with fail;refine C1.mono ?_;rintro e w1 ⟨rfl,b1⟩;go_wp2
 go_ret
 exact ⟨rfl,b1⟩
theorem Ux (h:Cl w s F c t vn L p vq Fs) (hn:n < c.S.length):Calls prog 22 #[ptr s,.int .i64 n] w fun e w'=>e = .returned (.bool (bX c.V n))/\Below w.heap.size w w':=by
 have C1:=Hh (iw h hn);have H:=Hh h;obtain ⟨g,cap,rfl,_,hm,_⟩:=h.one hn;clear h;unfold ptr at *
 go_enter func22,ntmps22
 go_wp2_with fail;refine C1.mono ?_;rintro e w1 ⟨rfl,b1⟩;obtain ⟨g',cap',e',_,_,_,d1,_⟩:=(H.below b1).one hn;injection e' with e1 _ e3;injection e1 with e1;injection e1 with e1 _ _;subst e1 e3;have d0:=(H.below b1).cells.1;have B1:=Hh b1;have p5:decide (c.S.length<=n)=false:=aq (by omega);clear H C1 b1;generalize c.S.length=ln at *;go_wp2
 go_ret
 exact ⟨rfl,B1⟩
theorem zX (h:Cl w s F c t vn L p vq Fs) (hn:n < c.S.length):Calls prog 14 #[ptr s,.int .i64 n] w (bY w (sat c.S n).1):=by
 have C1:=Hh (iw h hn);have H:=Hh h;obtain ⟨g,cap,rfl,_,hm,_⟩:=h.one hn;clear h;unfold ptr at *
 go_enter func14,ntmps14
 go_wp2_with fail;refine C1.mono ?_;rintro e w1 ⟨rfl,b1⟩;obtain ⟨g',cap',e',_,_,d1,_⟩:=(H.below b1).one hn;injection e' with e1 _ e3;injection e1 with e1;injection e1 with e1 _ _;subst e1 e3;have d0:=(H.below b1).cells.1;have B1:=Hh b1;have C2:=Hh (Ak ((H.below b1).UL hn));have p5:decide (c.S.length<=n)=false:=aq (by omega);unfold bY at C2;unfold ptr at *;clear H C1 b1;generalize c.S.length=ln at *;generalize (sat c.S n).1=A at *;generalize (eU L n).s=q at *;go_wp2_with fail;refine C2.mono ?_;rintro e w2 ⟨v,rfl,hv,b2⟩;have E:Hid (bY w A (.returned v) w2):=Hh ⟨v,rfl,fun F hF=>hv F fun k hk=>cE (hF k hk) B1.size,aP B1 b2⟩;clear hv b2 C2 B1;go_wp2
 go_ret
 exact E
end
section
variable {s t p:Nat} {F G:Nat->Prop} {c:Cs} {vn vq:Value} {L:List Nd} {Fs:Nat->Nat->Prop} {w w':World}
variable {g n cap i p' t':Nat}
theorem JY (h:Ow KD w 0 78 (.slice (some ⟨g,0,none⟩) n cap) L) (hn:L.length=n) (hi:i < n) (j:Nat) (hj:j < 3) (u:Value) (x:Nd) (hx:KD.enc x=(KD.enc (eU L i)).set j u):Ow KD (w.setCell ⟨g,i * 3+j,none⟩ u) 0 78 (.slice (some ⟨g,0,none⟩) n cap) (L.set i x):=by
 subst hn;exact Rw.Ow.set h i j hi hj u x hx
theorem Cl.Lv (h:Cl w s F c t (.slice (some ⟨g,0,none⟩) n cap) L p vq Fs) (hn:c.S.length=n) (hv:c.V.length=n) (hi:i < n) (b:Bool):Cl (w.setCell ⟨g,i * 3+1,none⟩ (.bool b)) s F { c with V:=c.V.set i b } t (.slice (some ⟨g,0,none⟩) n cap) (L.set i { eU L i with live:=b }) p vq Fs/\Only F w (w.setCell ⟨g,i * 3+1,none⟩ (.bool b)):=by
 have hl:=h.len.trans hn;have o:Only (fun k=>k=g) w (w.setCell ⟨g,i * 3+1,none⟩ (.bool b)):=Only.set (fun k=>k=g) w (a:=⟨g,i * 3+1,none⟩) rfl _;refine ⟨h.node (g:=g) rfl o (JY h.no hl hi 1 (by decide) (.bool b) { eU L i with live:=b } rfl) cA (fun j hj=>?_) (fun j hj=>?_) (fun j hj=>?_),o.mono fun k _ e=>by rw [e];exact h.fv g (.inl rfl)⟩
 ·rw [kZ (by omega)]
  split
  ·rename_i e;rw [e]
  ·rfl
 ·rw [kZ (by omega)]
  have q:bX (c.V.set i b) j=if (j:Int)=(i:Int) then b else bX c.V j:=by
   have:=oJ (V:=c.V) (n:=(i:Int)) (b:=b) (by omega) (by omega) j (by omega);rw [cJ] at this;exact this
  rw [q]
  by_cases e:j=i
  ·rw [an e,an (by omega)]
  ·rw [ai e,ai (by omega)]
   exact h.lv j hj
 ·rw [kZ (by omega)]
  split
  ·exact h.rt i (by omega)
  ·exact h.rt j hj
variable {x:Int}
theorem Cl.UU (h:Cl w s F c t (.slice (some ⟨g,0,none⟩) n cap) L p vq Fs) (hn:c.S.length=n) (hi:i < n) (hx : -2000<=x/\x<=2000):Cl (w.setCell ⟨g,i * 3+2,none⟩ (.int .i64 x)) s F c t (.slice (some ⟨g,0,none⟩) n cap) (L.set i { eU L i with rate:=x }) p vq Fs/\Only F w (w.setCell ⟨g,i * 3+2,none⟩ (.int .i64 x)):=by
 have hl:=h.len.trans hn;have o:Only (fun k=>k=g) w (w.setCell ⟨g,i * 3+2,none⟩ (.int .i64 x)):=Only.set (fun k=>k=g) w (a:=⟨g,i * 3+2,none⟩) rfl _;refine ⟨h.node (g:=g) (V:=c.V) rfl o (JY h.no hl hi 2 (by decide) (.int .i64 x) { eU L i with rate:=x } rfl) cA (fun j hj=>?_) (fun j hj=>?_) (fun j hj=>?_),o.mono fun k _ e=>by rw [e];exact h.fv g (.inl rfl)⟩
 ·rw [kZ (by omega)]
  split
  ·rename_i e;rw [e]
  ·rfl
 ·rw [kZ (by omega)]
  split
  ·rename_i e;rw [e];exact h.lv i (by omega)
  ·exact h.lv j hj
 ·rw [kZ (by omega)]
  split
  ·exact hx
  ·exact h.rt j hj
variable {a:Wt.A}
theorem VZ {n:Int} (h:2<=n):Wt.rP a n=a:=by unfold Wt.rP;rw [ai (by omega),ai (by omega)]
theorem U4 {n:Int} (h:2<=n):Wt.rM a n=a:=by unfold Wt.rM;rw [ai (by omega),ai (by omega)]
theorem nL.cr0 (h:nL c) (hn:n < 2) (hv:bX c.V n=true):Wt.FT c.P n=0:=by
 unfold Wt.FT
 rcases (by omega:n=0\/n=1) with rfl | rfl
 ·rw [an (by rfl),ai (h.1.1 hv)]
 ·rw [ai (by decide),an (by rfl),ai (h.2.1 hv)]
theorem nL.rs0 (h:nL c) (hn:n < 2) (hv:bX c.V n=false):Wt.rsE c.P n=0:=by
 unfold Wt.rsE
 rcases (by omega:n=0\/n=1) with rfl | rfl
 ·have r4:c.P.r0=4:=Classical.not_not.1 fun g=>by have:=h.1.2 g;rw [show bX c.V 0=false from hv] at this;cases this
  rw [an (by rfl),an r4]
 ·have r4:c.P.r1=4:=Classical.not_not.1 fun g=>by have:=h.2.2 g;rw [show bX c.V 1=false from hv] at this;cases this
  rw [ai (by decide),an (by rfl),an r4]
theorem gq (h:Cl w s F c t vn L p vq Fs) (b:Below w.heap.size w w') (x:Int):jk w s F c t x (.returned (.int .i64 x)) w' :=
 ⟨rfl,⟨vn,L,p,vq,Fs,(h.below b).fx w⟩,Only.of_below b⟩
theorem nK {c':Cs} {vn' vq':Value} {L':List Nd} {Fs':Nat->Nat->Prop} (h:Cl w' s F c' t' vn' L' p' vq' Fs') (o:Only F w w') (x:Int):jk w s F c' t' x (.returned (.int .i64 x)) w' :=
 ⟨rfl,⟨vn',L',p',vq',Fs',h.fx w⟩,o⟩
theorem I8 (h:Cl w s F c t vn L p vq Fs) (ok:jB c t) (sy:nL c) (hn:n < c.S.length) (hv:bX c.V n=true):Calls prog 34 #[ptr s,.int .i64 n] w (jk w s F { c with V:=c.V.set n false,P:=Wt.rP c.P n } t 0):=by
 obtain ⟨g,cap,rfl,hc,hm,_,y1,_,fz⟩:=h.one hn;have d0:=h.cells.1;have H:=Hh (h.Lv rfl ok.lv hn false);have H0:=Hh h;have CR:=Hh (fun (w1:World) (P:Wt.Pr w1 p c.P t)=>Wt.LY P n);have E0:=Hh (fun h2=>sy.cr0 (n:=n) h2 hv);have EF:=Hh (fun h2=>VZ (a:=c.P) (n:=(n:Int)) h2);have fy:=fz (n * 3+1);rw [hv] at y1;have p5:decide (c.S.length<=n)=false:=aq (by omega);clear h ok sy hv fz;generalize c.S.length=ln at *;unfold ptr at *
 by_cases h2:n < 2
 ·have k1:=H.out.1.cells.2.1
  have CC:=Hh (CR _ H.out.1.pr);unfold Wt.aU at CC;rw [E0.out h2] at CC;unfold ptr at k1;have p6:decide ((n:Int) < 2)=true:=az (by omega);clear CR E0 EF
  go_enter func34,ntmps34
  go_wp2_with fail;refine CC.mono ?_;rintro e w2 ⟨rfl,pr2,o2⟩;have E:=Hh (nK (w:=w) (H.out.1.pair o2 pr2) (H.out.2.trans o2 fun k _ e=>by rw [e];exact H.out.1.fp) 0);clear pr2 o2 H CC;go_wp2
  go_ret
  exact E
 ·have E:=Hh (nK (w:=w) H.out.1 H.out.2 0)
  rw [← EF.out (by omega)] at E;have p6:decide ((n:Int) < 2)=false:=aq (by omega);clear CR E0 EF H
  go_enter func34,ntmps34
  go_wp2
  go_ret
  exact E
theorem Ox (h:Cl w s F c t vn L p vq Fs) (hn:n < c.S.length) (hv:bX c.V n=false):Calls prog 34 #[ptr s,.int .i64 n] w (jk w s F c t 10):=by
 obtain ⟨g,cap,rfl,_,hm,_,y1,_⟩:=h.one hn;have d0:=h.cells.1;have E:=Hh (gq h (aa _ _) 10);rw [hv] at y1;have p5:decide (c.S.length<=n)=false:=aq (by omega);clear h hv;generalize c.S.length=ln at *;unfold ptr at *
 go_enter func34,ntmps34
 go_wp2
 go_ret
 exact E
theorem Az (h:Cl w s F c t vn L p vq Fs) (ok:jB c t) (sy:nL c) (hn:n < c.S.length) (hv:bX c.V n=false):Calls prog 35 #[ptr s,.int .i64 n] w (jk w s F { c with V:=c.V.set n true,P:=Wt.rM c.P n } t 0):=by
 obtain ⟨g,cap,rfl,hc,hm,_,y1,_,fz⟩:=h.one hn;have d0:=h.cells.1;have H:=Hh (h.Lv rfl ok.lv hn true);have H0:=Hh h;have CR:=Hh (fun (w1:World) (P:Wt.Pr w1 p c.P t)=>Wt.DR P n);have E0:=Hh (fun h2=>sy.rs0 (n:=n) h2 hv);have EF:=Hh (fun h2=>U4 (a:=c.P) (n:=(n:Int)) h2);have fy:=fz (n * 3+1);rw [hv] at y1;have p5:decide (c.S.length<=n)=false:=aq (by omega);clear h ok sy hv fz;generalize c.S.length=ln at *;unfold ptr at *
 by_cases h2:n < 2
 ·have k1:=H.out.1.cells.2.1
  have CC:=Hh (CR _ H.out.1.pr);unfold Wt.aU at CC;rw [E0.out h2] at CC;unfold ptr at k1;have p6:decide ((n:Int) < 2)=true:=az (by omega);clear CR E0 EF
  go_enter func35,ntmps35
  go_wp2_with fail;refine CC.mono ?_;rintro e w2 ⟨rfl,pr2,o2⟩;have E:=Hh (nK (w:=w) (H.out.1.pair o2 pr2) (H.out.2.trans o2 fun k _ e=>by rw [e];exact H.out.1.fp) 0);clear pr2 o2 H CC;go_wp2
  go_ret
  exact E
 ·have E:=Hh (nK (w:=w) H.out.1 H.out.2 0)
  rw [← EF.out (by omega)] at E;have p6:decide ((n:Int) < 2)=false:=aq (by omega);clear CR E0 EF H
  go_enter func35,ntmps35
  go_wp2
  go_ret
  exact E
theorem Ep (h:Cl w s F c t vn L p vq Fs) (hn:n < c.S.length) (hv:bX c.V n=true):Calls prog 35 #[ptr s,.int .i64 n] w (jk w s F c t 10):=by
 obtain ⟨g,cap,rfl,_,hm,_,y1,_⟩:=h.one hn;have d0:=h.cells.1;have E:=Hh (gq h (aa _ _) 10);rw [hv] at y1;have p5:decide (c.S.length<=n)=false:=aq (by omega);clear h hv;generalize c.S.length=ln at *;unfold ptr at *
 go_enter func35,ntmps35
 go_wp2
 go_ret
 exact E
def UN (x:Int):Bool:=decide (-2000<=x) && decide (x<=2000)
theorem lW (w:World) (x:Int):Calls prog 50 #[.int .i64 x] w fun e w'=>e = .returned (.bool (UN x))/\w=w':=by
 have E:Hid (UN x=(decide (-2000<=x) && decide (x<=2000))):=Hh rfl;generalize UN x=b at *
 by_cases h0 : -2000<=x
 ·by_cases h2:x<=2000
  ·obtain rfl:b=true:=by rw [E.out];simp [h0,h2]
   clear E
   go_enter func50,ntmps50
   go_wp2
   go_ret
   exact ⟨rfl,rfl⟩
  ·obtain rfl:b=false:=by rw [E.out];simp [h2]
   have q:decide (x<=2000)=false:=aq h2;clear E
   go_enter func50,ntmps50
   go_wp2
   go_ret
   exact ⟨rfl,rfl⟩
 ·obtain rfl:b=false:=by rw [E.out];simp [h0]
  have q:decide (-2000<=x)=false:=aq h0;clear E
  go_enter func50,ntmps50
  go_wp2
  go_ret
  exact ⟨rfl,rfl⟩
theorem A8 : UN x=true↔-2000<=x/\x<=2000:=by unfold UN;simp
theorem Il (w:World) (g o:Nat) (x:Int) (u:Value) (hu:w.cell? ⟨g,o+2,none⟩=some u) (hf:w.frozen? ⟨g,o+2,none⟩=false) (hx:UN x=true):Calls prog 36 #[.pointer (some ⟨g,o,none⟩),.int .i64 x] w fun e w'=>e = .returned (.int .i64 0)/\w'=w.setCell ⟨g,o+2,none⟩ (.int .i64 x):=by
 have C:=Hh (lW w x);rw [hx] at C;clear hx
 go_enter func36,ntmps36
 go_wp2_with fail;refine C.mono ?_;rintro e w1 ⟨rfl,rfl⟩;go_wp2
 go_ret
 exact ⟨rfl,rfl⟩
theorem MB (w:World) (g o:Nat) (x:Int) (hx:UN x=false):Calls prog 36 #[.pointer (some ⟨g,o,none⟩),.int .i64 x] w fun e w'=>e = .returned (.int .i64 1)/\w=w':=by
 have C:=Hh (lW w x);rw [hx] at C;clear hx
 go_enter func36,ntmps36
 go_wp2_with fail;refine C.mono ?_;rintro e w1 ⟨rfl,rfl⟩;go_wp2
 go_ret
 exact ⟨rfl,rfl⟩
end
end Cu
namespace Pa
open Go.Maps
open Fs (UG qM)
attribute [local irreducible] Sd.aV wpQuiet
def aaq:aA:=⟨0,0,none,0,[]⟩
def eG (L:List aA) (i:Nat):aA:=L.getD i aaq
structure Ed (w:World) (v:Value) (L:List aA) (B:Nat):Prop where
 rd:Rd E3 w v L
 file:∀ i,i < L.length->Rd K4 w (eG L i).sl (eG L i).l/\dG (eG L i).l
 low:∀ i,i < L.length->0 < (eG L i).l.length->∀ k,(eG L i).sl.ownBlock=some k->k < B
theorem Ed.below {w w':World} {v:Value} {L:List aA} {B:Nat} (h:Ed w v L B) (b:Below w.heap.size w w'):Ed w' v L B:=⟨h.rd.below b,fun i hi=>⟨(h.file i hi).1.below b,(h.file i hi).2⟩,h.low⟩
end Pa
namespace Ck
theorem JW:(prog.info? 175).map (fun i=>(i.zero,i.size,i.bytes))=some (some (.slice none 0 0),1,24):=by kernel_rfl
end Ck
namespace Pa
open Go.Maps
open Fs (put ins)
open Ck (LL)
structure Cel where
 files:Hd
 table:Hd
 live:Bool
 steps:Hd
 F:List aA
 T:List E5
 S:List S2
def acW:Cel:=⟨zh,zh,false,zh,[],[],[]⟩
def UO (L:List Cel) (i:Nat):Cel:=L.getD i acW
theorem aY {α β:Type} {K:Kind α} {J:Kind β} {w:World} {B B' E E':Nat} {v v':Value} {l:List α} {l':List β} (h:Ow K w B E v l) (h':Ow J w B' E' v' l') (hE:E≠E'):∀ k,v.ownBlock=some k->v'.ownBlock≠some k:=fun k hk=>by
 obtain ⟨_,h⟩:=h
 rcases h with ⟨rfl,_⟩ | ⟨g,cap,cur,rfl,_,hh,_⟩
 ·simp [Value.ownBlock] at hk
 ·simp only [Value.ownBlock,eS] at hk
  subst hk;exact h'.apart hh hE
section
end
section
end
end Pa
namespace Cu
open Fs (sD pY)
open Pa (Ed eG aaq)
structure jS where
 files:Hd
 rate:Int
 F:List aA
def plD:jS:=⟨zh,0,[]⟩
def KP:Kind jS:=⟨fun c=>[sl c.files,.int .i64 c.rate],2,by decide,fun _=>rfl,fun _ u h=>by simp [sl] at h;rcases h with rfl | rfl <;> rfl,plD⟩
def zi (L:List jS) (i:Nat):jS:=L.getD i plD
structure CJ (w:World) (v:Value) (L:List jS) (B:Nat):Prop where
 rd:Rd KP w v L
 file:∀ i,i < L.length->Ed w (sl (zi L i).files) (zi L i).F B
theorem CJ.below {w w':World} {v:Value} {L:List jS} {B:Nat} (h:CJ w v L B) (b:Below w.heap.size w w'):CJ w' v L B:=⟨h.rd.below b,fun i hi=>(h.file i hi).below b⟩
def jS.abs (c:jS):Pl:=(c.F.map aA.abs,c.rate)
def gG (L:List jS):List Pl:=L.map jS.abs
theorem eX (L:List jS):(gG L).length=L.length:=bt _
variable {i b off k:Nat}
theorem ZS {L:List jS} (h:i < L.length):fC (gG L) i=(zi L i).abs:=by
 unfold fC gG zi;rw [af,cL,am h,af,am h]
 rfl
theorem Yp {w:World} {L:List jS} (h:At KP w b off L) (hi:i < L.length):w.cell? ⟨b,off+i * 2,none⟩=some (sl (zi L i).files)/\w.cell? ⟨b,off+i * 2+1,none⟩=some (.int .i64 (zi L i).rate):=⟨h i hi 0 _ rfl,h i hi 1 _ rfl⟩
def Inn (A:aT) (k:Nat):Prop:=pY key (A.take k)/\∀ e∈A.take k,(0<=e.1/\e.1<=63)/\aL e.2.1 e.2.2
theorem Pm (A:aT):Inn A 0:=⟨gO,nofun⟩
variable {A:aT}
theorem Vy (h:Inn A A.length):gdF A:=by
 unfold Inn at h;rw [cX] at h;exact h
theorem Py {n p:Int} {l:List R4} (h:Inn A k) (hk:A[k]? = some (n,p,l)) (ord:∀ c,0 < k->A[k - 1]? = some c->key c < n) :
 (jq (A.take k) n p l=0/\nN (A.take k) n p l=A.take (k+1)/\Inn A (k+1))\/(jq (A.take k) n p l≠0/\¬ gdF A):=by
 have hkl:=(cg.1 hk).1;have hm:(n,p,l)∈A:=cU hk;have lt:∀ x∈A.take k,key x < n:=fun x hx=>by
  obtain ⟨i,hi⟩:=List.mem_iff_getElem?.1 hx;have hil:=(cg.1 hi).1;rw [cD] at hil;have h1:A[k - 1]? = some A[k - 1]:=am (by omega);have o:=ord _ (by omega) h1;rw [ie,an (by omega)] at hi
  by_cases e:i=k - 1
  ·subst e
   rw [h1] at hi;injection hi with hi;rw [← hi];exact o
  ·have q:=fi.1 h.1 i (k - 1) (by rw [cD];omega) (by rw [cD];omega) (by omega)
   rw [List.getElem_take,List.getElem_take] at q;rw [am (by omega)] at hi;injection hi with hi;rw [hi] at q
   omega
 have hn:Fs.look key n (A.take k)=none:=dJ.2 fun x hx=>by have:=lt x hx;omega
 have tk:A.take (k+1)=A.take k ++ [(n,p,l)]:=by rw [dm,hk];rfl
 by_cases g1:0<=n/\n<=63
 ·by_cases g2:aL p l
  ·have e0:jq (A.take k) n p l=0:=by
    unfold jq;rw [an g1,an g2,hn]
    rfl
   refine .inl ⟨e0,?_,?_,?_⟩
   ·unfold nN
    rw [an e0,BV (c:=(n,p,l)) hn,Ce (k:=(A.take k).length) (fun x hx=>lt x (List.mem_of_mem_take hx)) (fun x hx=>by rw [gh (ac _)] at hx;cases hx),cX,List.drop_length,tk]
   ·rw [tk]
    refine List.pairwise_append.2 ⟨h.1,List.pairwise_singleton _ _,fun x hx y hy=>?_⟩;rw [cY] at hy;subst hy;exact lt x hx
   ·rw [tk]
    intro e he
    rcases dy.1 he with he | he
    ·exact h.2 e he
    ·rw [cY] at he
     subst he;exact ⟨g1,g2⟩
  ·refine .inr ⟨?_,fun g=>g2 (g.2 _ hm).2⟩
   unfold jq;rw [an g1,ai g2]
   decide
 ·refine .inr ⟨?_,fun g=>g1 (g.2 _ hm).1⟩
  unfold jq;rw [ai g1]
  decide
theorem aap {c d:sD} (h0:0 < k) (hk:A[k]? = some c) (h1:A[k - 1]? = some d) (hle:key c<=key d):¬ gdF A:=fun g=>by
 have a:=(cg.1 hk);have b:=(cg.1 h1);obtain ⟨a1,rfl⟩:=a;obtain ⟨b1,rfl⟩:=b;have q:=fi.1 g.1 (k - 1) k b1 a1 (by omega)
 omega
def Gds (L:List Pl) (i:Nat):Prop:=∀ j,j < i->Nn (fC L j)
theorem SY (L:List Pl):Gds L 0:=fun j hj=>by omega
variable {L:List Pl}
theorem OT (h:Gds L i) (g:Nn (fC L i)):Gds L (i+1):=fun j hj=>by
 by_cases e:j=i
 ·rw [e];exact g
 ·exact h j (by omega)
theorem VM (h:Gds L L.length):∀ p∈L,Nn p:=fun p hp=>by
 obtain ⟨i,hi,rfl⟩:=dv hp;have:=h i hi;unfold fC at this;rw [af,am hi] at this;exact this
theorem Mv (h:L.length < 2\/32 < L.length):newE L=1:=by unfold newE;rw [an h]
theorem Wh (h:¬ (L.length < 2\/32 < L.length)) (hi:i < L.length) (g:¬ Nn (fC L i)):newE L=2:=by
 unfold newE;rw [ai h,ai]
 intro a
 refine g (a _ ?_);unfold fC;rw [af,am hi];exact dk hi
theorem Xk (h:¬ (L.length < 2\/32 < L.length)) (g:∀ p∈L,Nn p):(agree L->newE L=0)/\(¬ agree L->newE L=10):=by
 unfold newE;rw [ai h,an g];exact ⟨fun a=>an a,fun a=>ai a⟩
theorem Ob (h:i < L.length):(newC (L.take (i+1))).S=(newC (L.take i)).S ++ [((fC L i).1,0)]/\(newC (L.take (i+1))).V=(newC (L.take i)).V ++ [true]:=by
 have tk:L.take (i+1)=L.take i ++ [fC L i]:=by
  rw [dm];unfold fC;rw [af,am h]
  rfl
 unfold newC;rw [tk]
 simp
open Fs (KV mW RH)
attribute [local irreducible] Sd.aV wpQuiet
def Wv (w:World) (g:Nat) (a b c:Value):World:=((w.setCell ⟨g,0,none⟩ a).setCell ⟨g,1,none⟩ b).setCell ⟨g,2,none⟩ c
variable {w wr w':World} {g B q:Nat}
theorem oK {x y z:Value} (h:w.heap[g]? = some (.cells #[x,y,z] 78 (0,0))) (a b c:Value):(Wv w g a b c).heap[g]? = some (.cells #[a,b,c] 78 (0,0)):=by
 have h1:=Rw.heap_setCell_same (j:=0) h a;have h2:=Rw.heap_setCell_same (j:=1) h1 b;exact Rw.heap_setCell_same (j:=2) h2 c
theorem qy (w:World) (g:Nat) (a b c:Value):Only (fun k=>k=g) w (Wv w g a b c) :=
 ((Only.set (fun k=>k=g) w (a:=⟨g,0,none⟩) rfl a).trans (Only.set (fun k=>k=g) _ (a:=⟨g,1,none⟩) rfl b) fun _ _ q=>q).trans (Only.set (fun k=>k=g) _ (a:=⟨g,2,none⟩) rfl c) fun _ _ q=>q
theorem kM {fn:Func} {p r:Tmp} (h:fn.results=#[.cell p 78,.tmp r]) (tmps:Array Value) (w:World) (g:Nat) (a b c v:Value)
 (hp:tmps.getD p undef = .pointer (some ⟨g,0,none⟩)) (hr:tmps.getD r undef=v) (h1:w.heap[g]? = some (.cells #[a,b,c] 78 (0,0))) :
 (results fn tmps).run prog w = .ok (.tuple #[.agg #[a,b,c],v]) w:=by
 have e2:=fd (P:=prog) w g 78 78 #[a,b,c] (0,0) _ h1 underlying78 rfl (by show _=some 3;kernel_rfl);have hp':tmps[p]?.getD undef = .pointer (some ⟨g,0,none⟩):=by simpa using hp
 have hr':tmps[r]?.getD undef=v:=by simpa using hr
 simp only [results,h]
 simp [Result.andThen,hp',hr',asAddr,e2]
def vW (A:aT) (k:Nat):Int:=match k with | 0=>-1 | j+1=>(A.getD j (0,0,[])).1
def PlC (w:World) (x:Pl) (e:Ending) (w':World):Prop:=Below w.heap.size w w'/\((Nn x/\∃ q G,e = .returned (.tuple #[.agg #[ptr q,.bool true,.int .i64 x.2],.int .i64 0])/\St w' q G x.1 0/\∀ j,G j->w.heap.size<=j)\/(¬ Nn x/\e = .returned (.tuple #[.agg #[.pointer none,.bool false,.int .i64 0],.int .i64 2])))
structure Yq (w:World) (B:Nat) (q:Nat) (A:aT) (k:Nat) (G:Nat->Prop) (wr:World):Prop where
 st:St wr q G (A.take k) 0
 lo:∀ j,G j->B<=j
 aD:Below w.heap.size w wr
 inn:Inn A k
theorem Yq.below {w wr w':World} {B q k:Nat} {A:aT} {G:Nat->Prop} (h:Yq w B q A k G wr) (b:Below wr.heap.size wr w'):Yq w B q A k G w':=⟨h.st.below b,h.lo,h.aD.trans (b.mono h.aD.size),h.inn⟩
theorem Yq.step {G:Nat->Prop} (h:Yq w B q A k G wr) (hw:w.heap.size<=B) (hB:B<=wr.heap.size) (st:St w' q (Fx G wr w') (A.take (k+1)) 0) (o:Only G wr w') (i:Inn A (k+1)):Yq w B q A (k+1) (Fx G wr w') w' :=
 ⟨st,fun j g=>by
  rcases g with g | g
  ·exact h.lo j g
  ·omega,h.aD.trans (o.below h.aD.size fun j g=>cG hw (h.lo j g)),i⟩
variable {c:sD}
theorem XM (hk:A[k]? = some c) (h:c.1<=vW A k):¬ gdF A:=by
 cases k with
 | zero =>
   intro g
   have:=(g.2 c (cU hk)).1.1;have h:c.1<=-1:=h
   omega
 | succ j =>
   have hl:=(cg.1 hk).1;have h1:A[j+1 - 1]? = some (A.getD j (0,0,[])):=by
    rw [Nat.add_sub_cancel,af,am (by omega)]
    rfl
   exact aap (Nat.succ_pos j) hk h1 h
theorem Pj {n:Int} (h:¬ n<=vW A k):∀ c,0 < k->A[k - 1]? = some c->Fs.key c < n:=fun c h0 hc=>by
 obtain ⟨j,rfl⟩:∃ j,k=j+1:=⟨k - 1,by omega⟩;rw [Nat.add_sub_cancel] at hc;have:vW A (j+1)=c.1:=by
  show (A.getD j (0,0,[])).1=c.1
  rw [af,hc]
  rfl
 show c.1 < n
 omega
theorem Ng (hk:A[k]? = some c):vW A (k+1)=c.1:=by
 show (A.getD k (0,0,[])).1=c.1
 rw [af,hk]
 rfl
theorem SC {L:List aA} (hk:k < L.length):(L.map aA.abs)[k]? = some (eG L k).abs:=by
 unfold eG;rw [cL,am hk,af,am hk]
 rfl
theorem Bw (c:jS) (hf:Ed w (sl c.files) c.F B):Calls prog 25 #[.agg #[sl c.files,.int .i64 c.rate]] w (PlC w c.abs):=by
 show Calls _ _ _ w (PlC w (c.F.map aA.abs,c.rate))
 obtain ⟨cf,cr,cF⟩:=c;simp only at hf ⊢;obtain ⟨a,cap,es,hm⟩:=hf.rd.slice;rw [es] at hf ⊢;clear es;have B1:=Hh ((aa w.heap.size w).alloc (ac _) (.cells #[.slice a cF.length cap,.int .i64 cr] 75));have B2:=Hh (B1.alloc B1.size (.cells #[.pointer none,.bool false,.int .i64 0] 78));have Z2:Hid (((w.alloc (.cells #[.slice a cF.length cap,.int .i64 cr] 75)).alloc (.cells #[.pointer none,.bool false,.int .i64 0] 78)).heap.size=w.heap.size+2):=Hh (by simp);have X1:Hid (((w.alloc (.cells #[.slice a cF.length cap,.int .i64 cr] 75)).alloc (.cells #[.pointer none,.bool false,.int .i64 0] 78)).heap[w.heap.size]? = some (.cells #[.slice a cF.length cap,.int .i64 cr] 75 (0,0))):=Hh ((cz _ _ _ (by simp)).trans (aw w _))
 have X2:Hid (((w.alloc (.cells #[.slice a cF.length cap,.int .i64 cr] 75)).alloc (.cells #[.pointer none,.bool false,.int .i64 0] 78)).heap[w.heap.size+1]? = some (.cells #[.pointer none,.bool false,.int .i64 0] 78 (0,0))):=Hh (by
  have:=aw (w.alloc (.cells #[.slice a cF.length cap,.int .i64 cr] 75)) (.cells #[.pointer none,.bool false,.int .i64 0] 78);rw [show (w.alloc (.cells #[.slice a cF.length cap,.int .i64 cr] 75)).heap.size=w.heap.size+1 by simp] at this
  exact this)
 have BAD:Hid (¬ Nn (cF.map aA.abs,cr)->∀ W,Below w.heap.size w W->PlC w (cF.map aA.abs,cr) (.returned (.tuple #[.agg #[.pointer none,.bool false,.int .i64 0],.int .i64 2])) (Wv W (w.heap.size+1) (.pointer none) (.bool false) (.int .i64 0))):=Hh (fun h W b=>⟨b.trans ((qy W _ _ _ _).below b.size fun k e=>by omega),.inr ⟨h,rfl⟩⟩);have CAL:=Hh (fun W=>lW W cr);have HF:=Hh hf;clear hf
 cases hc:UN cr with
 | false =>
   have NG:=Hh (BAD (fun g=>by
    have:=A8.2 g.2;rw [show ((cF.map aA.abs,cr):Pl).2=cr from rfl,hc] at this
    cases this))
   rw [hc] at CAL;clear BAD HF hc;generalize ((cF.map aA.abs,cr):Pl)=pp at *;generalize cF.length=N at *
   go_enter func25,ntmps25
   go_wp2_with fail;refine (CAL _).mono ?_;rintro e w1 ⟨rfl,rfl⟩;generalize ((w.alloc (.cells #[.slice a N cap,.int .i64 cr] 75)).alloc (.cells #[.pointer none,.bool false,.int .i64 0] 78))=W at *;have E:=Hh (NG W B2);obtain ⟨z0,z1,z2⟩:=CU X2;have f0:=aj X2 0;have f1:=aj X2 1;have f2:=aj X2 2;have R:=Hh (oK X2 (.pointer none) (.bool false) (.int .i64 0));clear NG CAL B1 B2 Z2 X1 X2;go_wp2
   (try simp only [Exit.inBlock,Exit.then])
   exact bj (kM (p:=2) (r:=3) rfl _ _ (w.heap.size+1) _ _ _ (.int .i64 2) rfl rfl R) rfl E
 | true =>
   have FI:=Hh (fun i (hi:i < cF.length)=>(HF.file i hi).1);have FO:=Hh (fun i (hi:i < cF.length)=>(HF.file i hi).2);obtain ⟨a',cap',e',_,_,h3⟩:=HF.rd;injection e' with e1 _ e3;subst e1 e3;have H3:=Hh h3;have CR:=Hh (A8.1 hc);have AT:=Hh (fun k (hk:k < cF.length)=>SC hk)
   have OKL:Hid (∀ e∈cF.map aA.abs,dG e.2.2):=Hh (fun e he=>by
    obtain ⟨i,hi⟩:=dq he;have hl:=(cg.1 hi).1;rw [bt] at hl;rw [SC hl] at hi;injection hi with hi;rw [← hi]
    exact (HF.file i hl).2)
   rw [hc] at CAL;have AL:Hid ((cF.map aA.abs).length=cF.length):=Hh (bt _);clear h3 hc HF;unfold maxLen at hm;generalize hA:cF.map aA.abs=A at *;clear hA;generalize hN:cF.length=N at *;have HN:=Hh hN;clear hN
   go_enter func25,ntmps25
   go_wp2_with fail;refine (CAL _).mono ?_;rintro e w1 ⟨rfl,rfl⟩;generalize ((w.alloc (.cells #[.slice a N cap,.int .i64 cr] 75)).alloc (.cells #[.pointer none,.bool false,.int .i64 0] 78))=W at *;clear B1;have P0:=Hh (RH W);have B3:=Hh (B2.alloc B2.size (.cells #[.map none,.int .i64 0] 150));have BN:=Hh ((aa W.heap.size W).alloc (ac _) (.cells #[.map none,.int .i64 0] 150));have X3:=Hh (bV BN X1);have X4:=Hh (bV BN X2);have Z3:Hid ((W.alloc (.cells #[.map none,.int .i64 0] 150)).heap.size=w.heap.size+3):=Hh (by have:=Z2.out;simp;omega);clear X1 X2 B2 BN
   go_upto_region 4 with (go_at_call 51;refine (mW _).mono ?_;rintro e w1 ⟨rfl,rfl⟩)
   generalize (W.alloc (.cells #[.map none,.int .i64 0] 150))=W2 at *;rw [Z2.out] at *;have Q0:Hid (Yq w (w.heap.size+2) (w.heap.size+2) A 0 (fun k=>k=w.heap.size+2) W2):=Hh ⟨P0,fun j e=>Nat.le_of_eq e.symm,B3,Pm A⟩;have d0:=Fl.rc X3 0;clear P0 B3 CAL;go_wp2;clear d0
   go_loopw [17,5] (fun i la wr=>∃ (k:Nat) (G:Nat->Prop),k<=N/\i = .int .i64 k/\la = .int .i64 (vW A k)/\Hid (Yq w (w.heap.size+2) (w.heap.size+2) A k G wr)/\Hid (Below (w.heap.size+2) W2 wr)) (fun i _ _=>N - (intOf i).toNat)
   case atStart=>exact ⟨0,_,ce _,rfl,rfl,Q0,Hh (aa _ _)⟩
   case round =>
    clear Q0;obtain ⟨k,G,hk,rfl,rfl,I,BW⟩:=hrel
    by_cases hlt:k < N
    ·have hkL:k < cF.length:=by have:=HN.out;omega
     have hc:cF[k]? = some (eG cF k):=by
      unfold eG;rw [am hkL,af,am hkL]
      rfl
     obtain ⟨b,off,rfl,hA⟩:=H3 (by omega);obtain ⟨x0,x1,x2⟩:=at3 (hA.below I.aD) hc;have HAA:=Hh hA;have RF:=Hh ((FI k hlt).below I.aD);have OF:=Hh (FO k hlt);have AK:Hid (A[k]? = some ((eG cF k).n,(eG cF k).p,(eG cF k).l)):=Hh (AT k hlt);clear hc hA;unfold aA.sl at x2 RF;generalize (eG cF k).a=ca at *;generalize (eG cF k).cap=ccap at *;generalize (eG cF k).p=cp at *;generalize (eG cF k).n=cn at *;generalize (eG cF k).l=cl at *;have Y0:=Hh (aw wr (.cells #[.int .i64 cn,.int .i64 cp,.slice ca cl.length ccap] 85));have BN:=Hh ((aa wr.heap.size wr).alloc (ac _) (.cells #[.int .i64 cn,.int .i64 cp,.slice ca cl.length ccap] 85));have GL:=Hh I.st.low;go_upto_region 7 with fail;clear x0 x1 x2;generalize wr.alloc (.cells #[.int .i64 cn,.int .i64 cp,.slice ca cl.length ccap] 85)=W at *;have I2:=Hh (I.below BN);have XW:=Hh ((BN.block _ (by have:=I.out.aD.size;have:=bh X4.out;have:=BW.out.size;omega)).trans ((BW.out.block (w.heap.size+1) (by omega)).trans X4.out));have BW2:=Hh (BW.trans (BN.mono (by have:=BW.out.size;have:=Z3.out;omega)));have RF2:=Hh (RF.below BN);have GX:Hid (¬ G wr.heap.size/\¬ G (w.heap.size+1)):=Hh ⟨fun g=>by have:=GL.out _ g;omega,fun g=>by have:=I.out.lo _ g;omega⟩;have LW:Hid (w.heap.size+2<=W.heap.size):=Hh (by have:=BW2.out.size;have:=Z3.out;omega);generalize wr.heap.size=gx at *;obtain ⟨y0,y1,y2⟩:=CU Y0;clear I BW BN RF GL;generalize hla:vW A k=la at *;have HLA:=Hh hla;clear hla
     by_cases hle:cn<=la
     ·have E:=Hh (BAD (fun g=>XM AK (by rw [HLA.out];exact hle) g.1) W I2.out.aD)
      have q:decide (cn<=la)=true:=az hle;have XR:=Hh XW;obtain ⟨z0,z1,z2⟩:=CU XR;have f0:=aj XR 0;have f1:=aj XR 1;have f2:=aj XR 2;have R:=Hh (oK XR (.pointer none) (.bool false) (.int .i64 0));clear hle I2 BW2 RF2 BAD FI FO AT OKL OF AK;go_wp2
      (try simp only [Exit.inBlock,Exit.then])
      exact bj (kM (p:=2) (r:=3) rfl _ _ (w.heap.size+1) _ _ _ (.int .i64 2) rfl rfl R) rfl E
     ·have ADD:=Hh (KV I2.st cn cp (.slice ca cl.length ccap) cl RF2 OF)
      have ST:=Hh (Py I2.inn AK (Pj (by rw [HLA.out];exact hle)));have NX:=Hh (Ng AK);have q:decide (cn<=la)=false:=aq hle;unfold ig file at ADD;generalize jq (A.take k) cn cp cl=ae at *;generalize nN (A.take k) cn cp cl=A' at *;generalize cl.length=cll at *;clear hle RF2 AK OF;go_wp2_with fail;refine ADD.mono ?_;rintro e w5 ⟨rfl,st5,o5⟩;have ST5:=Hh st5;have O5:=Hh o5;have YN:=Hh ((o5.block gx (bh Y0) GX.out.1).trans Y0);have XR:=Hh ((o5.block _ (bh XW) GX.out.2).trans XW);clear st5 o5 ADD y0 y1 y2 XW
      rcases ST.out with ⟨e0,e1,e2⟩ | ⟨e0,ng⟩
      ·have I5:=Hh (I2.step (by omega) LW.out (by rw [← e1];exact ST5.out) O5.out e2)
       have BW5:=Hh (BW2.trans (O5.below (B:=w.heap.size+2) LW I2.lo));subst e0;have y0:=Fl.rc YN 0;clear ST e1 e2 ST5 O5 YN XR I2 BW2;go_wp2
       go_roundw
       case rel=>exact ⟨k+1,_,by omega,by go_num,by rw [NX.out],I5,BW5⟩
       case measure=>simp [intOf];omega
      ·have E:=Hh (BAD (fun g=>ng g.1) w5 (I2.aD.trans (O5.below I2.aD.size fun j g=>by have:=I2.out.lo j g;omega)))
       have q1:(ae != 0)=true:=by simpa using e0
       obtain ⟨z0,z1,z2⟩:=CU XR;have f0:=aj XR 0;have f1:=aj XR 1;have f2:=aj XR 2;have R:=Hh (oK XR (.pointer none) (.bool false) (.int .i64 0));clear ST ng ST5 O5 YN I2 BW2 BAD FI FO AT OKL e0;go_wp2
       (try simp only [Exit.inBlock,Exit.then])
       exact bj (kM (p:=2) (r:=3) rfl _ _ (w.heap.size+1) _ _ _ (.int .i64 2) rfl rfl R) rfl E
    ·obtain rfl:k=N:=by omega
     have GD:=Hh (Vy (A:=A) (by have:=I.out.inn;rw [AL.out];exact this));have ST:=I.st;have XR:=Hh ((BW.block (w.heap.size+1) (by omega)).trans X4.out);have XP:=Hh ((BW.block w.heap.size (by omega)).trans X3.out);rw [← AL.out,cX] at ST;have E:Hid (PlC w (A,cr) (.returned (.tuple #[.agg #[.pointer (some ⟨w.heap.size+2,0,none⟩),.bool true,.int .i64 cr],.int .i64 0])) (Wv wr (w.heap.size+1) (.pointer (some ⟨w.heap.size+2,0,none⟩)) (.bool true) (.int .i64 cr))):=Hh
      ⟨I.aD.trans ((qy wr _ _ _ _).below I.aD.size fun k e=>by omega),.inl ⟨⟨GD.out,CR.out⟩,w.heap.size+2,G,rfl,ST.only (G:=fun j=>j=w.heap.size+1) (fun j g e=>by have:=I.out.lo j g;omega) (qy wr _ _ _ _),fun j g=>by have:=I.out.lo j g;omega⟩⟩
     obtain ⟨z0,z1,z2⟩:=CU XR;have p1:=Fl.rc XP 1;have f0:=aj XR 0;have f1:=aj XR 1;have f2:=aj XR 2;have R:=Hh (oK XR (.pointer (some ⟨w.heap.size+2,0,none⟩)) (.bool true) (.int .i64 cr));clear GD ST I BW BAD FI FO AT OKL XP;generalize vW A k=la at *;go_wp2
     (try simp only [Exit.inBlock,Exit.then])
     exact bj (kM (p:=2) (r:=3) rfl _ _ (w.heap.size+1) _ _ _ (.int .i64 0) rfl rfl R) rfl E
end Cu
namespace Re
attribute [local irreducible] wpQuiet
theorem qJ (w:World) (v:Value) (l:List Int) (R:Rd KI w v l):Calls prog 119 #[v] w fun e w'=>e = .returned (.bool (seqB l))/\Below w.heap.size w w':=by
 have HNO:Hid (∀ k,k < l.length->¬ yX (fA l k)->false=seqB l):=Hh (fun k hk h=>UD hk h);have HLO:Hid (¬ (0 < l.length/\l.length<=64)->false=seqB l):=Hh (fun h=>De h);have HYES:Hid (0 < l.length/\l.length<=64->(∀ i,i < l.length->yX (fA l i))->true=seqB l):=Hh (fun h g=>Ks h g);obtain ⟨a,cap,rfl,_,hm,hA⟩:=R;have HA:=Hh hA;unfold maxLen at hm;clear hA;generalize hn:l.length=n at *;have HN:=Hh hn;clear hn
 rcases (by omega:n=0\/64 < n\/(0 < n/\n<=64)) with h | h | h
 ·have E:=Hh (HLO (by omega))
  have h0:((n:Int) == 0)=true:=by rw [h];rfl
  clear HNO HLO HYES HA HN h
  go_enter func119,ntmps119
  go_wp2
  go_ret
  exact ⟨ak E,aa _ _⟩
 ·have E:=Hh (HLO (by omega))
  have h0:((n:Int) == 0)=false:=by simp;omega
  clear HNO HLO HYES HA HN
  go_enter func119,ntmps119
  go_wp2
  go_ret
  exact ⟨ak E,aa _ _⟩
 ·have h0:((n:Int) == 0)=false:=by simp;omega
  have h64:n<=64:=h.2;have HY:=Hh (HYES h);clear HLO HYES h
  go_enter func119,ntmps119
  go_wp2
  go_loopw [15] (fun i wr=>∃ k:Nat,k<=n/\i = .int .i64 k/\Hid (Below w.heap.size w wr)/\Hid (∀ i,i < k->yX (fA l i))) (fun i _=>n - (intOf i).toNat)
  case atStart=>exact ⟨0,ce _,rfl,Hh (aa _ _),Hh (fun i hi=>by omega)⟩
  case round =>
   obtain ⟨k,hk,rfl,bw,hs⟩:=hrel
   by_cases hlt:k < n
   ·obtain ⟨b,off,rfl,A⟩:=HA (by omega)
    have c0:=tq (A.below bw) k (by have:=HN.out;omega);have P1:=Hh (HNO k hlt)
    have P3:Hid (yX (fA l k)->∀ i,i < k+1->yX (fA l i)):=Hh (fun g i hi=>by
     by_cases e:i=k
     ·rw [e];exact g
     ·exact hs i (by omega))
    have HAA:=Hh A;clear A;unfold yX at P1 P3;generalize fA l k=x at *
    rcases (by omega:x < 0\/(0<=x/\6<=x)\/(0<=x/\x<=5)) with h | ⟨h,h2⟩ | ⟨h,h2⟩
    ·have E:=Hh (P1 (by omega))
     clear P1 P3;go_wp2
     go_ret
     exact ⟨ak E,bw⟩
    ·have E:=Hh (P1 (by omega))
     clear P1 P3;go_wp2
     go_ret
     exact ⟨ak E,bw⟩
    ·have ST:=Hh (P3 ⟨h,h2⟩)
     clear P1 P3;go_wp2
     go_roundw
     case rel=>exact ⟨k+1,by omega,by go_num,bw,ST⟩
     case measure=>simp [intOf];omega
   ·obtain rfl:k=n:=by omega
    have E:=Hh (HY (fun i hi=>hs i hi));go_wp2
    go_ret
    exact ⟨ak E,bw⟩
theorem Gb (w:World) (v:Value) (l:List Int) (R:Rd KI w v l):Calls prog 56 #[v] w fun e w'=>e = .returned (.bool (seqB l))/\Below w.heap.size w w':=by
 have HNO:Hid (∀ k,k < l.length->¬ yX (fA l k)->false=seqB l):=Hh (fun k hk h=>UD hk h);have HLO:Hid (¬ (0 < l.length/\l.length<=64)->false=seqB l):=Hh (fun h=>De h);have HYES:Hid (0 < l.length/\l.length<=64->(∀ i,i < l.length->yX (fA l i))->true=seqB l):=Hh (fun h g=>Ks h g);obtain ⟨a,cap,rfl,_,hm,hA⟩:=R;have HA:=Hh hA;unfold maxLen at hm;clear hA;generalize hn:l.length=n at *;have HN:=Hh hn;clear hn
 go_enter func56,ntmps56
 go_wp2
 go_loopw [3] (fun i wr=>∃ k:Nat,k<=n/\i = .int .i64 k/\Hid (Below w.heap.size w wr)/\Hid (∀ i,i < k->yX (fA l i))) (fun i _=>n - (intOf i).toNat)
 case atStart=>exact ⟨0,ce _,rfl,Hh (aa _ _),Hh (fun i hi=>by omega)⟩
 case round =>
  obtain ⟨k,hk,rfl,bw,hs⟩:=hrel
  by_cases hlt:k < n
  ·obtain ⟨b,off,rfl,A⟩:=HA (by omega)
   have c0:=tq (A.below bw) k (by have:=HN.out;omega);have P1:=Hh (HNO k hlt)
   have P3:Hid (yX (fA l k)->∀ i,i < k+1->yX (fA l i)):=Hh (fun g i hi=>by
    by_cases e:i=k
    ·rw [e];exact g
    ·exact hs i (by omega))
   have HAA:=Hh A;clear A;unfold yX at P1 P3;generalize fA l k=x at *
   rcases (by omega:x < 0\/(0<=x/\6<=x)\/(0<=x/\x<=5)) with h | ⟨h,h2⟩ | ⟨h,h2⟩
   ·have E:=Hh (P1 (by omega))
    clear P1 P3;go_wp2
    go_ret
    exact ⟨ak E,bw⟩
   ·have E:=Hh (P1 (by omega))
    clear P1 P3;go_wp2
    go_ret
    exact ⟨ak E,bw⟩
   ·have ST:=Hh (P3 ⟨h,h2⟩)
    clear P1 P3;go_wp2
    go_roundw
    case rel=>exact ⟨k+1,by omega,by go_num,bw,ST⟩
    case measure=>simp [intOf];omega
  ·obtain rfl:k=n:=by omega
   rcases (by omega:k=0\/64 < k\/(0 < k/\k<=64)) with h | h | h
   ·have E:=Hh (HLO (by omega))
    have h0:¬ ((0:Int) < (k:Int)):=by omega
    clear HNO HLO HYES;go_wp2
    go_ret
    exact ⟨ak E,bw⟩
   ·have E:=Hh (HLO (by omega))
    have h0:(0:Int) < (k:Int):=by omega
    have h1:¬ ((k:Int) < 65):=by omega
    clear HNO HLO HYES;go_wp2
    go_ret
    exact ⟨ak (by simpa [h1] using E.out),bw.out⟩
   ·have E:=Hh (HYES h (fun i hi=>hs i hi))
    have h0:(0:Int) < (k:Int):=by omega
    have h1:(k:Int) < 65:=by omega
    clear HNO HLO HYES;go_wp2
    go_ret
    exact ⟨ak (by simpa [h1] using E.out),bw.out⟩
theorem xX (w:World) (v:Value) (l:List Int) (t:Int) (R:Rd KI w v l):Calls prog 89 #[v,.int .i64 t] w (jT w l t):=by
 have R0:=Hh R;have IS:=Hh (fun w v R=>qJ w v l R)
 by_cases hs:fT l
 ·have hb:seqB l=true:=az hs
  rw [hb] at IS;have HS:=Hh hs;have hl:=hs.1;clear hb hs
  by_cases ht:0<=t/\t < l.length
  ·obtain ⟨k,rfl⟩:∃ k:Nat,t=k:=⟨t.toNat,by omega⟩
   have hk:k < l.length:=by omega
   have NP:H9 l k:=⟨HS,ht.1,ht.2⟩;have EL:=Hh (fun h w' hb=>Mq (w:=w) (w':=w') NP h hb);have EM:=Hh (fun h w' hb=>Nk (w:=w) (w':=w') NP h hb);obtain ⟨a,cap,rfl,_,hm,hA⟩:=R;obtain ⟨b,off,rfl,hA2⟩:=hA (by omega);have c0:=tq hA2 k hk;clear hA hA2 NP HS ht;generalize fA l k=x at *;generalize hn:l.length=n at *;have W0:IntKind.i64.wrap ((n:Int) - 1)=(n:Int) - 1:=cx _ (by omega);have W1:IntKind.i64.wrap ((k:Int)+1)=(k:Int)+1:=cx _ (by omega);clear hn hm
   by_cases h1:k+1=n
   ·have E:=Hh (EL h1)
    have t0:¬ ((k:Int) < 0):=by omega
    have t1:¬ ((n:Int) - 1 < k):=by omega
    have t2:¬ ((k:Int) < (n:Int) - 1):=by omega
    have H1:=Hh h1;clear EL EM h1
    go_enter func89,ntmps89
    go_wp2_with fail;refine (IS _ _ R0).mono ?_;rintro e w1 ⟨rfl,b1⟩;have d0:=fQ b1 c0;have E1:=Hh (E _ b1);clear b1;go_wp2
    go_ret3
    exact E1
   ·have E:=Hh (EM h1)
    have t0:¬ ((k:Int) < 0):=by omega
    have t1:¬ ((n:Int) - 1 < k):=by omega
    have t2:(k:Int) < (n:Int) - 1:=by omega
    have H1:=Hh h1;clear EL EM h1
    go_enter func89,ntmps89
    go_wp2_with fail;refine (IS _ _ R0).mono ?_;rintro e w1 ⟨rfl,b1⟩;have d0:=fQ b1 c0;have E1:=Hh (E _ b1);clear b1;go_wp2
    go_ret3
    exact E1
  ·have NP:¬ H9 l t:=fun h=>ht h.2
   have E:=Hh (fun w' hb=>Lg (w:=w) NP w' hb);obtain ⟨a,cap,rfl,_,hm,hA⟩:=R;clear hA HS NP;generalize hn:l.length=n at *;have W0:IntKind.i64.wrap ((n:Int) - 1)=(n:Int) - 1:=cx _ (by omega);clear hn hm
   rcases (by omega:t < 0\/(0<=t/\(n:Int) - 1 < t)) with h | ⟨h,h2⟩
   all_goals
    clear ht
    go_enter func89,ntmps89
    go_wp2_with fail;refine (IS _ _ R0).mono ?_;rintro e w1 ⟨rfl,b1⟩;have E1:=Hh (E _ b1);clear b1;go_wp2
    go_ret3
    exact E1
 ·have hb:seqB l=false:=aq hs
  rw [hb] at IS;have NP:¬ H9 l t:=fun h=>hs h.1;have E:=Hh (fun w' hb=>Lg (w:=w) NP w' hb);obtain ⟨a,cap,rfl,_,hm,hA⟩:=R;clear hA hs NP hb;unfold maxLen at hm;generalize l.length=n at *;have W0:IntKind.i64.wrap ((n:Int) - 1)=(n:Int) - 1:=cx _ (by omega)
  go_enter func89,ntmps89
  go_wp2_with fail;refine (IS _ _ R0).mono ?_;rintro e w1 ⟨rfl,b1⟩;have E1:=Hh (E _ b1);clear b1;go_wp2
  go_ret3
  exact E1
attribute [local irreducible] Sd.aV Sz.lK
theorem XL {α:Type} {Kd:Rw.Kind α} {P:Program} {K:Act->World->Prop} {w:World} {E:TypeId} {o:Oper} {a:Act} {Q:Exit->Act->World->Prop} {T:TypeId} {z:Value} {bytes:Nat} (ht:P.underlying T=some (.slice E))
 (hi:(P.info? E).map (fun i=>(i.zero,i.size,i.bytes))=some (some z,Kd.n,bytes)) (hz:z.cells.size=Kd.n) (hby:bytes<=64) (s x:Operand)
 (ho:o.op = .call { callee:=.builtin .append,args:=#[s,x],argTypes:=#[T,T] }) (B:Nat) (v:Value) (l:List α) (hs:a.eval s=v) (hown:Ow Kd w B E v l)
 (ad:Addr) (c:α) (hx:a.eval x = .slice (some ad) 1 1) (hc:∀ j u,(Kd.enc c)[j]? = some u->w.cell? (ad.add j)=some u) (hlen:l.length < 2199023255552) (hB:B<=w.heap.size)
 (h:∀ v' w',Ow Kd w' B E v' (l ++ [c])->Below B w w'->Rw.Far E w w'->K (a.put o.dst v') w'):o.wp P a w K Q:=by
 obtain ⟨i0,hi0,hz0,hz1,hz2⟩:=fk hi;have hb:(l.length+1) * bytes<=140737488355328:=cG (hP (show l.length+1<=2199023255552 by omega) hby) (by omega);refine wp_append_own _ s x T ho B E i0 z Kd.n bytes ht hi0 hz0 hz1 hz2 hz Kd.pos v l.length (Kd.flat l) hs hown ad 1 1 (Kd.enc c) hx (by rw [Kd.len,Nat.one_mul]) hc (Kd.one c) (by unfold maxLen;omega) hb hB ?_
 intro v' w' h2 h3 _
 exact h v' w' (Rw.Ow.push h2) ((aa B w).grown h3 hB fun k hk=>(cC hown k hk).1) (Rw.Al hown h3)
structure Vn (w:World) (m:List R4) (gF:Nat) (v:Value) (wr:World):Prop where
 row:wr.heap[gF]? = some (.cells #[.int .i64 3,v] 83 (0,0))
 res:wr.heap[w.heap.size]? = some (.cells #[.int .i64 0,.slice none 0 0] 83 (0,0))
 own:Ow K4 wr (w.heap.size+1) 36 v m
 aD:Below w.heap.size w wr
 lt:w.heap.size < gF
def GC (gF:Nat) (v:Value) (ad:Addr) (x:Int) (W:World):Prop:=W.heap[gF]? = some (.cells #[.int .i64 3,v] 83 (0,0))/\W.cell? ad=some (.int .i64 x)
theorem qR (w:World) (v:Value) (l:List Int) (R:Rd KI w v l):Calls prog 27 #[v] w (dS w l):=by
 have B0:=Hh ((aa w.heap.size w).alloc (ac _) (.cells #[.int .i64 0,.slice none 0 0] 83));have R0:=Hh (R.below B0)
 by_cases hm:fT l
 ·have GA:=Hh (aI (show seqB l=true from az hm) (Gb _ v l R0))
  have HE:=Hh (fun u w'=>oP (w:=w) hm u w');have hl:=hm.1.2;have OK:=Hh hm.2;clear hm R0;obtain ⟨a,cap0,rfl,_,hm,hA⟩:=R;have HA:=Hh hA;unfold maxLen at hm;clear hA;have HF:Hid (bE l=hdr 3 (l.length:Int) :: l.map gH):=Hh rfl;have PS:=Hh (fun h k=>Ra (k:=k) (l:=l) h);have PE:Hid (∀ h:R4,(h :: (l.take l.length).map gH)=h :: l.map gH):=Hh (fun h=>by rw [cX]);have PL:Hid (∀ (h:R4) k,k<=l.length->(h :: (l.take k).map gH).length=k+1):=Hh (fun h k hk=>by simp [List.length_take];omega);have HH:=Hh (fun w=>FP w 3 (l.length:Int) (by omega) (by omega) (by omega) (by omega));unfold aG at HH;generalize hdr 3 (l.length:Int)=h at *;generalize hn:l.length=n at *;have HN:=Hh hn;clear hn
  go_enter func27,ntmps27
  go_wp2_with fail;refine GA.mono ?_;rintro e w0 ⟨rfl,b1⟩;have z0:w.heap.size+1<=w0.heap.size:=by have:=b1.size;simp at this;omega
  have B1:=aP B0 b1;have S1:=Hh ((b1.block _ (by simp)).trans (aw w _));clear b1 GA B0;go_wp2_with fail;refine (HH _).mono ?_;rintro e w1 ⟨rfl,b1⟩;have z1:w.heap.size < w1.heap.size:=by have:=b1.size;omega
  have B2:=aP B1 b1;have r0:=(b1.block _ (by omega)).trans S1.out;have hz:(w1.alloc (.cells #[.int .u8 h.1,.int .u8 h.2.1,.int .u8 h.2.2.1,.int .u8 h.2.2.2] 36)).heap.size=w1.heap.size+1:=by simp
  have N0:Hid (Vn w [h] (w1.heap.size+1) (.slice (some ⟨w1.heap.size,0,none⟩) 1 1) ((w1.alloc (.cells #[.int .u8 h.1,.int .u8 h.2.1,.int .u8 h.2.2.1,.int .u8 h.2.2.2] 36)).alloc (.cells #[.int .i64 3,.slice (some ⟨w1.heap.size,0,none⟩) 1 1] 83))):=by
   refine Hh ⟨?_,?_,(Rw.Ow.lit (K:=K4) w1 (w.heap.size+1) 36 [h] (by omega) (by unfold maxLen;simp)).alloc _,(B2.out.alloc (by omega) _).alloc (by rw [hz];omega) _,by omega⟩
   ·have:=aw (w1.alloc (.cells #[.int .u8 h.1,.int .u8 h.2.1,.int .u8 h.2.2.1,.int .u8 h.2.2.2] 36)) (.cells #[.int .i64 3,.slice (some ⟨w1.heap.size,0,none⟩) 1 1] 83)
    rw [hz] at this;exact this
   ·exact (cz _ _ _ (by rw [hz];omega)).trans ((cz _ _ _ z1).trans r0)
  clear b1 r0 HH hz S1 B1;go_wp2;generalize (w1.alloc (.cells #[.int .u8 h.1,.int .u8 h.2.1,.int .u8 h.2.2.1,.int .u8 h.2.2.2] 36)).alloc (.cells #[.int .i64 3,.slice (some ⟨w1.heap.size,0,none⟩) 1 1] 83)=W at *;generalize w1.heap.size+1=g at *;generalize Value.slice (some ⟨w1.heap.size,0,none⟩) 1 1=v0 at *
  go_loopw [5] (fun i wr=>∃ (k:Nat) (v:Value),k<=n/\i = .int .i64 k/\Hid (Vn w (h :: (l.take k).map gH) g v wr)) (fun i _=>n - (intOf i).toNat)
  case atStart=>exact ⟨0,v0,ce _,rfl,N0⟩
  case round =>
   obtain ⟨k,v,hk,rfl,RR⟩:=hrel;obtain ⟨av,cv,ev,_,_⟩:=RR.own.slice;rw [PL.out h k hk] at ev;generalize k+1=L at ev;subst ev;have glt:=RR.lt
   by_cases hlt:k < n
   ·obtain ⟨b,off,rfl,A⟩:=HA (by omega)
    have cw:=tq A k (by rw [HN.out];exact hlt);have bw:=bo _ _ cw;have CW:=Hh cw;have ok:=OK.out k hlt;have PK:=Hh (PS h k hlt);have PLK:=Hh (PL h k hk);have AA:=Hh A;clear A cw;unfold yX at ok;generalize fA l k=x at *;have W2:IntKind.u8.wrap x=x:=by rw [IntKind.wrap];simp [IntKind.signed,IntKind.bits];omega
    go_upto_region 7 with fail;have C0:GC g (.slice av L cv) ⟨b,off+k,none⟩ x wr.drew:=⟨RR.row,(RR.aD.cell bw).trans CW⟩;have c0:=Sc.ay (C:=GC g (.slice av L cv) ⟨b,off+k,none⟩ x) (a:=⟨b,off+k,none⟩) (fun W' h=>h.2);have c1:=Sc.ay (C:=GC g (.slice av L cv) ⟨b,off+k,none⟩ x) (a:=⟨g,1,none⟩) (fun W' h=>ah h.1 1);have ne:Nonempty (Sc.In (GC g (.slice av L cv) ⟨b,off+k,none⟩ x)):=⟨⟨_,C0⟩⟩;have GG:Hid (Vn w (h :: (l.take k).map gH) g (.slice av L cv) wr.drew):=Hh ⟨RR.row,RR.res,RR.own,RR.aD.drew,RR.lt⟩;clear RR;refine Sz.start (GC g (.slice av L cv) ⟨b,off+k,none⟩ x) [(false,0),(false,1),(false,2),(false,3),(false,4),(false,5),(false,6),(false,7),(true,8),(true,9),(false,10)] 11 (by kernel_rfl) (by kernel_rfl) (by kernel_rfl) rfl rfl C0 ?_;dsimp only [Sd.aK,List.getElem?_cons_succ,List.getElem?_cons_zero]
    repeat (refine Sz.lit ?_;quiet_step (fail);refine bi ?_)
    have C1:=Hh C0;clear C0 c0 c1;generalize wr.drew=w4 at *;refine Sz.call (by rfl) (fun K hK=>?_);go_simp;have zB:=GG.aD.size;have ba:=cz w4 (.cells #[.int .u8 x,.int .u8 0,.int .u8 0,.int .u8 0] 36);have C5:GC g (.slice av L cv) ⟨b,off+k,none⟩ x (w4.alloc (.cells #[.int .u8 x,.int .u8 0,.int .u8 0,.int .u8 0] 36)):=⟨(ba g (bh C1.out.1)).trans C1.out.1,(((aa w4.heap.size w4).alloc (ac _) _).cell (bo _ _ C1.out.2)).trans C1.out.2⟩;have B5:=Hh (GG.aD.alloc zB (.cells #[.int .u8 x,.int .u8 0,.int .u8 0,.int .u8 0] 36));have O5:=Hh (GG.own.alloc (.cells #[.int .u8 x,.int .u8 0,.int .u8 0,.int .u8 0] 36));have S5:=Hh ((ba w.heap.size (bh GG.res)).trans GG.res);have Y5:=Hh (aw w4 (.cells #[.int .u8 x,.int .u8 0,.int .u8 0,.int .u8 0] 36));have hz5:Hid (w.heap.size+1<=(w4.alloc (.cells #[.int .u8 x,.int .u8 0,.int .u8 0,.int .u8 0] 36)).heap.size):=Hh (by simp;omega);refine hK _ _ (Sc.Cl.of C5) ?_;have C5':=Hh C5;clear hK K ba C5 C1 GG;generalize (w4.alloc (.cells #[.int .u8 x,.int .u8 0,.int .u8 0,.int .u8 0] 36))=w5 at *;generalize w4.heap.size=g4 at *;refine Sz.call (by rfl) (fun K hK=>?_);refine XL (Kd:=K4) underlying81 Kg rfl (by omega) _ _ rfl (w.heap.size+1) _ _ rfl O5.out ⟨g4,0,none⟩ (gH x) rfl ?a1 ?a2 hz5.out ?_
    case a1 =>
     intro j u hu
     have c:=ah Y5 j
     match j,hu with
     | 0,hu=>simp [K4,gH] at hu;subst hu;exact c
     | 1,hu=>simp [K4,gH] at hu;subst hu;exact c
     | 2,hu=>simp [K4,gH] at hu;subst hu;exact c
     | 3,hu=>simp [K4,gH] at hu;subst hu;exact c
     | j+4,hu=>simp [K4] at hu
    case a2=>rw [PLK.out];omega
    intro v6 w6 o6 b6 f6
    rw [PK.out] at o6;have rr:=f6 g _ _ C5'.out.1 (by decide);have rs:=f6 w.heap.size _ _ S5 (by decide);have C6:GC g (.slice av L cv) ⟨b,off+k,none⟩ x w6:=⟨rr,((B5.trans (b6.mono (Nat.le_succ _))).cell bw).trans CW⟩;obtain ⟨v6a,v6c,n6,rfl⟩:∃ a c n,v6 = .slice a n c:=by obtain ⟨a,c,e,_⟩:=o6.slice;exact ⟨a,c,_,e⟩
    have N6:Hid (Vn w (h :: (l.take (k+1)).map gH) g (.slice v6a n6 v6c) (w6.setCell ⟨g,1,none⟩ (.slice v6a n6 v6c))):=by
     refine Hh ⟨Rw.heap_setCell_same rr _,(bs w6 ⟨g,1,none⟩ _ w.heap.size (show w.heap.size≠g by omega)).trans rs,o6.far (p:=⟨g,1,none⟩) rr (by decide) _,?_,glt⟩;exact (B5.trans (b6.mono (Nat.le_succ _))).setCell (by simp;omega) _
    have c6:=Fl.rc rr 1;have e6:=aj rr 1;refine hK _ _ (Sc.Cl.of C6) ?_;have c1:=Sc.ay (C:=GC g (.slice av L cv) ⟨b,off+k,none⟩ x) (a:=⟨g,1,none⟩) (fun W' h=>ah h.1 1);clear hK K rr rs b6 f6 o6 B5 O5 S5 Y5 C5' hz5 C6
    repeat (refine Sz.lit ?_;quiet_step (fail);refine bi ?_)
    refine Sz.done ?_;clear c1;go_simp;clear c6 e6;generalize (w6.setCell ⟨g,1,none⟩ (.slice v6a n6 v6c))=w8 at *;refine NoPanic.normal ?_;go_wp2
    go_roundw
    case rel=>exact ⟨k+1,_,by omega,by go_num,N6⟩
    case measure=>simp [intOf];omega
   ·obtain rfl:k=n:=by omega
    have PEK:=Hh (PE h);clear PE PL PS OK;have O5:=Hh (show Ow K4 wr (w.heap.size+1) 36 (.slice av L cv) (bE l) by rw [HF.out,← PEK.out];exact RR.out.own);obtain ⟨d0,d1⟩:=CQ RR.row;obtain ⟨r0,r1,s0,s1⟩:=C9 RR.res;have hne:(Value.slice av L cv).ownBlock≠some w.heap.size:=O5.range (.inl (by omega));have RV:=Hh (aZ RR.res 3 (.slice av L cv));have O6:=Hh (dR (u:=.slice av L cv) O5 hne 3);have B6:=Hh (aM (p:=3) (v:=.slice av L cv) RR.aD (ac _));clear RR O5 hne PEK;go_wp2
    (try simp only [Exit.inBlock,Exit.then])
    exact bj (v:=.tuple #[file 3 _,.int .i64 0]) (dh (p:=2) (r:=3) rfl _ _ w.heap.size 3 _ 0 rfl rfl RV) rfl (HE _ _ O6.rd B6)
 ·have GA:=Hh (aI (show seqB l=false from aq hm) (Gb _ v l R0))
  have E:=Hh (tQ (w:=w) hm);clear hm;obtain ⟨a,cap,rfl,_,hm,_⟩:=R;clear R0;generalize l.length=n at *
  go_enter func27,ntmps27
  go_wp2_with fail;refine GA.mono ?_;rintro e w1 ⟨rfl,b1⟩;have z1:w.heap.size < w1.heap.size:=by have:=b1.size;simp at this;omega
  have B1:=aP B0 b1;have r0:=(b1.block _ (by simp)).trans (aw w _);obtain ⟨c0,c1,f0,f1⟩:=C9 r0;have RR:=Hh (aZ r0 0 (.slice none 0 0));clear b1 B0 r0 GA;go_wp2
  (try simp only [Exit.inBlock,Exit.then])
  exact bj (v:=.tuple #[file 0 (.slice none 0 0),.int .i64 1]) (dh (p:=2) (r:=3) rfl _ _ w.heap.size 0 _ 1 rfl rfl RR) rfl (E _ (aM B1 (ac _)))
end Re
namespace Re
structure wh (w:World) (h:R4) (l:List Int) (g gF N cap k:Nat) (wr:World):Prop where
 row:wr.heap[gF]? = some (.cells #[.int .i64 3,.slice (some ⟨g,0,none⟩) N cap] 83 (0,0))
 res:wr.heap[w.heap.size]? = some (.cells #[.int .i64 0,.slice none 0 0] 83 (0,0))
 own:Ow K4 wr (w.heap.size+1) 36 (.slice (some ⟨g,0,none⟩) N cap) (part h l k)
 aD:Below w.heap.size w wr
theorem vV (w:World) (v:Value) (l:List Int) (R:Rd KI w v l):Calls prog 109 #[v] w (dS w l):=by
 have B0:=Hh ((aa w.heap.size w).alloc (ac _) (.cells #[.int .i64 0,.slice none 0 0] 83));have R0:=Hh (R.below B0)
 by_cases hm:fT l
 ·have GA:=Hh (aI (show seqB l=true from az hm) (qJ _ v l R0))
  have HE:=Hh (fun u w'=>oP (w:=w) hm u w');have hl:=hm.1.2;have OK:=Hh hm.2;clear hm R0;obtain ⟨a,cap0,rfl,_,hm,hA⟩:=R;have HA:=Hh hA;unfold maxLen at hm;clear hA;have HF:Hid (bE l=hdr 3 (l.length:Int) :: l.map gH):=Hh rfl;have PS:=Hh (fun h k=>xD (k:=k) h (l:=l));have PE:=Hh (fun h=>xI h l);have PL:=Hh (fun h k=>xx h l k);have NL:Hid (newL 3 (l.length:Int)=part (hdr 3 (l.length:Int)) l 0):=Hh (by rw [nV];rfl);have NO:=Hh (fun w=>tZ w 3 (l.length:Int) ⟨by omega,by omega,by omega,by omega⟩);unfold qX at NO;rw [NL.out] at NO;clear NL;generalize hdr 3 (l.length:Int)=h at *;generalize hn:l.length=n at *;have HN:=Hh hn;clear hn;unfold file at NO
  go_enter func109,ntmps109
  go_wp2_with fail;refine GA.mono ?_;rintro e w1 ⟨rfl,b1⟩;have z1:w.heap.size+1<=w1.heap.size:=by have:=b1.size;simp at this;omega
  have B1:=aP B0 b1;have r1:=(b1.block _ (by simp)).trans (aw w _);have S1:=Hh r1;clear b1 GA B0 r1;go_wp2_with fail;refine (NO _).mono ?_;rintro e w2 ⟨u,rfl,o2,b2⟩;obtain ⟨g,cap,rfl,hg1,hg2,hcc,hcm,_,_⟩:=o2.form (by rw [PL.out _ _ (ce _)];omega);rw [PL.out _ _ (ce _)] at o2 hcc ⊢;have hz:∀ o,(w2.alloc o).heap.size=w2.heap.size+1:=fun o=>by simp
  have F0:Hid (wh w h l g w2.heap.size (n+1) cap 0 (w2.alloc (.cells #[.int .i64 3,.slice (some ⟨g,0,none⟩) (n+1) cap] 83))):=Hh
   ⟨aw w2 _,(cz _ _ _ (by have:=b2.size;omega)).trans ((b2.block _ (by omega)).trans S1.out),(o2.alloc _).low (by omega),(B1.out.trans (b2.mono (by omega))).alloc (by have:=b2.size;omega) _⟩
  have hgF:w.heap.size < w2.heap.size:=by have:=b2.size;omega
  have hg0:w.heap.size < g:=by omega
  clear b2 o2 S1 B1 NO hz;go_wp2;generalize w2.alloc (.cells #[.int .i64 3,.slice (some ⟨g,0,none⟩) (n+1) cap] 83)=W at *;generalize w2.heap.size=gF at *;generalize hN2:n+1=N at *;have HN2:=Hh hN2;clear hN2
  go_loopw [20] (fun i wr=>∃ k:Nat,k<=n/\i = .int .i64 k/\Hid (wh w h l g gF N cap k wr)) (fun i _=>n - (intOf i).toNat)
  case atStart=>exact ⟨0,ce _,rfl,F0⟩
  case round =>
   obtain ⟨k,hk,rfl,RR⟩:=hrel
   by_cases hlt:k < n
   ·obtain ⟨b,off,rfl,A⟩:=HA (by omega)
    have c0:=tq (A.below RR.aD) k (by rw [HN.out];exact hlt);have PK:=Hh (PS h k hlt);have PLK:=Hh (PL h k hk);have ok:=OK.out k hlt;have AA:=Hh A;clear A;unfold yX at ok;generalize fA l k=x at *;have W2:IntKind.u8.wrap x=x:=by rw [IntKind.wrap];simp [IntKind.signed,IntKind.bits];omega
    obtain ⟨K1,hK1⟩:∃ K1,K1=k+1:=⟨_,rfl⟩;have W1:IntKind.i64.wrap (1+(k:Int))=(K1:Int):=by rw [cx _ (by omega)];omega
    have hkN:K1 < N:=by have:=HN2.out;omega
    obtain ⟨g',cap',eg,_,_,_,_,hfr,hat⟩:=RR.own.form (by rw [PLK.out];omega);have eg':g'=g:=by
     injection eg with e1;injection e1 with e1;injection e1 with e1 _ _;exact e1.symm
    subst eg';have hKL:K1 < (part h l k).length:=by rw [PLK.out];have:=HN2.out;omega
    have eK:K1=1+k:=by omega
    have O5:=Hh (fG (i:=K1) RR.own (by rw [PLK.out]) hKL (gH x));rw [show (part h l k).set K1 (gH x)=part h l (k+1) by rw [eK];exact PK.out] at O5;clear eK;have HK:=Hh hK1;clear hK1;obtain ⟨d0,d1,d2,d3⟩:=at4 hat K1 hKL;rw [eI] at d0 d1 d2 d3;have f0:=hfr (K1 * 4);have f1:=hfr (K1 * 4+1);have f2:=hfr (K1 * 4+2);have f3:=hfr (K1 * 4+3);have k1:=Fl.rc RR.row 1;have hne:gF≠g':=fun e=>by
     have:=RR.own.apart RR.row (by decide);exact this (by simp [Value.ownBlock,e])
    have fF:=aH (g:=g') (o:=K1 * 4) (r:=gH x) RR.row hne;have r5:=aH (g:=g') (o:=K1 * 4) (r:=gH x) RR.res (by omega);have B5:=Hh (aJ (o:=K1 * 4) (r:=gH x) RR.aD (show w.heap.size<=g' by omega));have N5:Hid (wh w h l g' gF N cap (k+1) (bf wr g' (K1 * 4) (gH x))):=Hh ⟨fF,r5,O5,B5⟩;clear hfr hat eg O5 B5 fF r5 RR hne;unfold bf gH at N5;go_wp2
    go_roundw
    case rel=>exact ⟨k+1,by omega,by go_num,N5⟩
    case measure=>simp [intOf];omega
   ·obtain rfl:k=n:=by omega
    have PK:=Hh (PE h);have PLK:=Hh (PL h k (ac _));clear PS PE PL OK;have O5:=Hh (show Ow K4 wr (w.heap.size+1) 36 (.slice (some ⟨g,0,none⟩) N cap) (bE l) by rw [HF.out,← PK.out];exact RR.out.own);obtain ⟨d0,d1⟩:=CQ RR.row;obtain ⟨e0,e1,f0,f1⟩:=C9 RR.res;have hne:(Value.slice (some ⟨g,0,none⟩) N cap).ownBlock≠some w.heap.size:=O5.range (.inl (by omega));have RV:=Hh (aZ RR.res 3 (.slice (some ⟨g,0,none⟩) N cap));have O6:=Hh (dR (u:=.slice (some ⟨g,0,none⟩) N cap) O5 hne 3);have B6:=Hh (aM (p:=3) (v:=.slice (some ⟨g,0,none⟩) N cap) RR.aD (ac _));clear RR O5 hne PK PLK;go_wp2
    (try simp only [Exit.inBlock,Exit.then])
    exact bj (v:=.tuple #[file 3 _,.int .i64 0]) (dh (p:=2) (r:=3) rfl _ _ w.heap.size 3 _ 0 rfl rfl RV) rfl (HE _ _ O6.rd B6)
 ·have GA:=Hh (aI (show seqB l=false from aq hm) (qJ _ v l R0))
  have E:=Hh (tQ (w:=w) hm);clear hm;obtain ⟨a,cap,rfl,_,hm,_⟩:=R;clear R0;generalize l.length=n at *
  go_enter func109,ntmps109
  go_wp2_with fail;refine GA.mono ?_;rintro e w1 ⟨rfl,b1⟩;have z1:w.heap.size < w1.heap.size:=by have:=b1.size;simp at this;omega
  have B1:=aP B0 b1;have r0:=(b1.block _ (by simp)).trans (aw w _);obtain ⟨c0,c1,f0,f1⟩:=C9 r0;have RR:=Hh (aZ r0 0 (.slice none 0 0));clear b1 B0 r0 GA;go_wp2
  (try simp only [Exit.inBlock,Exit.then])
  exact bj (v:=.tuple #[file 0 (.slice none 0 0),.int .i64 1]) (dh (p:=2) (r:=3) rfl _ _ w.heap.size 0 _ 1 rfl rfl RR) rfl (E _ (aM B1 (ac _)))
end Re
namespace Fl
def eqB (l l':List R4):Bool:=decide (l=l')
theorem jb (w:World) (v v':Value) (l l':List R4) (R:Rd K4 w v l) (R':Rd K4 w v' l'):Calls prog 130 #[v,v'] w fun e w'=>e = .returned (.bool (eqB l l'))/\Below w.heap.size w w':=by
 have HNO:Hid (¬ l=l'->false=eqB l l'):=fun h=>(aq h).symm;have HYES:Hid (l=l'->true=eqB l l'):=fun b=>(az b).symm;have HL:Hid (l.length=l'.length->(∀ i,i < l.length->rat l i=rat l' i)->l=l'):=fun a b=>zU a b;obtain ⟨a,cap,rfl,_,hm,hA⟩:=R;obtain ⟨a',cap',rfl,_,hm',hA'⟩:=R';have HA:=Hh hA;have HA':=Hh hA';unfold maxLen at hm hm';clear hA hA';have HNE:Hid (l.length≠l'.length->¬ (l=l')):=fun h2 h=>h2 (by rw [h]);generalize hn:l.length=n at *;generalize hn':l'.length=n' at *;have HN:=Hh hn;have HN':=Hh hn';clear hn hn'
 by_cases h2:n=n'
 ·subst h2
  go_enter func130,ntmps130
  go_wp2
  go_loopw [13,5] (fun i j wr=>∃ k:Nat,k<=n/\i = .int .i64 k/\Hid (Below w.heap.size w wr)/\Hid (∀ i,i < k->rat l i=rat l' i)) (fun i j _=>n - (intOf i).toNat)
  case atStart=>exact ⟨0,ce _,rfl,aa _ _,fun i hi=>by omega⟩
  case round =>
   obtain ⟨j,hj,rfl,bw,hs⟩:=hrel
   by_cases hlt:j < n
   ·obtain ⟨b,off,rfl,A⟩:=HA (by omega)
    obtain ⟨b',off',rfl,A'⟩:=HA' (by omega);obtain ⟨c0,c1,c2,c3⟩:=at4 (A.below bw) j (by have:=HN.out;omega);obtain ⟨d0,d1,d2,d3⟩:=at4 (A'.below bw) j (by have:=HN'.out;omega);have HAA:=Hh A;have HAA':=Hh A';clear A A';have es:=qW (rat l j) (rat l' j)
    by_cases he:rat l j=rat l' j
    ·have ST:Hid (∀ i,i < j+1->rat l i=rat l' i):=fun i hi=>by
      by_cases e:i=j
      ·rw [e];exact he
      ·exact hs i (by omega)
     rw [az he] at es;clear he;generalize rat l j=r at *;generalize rat l' j=r' at *;go_wp2
     go_quiet (fail)
     go_wp2
     go_roundw
     case rel=>exact ⟨j+1,by omega,by go_num,gC bw.out _,ST⟩
     case measure=>simp [intOf];omega
    ·have E:=Hh (HNO (fun h=>he (by rw [h])))
     rw [aq he] at es;clear he;generalize rat l j=r at *;generalize rat l' j=r' at *;go_wp2
     go_quiet (fail)
     go_wp2
     go_ret
     exact ⟨ak E,gC bw _⟩
   ·obtain rfl:j=n:=by omega
    have E:=Hh (HYES (HL (by trivial) (fun i hi=>hs i hi)));go_wp2
    go_ret
    exact ⟨ak E,bw⟩
 ·have E:=Hh (HNO (HNE h2))
  have h3:¬ ((n:Int)=n'):=by omega
  clear HL HA HA' HYES HNO
  go_enter func130,ntmps130
  go_wp2
  go_ret
  exact ⟨ak E,aa _ _⟩
theorem wR (w:World) (p p':Int) (v v':Value) (l l':List R4) (R:Rd K4 w v l) (R':Rd K4 w v' l'):Calls prog 110 #[file p v,file p' v'] w fun e w'=>e = .returned (.bool (jX p l p' l'))/\Below w.heap.size w w':=by
 have bb:=((aa w.heap.size w).alloc (ac _) (.cells #[.int .i64 p,v] 83)).alloc (by simp) (.cells #[.int .i64 p',v'] 83);have B0:=Hh bb;have Q:=Hh (jb _ v v' l l' (R.below bb) (R'.below bb));obtain ⟨a,cap,rfl,_⟩:=R;obtain ⟨a',cap',rfl,_⟩:=R';clear bb;generalize l.length=n at *;generalize l'.length=n' at *;unfold file
 by_cases h:p=p'
 ·subst h
  have E:Hid (eqB l l'=jX p l p l'):=Hh (by unfold eqB jX;rw [cM];exact ⟨fun h=>⟨rfl,h⟩,fun h=>h.2⟩)
  go_enter func110,ntmps110
  go_wp2_with fail;refine Q.mono ?_;rintro e w1 ⟨rfl,b1⟩;have B1:=aP B0 b1;clear b1 Q;generalize eqB l l'=bq at *;go_wp2
  go_ret
  exact ⟨ak E,B1⟩
 ·have E:Hid (false=jX p l p' l'):=Hh (aq (fun k=>h k.1)).symm
  go_enter func110,ntmps110
  go_wp2
  go_ret
  exact ⟨ak E,B0⟩
end Fl
namespace Re
structure Qt (w1:World) (L:List Int) (k:Nat) (u:Value) (wr:World):Prop where
 own:Ow KI wr w1.heap.size 3 u (L.take k)
 aD:Below w1.heap.size w1 wr
variable {w:World} {b off:Nat} {l:List R4}
theorem Ch (h:At K4 w b off l):At K4 w b (off+4) (l.drop 1):=fun i hi j u hu=>by
 rw [fX] at hi;have e:=h (i+1) (by omega) j u (by rw [← hu];congr 1;simp [List.getD]);rw [show off+(i+1) * K4.n+j=off+4+i * K4.n+j by show off+(i+1) * 4+j=off+4+i * 4+j;omega] at e;exact e
theorem Co (h:l.length<=1):At K4 w b off (l.drop 1):=fun i hi=>by rw [fX] at hi;omega
theorem vM (h:dG l) (k:Nat):dG (l.drop k):=fun r hr=>h r (List.mem_of_mem_drop hr)
theorem P9 (l:List R4) (k:Nat):rat (l.drop 1) k=rat l (k+1):=by unfold rat;simp only [af,List.getElem?_drop];rw [Nat.add_comm 1 k]
theorem pV (w:World) (p:Int) (v:Value) (l:List R4) (R:Rd K4 w v l) (ok:dG l):Calls prog 82 #[file p v] w (mQ w p l):=by
 have B0:=Hh ((aa w.heap.size w).alloc (ac _) (.cells #[.int .i64 p,v] 83));have R0:=Hh (R.below B0);clear R
 by_cases hg:aL p l
 ·have GA:=Hh (aI (show bG p l=true from az hg) (Fl.aQ _ p v l R0.out))
  have hl:=hg.2.2.1;have hl2:=hg.2.2.2.1;have HG:=Hh hg;have OK:=Hh ok;clear hg ok;have SA:=Hh (fun w v' l' R R'=>Fl.wR w p 3 v v' l l' R R');obtain ⟨a,cap,rfl,⟨hc,_⟩,hm,hA⟩:=R0.out;obtain ⟨b,off,rfl,hA⟩:=hA (by omega);have HA:=Hh hA;unfold maxLen at hm;clear hA;have FA:=Hh (fun w v R=>vV w v (gQ l) R);have YES:=Hh (fun h u w'=>JD (w:=w) (p:=p) (l:=l) (w':=w') h u);have NO:=Hh (fun h w'=>JO (w:=w) (p:=p) (l:=l) (w':=w') h);have RN:Hid (∀ k,k+1 < l.length->(gQ l).take k ++ [(rat (l.drop 1) k).1]=(gQ l).take (k+1)):=Hh (fun k h=>by rw [P9];exact Ta h);have RA:Hid ((gQ l).take (l.length - 1)=gQ l):=Hh (by rw [← Cx,cX]);have RL:Hid (∀ k,k<=l.length - 1->((gQ l).take k).length=k):=Hh (fun k h=>by rw [cD,Cx];omega);have IS:Hid (GU p l↔fT (gQ l)/\(p=3/\l=bE (gQ l))):=Hh ⟨fun h=>h.2,fun h=>⟨HG.out,h⟩⟩;generalize hn:l.length=n at *;have HN:=Hh hn;clear hn;unfold file at *
  go_enter func82,ntmps82
  go_wp2_with fail;refine GA.out.mono ?_;rintro e w1 ⟨rfl,b1⟩;have B1:=Hh (B0.out.trans (b1.mono B0.out.size));have A1:=Hh (HA.out.below b1);have R1:=Hh (R0.out.below b1);have X1:=(b1.block _ (by simp)).trans (aw w _);have c1:=Fl.rc X1 1;have Y1:=Hh X1;clear b1 GA B0 HA R0 X1;have AI:Hid (n<=1->At K4 w1 b off (l.drop 1)):=Hh (fun h=>Co (by rw [HN.out];exact h));have AR:=Hh (Ch A1);have KR:=Hh (vM OK 1);have LR:Hid ((l.drop 1).length=n - 1):=Hh (by rw [fX,HN.out]);clear HG OK A1;have hn1:n - 1<=255:=by omega
  have RN2:Hid (∀ k,k < n - 1->(gQ l).take k ++ [(rat (l.drop 1) k).1]=(gQ l).take (k+1)):=Hh (fun k h=>RN k (by omega));clear RN;generalize l.drop 1=r at *;generalize gQ l=L at *;go_wp2
  case' inl =>
   have A2:=Hh (AI (by omega));clear AI AR
  case' inr =>
   have A2:=AR;clear AI AR;generalize off+4=off2 at *
  all_goals
   generalize n - 1=m at *;clear c1
   go_loopw [16,4] (fun i u wr=>∃ (k:Nat),k<=m/\i = .int .i64 k/\Hid (Qt w1 L k u wr)) (fun i _ _=>m - (intOf i).toNat)
   case atStart=>exact ⟨0,ce _,rfl,Hh ⟨by rw [List.take_zero];exact Rw.Ow.nil _ _ _,aa _ _⟩⟩
   case round =>
    obtain ⟨k,hk,rfl,RR⟩:=hrel;obtain ⟨av,cv,ev,hcv,hmv⟩:=RR.own.slice;rw [RL.out k hk] at ev hcv;subst ev
    by_cases hlt:k < m
    ·obtain ⟨c0,c1',c2,c3⟩:=at4 (A2.below RR.aD) k (by rw [LR.out];exact hlt)
     have kv:=(jL KR k).1;have RX:=Hh (RN2 k hlt);have RK:=Hh (RL k hk);generalize rat r k=y at *;have W0:IntKind.i64.wrap y.1=y.1:=cx _ (by omega);have zb:=RR.aD.size
     go_wp2_with (at_builtin;refine Rw.dX underlying33 yJ rfl (by omega) rfl _ _ rfl w1.heap.size _ _ rfl ((RR.out.own.alloc _).alloc _) _ y.1 rfl ?d1 ?d2 ?d3 ?_)
     case d1 =>
      intro j u hu
      match j,hu with
      | 0,hu=>simp [KI,Rw.int] at hu;subst hu;rw [qx];go_simp
     case d2=>rw [RK.out];omega
     case d3=>simp;omega
     intro v' w3 o3 b3
     rw [RX.out] at o3;have N3:Hid (Qt w1 L (k+1) v' w3):=Hh ⟨o3,((RR.aD.alloc zb _).alloc (by simp;omega) _).trans (b3.mono (ac _))⟩;obtain ⟨av',cv',ev',_,_⟩:=o3.slice;rw [RL.out _ (by omega)] at ev';subst ev';clear o3 b3 RR RX RK kv;go_wp2
     go_roundw
     case rel=>exact ⟨k+1,by omega,by go_num,N3⟩
     case measure=>simp [intOf];omega
    ·obtain rfl:k=m:=by omega
     have O2:=RR.own;rw [RA.out] at O2;have RL2:=Hh O2.rd;have BW:=Hh (B1.trans (RR.aD.mono B1.size));have RF:=Hh (R1.below RR.aD);have XF:=bV RR.aD Y1;clear RR O2 RN2 RL RA A2 KR LR R1 Y1 B1;unfold dS file at FA;go_wp2_with fail;refine (FA _ _ RL2).mono ?_;rintro e w4 ⟨u4,rfl,r4,b4⟩;obtain ⟨a4,n4,k4,rfl⟩:∃ a n c,u4 = .slice a n c:=by obtain ⟨a,c,e,_⟩:=r4;exact ⟨a,_,c,e⟩
     have B4:=aP BW b4;have RF4:=Hh (RF.below b4);have RL4:=Hh (RL2.below b4);have X4:=bV b4 XF;have r4h:=Hh r4;have BB:Hid (Below w4.heap.size w4 (w4.alloc (.cells #[.int .i64 (fP L),.slice a4 n4 k4] 83))):=Hh ((aa _ _).alloc (ac _) _);have B5:=aP B4 BB;have RF5:=Hh (RF4.below BB);have RL5:=Hh (RL4.below BB);have RU5:=Hh (r4.below BB);have X5:=bV BB X4;have Y5:=aw w4 (.cells #[.int .i64 (fP L),.slice a4 n4 k4] 83);clear b4 BW RF RL2 XF r4 r4h FA BB B4 RF4 RL4 X4
     by_cases hs:fT L
     ·have e1:fP L=3:=an hs
      have e2:fN L=0:=an hs;have e3:fL L=bE L:=an hs;rw [e1] at B5 RF5 RL5 RU5 X5 Y5 ⊢;rw [e3] at RU5;rw [e2];clear e1 e2 e3
      by_cases hq:p=3/\l=bE L
      ·have E:=Hh (YES (IS.out.2 ⟨hs,hq⟩))
       have S4:=Hh (fun w v' R R'=>aI (show jX p l 3 (bE L)=true from az hq) (SA w v' (bE L) R R'));clear YES NO IS SA hs hq;go_upto_region 10 with fail
       (try (rename cap=1=>hc1;subst hc1))
       generalize w4.alloc (.cells #[.int .i64 3,.slice a4 n4 k4] 83)=W at *;generalize w4.heap.size=gF at *;obtain ⟨d0,d1⟩:=CQ X5;obtain ⟨e0,e1⟩:=CQ Y5;go_wp2_with fail;refine (S4 _ _ RF5 RU5).mono ?_;rintro e w6 ⟨rfl,b6⟩;have E6:=Hh (E _ _ (RL5.below b6) (aP B5 b6));clear b6 S4 d0 d1 e0 e1;go_wp2
       go_ret2
       exact E6
      ·have E:=Hh (NO (fun h=>hq (IS.out.1 h).2))
       have S4:=Hh (fun w v' R R'=>aI (show jX p l 3 (bE L)=false from aq hq) (SA w v' (bE L) R R'));clear YES NO IS SA hs hq;go_upto_region 10 with fail
       (try (rename cap=1=>hc1;subst hc1))
       generalize w4.alloc (.cells #[.int .i64 3,.slice a4 n4 k4] 83)=W at *;generalize w4.heap.size=gF at *;obtain ⟨d0,d1⟩:=CQ X5;obtain ⟨e0,e1⟩:=CQ Y5;go_wp2_with fail;refine (S4 _ _ RF5 RU5).mono ?_;rintro e w6 ⟨rfl,b6⟩;have E6:=Hh (E.out _ (B5.out.trans (b6.mono B5.out.size)));clear b6 S4 d0 d1 e0 e1;go_wp2
       go_ret2
       exact E6.out
     ·have e2:fN L=1:=ai hs
      rw [e2];have E:=Hh (NO.out (fun h=>hs (IS.out.1 h).1));clear YES NO IS SA hs e2 RU5 RL5 RF5 X5 Y5;go_wp2
      go_ret2
      exact E.out _ B5.out
 ·have GA:=Hh (aI (show bG p l=false from aq hg) (Fl.aQ _ p v l R0.out))
  have E:=Hh (fun w'=>JO (w:=w) (p:=p) (l:=l) (w':=w') (fun h=>hg h.1));clear hg ok;obtain ⟨a,cap,rfl,_,hm,hA⟩:=R0.out;clear hA R0;generalize l.length=n at *;unfold file at *
  go_enter func82,ntmps82
  go_wp2_with fail;refine GA.mono ?_;rintro e w1 ⟨rfl,b1⟩;have B1:=aP B0 b1;clear b1 GA B0;go_wp2
  go_ret2
  exact E _ B1
end Re
namespace Cu
open Go.Maps
open Fs (gI)
variable {L:List aA} {n:Int}
theorem aaD (h:∀ j,j < L.length->∀ e,L[j]? = some e->e.n≠n):fB (L.map aA.abs) n=false/\fP (L.map aA.abs) n=0/\fR (L.map aA.abs) n = []:=by
 have e:Fs.look key n (L.map aA.abs)=none:=by
  rw [gI]
  rw [Fs.dJ.2 fun x hx=>by
   obtain ⟨i,hi⟩:=dq hx
   exact h i (cg.1 hi).1 x hi]
  rfl
 unfold fB fP fR;rw [e];exact ⟨rfl,rfl,rfl⟩
theorem aaF {k:Nat} {c:aA} (hc:L[k]? = some c) (hn:c.n=n) (h:∀ j,j < k->∀ e,L[j]? = some e->e.n≠n):fB (L.map aA.abs) n=true/\fP (L.map aA.abs) n=c.p/\fR (L.map aA.abs) n=c.l:=by
 have e:Fs.look aA.n n L=some c:=by
  unfold Fs.look;rw [List.find?_eq_some_iff_getElem];obtain ⟨hk,hc2⟩:=cg.1 hc;refine ⟨by simpa using hn,k,hk,hc2,fun j hj=>?_⟩;have:=h j hj _ (am (by omega))
  simpa using this
 have e2:Fs.look key n (L.map aA.abs)=some c.abs:=by rw [gI,e];rfl
 unfold fB fP fR;rw [e2];exact ⟨rfl,rfl,rfl⟩
end Cu
namespace Ro
def ji (w:World) (p:Int) (l:List R4) (e:Ending) (w':World):Prop:=∃ u,e = .returned (.tuple #[u,.int .i64 (qj p l)])/\Ow K5 w' w.heap.size 244 u (kU p l)/\Below w.heap.size w w'
structure Qt (w:World) (r:List R4) (k:Nat) (u:Value) (L:List E5) (wr:World):Prop where
 own:Ow K5 wr w.heap.size 244 u L
 red:Read r k L
 aD:Below w.heap.size w wr
variable {w:World} {b off:Nat} {l:List R4}
theorem Ch (h:At K4 w b off l):At K4 w b (off+4) (l.drop 1):=fun i hi j u hu=>by
 rw [fX] at hi;have e:=h (i+1) (by omega) j u (by rw [← hu];congr 1;simp [List.getD]);rw [show off+(i+1) * K4.n+j=off+4+i * K4.n+j by show off+(i+1) * 4+j=off+4+i * 4+j;omega] at e;exact e
theorem Co (h:l.length<=1):At K4 w b off (l.drop 1):=fun i hi=>by rw [fX] at hi;omega
theorem vM (h:dG l) (k:Nat):dG (l.drop k):=fun r hr=>h r (List.mem_of_mem_drop hr)
def Sm (w:World) (p:Int) (l:List R4) (L:List E5):Prop:=(gW L->∀ u w',Ow K5 w' w.heap.size 244 u L->Below w.heap.size w w'->ji w p l (.returned (.tuple #[u,.int .i64 0])) w')/\(¬ gW L->∀ w',Below w.heap.size w w'->ji w p l (.returned (.tuple #[.slice none 0 0,.int .i64 2])) w')
theorem Xq {p:Int} {L:List E5} (hg:aL p l) (h:scan (l.drop 1)=some L):Sm w p l L :=
 ⟨fun hm u w' hu hb=>by
  have e:=XH hg h hm;exact ⟨u,by rw [e.2],by rw [e.1];exact hu,hb⟩,fun hm w' hb=>by
  have e:=ZM (p:=p) h hm
  exact ⟨_,by rw [e.2],by rw [e.1];exact Rw.Ow.nil _ _ _,hb⟩⟩
theorem xH (w:World) (p:Int) (v:Value) (l:List R4) (R:Rd K4 w v l) (ok:dG l):Calls prog 112 #[file p v] w (ji w p l):=by
 have B0:=Hh ((aa w.heap.size w).alloc (ac _) (.cells #[.int .i64 p,v] 83));have R0:=Hh (R.below B0);have HE:Hid (kU p l = []/\qj p l=2->∀ w',Below w.heap.size w w'->ji w p l (.returned (.tuple #[.slice none 0 0,.int .i64 2])) w'):=Hh (fun h w' hb=>⟨_,by rw [h.2],by rw [h.1];exact Rw.Ow.nil _ _ _,hb⟩);clear R
 by_cases hg:aL p l
 ·have GA:=Hh (aI (show bG p l=true from az hg) (Fl.aQ _ p v l R0.out))
  have hl:=hg.2.2.1;have hl2:=hg.2.2.2.1;have HG:=Hh hg;have OK:=Hh ok;clear hg ok;obtain ⟨a,cap,rfl,⟨hc,_⟩,hm,hA⟩:=R0.out;obtain ⟨b,off,rfl,hA⟩:=hA (by omega);have HA:=Hh hA;unfold maxLen at hm;clear hA R0;generalize hn:l.length=n at *;have HN:=Hh hn;clear hn;unfold file at *
  go_enter func112,ntmps112
  go_wp2_with fail;refine GA.mono ?_;rintro e w1 ⟨rfl,b1⟩;have B1:=aP B0 b1;have A1:=Hh (HA.below b1);have c1:w1.cell? ⟨w.heap.size,1,none⟩=some (.slice (some ⟨b,off,none⟩) n cap):=(b1.cell (by simp)).trans (by go_simp);clear b1 GA B0 HA;have HS:Hid (scan (l.drop 1)=none->∀ w',Below w.heap.size w w'->ji w p l (.returned (.tuple #[.slice none 0 0,.int .i64 2])) w'):=Hh (fun h=>HE (TP h));have HT:Hid (∀ L,scan (l.drop 1)=some L->Sm w p l L):=Hh (fun L h=>Xq HG h);have AI:Hid (n<=1->At K4 w1 b off (l.drop 1)):=Hh (fun h=>Co (by rw [HN.out];exact h));have AR:=Hh (Ch A1);have KR:=Hh (vM OK 1);have LR:Hid ((l.drop 1).length=n - 1):=Hh (by rw [fX,HN.out]);clear HE HG OK A1;have hn1:n - 1<=255:=by omega
  generalize l.drop 1=r at *;go_wp2
  case' inl =>
   have A2:=Hh (AI (by omega));clear AI AR;generalize off=off2 at *
  case' inr =>
   have A2:=AR;clear AI AR;generalize off+4=off2 at *
  all_goals
   generalize n - 1=m at *
   go_loopw [16,4] (fun i u wr=>∃ (k:Nat) (L:List E5),k<=m/\i = .int .i64 k/\Hid (Qt w1 r k u L wr)) (fun i _ _=>m - (intOf i).toNat)
   case atStart=>exact ⟨0,[],ce _,rfl,Hh ⟨Rw.Ow.nil _ _ _,IZ r,aa _ _⟩⟩
   case round =>
    obtain ⟨k,L,hk,rfl,RR⟩:=hrel;obtain ⟨av,cv,ev,hcv,hmv⟩:=RR.own.slice;have LL:=Hh RR.red.1;generalize L.length=Ln at ev hcv LL;subst ev
    by_cases hlt:k < m
    ·obtain ⟨c0,c1',c2,c3⟩:=at4 (A2.below RR.aD) k (by rw [LR.out];exact hlt)
     have kv:=jL KR k;have TA:=Hh (fun w=>dU w (rat r k) kv);have Q1:=Hh (QD RR.red (by rw [LR.out];exact hlt));have Q2:=Hh (Sq RR.red (by rw [LR.out];exact hlt));have Q3:=Hh (M8 RR.red (by rw [LR.out];exact hlt));clear kv
     by_cases h1:gT (gJ (rat r k))
     ·have e1:FD (rat r k)=gJ (rat r k):=an h1
      have e2:takeN (rat r k)=0:=an h1;rw [e1,e2] at TA;have P2:=Hh (Q2 h1);have P3:=Hh (Q3 h1);clear e1 e2 Q1 Q2 Q3 h1;unfold ent aG at TA;generalize gJ (rat r k)=x at *;generalize rat r k=y at *
      by_cases h4:x.1=4
      ·have TE:=Hh (HT L (P2 h4))
       clear P2 P3 HS HT;go_wp2_with fail;refine (TA _).mono ?_;rintro e w2 ⟨rfl,b2⟩;have BA:=RR.aD.alloc RR.aD.size (.cells #[.int .u8 y.1,.int .u8 y.2.1,.int .u8 y.2.2.1,.int .u8 y.2.2.2] 36);have B2:=Hh (BA.trans (b2.mono BA.size));have O2:=Hh ((RR.own.alloc (.cells #[.int .u8 y.1,.int .u8 y.2.1,.int .u8 y.2.2.1,.int .u8 y.2.2.2] 36)).keep b2);have BW:Hid (∀ o,Below w.heap.size w (w2.alloc o)):=Hh (fun o=>B1.trans ((B2.alloc B2.size o).mono B1.size));have RW:Hid (∀ o,Ow K5 (w2.alloc o) w.heap.size 244 (.slice av Ln cv) L):=Hh (fun o=>(O2.alloc o).low B1.size);clear BA b2 B2 O2 RR c0 c1' c2 c3 TA
       by_cases hm:gW L
       ·have E:=Hh (TE.out.1 hm)
        have IT:=Hh (fun w v R=>aI (show eT L=true from az hm) (fU w v L R));clear TE hm;go_wp2_with fail;refine (IT _ _ (Rw.Ow.rd (RW _))).mono ?_;rintro e w4 ⟨rfl,b4⟩;have E4:=Hh (E _ _ (Rw.Ow.keep (RW _) b4) (fW (BW _) (b4.mono (Below.size (BW _)))));clear b4 E IT;go_wp2
        go_ret2
        exact E4
       ·have E:=Hh (TE.out.2 hm)
        have IT:=Hh (fun w v R=>aI (show eT L=false from aq hm) (fU w v L R));clear TE hm;go_wp2_with fail;refine (IT _ _ (Rw.Ow.rd (RW _))).mono ?_;rintro e w4 ⟨rfl,b4⟩;have E4:=Hh (E _ (fW (BW _) (b4.mono (Below.size (BW _)))));clear b4 E IT;go_wp2
        go_ret2
        exact E4
      ·have PR:=Hh (P3 h4)
       clear P2 P3 HS HT;go_wp2_with fail;refine (TA _).mono ?_;rintro e w2 ⟨rfl,b2⟩;have BA:=RR.aD.alloc RR.aD.size (.cells #[.int .u8 y.1,.int .u8 y.2.1,.int .u8 y.2.2.1,.int .u8 y.2.2.2] 36);have B2:=Hh (BA.trans (b2.mono BA.size));have O2:=Hh ((RR.own.alloc (.cells #[.int .u8 y.1,.int .u8 y.2.1,.int .u8 y.2.2.1,.int .u8 y.2.2.2] 36)).keep b2);have LN:=Hh RR.red.1;have z2:=B2.size;clear BA b2 RR c0 c1' c2 c3 TA
       go_wp2_with (at_builtin;refine Rw.dX underlying175 Yw rfl (by omega) rfl _ _ rfl w1.heap.size _ _ rfl ((O2.out.alloc _).alloc _) _ x rfl ?d1 ?d2 ?d3 ?_)
       case d1 =>
        intro j u hu
        match j,hu with
        | 0,hu=>simp [K5] at hu;subst hu;go_simp
        | 1,hu=>simp [K5] at hu;subst hu;go_simp
        | 2,hu=>simp [K5] at hu;subst hu;go_simp
        | 3,hu=>simp [K5] at hu;subst hu;go_simp
        | 4,hu=>simp [K5] at hu;subst hu;go_simp
        | j+5,hu=>simp [K5] at hu
       case d2=>rw [LN.out];omega
       case d3=>simp;omega
       intro v' w3 o3 b3
       have N3:Hid (Qt w1 r (k+1) v' (L ++ [x]) w3):=Hh ⟨o3,PR,((B2.alloc z2 _).alloc (by simp;omega) _).trans (b3.mono (ac _))⟩;obtain ⟨av',cv',ev',_,_⟩:=o3.slice;generalize (L ++ [x]).length=Ln' at ev';subst ev';clear o3 b3 O2 B2 PR LN;go_wp2
       go_roundw
       case rel=>exact ⟨k+1,L ++ [x],by omega,by go_num,N3⟩
       case measure=>simp [intOf];omega
     ·have e1:FD (rat r k)=z5:=ai h1
      have e2:takeN (rat r k)=2:=ai h1;rw [e1,e2] at TA;have E:=Hh (HS (Q1 h1));clear e1 e2 Q1 Q2 Q3 h1 HS HT;unfold ent aG at TA;simp only [z5] at TA;generalize rat r k=y at *;go_wp2_with fail;refine (TA _).mono ?_;rintro e w2 ⟨rfl,b2⟩;have BA:=RR.aD.alloc RR.aD.size (.cells #[.int .u8 y.1,.int .u8 y.2.1,.int .u8 y.2.2.1,.int .u8 y.2.2.2] 36);have B2:=Hh (BA.trans (b2.mono BA.size));have O2:=Hh ((RR.own.alloc (.cells #[.int .u8 y.1,.int .u8 y.2.1,.int .u8 y.2.2.1,.int .u8 y.2.2.2] 36)).keep b2);have BW:Hid (∀ o,Below w.heap.size w (w2.alloc o)):=Hh (fun o=>B1.trans ((B2.alloc B2.size o).mono B1.size));clear BA b2 B2 O2 RR c0 c1' c2 c3 TA;go_wp2
      go_ret2
      exact E _ (BW _)
    ·obtain rfl:k=m:=by omega
     have TE:=Hh (HT L (Px (by rw [LR.out];exact RR.out.red)));have BW:=Hh (B1.trans (RR.aD.mono B1.size));have RW:=Hh (RR.own.low B1.size);clear RR HS HT
     by_cases hm:gW L
     ·have E:=Hh (TE.out.1 hm)
      have IT:=Hh (fun w v R=>aI (show eT L=true from az hm) (fU w v L R));clear TE hm;go_wp2_with fail;refine (IT _ _ (Rw.Ow.rd RW)).mono ?_;rintro e w4 ⟨rfl,b4⟩;have E4:=Hh (E _ _ (Rw.Ow.keep RW b4) (fW BW (b4.mono (Below.size BW))));clear b4 E IT;go_wp2
      go_ret2
      exact E4
     ·have E:=Hh (TE.out.2 hm)
      have IT:=Hh (fun w v R=>aI (show eT L=false from aq hm) (fU w v L R));clear TE hm;go_wp2_with fail;refine (IT.out _ _ (Rw.Ow.rd RW.out)).mono ?_;rintro e w4 ⟨rfl,b4⟩;have E4:=Hh (E.out _ (fW BW.out (b4.mono (Below.size BW.out))));clear b4 E IT;go_wp2
      go_ret2
      exact E4.out
 ·have GA:=Hh (aI (show bG p l=false from aq hg) (Fl.aQ _ p v l R0.out))
  have E:=Hh (HE.out (VR hg));clear hg HE ok;obtain ⟨a,cap,rfl,_,hm,hA⟩:=R0.out;clear hA R0;generalize l.length=n at *;unfold file at *
  go_enter func112,ntmps112
  go_wp2_with fail;refine GA.mono ?_;rintro e w1 ⟨rfl,b1⟩;have B1:=aP B0 b1;clear b1 GA B0;go_wp2
  go_ret2
  exact E _ B1
end Ro
namespace Cu
open Go.Maps
open Fs (iU)
open Ro (xH ji)
attribute [local irreducible] Sd.aV wpQuiet
def QA (w:World) (A:aT) (n:Int) (e:Ending) (w':World):Prop:=∃ v,e = .returned (file (fP A n) v)/\Rd K4 w' v (fR A n)/\Below w.heap.size w w'
section
variable {s t p:Nat} {F G:Nat->Prop} {c:Cs} {vn vq:Value} {L:List Nd} {Fs:Nat->Nat->Prop} {w w':World}
variable {nn:Nat}
theorem zP (h:Cl w s F c t vn L p vq Fs) (hn:nn < c.S.length) (n:Int):Calls prog 83 #[ptr s,.int .i64 nn,.int .i64 n] w (QA w (sat c.S nn).1 n):=by
 have B0:=Hh ((aa w.heap.size w).alloc (ac _) (.cells #[.int .i64 0,.slice none 0 0] 83));have X0:=Hh (aw w (.cells #[.int .i64 0,.slice none 0 0] 83));have C1:=Hh (zX (h.below B0) hn);unfold bY at C1;clear h hn;generalize (sat c.S nn).1=A at *;unfold ptr at *
 go_enter func83,ntmps83
 go_wp2_with fail;refine C1.mono ?_;rintro e w1 ⟨v,rfl,hv,b1⟩;obtain ⟨L,hL,rfl⟩:=hv (fun k=>k=w.heap.size) (fun k e=>by rw [e];simp);have FO:=Hh hL.Pw;have X1:=Hh (bV b1 X0);have B1:=aP B0 b1;have FI:=Hh hL.file;have hlen:L.length<=9223372036854775807:=by
  obtain ⟨_,_,_,⟨_,_⟩,hm,_⟩:=hL.rd;unfold maxLen at hm
  omega
 obtain ⟨a,cap,rfl,_,_,h3⟩:=hL.rd;have H3:=Hh h3;have NO:Hid ((∀ j,j < L.length->∀ e,L[j]? = some e->e.n≠n)->fB (L.map aA.abs) n=false/\fP (L.map aA.abs) n=0/\fR (L.map aA.abs) n = []):=Hh aaD;have YES:Hid (∀ (k:Nat) (c:aA),L[k]? = some c->c.n=n->(∀ j,j < k->∀ e,L[j]? = some e->e.n≠n)->fB (L.map aA.abs) n=true/\fP (L.map aA.abs) n=c.p/\fR (L.map aA.abs) n=c.l):=Hh (fun _ _=>aaF);have BB:=Hh (aa w1.heap.size w1);clear hv hL h3 b1 C1 X0 B0;generalize hN:L.length=N at *;have HN:=Hh hN;clear hN;go_wp2
 go_loopw [13] (fun i wr=>∃ k:Nat,k<=N/\i = .int .i64 k/\Hid (∀ j,j < k->∀ e,L[j]? = some e->e.n≠n)/\Hid (Below w1.heap.size w1 wr)) (fun i _=>N - (intOf i).toNat)
 case atStart=>exact ⟨0,ce _,rfl,fun j hj=>by omega,BB⟩
 case round =>
  clear BB;obtain ⟨k,hk,rfl,hb,B⟩:=hrel
  by_cases hlt:k < N
  ·have hkL:k < L.length:=by have:=HN.out;omega
   obtain ⟨c,hc⟩:∃ c,L[k]? = some c:=⟨_,am hkL⟩;obtain ⟨b,off,rfl,hA⟩:=H3 (by omega);obtain ⟨x0,x1,x2⟩:=at3 (hA.below B) hc;have HAA:=Hh hA;have RF:=Hh (FI c (cU hc));have FF:=Hh (FO c (cU hc));have Y:=Hh (YES k c hc)
   have NB:Hid (c.n≠n->∀ j,j < k+1->∀ e,L[j]? = some e->e.n≠n):=Hh (fun he j hj e hje=>by
    by_cases ej:j=k
    ·subst ej
     rw [hc] at hje;obtain rfl:=cN hje;exact he
    ·exact hb j (by omega) e hje)
   clear hc hkL hA;unfold aA.sl at x2 RF FF;generalize c.a=ca at *;generalize c.cap=ccap at *;generalize c.p=cp at *;generalize c.n=cn at *;generalize c.l=cl at *;have Z0:=Hh (aw wr (.cells #[.int .i64 cn,.int .i64 cp,.slice ca cl.length ccap] 85));have BN:=Hh ((aa wr.heap.size wr).alloc (ac _) (.cells #[.int .i64 cn,.int .i64 cp,.slice ca cl.length ccap] 85));go_upto_region 4 with fail;clear x0 x1 x2;generalize wr.alloc (.cells #[.int .i64 cn,.int .i64 cp,.slice ca cl.length ccap] 85)=W at *;have B2:=aP B BN;clear BN B;generalize wr.heap.size=gx at *;obtain ⟨y0,y1,y2⟩:=CU Z0
   by_cases he:cn=n
   ·have Y1:=Hh (Y he hb)
    subst he;have XW:=Hh (bV B2 X1);obtain ⟨z0,z1,f0,f1⟩:=C9 XW;have R1:=Hh (aZ XW cp (.slice ca cl.length ccap));have BS:=Hh (aM (p:=cp) (v:=.slice ca cl.length ccap) (aP B1 B2) (ac _));have RS:=Hh (iU (RF.below B2) (G:=fun k=>k=w.heap.size) FF ((Only.set (fun k=>k=w.heap.size) W (a:=⟨w.heap.size,0,none⟩) rfl (.int .i64 cp)).trans (Only.set (fun k=>k=w.heap.size) _ (a:=⟨w.heap.size,1,none⟩) rfl (.slice ca cl.length ccap)) fun _ _ g=>g))
    have E:Hid (QA w (L.map aA.abs) cn (.returned (file cp (.slice ca cl.length ccap))) (fq W w.heap.size cp (.slice ca cl.length ccap))):=Hh (by
     obtain ⟨y1,y2,y3⟩:=Y1;refine ⟨_,by rw [y2],?_,BS.out⟩;rw [y3]
     exact RS)
    clear Y Y1 RF FF NO YES hb NB X1 Z0 B2 BS RS;generalize w.heap.size=g0 at *;go_wp2
    (try simp only [Exit.inBlock,Exit.then])
    exact bj (iP (p:=6) rfl _ _ g0 cp (.slice ca cl.length ccap) rfl R1) rfl E
   ·have NB1:=Hh (NB he)
    clear Y RF FF NB hb;go_wp2
    go_roundw
    case rel=>exact ⟨k+1,by omega,by go_num,NB1,B2⟩
    case measure=>simp [intOf];omega
  ·obtain rfl:k=N:=by omega
   have E:=Hh (NO (fun j hj=>hb j (by have:=HN.out;omega)));have XW:=Hh (bV B X1);obtain ⟨z0,z1,f0,f1⟩:=C9 XW;have R1:=Hh (aZ XW 0 (.slice none 0 0));have BS:=Hh (aM (p:=0) (v:=.slice none 0 0) (aP B1 B) (ac _))
   have E1:Hid (QA w (L.map aA.abs) n (.returned (file 0 (.slice none 0 0))) (fq wr w.heap.size 0 (.slice none 0 0))):=Hh (by
    obtain ⟨y1,y2,y3⟩:=E;refine ⟨_,by rw [y2],?_,BS.out⟩;rw [y3]
    exact Rw.Rd.nil _)
   clear NO YES hb E BS B X1;generalize w.heap.size=g0 at *;go_wp2
   (try simp only [Exit.inBlock,Exit.then])
   exact bj (iP (p:=6) rfl _ _ g0 0 (.slice none 0 0) rfl R1) rfl E1
def TbC (w:World) (l:List E5) (e:Ending) (w':World):Prop:=∃ u,e = .returned u/\Ow K5 w' w.heap.size 244 u l/\Below w.heap.size w w'
theorem Hg (h:Cl w s F c t vn L p vq Fs) (hn:nn < c.S.length) {k:Int} (hk:0<=k/\k<=100):Calls prog 87 #[ptr s,.int .i64 nn,.int .i64 k] w (TbC w (kU (fP (sat c.S nn).1 (32+k)) (fR (sat c.S nn).1 (32+k)))):=by
 have C1:=Hh (zP h hn (32+k));have OK:=Hh (YB (h.UL hn).okA (32+k));have hw:=cx (32+k) (by omega);unfold QA at C1;clear h hn;generalize (sat c.S nn).1=A at *;generalize fP A (32+k)=fp at *;generalize fR A (32+k)=fr at *;unfold ptr at *
 go_enter func87,ntmps87
 go_wp2_with fail;refine C1.mono ?_;rintro e w1 ⟨v,rfl,rv,b1⟩;have C2:=Hh (xH w1 fp v fr rv OK);have B1:=Hh b1;obtain ⟨a,cap,rfl,_⟩:=rv.slice;unfold ji at C2;clear C1 rv b1 OK;generalize kU fp fr=l at *;generalize qj fp fr=z at *;generalize fr.length=n at *;unfold file at *;go_wp2_with fail;refine C2.mono ?_;rintro e w2 ⟨u,rfl,ow,b2⟩;have E:Hid (TbC w l (.returned u) w2):=Hh ⟨u,rfl,ow.low B1.size,aP B1 b2⟩;clear C2 ow b2 B1;go_wp2
 go_ret
 exact E
end
end Cu
namespace Cu
open Go.Extern.Stop Go.Stop Go.Extern
open Fs (Glob jA Tc Up Uh Ao Ab L9 M5 Dn DK Dw P8 Pk Tf PM PW oG Em yZ yU EK D3 yE zm gP)
def Hy (n e:Int):Value:=.agg #[.int .i64 n,.iface 25 (.int .i64 e)]
def jm (n e:Int):Value:=.iface 166 (Hy n e)
theorem qd (v:Value) (w:World):(Extern.ReflectliteType.typeOf #[.iface 166 v]).run prog w = .ok (.iface 222 (.agg #[.pointer (some ⟨1,166,none⟩)])) w:=by kernel_rfl
theorem lF (v:Value) (xT:TypeId) (w:World):(Instr.typeAssert (.iface 166 v) xT 227 true).run prog w = .ok (.tuple #[.iface 166 v,.bool true]) w:=run_typeAssert_hasB underlying227 (by kernel_rfl) v xT w
theorem gZ (v : Value) (w : World) : (Go.method 477 166 v "Unwrap").run Tryz.prog w = .ok (252, v) w := by kernel_rfl
theorem iF (w:World) (n:Int) (x:Value):Calls prog 252 #[.agg #[.int .i64 n,x]] w fun e w'=>e = .returned x/\Below w.heap.size w w':=by
 go_enter func252,ntmps252
 go_wp2
 go_ret
 exact ⟨rfl,(aa w.heap.size w).alloc (ac _) _⟩
theorem ZL (w:World):(yE #[.agg #[.pointer (some ⟨1,166,none⟩)],.iface 222 (.agg #[.pointer (some ⟨1,25,none⟩)])]).run prog w = .ok (.bool false) w:=by kernel_rfl
theorem TW (v:Value) (xT:TypeId) (w:World):(Instr.typeAssert (.iface 166 v) xT 236 true).run prog w = .ok (.tuple #[.nilIface,.bool false]) w:=run_typeAssert_lacksB underlying236 (by kernel_rfl) (by kernel_rfl) v xT w
theorem yw (n e:Int) (tb b:Nat) (w:World) (hb:w.cell? ⟨b,0,none⟩=some (.pointer (some ⟨tb,0,none⟩))) (ht:w.heap[tb]? = some (.cells #[.int .i64 0] 25 (0,0))) :
 Calls prog 104 #[jm n e,.iface 157 (.pointer (some ⟨tb,0,none⟩)),.agg #[.pointer (some ⟨1,157,none⟩),.pointer (some ⟨b,0,none⟩),.int .u64 150],.iface 222 (.agg #[.pointer (some ⟨1,25,none⟩)])] w (gP w tb e):=by
 have h42:=@run_callFunc_extern prog 94 _ Extern.ReflectliteType.typeOf func94 (by kernel_rfl) (by kernel_rfl) (by kernel_rfl) (by kernel_rfl);have h102:=@run_callFunc_extern prog 261 _ yE func261 (by kernel_rfl) (by kernel_rfl) (by kernel_rfl) (by kernel_rfl);have h60:=@run_callFunc_extern prog 125 _ zm func125 (by kernel_rfl) (by kernel_rfl) (by kernel_rfl) (by kernel_rfl);have h50:=@run_callFunc_extern prog 101 _ oG func101 (by kernel_rfl) (by kernel_rfl) (by kernel_rfl) (by kernel_rfl);have h61:=@run_callFunc_extern prog 126 _ ReflectliteValue.set func126 (by kernel_rfl) (by kernel_rfl) (by kernel_rfl) (by kernel_rfl);have tF:=qd;have tE:=jA;have mA:=M5;have aF:=ZL;have aE:=Pk;have nA:=TW;have uF:=lF;have mU:=gZ;have vE:=Up;have HB:=Hh hb;have HT:=Hh ht;have B0:=Hh ((aa w.heap.size w).alloc (ac _) (.cells #[.pointer (some ⟨1,157,none⟩),.pointer (some ⟨b,0,none⟩),.int .u64 150] 196));clear hb ht;unfold jm Hy
 go_enter func104,ntmps104
 go_wp2;refine wp_loop_rounds 2 ?_;rw [rounds_succ]
 go_wp2_with (go_at_call 252;refine (iF _ _ _).mono ?_;rintro ev w1 ⟨rfl,b1⟩)
 have B1:=aP B0 b1;have G0:=(b1.block _ (by simp)).trans (aw w _);obtain ⟨e0,e1,e2⟩:=CU G0;have hbl:=bo _ _ HB;have el:=Tf ⟨b,0,none⟩ ⟨tb,0,none⟩ w1 ((B1.cell hbl).trans HB);have htl:=bh HT;have T1:=(B1.block tb htl).trans HT;have T2:=(cz w1 (.cells #[.int .i64 e] 25) tb (by have:=B1.out.size;omega)).trans T1;have st:=PW ⟨tb,0,none⟩ ⟨w1.heap.size,0,none⟩ e (.int .i64 0) (w1.alloc (.cells #[.int .i64 e] 25)) (by simp) (ah T2 0) (aj T2 0);have RES:Hid (gP w tb e (.returned (.bool true)) ((w1.alloc (.cells #[.int .i64 e] 25)).setCell ⟨tb,0,none⟩ (.int .i64 e))):=by
  refine ⟨rfl,?_,?_⟩
  ·have:=Rw.heap_setCell_same (j:=0) T2 (.int .i64 e)
   rw [this]
   simp
  ·exact (Only.of_below (B1.alloc B1.size _)).trans (Only.set (fun k=>k=tb) _ (a:=⟨tb,0,none⟩) rfl _) fun _ _ g=>g
 clear b1 G0 T1 T2 HB HT B0 B1 hbl htl;rw [rounds_succ];go_wp2
 go_ret
 exact RES
theorem Cv (n e:Int) (tb:Nat) (w:World) (hg:Glob w) (ht:w.heap[tb]? = some (.cells #[.int .i64 0] 25 (0,0))) :
 Calls prog 75 #[jm n e,.iface 157 (.pointer (some ⟨tb,0,none⟩))] w (gP w tb e):=by
 have h50:=@run_callFunc_extern prog 101 _ oG func101 (by kernel_rfl) (by kernel_rfl) (by kernel_rfl) (by kernel_rfl);have h51:=@run_callFunc_extern prog 102 _ Em func102 (by kernel_rfl) (by kernel_rfl) (by kernel_rfl) (by kernel_rfl);have h52:=@run_callFunc_extern prog 103 _ yZ func103 (by kernel_rfl) (by kernel_rfl) (by kernel_rfl) (by kernel_rfl);have h95:=@run_callFunc_extern prog 244 _ yU func244 (by kernel_rfl) (by kernel_rfl) (by kernel_rfl) (by kernel_rfl);have h104:=@run_callFunc_extern prog 263 _ EK func263 (by kernel_rfl) (by kernel_rfl) (by kernel_rfl) (by kernel_rfl);have h105:=@run_callFunc_extern prog 264 _ D3 func264 (by kernel_rfl) (by kernel_rfl) (by kernel_rfl) (by kernel_rfl);have f6:=Tc;have f7:=Uh;have mK:=Ao;have mE:=Ab;have mI:=L9;have kP:=Dn;have kE:=DK;have eP:=Dw;have iE:=P8;have hlt:=Nat.lt_of_le_of_lt (ce _) (bo _ _ hg);have htl:=bh ht;have B2:Below w.heap.size w ((w.alloc (.cells #[.pointer (some ⟨tb,0,none⟩)] 157)).alloc (.cells #[.pointer (some ⟨1,157,none⟩),.pointer (some ⟨w.heap.size,0,none⟩),.int .u64 150] 196)):=((aa w.heap.size w).alloc (ac _) _).alloc (by simp) _;have n8:=PM ⟨w.heap.size,0,none⟩ ⟨tb,0,none⟩ ((w.alloc (.cells #[.pointer (some ⟨tb,0,none⟩)] 157)).alloc (.cells #[.pointer (some ⟨1,157,none⟩),.pointer (some ⟨w.heap.size,0,none⟩),.int .u64 150] 196)) (by simp);have hg2:((w.alloc (.cells #[.pointer (some ⟨tb,0,none⟩)] 157)).alloc (.cells #[.pointer (some ⟨1,157,none⟩),.pointer (some ⟨w.heap.size,0,none⟩),.int .u64 150] 196)).cell? ⟨0,0,none⟩=some (.iface 222 (.agg #[.pointer (some ⟨1,107,none⟩)])):=hg.below B2;have AL:=Hh (yw n e tb w.heap.size ((w.alloc (.cells #[.pointer (some ⟨tb,0,none⟩)] 157)).alloc (.cells #[.pointer (some ⟨1,157,none⟩),.pointer (some ⟨w.heap.size,0,none⟩),.int .u64 150] 196)) (by simp) ((B2.block tb htl).trans ht));have BB:=Hh B2;have HTL:=Hh htl;clear hg ht B2 htl;unfold jm Hy at *
 go_enter func75,ntmps75
 go_wp2_with (go_at_call 104;refine AL.mono ?_;rintro ev w1 ⟨rfl,r1,o1⟩)
 go_ret
 exact ⟨rfl,r1,(Only.of_below BB).trans o1 fun _ _ g=>g⟩
theorem Di (n e:Int) (w:World) (hg:Glob w):Calls prog 59 #[jm n e] w fun ev w'=>ev = .returned (.int .i64 e)/\Below w.heap.size w w':=by
 have B0:=Hh ((aa w.heap.size w).alloc (ac _) (.cells #[.int .i64 0] 25));have AS:=Hh (Cv n e w.heap.size (w.alloc (.cells #[.int .i64 0] 25)) (hg.below B0) (aw w _));clear hg;unfold jm Hy at *
 go_enter func59,ntmps59
 go_wp2_with fail;refine AS.mono ?_;rintro ev w1 ⟨rfl,r1,o1⟩;have c1:=Fl.rc r1 0;have BB:=Hh (B0.trans (o1.below (by simp) fun k hk=>by rw [hk];exact ac _));clear r1 o1 B0 AS;go_wp2
 go_ret
 exact ⟨rfl,BB⟩
open Go.Maps
open Re (pV xX)
attribute [local irreducible] Sd.aV wpQuiet
def SqC (w:World) (A:aT) (nn:Int) (e:Ending) (w':World):Prop:=Below w.heap.size w w'/\((y8 A=true/\∃ u,e = .returned (.tuple #[u,.nilIface])/\Rd KI w' u (jO A))\/(y8 A=false/\e = .returned (.tuple #[.slice none 0 0,jm nn 2])))
theorem Xh (A:aT) (h:sN (fP A 40) (fR A 40)=0):y8 A=true:=by
 unfold y8;rw [h,br];refine ⟨?_,rfl⟩
 cases hb:fB A 40 with
 | true=>rfl
 | false =>
   exfalso
   have e:Fs.look Fs.key 40 A=none:=by
    unfold fB at hb
    cases hl:Fs.look Fs.key 40 A with
    | none=>rfl
    | some x=>rw [hl] at hb;cases hb
   have p0:fP A 40=0:=by unfold fP;rw [e]
   unfold sN at h
   split at h
   ·rename_i g
    have:=g.2.2.1
    omega
   ·omega
theorem Y9 (A:aT) (h:¬ sN (fP A 40) (fR A 40)=0):y8 A=false/\sN (fP A 40) (fR A 40)=2:=by
 refine ⟨?_,?_⟩
 ·unfold y8
  rw [aq h,Bool.and_false]
 ·unfold sN at h ⊢
  split
  ·rename_i g;rw [an g] at h;exact absurd rfl h
  ·rfl
section
variable {s t p:Nat} {F G:Nat->Prop} {c:Cs} {vn vq:Value} {L:List Nd} {Fs:Nat->Nat->Prop} {w w':World}
theorem jM (h:Cl w s F c t vn L p vq Fs) {nn:Nat} (hn:nn < c.S.length):Calls prog 53 #[ptr s,.int .i64 nn] w (SqC w (sat c.S nn).1 nn):=by
 have C1:=Hh (zP h hn 40);have OK:=Hh (YB (h.UL hn).okA 40);unfold QA at C1;clear h hn;generalize (sat c.S nn).1=A at *;have Z:=Hh (Xh A);have T:=Hh (Y9 A);have HL:Hid (sL (fP A 40) (fR A 40)=jO A):=Hh rfl;unfold ptr at *
 go_enter func53,ntmps53
 go_wp2_with fail;refine C1.mono ?_;rintro e w1 ⟨v,rfl,rv,b1⟩;have C2:=Hh (pV w1 (fP A 40) v (fR A 40) rv OK);have B1:=Hh b1;obtain ⟨a,cap,rfl,_⟩:=rv.slice;unfold mQ at C2;rw [HL.out] at C2;clear C1 rv b1 OK HL;generalize sN (fP A 40) (fR A 40)=z at *;generalize fP A 40=fp at *;generalize (fR A 40).length=n at *;unfold file at *;go_wp2_with fail;refine C2.mono ?_;rintro e w2 ⟨u,rfl,ru,b2⟩;have B2:=aP B1 b2;have RU:=Hh ru;obtain ⟨ua,uc,rfl,_⟩:=RU.slice;clear ru b2 C2 B1;generalize (jO A).length=ln at RU ⊢
 by_cases hz:z=0
 ·have E:Hid (SqC w A nn (.returned (.tuple #[.slice ua ln uc,.nilIface])) w2):=Hh ⟨B2,.inl ⟨Z hz,_,rfl,RU⟩⟩
  subst hz;clear Z T RU B2;go_wp2
  go_ret2
  exact E
 ·obtain ⟨t1,t2⟩:=T hz
  subst t2;have E:Hid (SqC w A nn (.returned (.tuple #[.slice none 0 0,.iface 166 (.agg #[.int .i64 nn,.iface 25 (.int .i64 2)])])) w2):=Hh ⟨B2,.inr ⟨t1,rfl⟩⟩;clear Z T RU B2 hz t1;go_wp2
  go_ret2
  exact E
variable {l:List Int}
theorem abp (hs:fT l) (h:c.pl < l.length):nE l c.pl=0/\nR l c.pl=fA l (C8 c l)/\nT l c.pl=(tq c l:Int):=by
 have hx:H9 l c.pl:=⟨hs,by omega,by omega⟩;unfold nE nR nT tq C8;rw [an hx,an hx,an hx,ai (by omega),cJ];refine ⟨rfl,rfl,?_⟩
 by_cases e:c.pl+1=l.length
 ·rw [an (by omega),an e];rfl
 ·rw [ai (by omega),ai e];omega
theorem Za (hs:fT l) (h:¬ c.pl < l.length):nE l c.pl=1/\nR l 0=fA l (C8 c l)/\nT l 0=(tq c l:Int):=by
 have hx:¬ H9 l c.pl:=fun g=>by have:=g.2.2;omega
 have hy:H9 l 0:=⟨hs,by omega,by have:=hs.1;omega⟩;unfold nE nR nT tq C8;rw [ai hx,an hy,an hy,an (by omega)];refine ⟨rfl,rfl,?_⟩
 by_cases e:0+1=l.length
 ·rw [an (by omega),an e];rfl
 ·rw [ai (by omega),ai e];rfl
def yN (w:World) (s:Nat) (x:Int) (n:Nat) (e:Ending) (w':World):Prop:=e = .returned (.int .i64 x)/\∃ w1,Below w.heap.size w w1/\w'=w1.setCell ⟨s,2,none⟩ (.int .i64 n)
theorem Mf (h:Cl w s F c t vn L p vq Fs) {v:Value} (R:Rd KI w v l) (hs:fT l):Calls prog 61 #[ptr s,v] w (yN w s (fA l (C8 c l)) (tq c l)):=by
 have C1:=Hh (xX w v l c.pl R);have C2:=Hh (fun w1 b=>xX w1 v l 0 (R.below (w':=w1) b));have H:=Hh h;have d2:=h.cells.2.2.1;have IN:=Hh (abp (c:=c) hs);have OUT:=Hh (Za (c:=c) hs);obtain ⟨a,cap,rfl,_⟩:=R.slice;clear h hs R;unfold jT at C1 C2;generalize fA l (C8 c l)=x at *;generalize tq c l=y at *
 by_cases hp:c.pl < l.length
 ·obtain ⟨e1,e2,e3⟩:=IN hp
  rw [e1,e2,e3] at C1;have HH:=Hh (fun w1 b=>(H.below (w':=w1) b).cells.2.2.1);have HF:=Hh (fun w1 b=>(H.below (w':=w1) b).frz 2);clear e1 e2 e3 IN OUT C2 hp H;generalize c.pl=pl at *;generalize l.length=n at *;unfold ptr at *
  go_enter func61,ntmps61
  go_wp2_with fail;refine C1.mono ?_;rintro e w1 ⟨rfl,b1⟩;have k2:=HH.out w1 b1;have f2:=HF.out w1 b1;have E:Hid (yN w s x y (.returned (.int .i64 x)) (w1.setCell ⟨s,2,none⟩ (.int .i64 y))):=Hh ⟨rfl,w1,b1,rfl⟩;clear C1 HH HF b1 d2;go_wp2
  go_ret
  exact E
 ·obtain ⟨e1,e2,e3⟩:=OUT hp
  rw [e1] at C1;rw [e2,e3] at C2;have HH:=Hh (fun w1 b=>(H.below (w':=w1) b).cells.2.2.1);have HF:=Hh (fun w1 b=>(H.below (w':=w1) b).frz 2);clear e1 e2 e3 IN OUT hp H;generalize nR l c.pl=x0 at *;generalize nT l c.pl=y0 at *;generalize nE l 0=z0 at *;generalize c.pl=pl at *;generalize l.length=n at *;unfold ptr at *
  go_enter func61,ntmps61
  go_wp2_with fail;refine C1.mono ?_;rintro e w1 ⟨rfl,b1⟩;have D2:=Hh (C2 w1 b1);have B1:=Hh b1;clear C1 C2 b1 d2;go_wp2_with fail;refine D2.mono ?_;rintro e w2 ⟨rfl,b2⟩;have B2:=aP B1 b2;have k2:=HH.out w2 B2;have f2:=HF.out w2 B2;have E:Hid (yN w s x y (.returned (.int .i64 x)) (w2.setCell ⟨s,2,none⟩ (.int .i64 y))):=Hh ⟨rfl,w2,B2,rfl⟩;clear D2 HH HF B1 B2 b2;go_wp2
  go_ret
  exact E
end
def er (a:Option (Int×Int)):Value:=match a with | none=>.nilIface | some x=>jm x.1 x.2
def KE:Rw.Kind (Option (Int×Int)):=⟨fun a=>[er a],1,by decide,fun _=>rfl,fun a u h=>by simp at h;subst h;cases a <;> rfl,none⟩
theorem nO:(prog.info? 107).map (fun i=>(i.zero,i.size,i.bytes))=some (some .nilIface,1,16):=by kernel_rfl
theorem join_none (w:World) (b:Nat) (h0:w.cell? ⟨b,0,none⟩=some .nilIface) (h1:w.cell? ⟨b,1,none⟩=some .nilIface):Calls prog 54 #[.slice (some ⟨b,0,none⟩) 2 2] w fun e w'=>e = .returned .nilIface/\Below w.heap.size w w':=by
 go_enter func54,ntmps54
 go_wp2;refine wp_loop_rounds 3 ?_;rw [rounds_succ];go_wp2;rw [rounds_succ];go_wp2;rw [rounds_succ];go_wp2
 go_ret
 exact ⟨rfl,aa _ _⟩
structure JI (w:World) (g6:Nat) (v:Value) (l:List (Option (Int×Int))) (wr:World):Prop where
 row:wr.heap[g6]? = some (.cells #[v] 170 (0,0))
 own:Ow KE wr w.heap.size 107 v l
 aD:Below w.heap.size w wr
 lo:w.heap.size<=g6
variable {w w1 w2:World} {g6:Nat} {v v':Value} {l l':List (Option (Int×Int))}
theorem JI.push (h:JI w g6 v l w1) (own:Ow KE w2 w.heap.size 107 v' l') (gr:w1.grownBy w2 v.ownBlock):w2.heap[g6]? = some (.cells #[v] 170 (0,0))/\JI w g6 v' l' (w2.setCell ⟨g6,0,none⟩ v'):=by
 have r2:=(gr.block g6 (bh h.row) (fun e=>h.own.apart h.row (by decide) e.symm)).trans h.row;have b2:=h.aD.grown gr h.aD.size fun j e=>(cC h.own j e).1;exact ⟨r2,Rw.heap_setCell_same (j:=0) r2 v',own.far (p:=⟨g6,0,none⟩) r2 (by decide) _,b2.setCell h.lo _,h.lo⟩
theorem JI.below (h:JI w g6 v l w1) (b:Below w1.heap.size w1 w2):JI w g6 v l w2:=⟨(b.block g6 (bh h.row)).trans h.row,h.own.keep b,h.aD.trans (b.mono h.aD.size),h.lo⟩
theorem aaI (w:World) (b:Nat) (n0 z0:Int) (h0:w.cell? ⟨b,0,none⟩=some (jm n0 z0)) (h1:w.cell? ⟨b,1,none⟩=some .nilIface):Calls prog 54 #[.slice (some ⟨b,0,none⟩) 2 2] w fun e w'=>(∃ p,e = .returned (.iface 168 (.pointer (some p))))/\Below w.heap.size w w':=by
 have H0:=Hh h0;have H1:=Hh h1;obtain ⟨i0,hi0,hz0,hz1,hz2⟩:=fk nO;unfold jm Hy at *
 go_enter func54,ntmps54
 go_wp2;refine wp_loop_rounds 3 ?_;rw [rounds_succ];go_wp2;rw [rounds_succ];go_wp2;rw [rounds_succ]
 go_wp2_with (at_make;refine wpList_make_own _ rfl _ _ _ rfl w.heap.size 107 i0 .nilIface 1 underlying167 hi0 hz0 hz1 .i64 .i64 1 1 rfl rfl rfl (by rw [hz2];decide) (by unfold maxLen;decide) (ac _) ?_)
 intro w2 ow2 gr2
 have B2:=Below.grown (aa w.heap.size w) gr2 (ac _) (fun j e=>by cases e);have J0:Hid (JI w w2.heap.size (.slice (some ⟨w.heap.size,0,none⟩) 0 1) [] (w2.alloc (.cells #[.slice (some ⟨w.heap.size,0,none⟩) 0 1] 170))):=Hh ⟨aw w2 _,fS ow2 _,B2.alloc B2.size _,B2.size⟩;clear ow2 gr2 B2 h0 h1 hi0 hz0 hz1 hz2;go_upto_region 11 with fail;generalize (w2.alloc (.cells #[.slice (some ⟨w.heap.size,0,none⟩) 0 1] 170))=wa at *;generalize w2.heap.size=g6 at *;have k0:=fQ J0.aD H0;go_wp2;refine wp_loop_rounds 3 ?_;rw [rounds_succ];have c6:=ah J0.row 0;have J0a:=Hh (J0.below ((aa wa.heap.size wa).alloc (ac _) (.cells #[.iface 166 (.agg #[.int .i64 n0,.iface 25 (.int .i64 z0)])] 107)))
 go_wp2_with (at_builtin;refine bU (K:=KE) underlying167 nO rfl (by omega) rfl _ _ rfl w.heap.size _ _ rfl J0a.out.own _ (some (n0,z0)) rfl ?d1 ?d2 ?d3 ?_)
 case d1 =>
  intro j u hu
  match j,hu with
  | 0,hu=>simp [KE,er,jm,Hy] at hu;subst hu;go_simp
  | j+1,hu=>simp [KE] at hu
 case d2=>simp
 case d3=>exact J0a.aD.size
 intro v0 wb0 o0 gr0 _
 obtain ⟨r0,j0⟩:=J0a.push o0 (by simpa using gr0);have J0b:=Hh j0;have c6':=ah r0 0;have f6':=aj r0 0;obtain ⟨av0,cv0,ev0,_⟩:=o0.slice;clear o0 gr0 j0 J0 J0a c6 k0;generalize List.length _=lv0 at ev0;subst ev0;have k0:=fQ J0b.aD H1;go_upto_region 12 with fail;clear c6' f6' r0;generalize (wb0.setCell ⟨g6,0,none⟩ (.slice av0 lv0 cv0))=wc0 at *;rw [rounds_succ];have E:=Hh J0b.aD;go_wp2;rw [rounds_succ];go_wp2
 go_ret
 exact ⟨⟨_,rfl⟩,E⟩
theorem ZG (w:World) (b:Nat) (n1 z1:Int) (h0:w.cell? ⟨b,0,none⟩=some .nilIface) (h1:w.cell? ⟨b,1,none⟩=some (jm n1 z1)):Calls prog 54 #[.slice (some ⟨b,0,none⟩) 2 2] w fun e w'=>(∃ p,e = .returned (.iface 168 (.pointer (some p))))/\Below w.heap.size w w':=by
 have H0:=Hh h0;have H1:=Hh h1;obtain ⟨i0,hi0,hz0,hz1,hz2⟩:=fk nO;unfold jm Hy at *
 go_enter func54,ntmps54
 go_wp2;refine wp_loop_rounds 3 ?_;rw [rounds_succ];go_wp2;rw [rounds_succ];go_wp2;rw [rounds_succ]
 go_wp2_with (at_make;refine wpList_make_own _ rfl _ _ _ rfl w.heap.size 107 i0 .nilIface 1 underlying167 hi0 hz0 hz1 .i64 .i64 1 1 rfl rfl rfl (by rw [hz2];decide) (by unfold maxLen;decide) (ac _) ?_)
 intro w2 ow2 gr2
 have B2:=Below.grown (aa w.heap.size w) gr2 (ac _) (fun j e=>by cases e);have J0:Hid (JI w w2.heap.size (.slice (some ⟨w.heap.size,0,none⟩) 0 1) [] (w2.alloc (.cells #[.slice (some ⟨w.heap.size,0,none⟩) 0 1] 170))):=Hh ⟨aw w2 _,fS ow2 _,B2.alloc B2.size _,B2.size⟩;clear ow2 gr2 B2 h0 h1 hi0 hz0 hz1 hz2;go_upto_region 11 with fail;generalize (w2.alloc (.cells #[.slice (some ⟨w.heap.size,0,none⟩) 0 1] 170))=wa at *;generalize w2.heap.size=g6 at *;have k0:=fQ J0.aD H0;go_wp2;refine wp_loop_rounds 3 ?_;rw [rounds_succ];go_wp2;clear k0;have k0:=fQ J0.aD H1;rw [rounds_succ];have c6:=ah J0.row 0;have J1a:=Hh (J0.below ((aa wa.heap.size wa).alloc (ac _) (.cells #[.iface 166 (.agg #[.int .i64 n1,.iface 25 (.int .i64 z1)])] 107)))
 go_wp2_with (at_builtin;refine bU (K:=KE) underlying167 nO rfl (by omega) rfl _ _ rfl w.heap.size _ _ rfl J1a.out.own _ (some (n1,z1)) rfl ?d1 ?d2 ?d3 ?_)
 case d1 =>
  intro j u hu
  match j,hu with
  | 0,hu=>simp [KE,er,jm,Hy] at hu;subst hu;go_simp
  | j+1,hu=>simp [KE] at hu
 case d2=>simp
 case d3=>exact J1a.aD.size
 intro v1 wb1 o1 gr1 _
 obtain ⟨r1,j1⟩:=J1a.push o1 (by simpa using gr1);have J1b:=Hh j1;have c6':=ah r1 0;have f6':=aj r1 0;obtain ⟨av1,cv1,ev1,_⟩:=o1.slice;clear o1 gr1 j1 J0 J1a c6 k0;generalize List.length _=lv1 at ev1;subst ev1;have E:=Hh J1b.aD;clear r1 J1b;go_wp2;rw [rounds_succ];go_wp2
 go_ret
 exact ⟨⟨_,rfl⟩,E⟩
theorem Zr (w:World) (b:Nat) (n0 z0:Int) (n1 z1:Int) (h0:w.cell? ⟨b,0,none⟩=some (jm n0 z0)) (h1:w.cell? ⟨b,1,none⟩=some (jm n1 z1)):Calls prog 54 #[.slice (some ⟨b,0,none⟩) 2 2] w fun e w'=>(∃ p,e = .returned (.iface 168 (.pointer (some p))))/\Below w.heap.size w w':=by
 have H0:=Hh h0;have H1:=Hh h1;obtain ⟨i0,hi0,hz0,hz1,hz2⟩:=fk nO;unfold jm Hy at *
 go_enter func54,ntmps54
 go_wp2;refine wp_loop_rounds 3 ?_;rw [rounds_succ];go_wp2;rw [rounds_succ];go_wp2;rw [rounds_succ]
 go_wp2_with (at_make;refine wpList_make_own _ rfl _ _ _ rfl w.heap.size 107 i0 .nilIface 1 underlying167 hi0 hz0 hz1 .i64 .i64 2 2 rfl rfl rfl (by rw [hz2];decide) (by unfold maxLen;decide) (ac _) ?_)
 intro w2 ow2 gr2
 have B2:=Below.grown (aa w.heap.size w) gr2 (ac _) (fun j e=>by cases e);have J0:Hid (JI w w2.heap.size (.slice (some ⟨w.heap.size,0,none⟩) 0 2) [] (w2.alloc (.cells #[.slice (some ⟨w.heap.size,0,none⟩) 0 2] 170))):=Hh ⟨aw w2 _,fS ow2 _,B2.alloc B2.size _,B2.size⟩;clear ow2 gr2 B2 h0 h1 hi0 hz0 hz1 hz2;go_upto_region 11 with fail;generalize (w2.alloc (.cells #[.slice (some ⟨w.heap.size,0,none⟩) 0 2] 170))=wa at *;generalize w2.heap.size=g6 at *;have k0:=fQ J0.aD H0;go_wp2;refine wp_loop_rounds 3 ?_;rw [rounds_succ];have c6:=ah J0.row 0;have J0a:=Hh (J0.below ((aa wa.heap.size wa).alloc (ac _) (.cells #[.iface 166 (.agg #[.int .i64 n0,.iface 25 (.int .i64 z0)])] 107)))
 go_wp2_with (at_builtin;refine bU (K:=KE) underlying167 nO rfl (by omega) rfl _ _ rfl w.heap.size _ _ rfl J0a.out.own _ (some (n0,z0)) rfl ?d1 ?d2 ?d3 ?_)
 case d1 =>
  intro j u hu
  match j,hu with
  | 0,hu=>simp [KE,er,jm,Hy] at hu;subst hu;go_simp
  | j+1,hu=>simp [KE] at hu
 case d2=>simp
 case d3=>exact J0a.aD.size
 intro v0 wb0 o0 gr0 _
 obtain ⟨r0,j0⟩:=J0a.push o0 (by simpa using gr0);have J0b:=Hh j0;have c6':=ah r0 0;have f6':=aj r0 0;obtain ⟨av0,cv0,ev0,_⟩:=o0.slice;clear o0 gr0 j0 J0 J0a c6 k0;generalize List.length _=lv0 at ev0;subst ev0;have k0:=fQ J0b.aD H1;go_upto_region 12 with fail;clear c6' f6' r0;generalize (wb0.setCell ⟨g6,0,none⟩ (.slice av0 lv0 cv0))=wc0 at *;rw [rounds_succ];have c6:=ah J0b.row 0;have J1a:=Hh (J0b.below ((aa wc0.heap.size wc0).alloc (ac _) (.cells #[.iface 166 (.agg #[.int .i64 n1,.iface 25 (.int .i64 z1)])] 107)))
 go_wp2_with (at_builtin;refine bU (K:=KE) underlying167 nO rfl (by omega) rfl _ _ rfl w.heap.size _ _ rfl J1a.out.own _ (some (n1,z1)) rfl ?d1 ?d2 ?d3 ?_)
 case d1 =>
  intro j u hu
  match j,hu with
  | 0,hu=>simp [KE,er,jm,Hy] at hu;subst hu;go_simp
  | j+1,hu=>simp [KE] at hu
 case d2=>simp
 case d3=>exact J1a.aD.size
 intro v1 wb1 o1 gr1 _
 obtain ⟨r1,j1⟩:=J1a.push o1 (by simpa using gr1);have J1b:=Hh j1;have c6':=ah r1 0;have f6':=aj r1 0;obtain ⟨av1,cv1,ev1,_⟩:=o1.slice;clear o1 gr1 j1 J0b J1a c6 k0;generalize List.length _=lv1 at ev1;subst ev1;have E:=Hh J1b.aD;clear r1 J1b;go_wp2;rw [rounds_succ];go_wp2
 go_ret
 exact ⟨⟨_,rfl⟩,E⟩
end Cu
