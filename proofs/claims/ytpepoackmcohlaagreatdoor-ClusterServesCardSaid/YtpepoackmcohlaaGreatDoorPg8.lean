import Derived.Test.YtpepoackmcohlaaGreatDoorPg7
set_option maxRecDepth 100000
set_option maxHeartbeats 4000000
namespace Go.Proofs.YtpepoackmcohlaaGreatDoor
open Go.Proofs.Tryz Go.RowKit
open Fl (Ba K4 R4 aC aH aJ aK aM aO aQ aZ ah aj bC bD bP bQ bg dF dX eG fF file gJ iH j4 kL l6 newL newP vX wM xY yZ z4)
open Fs (E3 Fx St aD aG aU at3 ay dR eB)
open Pa (K2 KB KN S2 aN bU bX ptr)
open Re (Bj KI Lr gU gY lQ mP nE nR nT sL sN)
open Ro (E5 K5 kD qI)
open Rw (At Ow Rd)
namespace Cu
open Go.Maps
open Fs (Cw)
attribute [local irreducible] Sd.bA wpQuiet
section
variable {s t p:Nat} {F G:Nat->Prop} {c:Cs} {vn vq:Value} {L:List Nd} {Fs:Nat->Nat->Prop} {w w':World}
variable {i g cap n:Nat}
theorem Cl.one (h:Cl w s F c t vn L p vq Fs) (hi:i < c.S.length):∃ g cap,vn = .slice (some ⟨g,0,none⟩) c.S.length cap/\c.S.length<=cap/\cap<=maxLen/\w.cell? ⟨g,i * 3,none⟩=some (ptr (iC L i).s)/\w.cell? ⟨g,i * 3+1,none⟩=some (.bool (bU c.V i))/\w.cell? ⟨g,i * 3+2,none⟩=some (.int .i64 (iC L i).rate)/\∀ k,w.frozen? ⟨g,k,none⟩=false:=by
 have hl:=h.len;obtain ⟨g,cap,e,_,_,h1,h2,fz,hA⟩:=h.no.form (by omega);have q:=atD hA (i:=i) (by omega);rw [cQ,h.lv i (by omega)] at q;rw [hl] at e h1;exact ⟨g,cap,e,h1,h2,q.1,q.2.1,q.2.2,fz⟩
theorem Cl.nod (h:Cl w s F c t (.slice (some ⟨g,0,none⟩) c.S.length cap) L p vq Fs) (hi:i < c.S.length):w.cell? ⟨g,i * 3,none⟩=some (ptr (iC L i).s)/\w.cell? ⟨g,i * 3+1,none⟩=some (.bool (iC L i).live)/\w.cell? ⟨g,i * 3+2,none⟩=some (.int .i64 (iC L i).rate):=by
 have hl:=h.len;obtain ⟨g',cap',e,_,_,h1,h2,fz,hA⟩:=h.no.form (by omega);injection e with e1 _ _;injection e1 with e1;injection e1 with e1 _ _;subst e1;have q:=atD hA (i:=i) (by omega);rw [cQ] at q;exact q
theorem Cl.slice (h:Cl w s F c t vn L p vq Fs):∃ a cap,vn = .slice a c.S.length cap/\c.S.length<=cap/\cap<=maxLen:=by
 obtain ⟨a,cap,e,h1,h2⟩:=h.no.slice;rw [h.len] at e h1;exact ⟨a,cap,e,h1,h2⟩
theorem Cl.TD (h:Cl w s F c t vn L p vq Fs) (hi:i < c.S.length):St w (iC L i).s (Fs i) (aN c.S i).1 (aN c.S i).2:=h.st i (by rw [h.len];exact hi)
theorem jO (h:Cl w s F c t vn L p vq Fs) (hn:n < c.S.length):Calls prog 33 #[ptr s,.int .i64 n] w fun e w'=>e = .returned (.bool true)/\Below w.heap.size w w':=by
 obtain ⟨a,cap,rfl,_,_⟩:=h.slice;have d0:=h.cells.1;clear h;generalize c.S.length=ln at *;have p1:decide ((0:Int)<=(n:Int))=true:=bj (by omega);have p2:decide ((n:Int) < (ln:Int))=true:=bj (by omega);unfold ptr
 go_enter func33,ntmps33
 go_wp2
 go_ret
 exact ⟨rfl,aa _ _⟩
theorem zU (h:Cl w s F c t vn L p vq Fs) {n:Int} (hn:no c n):Calls prog 33 #[ptr s,.int .i64 n] w fun e w'=>e = .returned (.bool false)/\Below w.heap.size w w':=by
 obtain ⟨a,cap,rfl,_,_⟩:=h.slice;have d0:=h.cells.1;clear h;unfold no at hn;generalize c.S.length=ln at *;unfold ptr
 by_cases h0:0<=n
 ·have p2:decide (n < (ln:Int))=false:=ai (by omega)
  clear hn
  go_enter func33,ntmps33
  go_wp2
  go_ret
  exact ⟨rfl,aa _ _⟩
 ·have p1:decide (0<=n)=false:=ai h0
  clear hn
  go_enter func33,ntmps33
  go_wp2
  go_ret
  exact ⟨rfl,aa _ _⟩
theorem zM (w:World) (n:Int):Calls prog 33 #[.pointer none,.int .i64 n] w fun e w'=>e = .returned (.bool false)/\Below w.heap.size w w':=by
 go_enter func33,ntmps33
 go_wp2
 go_ret
 exact ⟨rfl,aa _ _⟩
theorem Mh (h:Cl w s F c t vn L p vq Fs):Calls prog 10 #[ptr s] w fun e w'=>e = .returned (.int .i64 c.S.length)/\Below w.heap.size w w':=by
 obtain ⟨a,cap,rfl,_,_⟩:=h.slice;have d0:=h.cells.1;clear h;generalize c.S.length=ln at *;unfold ptr
 go_enter func10,ntmps10
 go_wp2
 go_ret
 exact ⟨rfl,aa _ _⟩
theorem Lb (w:World):Calls prog 10 #[.pointer none] w fun e w'=>e = .returned (.int .i64 0)/\Below w.heap.size w w':=by
 go_enter func10,ntmps10
 go_wp2
 go_ret
 exact ⟨rfl,aa _ _⟩
theorem L4 (h:Cl w s F c t vn L p vq Fs):Calls prog 13 #[ptr s] w fun e w'=>e = .returned (.int .i64 c.pl)/\Below w.heap.size w w':=by
 have d2:=h.cells.2.2.1;clear h;generalize c.pl=pl at *;unfold ptr
 go_enter func13,ntmps13
 go_wp2
 go_ret
 exact ⟨rfl,aa _ _⟩
theorem Mo (w:World):Calls prog 13 #[.pointer none] w fun e w'=>e = .returned (.int .i64 0)/\Below w.heap.size w w':=by
 go_enter func13,ntmps13
 go_wp2
 go_ret
 exact ⟨rfl,aa _ _⟩
theorem QN (h:Cl w s F c t vn L p vq Fs) (n:Int):Calls prog 17 #[ptr s,.int .i64 n] w fun e w'=>e = .returned (.int .i64 (Wt.rl c.P n))/\Below w.heap.size w w':=by
 have d1:=h.cells.2.1;have C1:=Hh (Wt.Yl h.pr n);clear h;generalize Wt.rl c.P n=r at *;unfold ptr at *
 go_enter func17,ntmps17
 go_wp2_with fail;refine C1.mono ?_;rintro e w1 ⟨rfl,b1⟩;go_wp2
 go_ret
 exact ⟨rfl,b1⟩
theorem Sk (w:World) (n:Int):Calls prog 17 #[.pointer none,.int .i64 n] w fun e w'=>e = .returned (.int .i64 0)/\Below w.heap.size w w':=by
 go_enter func17,ntmps17
 go_wp2
 go_ret
 exact ⟨rfl,aa _ _⟩
theorem Xf (h:Cl w s F c t vn L p vq Fs) (hn:n < c.S.length):Calls prog 16 #[ptr s,.int .i64 n] w fun e w'=>e = .returned (.bool (bU c.V n))/\Below w.heap.size w w':=by
 have C1:=Hh (jO h hn);have H:=Hh h;obtain ⟨g,cap,rfl,_,hm,_⟩:=h.one hn;clear h;unfold ptr at *
 go_enter func16,ntmps16
 go_wp2_with fail;refine C1.mono ?_;rintro e w1 ⟨rfl,b1⟩;obtain ⟨g',cap',e',_,_,_,d1,_⟩:=(H.below b1).one hn;injection e' with e1 _ e3;injection e1 with e1;injection e1 with e1 _ _;subst e1 e3;have d0:=(H.below b1).cells.1;have B1:=Hh b1;have p5:decide (c.S.length<=n)=false:=ai (by omega);clear H C1 b1;generalize c.S.length=ln at *;go_wp2
 go_ret
 exact ⟨rfl,B1⟩
theorem Sy (w:World) (n:Int):Calls prog 16 #[.pointer none,.int .i64 n] w fun e w'=>e = .returned (.bool false)/\Below w.heap.size w w':=by
 have C1:=Hh (zM w n)
 go_enter func16,ntmps16
 go_wp2_with fail;refine C1.mono ?_;rintro e w1 ⟨rfl,b1⟩;go_wp2
 go_ret
 exact ⟨rfl,b1⟩
theorem Dc (h:Cl w s F c t vn L p vq Fs) (hn:n < c.S.length):Calls prog 15 #[ptr s,.int .i64 n] w (dR w (aN c.S n).1):=by
 have C1:=Hh (jO h hn);have H:=Hh h;obtain ⟨g,cap,rfl,_,hm,_⟩:=h.one hn;clear h;unfold ptr at *
 go_enter func15,ntmps15
 go_wp2_with fail;refine C1.mono ?_;rintro e w1 ⟨rfl,b1⟩;obtain ⟨g',cap',e',_,_,d1,_⟩:=(H.below b1).one hn;injection e' with e1 _ e3;injection e1 with e1;injection e1 with e1 _ _;subst e1 e3;have d0:=(H.below b1).cells.1;have B1:=Hh b1;have C2:=Hh (Cw ((H.below b1).TD hn));have p5:decide (c.S.length<=n)=false:=ai (by omega);unfold dR at C2;unfold ptr at *;clear H C1 b1;generalize c.S.length=ln at *;generalize (aN c.S n).1=A at *;generalize (iC L n).s=q at *;go_wp2_with fail;refine C2.mono ?_;rintro e w2 ⟨v,rfl,hv,b2⟩;have E:Hid (dR w A (.returned v) w2):=Hh ⟨v,rfl,fun F hF=>hv F fun k hk=>cd (hF k hk) B1.size,aW B1 b2⟩;clear hv b2 C2 B1;go_wp2
 go_ret
 exact E
theorem LY (w:World) (n:Int):Calls prog 15 #[.pointer none,.int .i64 n] w fun e w'=>e = .returned (.slice none 0 0)/\Below w.heap.size w w':=by
 have C1:=Hh (zM w n)
 go_enter func15,ntmps15
 go_wp2_with fail;refine C1.mono ?_;rintro e w1 ⟨rfl,b1⟩;go_wp2
 go_ret
 exact ⟨rfl,b1⟩
end
end Cu
namespace Cu
def sQ (c:Cs):Prop:=(bU c.V 0=true↔c.P.r0≠4)/\(bU c.V 1=true↔c.P.r1≠4)
theorem afr (a:Wt.A):((Wt.t1 a).r0=4↔a.r0=4)/\(Wt.t1 a).r1=a.r1:=by
 unfold Wt.t1
 split
 ·rename_i g
  refine ⟨?_,rfl⟩
  show (1:Int)=4↔_
  omega
 ·exact ⟨Iff.rfl,rfl⟩
theorem afy (a:Wt.A):((Wt.t2 a).r1=4↔a.r1=4)/\(Wt.t2 a).r0=a.r0:=by
 unfold Wt.t2
 split
 ·rename_i g
  refine ⟨?_,rfl⟩
  show (1:Int)=4↔_
  omega
 ·exact ⟨Iff.rfl,rfl⟩
theorem abt (r:Int):Wt.tH r=4↔r=4:=by
 unfold Wt.tH
 split <;> omega
theorem afi (a:Wt.A):((Wt.hd a).r0=4↔a.r0=4)/\((Wt.hd a).r1=4↔a.r1=4):=by
 unfold Wt.hd
 split
 ·rename_i g
  refine ⟨?_,abt _⟩
  show (1:Int)=4↔_
  omega
 ·split
  ·rename_i g
   refine ⟨abt _,?_⟩
   show (1:Int)=4↔_
   omega
  ·exact ⟨Iff.rfl,Iff.rfl⟩
theorem aeI (a:Wt.A):((Wt.jv a).r0=4↔a.r0=4)/\((Wt.jv a).r1=4↔a.r1=4):=by
 unfold Wt.jv Wt.tk;have h1:=afi (Wt.t2 (Wt.t1 a));have h2:=afy (Wt.t1 a);have h3:=afr a;rw [h1.1,h1.2,h2.1,h2.2,h3.1,h3.2];exact ⟨Iff.rfl,Iff.rfl⟩
theorem sQ.jv {c:Cs} (h:sQ c):(bU c.V 0=true↔(Wt.jv c.P).r0≠4)/\(bU c.V 1=true↔(Wt.jv c.P).r1≠4):=by
 have q:=aeI c.P;refine ⟨h.1.trans ?_,h.2.trans ?_⟩
 ·rw [Ne,Ne,q.1]
 ·rw [Ne,Ne,q.2]
variable {c:Cs}
theorem sQ.round (h:sQ c):sQ (rC c):=by
 have q:=h.jv;unfold rC
 split
 ·exact q
 ·split
  ·exact q
  ·exact q
theorem Oy (L:List Pl) (h:2<=L.length):sQ (bT L):=by
 refine ⟨?_,?_⟩
 ·have:=MQ (L:=L) (i:=0) (by omega)
  rw [show bU (bT L).V 0=true from this]
  show true=true↔(1:Int)≠4
  simp
 ·have:=MQ (L:=L) (i:=1) (by omega)
  rw [show bU (bT L).V 1=true from this]
  show true=true↔(2:Int)≠4
  simp
theorem sQ.act {t:Nat} (h:sQ c) (ok:jB c t) (x:Ac):sQ (bK x c):=by
 unfold bK
 by_cases h1:x.k=1
 ·rw [aw h1];exact h.round
 ·rw [am h1]
  by_cases he:bE x c≠0
  ·rw [aw he];exact h
  ·rw [am he]
   have he:=Classical.not_not.1 he;unfold bE at he;rw [am h1] at he
   by_cases h3:x.k=3
   ·rw [aw h3];exact h
   ·rw [am h3]
    rw [am h3] at he
    by_cases hn:x.k < 2\/6 < x.k\/no c x.n
    ·rw [aw hn] at he;omega
    ·rw [am hn] at he
     have hin:0<=x.n/\x.n < c.S.length:=by
      have:¬ no c x.n:=fun g=>hn (.inr (.inr g));unfold no at this
      omega
     have hv:=ok.lv
     by_cases h2:x.k=2
     ·rw [aw h2];exact h
     ·rw [am h2]
      by_cases h4:x.k=4
      ·rw [aw h4]
       have v0:bU (c.V.set x.n.toNat false) 0=_:=sK hin.1 (by omega) 0 (by omega);have v1:bU (c.V.set x.n.toNat false) 1=_:=sK hin.1 (by omega) 1 (by omega);refine ⟨?_,?_⟩
       ·show bU (c.V.set x.n.toNat false) 0=true↔(Wt.lJ c.P x.n).r0≠4
        rw [v0];unfold Wt.lJ
        by_cases e:x.n=0
        ·rw [aw e.symm,aw e];simp
        ·rw [am (fun g=>e g.symm),am e]
         split <;> exact h.1
       ·show bU (c.V.set x.n.toNat false) 1=true↔(Wt.lJ c.P x.n).r1≠4
        rw [v1];unfold Wt.lJ
        by_cases e:x.n=0
        ·rw [am (by omega),aw e];exact h.2
        ·rw [am e]
         by_cases e1:x.n=1
         ·rw [aw e1.symm,aw e1];simp
         ·rw [am (fun g=>e1 g.symm),am e1];exact h.2
      ·rw [am h4]
       rw [am h2,am h4] at he
       by_cases h5:x.k=5
       ·rw [aw h5]
        rw [aw h5] at he;have hvn:bU c.V x.n=false:=by
         cases hb:bU c.V x.n with
         | false=>rfl
         | true=>rw [hb,aw rfl] at he;omega
        have v0:bU (c.V.set x.n.toNat true) 0=_:=sK hin.1 (by omega) 0 (by omega);have v1:bU (c.V.set x.n.toNat true) 1=_:=sK hin.1 (by omega) 1 (by omega);refine ⟨?_,?_⟩
        ·show bU (c.V.set x.n.toNat true) 0=true↔(Wt.lI c.P x.n).r0≠4
         rw [v0];unfold Wt.lI
         by_cases e:x.n=0
         ·rw [aw e.symm,aw e]
          have r4:c.P.r0=4:=Classical.not_not.1 fun g=>by have:=h.1.2 g;rw [e] at hvn;rw [hvn] at this;cases this
          rw [aw r4];simp
         ·rw [am (fun g=>e g.symm),am e]
          split
          ·split <;> exact h.1
          ·exact h.1
        ·show bU (c.V.set x.n.toNat true) 1=true↔(Wt.lI c.P x.n).r1≠4
         rw [v1];unfold Wt.lI
         by_cases e:x.n=0
         ·rw [am (by omega),aw e]
          split <;> exact h.2
         ·rw [am e]
          by_cases e1:x.n=1
          ·rw [aw e1.symm,aw e1]
           have r4:c.P.r1=4:=Classical.not_not.1 fun g=>by have:=h.2.2 g;rw [e1] at hvn;rw [hvn] at this;cases this
           rw [aw r4];simp
          ·rw [am (fun g=>e1 g.symm),am e1];exact h.2
       ·rw [am h5];exact h
theorem sQ.serve (h:sQ c) (n o f r:Int) (x:Fl.R4):sQ (Bf c n o f r x):=by
 unfold Bf
 split
 ·exact h
 ·exact h
open Go.Maps
attribute [local irreducible] Sd.bA wpQuiet
section
variable {s t p:Nat} {F G:Nat->Prop} {c:Cs} {vn vq:Value} {L:List Nd} {Fs:Nat->Nat->Prop} {w w':World}
variable {g n cap i p' t':Nat}
theorem Nc (h:Ow KD w 0 74 (.slice (some ⟨g,0,none⟩) n cap) L) (hn:L.length=n) (hi:i < n) (j:Nat) (hj:j < 3) (u:Value) (x:Nd) (hx:KD.enc x=(KD.enc (iC L i)).set j u):Ow KD (w.setCell ⟨g,i * 3+j,none⟩ u) 0 74 (.slice (some ⟨g,0,none⟩) n cap) (L.set i x):=by
 subst hn;exact Rw.Ow.set h i j hi hj u x hx
theorem Cl.Nv (h:Cl w s F c t (.slice (some ⟨g,0,none⟩) n cap) L p vq Fs) (hn:c.S.length=n) (hv:c.V.length=n) (hi:i < n) (b:Bool):Cl (w.setCell ⟨g,i * 3+1,none⟩ (.bool b)) s F { c with V:=c.V.set i b } t (.slice (some ⟨g,0,none⟩) n cap) (L.set i { iC L i with live:=b }) p vq Fs/\ay F w (w.setCell ⟨g,i * 3+1,none⟩ (.bool b)):=by
 have hl:=h.len.trans hn;have o:ay (fun k=>k=g) w (w.setCell ⟨g,i * 3+1,none⟩ (.bool b)):=ay.set (fun k=>k=g) w (a:=⟨g,i * 3+1,none⟩) rfl _;refine ⟨h.node (g:=g) rfl o (Nc h.no hl hi 1 (by decide) (.bool b) { iC L i with live:=b } rfl) cz (fun j hj=>?_) (fun j hj=>?_) (fun j hj=>?_),o.mono fun k _ e=>by rw [e];exact h.fv g (.inl rfl)⟩
 ·rw [oJ (by omega)]
  split
  ·rename_i e;rw [e]
  ·rfl
 ·rw [oJ (by omega)]
  have q:bU (c.V.set i b) j=if (j:Int)=(i:Int) then b else bU c.V j:=by
   have:=sK (V:=c.V) (n:=(i:Int)) (b:=b) (by omega) (by omega) j (by omega);rw [ch] at this;exact this
  rw [q]
  by_cases e:j=i
  ·rw [aw e,aw (by omega)]
  ·rw [am e,am (by omega)]
   exact h.lv j hj
 ·rw [oJ (by omega)]
  split
  ·exact h.rt i (by omega)
  ·exact h.rt j hj
variable {x:Int}
theorem Cl.ZW (h:Cl w s F c t (.slice (some ⟨g,0,none⟩) n cap) L p vq Fs) (hn:c.S.length=n) (hi:i < n) (hx : -2000<=x/\x<=2000):Cl (w.setCell ⟨g,i * 3+2,none⟩ (.int .i64 x)) s F c t (.slice (some ⟨g,0,none⟩) n cap) (L.set i { iC L i with rate:=x }) p vq Fs/\ay F w (w.setCell ⟨g,i * 3+2,none⟩ (.int .i64 x)):=by
 have hl:=h.len.trans hn;have o:ay (fun k=>k=g) w (w.setCell ⟨g,i * 3+2,none⟩ (.int .i64 x)):=ay.set (fun k=>k=g) w (a:=⟨g,i * 3+2,none⟩) rfl _;refine ⟨h.node (g:=g) (V:=c.V) rfl o (Nc h.no hl hi 2 (by decide) (.int .i64 x) { iC L i with rate:=x } rfl) cz (fun j hj=>?_) (fun j hj=>?_) (fun j hj=>?_),o.mono fun k _ e=>by rw [e];exact h.fv g (.inl rfl)⟩
 ·rw [oJ (by omega)]
  split
  ·rename_i e;rw [e]
  ·rfl
 ·rw [oJ (by omega)]
  split
  ·rename_i e;rw [e];exact h.lv i (by omega)
  ·exact h.lv j hj
 ·rw [oJ (by omega)]
  split
  ·exact hx
  ·exact h.rt j hj
variable {a:Wt.A}
theorem aba {n:Int} (h:2<=n):Wt.lJ a n=a:=by unfold Wt.lJ;rw [am (by omega),am (by omega)]
theorem Zr {n:Int} (h:2<=n):Wt.lI a n=a:=by unfold Wt.lI;rw [am (by omega),am (by omega)]
theorem sQ.cr0 (h:sQ c) (hn:n < 2) (hv:bU c.V n=true):Wt.qN c.P n=0:=by
 unfold Wt.qN
 rcases (by omega:n=0\/n=1) with rfl | rfl
 ·rw [aw (by rfl),am (h.1.1 hv)]
 ·rw [am (by decide),aw (by rfl),am (h.2.1 hv)]
theorem sQ.rs0 (h:sQ c) (hn:n < 2) (hv:bU c.V n=false):Wt.rsE c.P n=0:=by
 unfold Wt.rsE
 rcases (by omega:n=0\/n=1) with rfl | rfl
 ·have r4:c.P.r0=4:=Classical.not_not.1 fun g=>by have:=h.1.2 g;rw [show bU c.V 0=false from hv] at this;cases this
  rw [aw (by rfl),aw r4]
 ·have r4:c.P.r1=4:=Classical.not_not.1 fun g=>by have:=h.2.2 g;rw [show bU c.V 1=false from hv] at this;cases this
  rw [am (by decide),aw (by rfl),aw r4]
theorem jc (h:Cl w s F c t vn L p vq Fs) (b:Below w.heap.size w w') (x:Int):kS w s F c t x (.returned (.int .i64 x)) w' :=
 ⟨rfl,⟨vn,L,p,vq,Fs,(h.below b).fx w⟩,ay.of_below b⟩
theorem q8 {c':Cs} {vn' vq':Value} {L':List Nd} {Fs':Nat->Nat->Prop} (h:Cl w' s F c' t' vn' L' p' vq' Fs') (o:ay F w w') (x:Int):kS w s F c' t' x (.returned (.int .i64 x)) w' :=
 ⟨rfl,⟨vn',L',p',vq',Fs',h.fx w⟩,o⟩
theorem Kw (h:Cl w s F c t vn L p vq Fs) (ok:jB c t) (sy:sQ c) (hn:n < c.S.length) (hv:bU c.V n=true):Calls prog 35 #[ptr s,.int .i64 n] w (kS w s F { c with V:=c.V.set n false,P:=Wt.lJ c.P n } t 0):=by
 obtain ⟨g,cap,rfl,hc,hm,_,y1,_,fz⟩:=h.one hn;have d0:=h.cells.1;have H:=Hh (h.Nv rfl ok.lv hn false);have H0:=Hh h;have CR:=Hh (fun (w1:World) (P:Wt.Pr w1 p c.P t)=>Wt.Ra P n);have E0:=Hh (fun h2=>sy.cr0 (n:=n) h2 hv);have EF:=Hh (fun h2=>aba (a:=c.P) (n:=(n:Int)) h2);have fy:=fz (n * 3+1);rw [hv] at y1;have p5:decide (c.S.length<=n)=false:=ai (by omega);clear h ok sy hv fz;generalize c.S.length=ln at *;unfold ptr at *
 by_cases h2:n < 2
 ·have k1:=H.out.1.cells.2.1
  have CC:=Hh (CR _ H.out.1.pr);unfold Wt.bF at CC;rw [E0.out h2] at CC;unfold ptr at k1;have p6:decide ((n:Int) < 2)=true:=bj (by omega);clear CR E0 EF
  go_enter func35,ntmps35
  go_wp2_with fail;refine CC.mono ?_;rintro e w2 ⟨rfl,pr2,o2⟩;have E:=Hh (q8 (w:=w) (H.out.1.pair o2 pr2) (H.out.2.trans o2 fun k _ e=>by rw [e];exact H.out.1.fp) 0);clear pr2 o2 H CC;go_wp2
  go_ret
  exact E
 ·have E:=Hh (q8 (w:=w) H.out.1 H.out.2 0)
  rw [← EF.out (by omega)] at E;have p6:decide ((n:Int) < 2)=false:=ai (by omega);clear CR E0 EF H
  go_enter func35,ntmps35
  go_wp2
  go_ret
  exact E
theorem Qa (h:Cl w s F c t vn L p vq Fs) (hn:n < c.S.length) (hv:bU c.V n=false):Calls prog 35 #[ptr s,.int .i64 n] w (kS w s F c t 10):=by
 obtain ⟨g,cap,rfl,_,hm,_,y1,_⟩:=h.one hn;have d0:=h.cells.1;have E:=Hh (jc h (aa _ _) 10);rw [hv] at y1;have p5:decide (c.S.length<=n)=false:=ai (by omega);clear h hv;generalize c.S.length=ln at *;unfold ptr at *
 go_enter func35,ntmps35
 go_wp2
 go_ret
 exact E
theorem Ee (h:Cl w s F c t vn L p vq Fs) (ok:jB c t) (sy:sQ c) (hn:n < c.S.length) (hv:bU c.V n=false):Calls prog 36 #[ptr s,.int .i64 n] w (kS w s F { c with V:=c.V.set n true,P:=Wt.lI c.P n } t 0):=by
 obtain ⟨g,cap,rfl,hc,hm,_,y1,_,fz⟩:=h.one hn;have d0:=h.cells.1;have H:=Hh (h.Nv rfl ok.lv hn true);have H0:=Hh h;have CR:=Hh (fun (w1:World) (P:Wt.Pr w1 p c.P t)=>Wt.GQ P n);have E0:=Hh (fun h2=>sy.rs0 (n:=n) h2 hv);have EF:=Hh (fun h2=>Zr (a:=c.P) (n:=(n:Int)) h2);have fy:=fz (n * 3+1);rw [hv] at y1;have p5:decide (c.S.length<=n)=false:=ai (by omega);clear h ok sy hv fz;generalize c.S.length=ln at *;unfold ptr at *
 by_cases h2:n < 2
 ·have k1:=H.out.1.cells.2.1
  have CC:=Hh (CR _ H.out.1.pr);unfold Wt.bF at CC;rw [E0.out h2] at CC;unfold ptr at k1;have p6:decide ((n:Int) < 2)=true:=bj (by omega);clear CR E0 EF
  go_enter func36,ntmps36
  go_wp2_with fail;refine CC.mono ?_;rintro e w2 ⟨rfl,pr2,o2⟩;have E:=Hh (q8 (w:=w) (H.out.1.pair o2 pr2) (H.out.2.trans o2 fun k _ e=>by rw [e];exact H.out.1.fp) 0);clear pr2 o2 H CC;go_wp2
  go_ret
  exact E
 ·have E:=Hh (q8 (w:=w) H.out.1 H.out.2 0)
  rw [← EF.out (by omega)] at E;have p6:decide ((n:Int) < 2)=false:=ai (by omega);clear CR E0 EF H
  go_enter func36,ntmps36
  go_wp2
  go_ret
  exact E
theorem Iy (h:Cl w s F c t vn L p vq Fs) (hn:n < c.S.length) (hv:bU c.V n=true):Calls prog 36 #[ptr s,.int .i64 n] w (kS w s F c t 10):=by
 obtain ⟨g,cap,rfl,_,hm,_,y1,_⟩:=h.one hn;have d0:=h.cells.1;have E:=Hh (jc h (aa _ _) 10);rw [hv] at y1;have p5:decide (c.S.length<=n)=false:=ai (by omega);clear h hv;generalize c.S.length=ln at *;unfold ptr at *
 go_enter func36,ntmps36
 go_wp2
 go_ret
 exact E
def Yz (x:Int):Bool:=decide (-2000<=x) && decide (x<=2000)
theorem p8 (w:World) (x:Int):Calls prog 47 #[.int .i64 x] w fun e w'=>e = .returned (.bool (Yz x))/\w=w':=by
 have E:Hid (Yz x=(decide (-2000<=x) && decide (x<=2000))):=Hh rfl;generalize Yz x=b at *
 by_cases h0 : -2000<=x
 ·by_cases h2:x<=2000
  ·obtain rfl:b=true:=by rw [E.out];simp [h0,h2]
   clear E
   go_enter func47,ntmps47
   go_wp2
   go_ret
   exact ⟨rfl,rfl⟩
  ·obtain rfl:b=false:=by rw [E.out];simp [h2]
   have q:decide (x<=2000)=false:=ai h2;clear E
   go_enter func47,ntmps47
   go_wp2
   go_ret
   exact ⟨rfl,rfl⟩
 ·obtain rfl:b=false:=by rw [E.out];simp [h0]
  have q:decide (-2000<=x)=false:=ai h0;clear E
  go_enter func47,ntmps47
  go_wp2
  go_ret
  exact ⟨rfl,rfl⟩
theorem Es : Yz x=true↔-2000<=x/\x<=2000:=by unfold Yz;simp
theorem K7 (w:World) (g o:Nat) (x:Int) (u:Value) (hu:w.cell? ⟨g,o+2,none⟩=some u) (hf:w.frozen? ⟨g,o+2,none⟩=false) (hx:Yz x=true):Calls prog 37 #[.pointer (some ⟨g,o,none⟩),.int .i64 x] w fun e w'=>e = .returned (.int .i64 0)/\w'=w.setCell ⟨g,o+2,none⟩ (.int .i64 x):=by
 have C:=Hh (p8 w x);rw [hx] at C;clear hx
 go_enter func37,ntmps37
 go_wp2_with fail;refine C.mono ?_;rintro e w1 ⟨rfl,rfl⟩;go_wp2
 go_ret
 exact ⟨rfl,rfl⟩
theorem Tm (w:World) (g o:Nat) (x:Int) (hx:Yz x=false):Calls prog 37 #[.pointer (some ⟨g,o,none⟩),.int .i64 x] w fun e w'=>e = .returned (.int .i64 1)/\w=w':=by
 have C:=Hh (p8 w x);rw [hx] at C;clear hx
 go_enter func37,ntmps37
 go_wp2_with fail;refine C.mono ?_;rintro e w1 ⟨rfl,rfl⟩;go_wp2
 go_ret
 exact ⟨rfl,rfl⟩
end
open Fs (yj gT lM jk Ey sP Li)
open Pa (xV fQ ab1)
open Ck (Hd sl zh)
def aaV (w:World) (g:Nat) (a b c:Value):World:=((w.setCell ⟨g,0,none⟩ a).setCell ⟨g,1,none⟩ b).setCell ⟨g,2,none⟩ c
variable {w wr w':World} {g B q k:Nat}
theorem sG {x y z:Value} (h:w.heap[g]? = some (.cells #[x,y,z] 74 (0,0))) (a b c:Value):(aaV w g a b c).heap[g]? = some (.cells #[a,b,c] 74 (0,0)):=by
 have h1:=Rw.aB (j:=0) h a;have h2:=Rw.aB (j:=1) h1 b;exact Rw.aB (j:=2) h2 c
theorem wU (w:World) (g:Nat) (a b c:Value):ay (fun k=>k=g) w (aaV w g a b c) :=
 ((ay.set (fun k=>k=g) w (a:=⟨g,0,none⟩) rfl a).trans (ay.set (fun k=>k=g) _ (a:=⟨g,1,none⟩) rfl b) fun _ _ q=>q).trans (ay.set (fun k=>k=g) _ (a:=⟨g,2,none⟩) rfl c) fun _ _ q=>q
theorem oF {fn:Func} {p r:Tmp} (h:fn.results=#[.cell p 74,.tmp r]) (tmps:Array Value) (w:World) (g:Nat) (a b c v:Value)
 (hp:tmps.getD p undef = .pointer (some ⟨g,0,none⟩)) (hr:tmps.getD r undef=v) (h1:w.heap[g]? = some (.cells #[a,b,c] 74 (0,0))) :
 (results fn tmps).run prog w = .ok (.tuple #[.agg #[a,b,c],v]) w:=by
 have e2:=fX (P:=prog) w g 74 74 #[a,b,c] (0,0) _ h1 underlying74 rfl (by show _=some 3;kernel_rfl);have hp':tmps[p]?.getD undef = .pointer (some ⟨g,0,none⟩):=by simpa using hp
 have hr':tmps[r]?.getD undef=v:=by simpa using hr
 simp only [results,h]
 simp [Result.andThen,hp',hr',asAddr,e2]
def zi (A:aU) (k:Nat):Int:=match k with | 0=>-1 | j+1=>(A.getD j (0,0,[])).1
def PlC (w:World) (x:Pl) (e:Ending) (w':World):Prop:=Below w.heap.size w w'/\((Oq x/\∃ q G,e = .returned (.tuple #[.agg #[ptr q,.bool true,.int .i64 x.2],.int .i64 0])/\St w' q G x.1 0/\∀ j,G j->w.heap.size<=j)\/(¬ Oq x/\e = .returned (.tuple #[.agg #[.pointer none,.bool false,.int .i64 0],.int .i64 2])))
structure PNI (w:World) (B:Nat) (q:Nat) (A:aU) (k:Nat) (G:Nat->Prop) (wr:World):Prop where
 st:St wr q G (A.take k) 0
 lo:∀ j,G j->B<=j
 aI:Below w.heap.size w wr
 inn:Inn A k
theorem PNI.below {w wr w':World} {B q k:Nat} {A:aU} {G:Nat->Prop} (h:PNI w B q A k G wr) (b:Below wr.heap.size wr w'):PNI w B q A k G w':=⟨h.st.below b,h.lo,h.aI.trans (b.mono h.aI.size),h.inn⟩
variable {A:aU}
theorem PNI.step {G:Nat->Prop} (h:PNI w B q A k G wr) (hw:w.heap.size<=B) (hB:B<=wr.heap.size) (st:St w' q (Fx G wr w') (A.take (k+1)) 0) (o:ay G wr w') (i:Inn A (k+1)):PNI w B q A (k+1) (Fx G wr w') w' :=
 ⟨st,fun j g=>by
  rcases g with g | g
  ·exact h.lo j g
  ·omega,h.aI.trans (o.below h.aI.size fun j g=>cE hw (h.lo j g)),i⟩
variable {c:yj}
theorem YL (hk:A[k]? = some c) (h:c.1<=zi A k):¬ gdF A:=by
 cases k with
 | zero =>
   intro g
   have:=(g.2 c (cN hk)).1.1;have h:c.1<=-1:=h
   omega
 | succ j =>
   have hl:=(bs.1 hk).1;have h1:A[j+1 - 1]? = some (A.getD j (0,0,[])):=by
    rw [Nat.add_sub_cancel,af,aq (by omega)]
    rfl
   exact VQ (Nat.succ_pos j) hk h1 h
theorem Ve {n:Int} (h:¬ n<=zi A k):∀ c,0 < k->A[k - 1]? = some c->Fs.key c < n:=fun c h0 hc=>by
 obtain ⟨j,rfl⟩:∃ j,k=j+1:=⟨k - 1,by omega⟩;rw [Nat.add_sub_cancel] at hc;have:zi A (j+1)=c.1:=by
  show (A.getD j (0,0,[])).1=c.1
  rw [af,hc]
  rfl
 show c.1 < n
 omega
theorem QH (hk:A[k]? = some c):zi A (k+1)=c.1:=by
 show (A.getD k (0,0,[])).1=c.1
 rw [af,hk]
 rfl
theorem Wl {L:List aD} (hk:k < L.length):(L.map aD.abs)[k]? = some (fQ L k).abs:=by
 unfold fQ;rw [cX,aq hk,af,aq hk]
 rfl
theorem El (c:mF) (hf:xV w (sl c.files) c.F B):Calls prog 23 #[.agg #[sl c.files,.int .i64 c.rate]] w (PlC w c.abs):=by
 show Calls _ _ _ w (PlC w (c.F.map aD.abs,c.rate))
 obtain ⟨cf,cr,cF⟩:=c;simp only at hf ⊢;obtain ⟨a,cap,es,hm⟩:=hf.rd.slice;rw [es] at hf ⊢;clear es;have B1:=Hh ((aa w.heap.size w).alloc (ac _) (.cells #[.slice a cF.length cap,.int .i64 cr] 71));have B2:=Hh (B1.alloc B1.size (.cells #[.pointer none,.bool false,.int .i64 0] 74));have Z2:Hid (((w.alloc (.cells #[.slice a cF.length cap,.int .i64 cr] 71)).alloc (.cells #[.pointer none,.bool false,.int .i64 0] 74)).heap.size=w.heap.size+2):=Hh (by simp);have X1:Hid (((w.alloc (.cells #[.slice a cF.length cap,.int .i64 cr] 71)).alloc (.cells #[.pointer none,.bool false,.int .i64 0] 74)).heap[w.heap.size]? = some (.cells #[.slice a cF.length cap,.int .i64 cr] 71 (0,0))):=Hh ((cA _ _ _ (by simp)).trans (bc w _))
 have X2:Hid (((w.alloc (.cells #[.slice a cF.length cap,.int .i64 cr] 71)).alloc (.cells #[.pointer none,.bool false,.int .i64 0] 74)).heap[w.heap.size+1]? = some (.cells #[.pointer none,.bool false,.int .i64 0] 74 (0,0))):=Hh (by
  have:=bc (w.alloc (.cells #[.slice a cF.length cap,.int .i64 cr] 71)) (.cells #[.pointer none,.bool false,.int .i64 0] 74);rw [show (w.alloc (.cells #[.slice a cF.length cap,.int .i64 cr] 71)).heap.size=w.heap.size+1 by simp] at this
  exact this)
 have BAD:Hid (¬ Oq (cF.map aD.abs,cr)->∀ W,Below w.heap.size w W->PlC w (cF.map aD.abs,cr) (.returned (.tuple #[.agg #[.pointer none,.bool false,.int .i64 0],.int .i64 2])) (aaV W (w.heap.size+1) (.pointer none) (.bool false) (.int .i64 0))):=Hh (fun h W b=>⟨b.trans ((wU W _ _ _ _).below b.size fun k e=>by omega),.inr ⟨h,rfl⟩⟩);have CAL:=Hh (fun W=>p8 W cr);have HF:=Hh hf;clear hf
 cases hc:Yz cr with
 | false =>
   have NG:=Hh (BAD (fun g=>by
    have:=Es.2 g.2;rw [show ((cF.map aD.abs,cr):Pl).2=cr from rfl,hc] at this
    cases this))
   rw [hc] at CAL;clear BAD HF hc;generalize ((cF.map aD.abs,cr):Pl)=pp at *;generalize cF.length=N at *
   go_enter func23,ntmps23
   go_wp2_with fail;refine (CAL _).mono ?_;rintro e w1 ⟨rfl,rfl⟩;generalize ((w.alloc (.cells #[.slice a N cap,.int .i64 cr] 71)).alloc (.cells #[.pointer none,.bool false,.int .i64 0] 74))=W at *;have E:=Hh (NG W B2);obtain ⟨z0,z1,z2⟩:=D6 X2;have f0:=aj X2 0;have f1:=aj X2 1;have f2:=aj X2 2;have R:=Hh (sG X2 (.pointer none) (.bool false) (.int .i64 0));clear NG CAL B1 B2 Z2 X1 X2;go_wp2
   (try simp only [Exit.inBlock,Exit.then])
   exact bp (oF (p:=2) (r:=3) rfl _ _ (w.heap.size+1) _ _ _ (.int .i64 2) rfl rfl R) rfl E
 | true =>
   have FI:=Hh (fun i (hi:i < cF.length)=>(HF.file i hi).1);have FO:=Hh (fun i (hi:i < cF.length)=>(HF.file i hi).2);obtain ⟨a',cap',e',_,_,h3⟩:=HF.rd;injection e' with e1 _ e3;subst e1 e3;have H3:=Hh h3;have CR:=Hh (Es.1 hc);have AT:=Hh (fun k (hk:k < cF.length)=>Wl hk)
   have OKL:Hid (∀ e∈cF.map aD.abs,dF e.2.2):=Hh (fun e he=>by
    obtain ⟨i,hi⟩:=dj he;have hl:=(bs.1 hi).1;rw [cy] at hl;rw [Wl hl] at hi;injection hi with hi;rw [← hi]
    exact (HF.file i hl).2)
   rw [hc] at CAL;have AL:Hid ((cF.map aD.abs).length=cF.length):=Hh (cy _);clear h3 hc HF;unfold maxLen at hm;generalize hA:cF.map aD.abs=A at *;clear hA;generalize hN:cF.length=N at *;have HN:=Hh hN;clear hN
   go_enter func23,ntmps23
   go_wp2_with fail;refine (CAL _).mono ?_;rintro e w1 ⟨rfl,rfl⟩;generalize ((w.alloc (.cells #[.slice a N cap,.int .i64 cr] 71)).alloc (.cells #[.pointer none,.bool false,.int .i64 0] 74))=W at *;clear B1;have P0:=Hh (Li W);have B3:=Hh (B2.alloc B2.size (.cells #[.map none,.int .i64 0] 139));have BN:=Hh ((aa W.heap.size W).alloc (ac _) (.cells #[.map none,.int .i64 0] 139));have X3:=Hh (jf BN X1);have X4:=Hh (jf BN X2);have Z3:Hid ((W.alloc (.cells #[.map none,.int .i64 0] 139)).heap.size=w.heap.size+3):=Hh (by have:=Z2.out;simp;omega);clear X1 X2 B2 BN
   go_upto_region 4 with (go_at_call 48;refine (sP _).mono ?_;rintro e w1 ⟨rfl,rfl⟩)
   generalize (W.alloc (.cells #[.map none,.int .i64 0] 139))=W2 at *;rw [Z2.out] at *;have Q0:Hid (PNI w (w.heap.size+2) (w.heap.size+2) A 0 (fun k=>k=w.heap.size+2) W2):=Hh ⟨P0,fun j e=>Nat.le_of_eq e.symm,B3,J5 A⟩;have d0:=Fl.rc X3 0;clear P0 B3 CAL;go_wp2;clear d0
   go_loopw [17,5] (fun i la wr=>∃ (k:Nat) (G:Nat->Prop),k<=N/\i = .int .i64 k/\la = .int .i64 (zi A k)/\Hid (PNI w (w.heap.size+2) (w.heap.size+2) A k G wr)/\Hid (Below (w.heap.size+2) W2 wr)) (fun i _ _=>N - (intOf i).toNat)
   case atStart=>exact ⟨0,_,cg _,rfl,rfl,Q0,Hh (aa _ _)⟩
   case round =>
    clear Q0;obtain ⟨k,G,hk,rfl,rfl,I,BW⟩:=hrel
    by_cases hlt:k < N
    ·have hkL:k < cF.length:=by have:=HN.out;omega
     have hc:cF[k]? = some (fQ cF k):=by
      unfold fQ;rw [aq hkL,af,aq hkL]
      rfl
     obtain ⟨b,off,rfl,hA⟩:=H3 (by omega);obtain ⟨x0,x1,x2⟩:=at3 (hA.below I.aI) hc;have HAA:=Hh hA;have RF:=Hh ((FI k hlt).below I.aI);have OF:=Hh (FO k hlt);have AK:Hid (A[k]? = some ((fQ cF k).n,(fQ cF k).p,(fQ cF k).l)):=Hh (AT k hlt);clear hc hA;unfold aD.sl at x2 RF;generalize (fQ cF k).a=ca at *;generalize (fQ cF k).cap=ccap at *;generalize (fQ cF k).p=cp at *;generalize (fQ cF k).n=cn at *;generalize (fQ cF k).l=cl at *;have Y0:=Hh (bc wr (.cells #[.int .i64 cn,.int .i64 cp,.slice ca cl.length ccap] 81));have BN:=Hh ((aa wr.heap.size wr).alloc (ac _) (.cells #[.int .i64 cn,.int .i64 cp,.slice ca cl.length ccap] 81));have GL:=Hh I.st.low;go_upto_region 7 with fail;clear x0 x1 x2;generalize wr.alloc (.cells #[.int .i64 cn,.int .i64 cp,.slice ca cl.length ccap] 81)=W at *;have I2:=Hh (I.below BN);have XW:=Hh ((BN.block _ (by have:=I.out.aI.size;have:=bm X4.out;have:=BW.out.size;omega)).trans ((BW.out.block (w.heap.size+1) (by omega)).trans X4.out));have BW2:=Hh (BW.trans (BN.mono (by have:=BW.out.size;have:=Z3.out;omega)));have RF2:=Hh (RF.below BN);have GX:Hid (¬ G wr.heap.size/\¬ G (w.heap.size+1)):=Hh ⟨fun g=>by have:=GL.out _ g;omega,fun g=>by have:=I.out.lo _ g;omega⟩;have LW:Hid (w.heap.size+2<=W.heap.size):=Hh (by have:=BW2.out.size;have:=Z3.out;omega);generalize wr.heap.size=gx at *;obtain ⟨y0,y1,y2⟩:=D6 Y0;clear I BW BN RF GL;generalize hla:zi A k=la at *;have HLA:=Hh hla;clear hla
     by_cases hle:cn<=la
     ·have E:=Hh (BAD (fun g=>YL AK (by rw [HLA.out];exact hle) g.1) W I2.out.aI)
      have q:decide (cn<=la)=true:=bj hle;have XR:=Hh XW;obtain ⟨z0,z1,z2⟩:=D6 XR;have f0:=aj XR 0;have f1:=aj XR 1;have f2:=aj XR 2;have R:=Hh (sG XR (.pointer none) (.bool false) (.int .i64 0));clear hle I2 BW2 RF2 BAD FI FO AT OKL OF AK;go_wp2
      (try simp only [Exit.inBlock,Exit.then])
      exact bp (oF (p:=2) (r:=3) rfl _ _ (w.heap.size+1) _ _ _ (.int .i64 2) rfl rfl R) rfl E
     ·have ADD:=Hh (Ey I2.st cn cp (.slice ca cl.length ccap) cl RF2 OF)
      have ST:=Hh (Iz I2.inn AK (Ve (by rw [HLA.out];exact hle)));have NX:=Hh (QH AK);have q:decide (cn<=la)=false:=ai hle;unfold jk file at ADD;generalize gT (A.take k) cn cp cl=ae at *;generalize lM (A.take k) cn cp cl=A' at *;generalize cl.length=cll at *;clear hle RF2 AK OF;go_wp2_with fail;refine ADD.mono ?_;rintro e w5 ⟨rfl,st5,o5⟩;have ST5:=Hh st5;have O5:=Hh o5;have YN:=Hh ((o5.block gx (bm Y0) GX.out.1).trans Y0);have XR:=Hh ((o5.block _ (bm XW) GX.out.2).trans XW);clear st5 o5 ADD y0 y1 y2 XW
      rcases ST.out with ⟨e0,e1,e2⟩ | ⟨e0,ng⟩
      ·have I5:=Hh (I2.step (by omega) LW.out (by rw [← e1];exact ST5.out) O5.out e2)
       have BW5:=Hh (BW2.trans (O5.below (B:=w.heap.size+2) LW I2.lo));subst e0;have y0:=Fl.rc YN 0;clear ST e1 e2 ST5 O5 YN XR I2 BW2;go_wp2
       go_roundw
       case rel=>exact ⟨k+1,_,by omega,by go_num,by rw [NX.out],I5,BW5⟩
       case measure=>simp [intOf];omega
      ·have E:=Hh (BAD (fun g=>ng g.1) w5 (I2.aI.trans (O5.below I2.aI.size fun j g=>by have:=I2.out.lo j g;omega)))
       have q1:(ae != 0)=true:=by simpa using e0
       obtain ⟨z0,z1,z2⟩:=D6 XR;have f0:=aj XR 0;have f1:=aj XR 1;have f2:=aj XR 2;have R:=Hh (sG XR (.pointer none) (.bool false) (.int .i64 0));clear ST ng ST5 O5 YN I2 BW2 BAD FI FO AT OKL e0;go_wp2
       (try simp only [Exit.inBlock,Exit.then])
       exact bp (oF (p:=2) (r:=3) rfl _ _ (w.heap.size+1) _ _ _ (.int .i64 2) rfl rfl R) rfl E
    ·obtain rfl:k=N:=by omega
     have GD:=Hh (Ot (A:=A) (by have:=I.out.inn;rw [AL.out];exact this));have ST:=I.st;have XR:=Hh ((BW.block (w.heap.size+1) (by omega)).trans X4.out);have XP:=Hh ((BW.block w.heap.size (by omega)).trans X3.out);rw [← AL.out,cW] at ST;have E:Hid (PlC w (A,cr) (.returned (.tuple #[.agg #[.pointer (some ⟨w.heap.size+2,0,none⟩),.bool true,.int .i64 cr],.int .i64 0])) (aaV wr (w.heap.size+1) (.pointer (some ⟨w.heap.size+2,0,none⟩)) (.bool true) (.int .i64 cr))):=Hh
      ⟨I.aI.trans ((wU wr _ _ _ _).below I.aI.size fun k e=>by omega),.inl ⟨⟨GD.out,CR.out⟩,w.heap.size+2,G,rfl,ST.only (G:=fun j=>j=w.heap.size+1) (fun j g e=>by have:=I.out.lo j g;omega) (wU wr _ _ _ _),fun j g=>by have:=I.out.lo j g;omega⟩⟩
     obtain ⟨z0,z1,z2⟩:=D6 XR;have p1:=Fl.rc XP 1;have f0:=aj XR 0;have f1:=aj XR 1;have f2:=aj XR 2;have R:=Hh (sG XR (.pointer (some ⟨w.heap.size+2,0,none⟩)) (.bool true) (.int .i64 cr));clear GD ST I BW BAD FI FO AT OKL XP;generalize zi A k=la at *;go_wp2
     (try simp only [Exit.inBlock,Exit.then])
     exact bp (oF (p:=2) (r:=3) rfl _ _ (w.heap.size+1) _ _ _ (.int .i64 0) rfl rfl R) rfl E
end Cu
namespace Re
attribute [local irreducible] wpQuiet
theorem wW (w:World) (v:Value) (l:List Int) (R:Rd KI w v l):Calls prog 121 #[v] w fun e w'=>e = .returned (.bool (oO l))/\Below w.heap.size w w':=by
 have HNO:Hid (∀ k,k < l.length->¬ Bc (gU l k)->false=oO l):=Hh (fun k hk h=>UG hk h);have HLO:Hid (¬ (0 < l.length/\l.length<=64)->false=oO l):=Hh (fun h=>Gy h);have HYES:Hid (0 < l.length/\l.length<=64->(∀ i,i < l.length->Bc (gU l i))->true=oO l):=Hh (fun h g=>Po h g);obtain ⟨a,cap,rfl,_,hm,hA⟩:=R;have HA:=Hh hA;unfold maxLen at hm;clear hA;generalize hn:l.length=n at *;have HN:=Hh hn;clear hn
 rcases (by omega:n=0\/64 < n\/(0 < n/\n<=64)) with h | h | h
 ·have E:=Hh (HLO (by omega))
  have h0:((n:Int) == 0)=true:=by rw [h];rfl
  clear HNO HLO HYES HA HN h
  go_enter func121,ntmps121
  go_wp2
  go_ret
  exact ⟨aC E,aa _ _⟩
 ·have E:=Hh (HLO (by omega))
  have h0:((n:Int) == 0)=false:=by simp;omega
  clear HNO HLO HYES HA HN
  go_enter func121,ntmps121
  go_wp2
  go_ret
  exact ⟨aC E,aa _ _⟩
 ·have h0:((n:Int) == 0)=false:=by simp;omega
  have h64:n<=64:=h.2;have HY:=Hh (HYES h);clear HLO HYES h
  go_enter func121,ntmps121
  go_wp2
  go_loopw [15] (fun i wr=>∃ k:Nat,k<=n/\i = .int .i64 k/\Hid (Below w.heap.size w wr)/\Hid (∀ i,i < k->Bc (gU l i))) (fun i _=>n - (intOf i).toNat)
  case atStart=>exact ⟨0,cg _,rfl,Hh (aa _ _),Hh (fun i hi=>by omega)⟩
  case round =>
   obtain ⟨k,hk,rfl,bw,hs⟩:=hrel
   by_cases hlt:k < n
   ·obtain ⟨b,off,rfl,A⟩:=HA (by omega)
    have c0:=qh (A.below bw) k (by have:=HN.out;omega);have P1:=Hh (HNO k hlt)
    have P3:Hid (Bc (gU l k)->∀ i,i < k+1->Bc (gU l i)):=Hh (fun g i hi=>by
     by_cases e:i=k
     ·rw [e];exact g
     ·exact hs i (by omega))
    have HAA:=Hh A;clear A;unfold Bc at P1 P3;generalize gU l k=x at *
    rcases (by omega:x < 0\/(0<=x/\6<=x)\/(0<=x/\x<=5)) with h | ⟨h,h2⟩ | ⟨h,h2⟩
    ·have E:=Hh (P1 (by omega))
     clear P1 P3;go_wp2
     go_ret
     exact ⟨aC E,bw⟩
    ·have E:=Hh (P1 (by omega))
     clear P1 P3;go_wp2
     go_ret
     exact ⟨aC E,bw⟩
    ·have ST:=Hh (P3 ⟨h,h2⟩)
     clear P1 P3;go_wp2
     go_roundw
     case rel=>exact ⟨k+1,by omega,by go_num,bw,ST⟩
     case measure=>simp [intOf];omega
   ·obtain rfl:k=n:=by omega
    have E:=Hh (HY (fun i hi=>hs i hi));go_wp2
    go_ret
    exact ⟨aC E,bw⟩
theorem jq (w:World) (v:Value) (l:List Int) (R:Rd KI w v l):Calls prog 55 #[v] w fun e w'=>e = .returned (.bool (oO l))/\Below w.heap.size w w':=by
 have HNO:Hid (∀ k,k < l.length->¬ Bc (gU l k)->false=oO l):=Hh (fun k hk h=>UG hk h);have HLO:Hid (¬ (0 < l.length/\l.length<=64)->false=oO l):=Hh (fun h=>Gy h);have HYES:Hid (0 < l.length/\l.length<=64->(∀ i,i < l.length->Bc (gU l i))->true=oO l):=Hh (fun h g=>Po h g);obtain ⟨a,cap,rfl,_,hm,hA⟩:=R;have HA:=Hh hA;unfold maxLen at hm;clear hA;generalize hn:l.length=n at *;have HN:=Hh hn;clear hn
 go_enter func55,ntmps55
 go_wp2
 go_loopw [3] (fun i wr=>∃ k:Nat,k<=n/\i = .int .i64 k/\Hid (Below w.heap.size w wr)/\Hid (∀ i,i < k->Bc (gU l i))) (fun i _=>n - (intOf i).toNat)
 case atStart=>exact ⟨0,cg _,rfl,Hh (aa _ _),Hh (fun i hi=>by omega)⟩
 case round =>
  obtain ⟨k,hk,rfl,bw,hs⟩:=hrel
  by_cases hlt:k < n
  ·obtain ⟨b,off,rfl,A⟩:=HA (by omega)
   have c0:=qh (A.below bw) k (by have:=HN.out;omega);have P1:=Hh (HNO k hlt)
   have P3:Hid (Bc (gU l k)->∀ i,i < k+1->Bc (gU l i)):=Hh (fun g i hi=>by
    by_cases e:i=k
    ·rw [e];exact g
    ·exact hs i (by omega))
   have HAA:=Hh A;clear A;unfold Bc at P1 P3;generalize gU l k=x at *
   rcases (by omega:x < 0\/(0<=x/\6<=x)\/(0<=x/\x<=5)) with h | ⟨h,h2⟩ | ⟨h,h2⟩
   ·have E:=Hh (P1 (by omega))
    clear P1 P3;go_wp2
    go_ret
    exact ⟨aC E,bw⟩
   ·have E:=Hh (P1 (by omega))
    clear P1 P3;go_wp2
    go_ret
    exact ⟨aC E,bw⟩
   ·have ST:=Hh (P3 ⟨h,h2⟩)
    clear P1 P3;go_wp2
    go_roundw
    case rel=>exact ⟨k+1,by omega,by go_num,bw,ST⟩
    case measure=>simp [intOf];omega
  ·obtain rfl:k=n:=by omega
   rcases (by omega:k=0\/64 < k\/(0 < k/\k<=64)) with h | h | h
   ·have E:=Hh (HLO (by omega))
    have h0:¬ ((0:Int) < (k:Int)):=by omega
    clear HNO HLO HYES;go_wp2
    go_ret
    exact ⟨aC E,bw⟩
   ·have E:=Hh (HLO (by omega))
    have h0:(0:Int) < (k:Int):=by omega
    have h1:¬ ((k:Int) < 65):=by omega
    clear HNO HLO HYES;go_wp2
    go_ret
    exact ⟨aC (by simpa [h1] using E.out),bw.out⟩
   ·have E:=Hh (HYES h (fun i hi=>hs i hi))
    have h0:(0:Int) < (k:Int):=by omega
    have h1:(k:Int) < 65:=by omega
    clear HNO HLO HYES;go_wp2
    go_ret
    exact ⟨aC (by simpa [h1] using E.out),bw.out⟩
theorem zy (w:World) (v:Value) (l:List Int) (t:Int) (R:Rd KI w v l):Calls prog 88 #[v,.int .i64 t] w (mP w l t):=by
 have R0:=Hh R;have IS:=Hh (fun w v R=>wW w v l R)
 by_cases hs:gY l
 ·have hb:oO l=true:=bj hs
  rw [hb] at IS;have HS:=Hh hs;have hl:=hs.1;clear hb hs
  by_cases ht:0<=t/\t < l.length
  ·obtain ⟨k,rfl⟩:∃ k:Nat,t=k:=⟨t.toNat,by omega⟩
   have hk:k < l.length:=by omega
   have NP:Lr l k:=⟨HS,ht.1,ht.2⟩;have EL:=Hh (fun h w' hb=>Qg (w:=w) (w':=w') NP h hb);have EM:=Hh (fun h w' hb=>Sw (w:=w) (w':=w') NP h hb);obtain ⟨a,cap,rfl,_,hm,hA⟩:=R;obtain ⟨b,off,rfl,hA2⟩:=hA (by omega);have c0:=qh hA2 k hk;clear hA hA2 NP HS ht;generalize gU l k=x at *;generalize hn:l.length=n at *;have W0:IntKind.i64.wrap ((n:Int) - 1)=(n:Int) - 1:=cG _ (by omega);have W1:IntKind.i64.wrap ((k:Int)+1)=(k:Int)+1:=cG _ (by omega);clear hn hm
   by_cases h1:k+1=n
   ·have E:=Hh (EL h1)
    have t0:¬ ((k:Int) < 0):=by omega
    have t1:¬ ((n:Int) - 1 < k):=by omega
    have t2:¬ ((k:Int) < (n:Int) - 1):=by omega
    have H1:=Hh h1;clear EL EM h1
    go_enter func88,ntmps88
    go_wp2_with fail;refine (IS _ _ R0).mono ?_;rintro e w1 ⟨rfl,b1⟩;have d0:=iI b1 c0;have E1:=Hh (E _ b1);clear b1;go_wp2
    go_ret3
    exact E1
   ·have E:=Hh (EM h1)
    have t0:¬ ((k:Int) < 0):=by omega
    have t1:¬ ((n:Int) - 1 < k):=by omega
    have t2:(k:Int) < (n:Int) - 1:=by omega
    have H1:=Hh h1;clear EL EM h1
    go_enter func88,ntmps88
    go_wp2_with fail;refine (IS _ _ R0).mono ?_;rintro e w1 ⟨rfl,b1⟩;have d0:=iI b1 c0;have E1:=Hh (E _ b1);clear b1;go_wp2
    go_ret3
    exact E1
  ·have NP:¬ Lr l t:=fun h=>ht h.2
   have E:=Hh (fun w' hb=>Pq (w:=w) NP w' hb);obtain ⟨a,cap,rfl,_,hm,hA⟩:=R;clear hA HS NP;generalize hn:l.length=n at *;have W0:IntKind.i64.wrap ((n:Int) - 1)=(n:Int) - 1:=cG _ (by omega);clear hn hm
   rcases (by omega:t < 0\/(0<=t/\(n:Int) - 1 < t)) with h | ⟨h,h2⟩
   all_goals
    clear ht
    go_enter func88,ntmps88
    go_wp2_with fail;refine (IS _ _ R0).mono ?_;rintro e w1 ⟨rfl,b1⟩;have E1:=Hh (E _ b1);clear b1;go_wp2
    go_ret3
    exact E1
 ·have hb:oO l=false:=ai hs
  rw [hb] at IS;have NP:¬ Lr l t:=fun h=>hs h.1;have E:=Hh (fun w' hb=>Pq (w:=w) NP w' hb);obtain ⟨a,cap,rfl,_,hm,hA⟩:=R;clear hA hs NP hb;unfold maxLen at hm;generalize l.length=n at *;have W0:IntKind.i64.wrap ((n:Int) - 1)=(n:Int) - 1:=cG _ (by omega)
  go_enter func88,ntmps88
  go_wp2_with fail;refine (IS _ _ R0).mono ?_;rintro e w1 ⟨rfl,b1⟩;have E1:=Hh (E _ b1);clear b1;go_wp2
  go_ret3
  exact E1
attribute [local irreducible] Sd.bA Sz.oH
theorem Zo {α:Type} {Kd:Rw.Kind α} {P:Program} {K:Act->World->Prop} {w:World} {E:TypeId} {o:Oper} {a:Act} {Q:Exit->Act->World->Prop} {T:TypeId} {z:Value} {bytes:Nat} (ht:P.underlying T=some (.slice E))
 (hi:(P.info? E).map (fun i=>(i.zero,i.size,i.bytes))=some (some z,Kd.n,bytes)) (hz:z.cells.size=Kd.n) (hby:bytes<=64) (s x:Operand)
 (ho:o.op = .call { callee:=.builtin .append,args:=#[s,x],argTypes:=#[T,T] }) (B:Nat) (v:Value) (l:List α) (hs:a.eval s=v) (hown:Ow Kd w B E v l)
 (ad:Addr) (c:α) (hx:a.eval x = .slice (some ad) 1 1) (hc:∀ j u,(Kd.enc c)[j]? = some u->w.cell? (ad.add j)=some u) (hlen:l.length < 2199023255552) (hB:B<=w.heap.size)
 (h:∀ v' w',Ow Kd w' B E v' (l ++ [c])->Below B w w'->Rw.Far E w w'->K (a.put o.dst v') w'):o.wp P a w K Q:=by
 obtain ⟨i0,hi0,hz0,hz1,hz2⟩:=ew hi;have hb:(l.length+1) * bytes<=140737488355328:=cE (gg (show l.length+1<=2199023255552 by omega) hby) (by omega);refine wp_append_own _ s x T ho B E i0 z Kd.n bytes ht hi0 hz0 hz1 hz2 hz Kd.pos v l.length (Kd.flat l) hs hown ad 1 1 (Kd.enc c) hx (by rw [Kd.len,Nat.one_mul]) hc (Kd.one c) (by unfold maxLen;omega) hb hB ?_
 intro v' w' h2 h3 _
 exact h v' w' (Rw.Ow.push h2) ((aa B w).grown h3 hB fun k hk=>(ci hown k hk).1) (Rw.BG hown h3)
structure Y7 (w:World) (m:List R4) (gF:Nat) (v:Value) (wr:World):Prop where
 row:wr.heap[gF]? = some (.cells #[.int .i64 3,v] 79 (0,0))
 res:wr.heap[w.heap.size]? = some (.cells #[.int .i64 0,.slice none 0 0] 79 (0,0))
 own:Ow K4 wr (w.heap.size+1) 42 v m
 aI:Below w.heap.size w wr
 lt:w.heap.size < gF
def GC (gF:Nat) (v:Value) (ad:Addr) (x:Int) (W:World):Prop:=W.heap[gF]? = some (.cells #[.int .i64 3,v] 79 (0,0))/\W.cell? ad=some (.int .i64 x)
theorem Cq (w:World) (v:Value) (l:List Int) (R:Rd KI w v l):Calls prog 30 #[v] w (gW w l):=by
 have B0:=Hh ((aa w.heap.size w).alloc (ac _) (.cells #[.int .i64 0,.slice none 0 0] 79));have R0:=Hh (R.below B0)
 by_cases hm:gY l
 ·have GA:=Hh (aM (show oO l=true from bj hm) (jq _ v l R0))
  have HE:=Hh (fun u w'=>tQ (w:=w) hm u w');have hl:=hm.1.2;have OK:=Hh hm.2;clear hm R0;obtain ⟨a,cap0,rfl,_,hm,hA⟩:=R;have HA:=Hh hA;unfold maxLen at hm;clear hA;have HF:Hid (bM l=kL 3 (l.length:Int) :: l.map iW):=Hh rfl;have PS:=Hh (fun h k=>UT (k:=k) (l:=l) h);have PE:Hid (∀ h:R4,(h :: (l.take l.length).map iW)=h :: l.map iW):=Hh (fun h=>by rw [cW]);have PL:Hid (∀ (h:R4) k,k<=l.length->(h :: (l.take k).map iW).length=k+1):=Hh (fun h k hk=>by simp [List.length_take];omega);have HH:=Hh (fun w=>yZ w 3 (l.length:Int) (by omega) (by omega) (by omega) (by omega));unfold aH at HH;generalize kL 3 (l.length:Int)=h at *;generalize hn:l.length=n at *;have HN:=Hh hn;clear hn
  go_enter func30,ntmps30
  go_wp2_with fail;refine GA.mono ?_;rintro e w0 ⟨rfl,b1⟩;have z0:w.heap.size+1<=w0.heap.size:=by have:=b1.size;simp at this;omega
  have B1:=aW B0 b1;have S1:=Hh ((b1.block _ (by simp)).trans (bc w _));clear b1 GA B0;go_wp2_with fail;refine (HH _).mono ?_;rintro e w1 ⟨rfl,b1⟩;have z1:w.heap.size < w1.heap.size:=by have:=b1.size;omega
  have B2:=aW B1 b1;have r0:=(b1.block _ (by omega)).trans S1.out;have hz:(w1.alloc (.cells #[.int .u8 h.1,.int .u8 h.2.1,.int .u8 h.2.2.1,.int .u8 h.2.2.2] 42)).heap.size=w1.heap.size+1:=by simp
  have N0:Hid (Y7 w [h] (w1.heap.size+1) (.slice (some ⟨w1.heap.size,0,none⟩) 1 1) ((w1.alloc (.cells #[.int .u8 h.1,.int .u8 h.2.1,.int .u8 h.2.2.1,.int .u8 h.2.2.2] 42)).alloc (.cells #[.int .i64 3,.slice (some ⟨w1.heap.size,0,none⟩) 1 1] 79))):=by
   refine Hh ⟨?_,?_,(Rw.Ow.lit (K:=K4) w1 (w.heap.size+1) 42 [h] (by omega) (by unfold maxLen;simp)).alloc _,(B2.out.alloc (by omega) _).alloc (by rw [hz];omega) _,by omega⟩
   ·have:=bc (w1.alloc (.cells #[.int .u8 h.1,.int .u8 h.2.1,.int .u8 h.2.2.1,.int .u8 h.2.2.2] 42)) (.cells #[.int .i64 3,.slice (some ⟨w1.heap.size,0,none⟩) 1 1] 79)
    rw [hz] at this;exact this
   ·exact (cA _ _ _ (by rw [hz];omega)).trans ((cA _ _ _ z1).trans r0)
  clear b1 r0 HH hz S1 B1;go_wp2;generalize (w1.alloc (.cells #[.int .u8 h.1,.int .u8 h.2.1,.int .u8 h.2.2.1,.int .u8 h.2.2.2] 42)).alloc (.cells #[.int .i64 3,.slice (some ⟨w1.heap.size,0,none⟩) 1 1] 79)=W at *;generalize w1.heap.size+1=g at *;generalize Value.slice (some ⟨w1.heap.size,0,none⟩) 1 1=v0 at *
  go_loopw [5] (fun i wr=>∃ (k:Nat) (v:Value),k<=n/\i = .int .i64 k/\Hid (Y7 w (h :: (l.take k).map iW) g v wr)) (fun i _=>n - (intOf i).toNat)
  case atStart=>exact ⟨0,v0,cg _,rfl,N0⟩
  case round =>
   obtain ⟨k,v,hk,rfl,RR⟩:=hrel;obtain ⟨av,cv,ev,_,_⟩:=RR.own.slice;rw [PL.out h k hk] at ev;generalize k+1=L at ev;subst ev;have glt:=RR.lt
   by_cases hlt:k < n
   ·obtain ⟨b,off,rfl,A⟩:=HA (by omega)
    have cw:=qh A k (by rw [HN.out];exact hlt);have bw:=bo _ _ cw;have CW:=Hh cw;have ok:=OK.out k hlt;have PK:=Hh (PS h k hlt);have PLK:=Hh (PL h k hk);have AA:=Hh A;clear A cw;unfold Bc at ok;generalize gU l k=x at *;have W2:IntKind.u8.wrap x=x:=by rw [IntKind.wrap];simp [IntKind.signed,IntKind.bits];omega
    go_upto_region 7 with fail;have C0:GC g (.slice av L cv) ⟨b,off+k,none⟩ x wr.drew:=⟨RR.row,(RR.aI.cell bw).trans CW⟩;have c0:=Sc.aA (C:=GC g (.slice av L cv) ⟨b,off+k,none⟩ x) (a:=⟨b,off+k,none⟩) (fun W' h=>h.2);have c1:=Sc.aA (C:=GC g (.slice av L cv) ⟨b,off+k,none⟩ x) (a:=⟨g,1,none⟩) (fun W' h=>ah h.1 1);have ne:Nonempty (Sc.In (GC g (.slice av L cv) ⟨b,off+k,none⟩ x)):=⟨⟨_,C0⟩⟩;have GG:Hid (Y7 w (h :: (l.take k).map iW) g (.slice av L cv) wr.drew):=Hh ⟨RR.row,RR.res,RR.own,RR.aI.drew,RR.lt⟩;clear RR;refine Sz.start (GC g (.slice av L cv) ⟨b,off+k,none⟩ x) [(false,0),(false,1),(false,2),(false,3),(false,4),(false,5),(false,6),(false,7),(true,8),(true,9),(false,10)] 11 (by kernel_rfl) (by kernel_rfl) (by kernel_rfl) rfl rfl C0 ?_;dsimp only [Sd.aP,List.getElem?_cons_succ,List.getElem?_cons_zero]
    repeat (refine Sz.lit ?_;quiet_step (fail);refine bk ?_)
    have C1:=Hh C0;clear C0 c0 c1;generalize wr.drew=w4 at *;refine Sz.call (by rfl) (fun K hK=>?_);go_simp;have zB:=GG.aI.size;have ba:=cA w4 (.cells #[.int .u8 x,.int .u8 0,.int .u8 0,.int .u8 0] 42);have C5:GC g (.slice av L cv) ⟨b,off+k,none⟩ x (w4.alloc (.cells #[.int .u8 x,.int .u8 0,.int .u8 0,.int .u8 0] 42)):=⟨(ba g (bm C1.out.1)).trans C1.out.1,(((aa w4.heap.size w4).alloc (ac _) _).cell (bo _ _ C1.out.2)).trans C1.out.2⟩;have B5:=Hh (GG.aI.alloc zB (.cells #[.int .u8 x,.int .u8 0,.int .u8 0,.int .u8 0] 42));have O5:=Hh (GG.own.alloc (.cells #[.int .u8 x,.int .u8 0,.int .u8 0,.int .u8 0] 42));have S5:=Hh ((ba w.heap.size (bm GG.res)).trans GG.res);have Y5:=Hh (bc w4 (.cells #[.int .u8 x,.int .u8 0,.int .u8 0,.int .u8 0] 42));have hz5:Hid (w.heap.size+1<=(w4.alloc (.cells #[.int .u8 x,.int .u8 0,.int .u8 0,.int .u8 0] 42)).heap.size):=Hh (by simp;omega);refine hK _ _ (Sc.Cl.of C5) ?_;have C5':=Hh C5;clear hK K ba C5 C1 GG;generalize (w4.alloc (.cells #[.int .u8 x,.int .u8 0,.int .u8 0,.int .u8 0] 42))=w5 at *;generalize w4.heap.size=g4 at *;refine Sz.call (by rfl) (fun K hK=>?_);refine Zo (Kd:=K4) underlying77 Ba rfl (by omega) _ _ rfl (w.heap.size+1) _ _ rfl O5.out ⟨g4,0,none⟩ (iW x) rfl ?a1 ?a2 hz5.out ?_
    case a1 =>
     intro j u hu
     have c:=ah Y5 j
     match j,hu with
     | 0,hu=>simp [K4,iW] at hu;subst hu;exact c
     | 1,hu=>simp [K4,iW] at hu;subst hu;exact c
     | 2,hu=>simp [K4,iW] at hu;subst hu;exact c
     | 3,hu=>simp [K4,iW] at hu;subst hu;exact c
     | j+4,hu=>simp [K4] at hu
    case a2=>rw [PLK.out];omega
    intro v6 w6 o6 b6 f6
    rw [PK.out] at o6;have rr:=f6 g _ _ C5'.out.1 (by decide);have rs:=f6 w.heap.size _ _ S5 (by decide);have C6:GC g (.slice av L cv) ⟨b,off+k,none⟩ x w6:=⟨rr,((B5.trans (b6.mono (Nat.le_succ _))).cell bw).trans CW⟩;obtain ⟨v6a,v6c,n6,rfl⟩:∃ a c n,v6 = .slice a n c:=by obtain ⟨a,c,e,_⟩:=o6.slice;exact ⟨a,c,_,e⟩
    have N6:Hid (Y7 w (h :: (l.take (k+1)).map iW) g (.slice v6a n6 v6c) (w6.setCell ⟨g,1,none⟩ (.slice v6a n6 v6c))):=by
     refine Hh ⟨Rw.aB rr _,(bt w6 ⟨g,1,none⟩ _ w.heap.size (show w.heap.size≠g by omega)).trans rs,o6.far (p:=⟨g,1,none⟩) rr (by decide) _,?_,glt⟩;exact (B5.trans (b6.mono (Nat.le_succ _))).setCell (by simp;omega) _
    have c6:=Fl.rc rr 1;have e6:=aj rr 1;refine hK _ _ (Sc.Cl.of C6) ?_;have c1:=Sc.aA (C:=GC g (.slice av L cv) ⟨b,off+k,none⟩ x) (a:=⟨g,1,none⟩) (fun W' h=>ah h.1 1);clear hK K rr rs b6 f6 o6 B5 O5 S5 Y5 C5' hz5 C6
    repeat (refine Sz.lit ?_;quiet_step (fail);refine bk ?_)
    refine Sz.done ?_;clear c1;go_simp;clear c6 e6;generalize (w6.setCell ⟨g,1,none⟩ (.slice v6a n6 v6c))=w8 at *;refine NoPanic.normal ?_;go_wp2
    go_roundw
    case rel=>exact ⟨k+1,_,by omega,by go_num,N6⟩
    case measure=>simp [intOf];omega
   ·obtain rfl:k=n:=by omega
    have PEK:=Hh (PE h);clear PE PL PS OK;have O5:=Hh (show Ow K4 wr (w.heap.size+1) 42 (.slice av L cv) (bM l) by rw [HF.out,← PEK.out];exact RR.out.own);obtain ⟨d0,d1⟩:=pI RR.row;obtain ⟨r0,r1,s0,s1⟩:=yH RR.res;have hne:(Value.slice av L cv).ownBlock≠some w.heap.size:=O5.range (.inl (by omega));have RV:=Hh (bg RR.res 3 (.slice av L cv));have O6:=Hh (dX (u:=.slice av L cv) O5 hne 3);have B6:=Hh (aQ (p:=3) (v:=.slice av L cv) RR.aI (ac _));clear RR O5 hne PEK;go_wp2
    (try simp only [Exit.inBlock,Exit.then])
    exact bp (v:=.tuple #[file 3 _,.int .i64 0]) (eG (p:=2) (r:=3) rfl _ _ w.heap.size 3 _ 0 rfl rfl RV) rfl (HE _ _ O6.rd B6)
 ·have GA:=Hh (aM (show oO l=false from ai hm) (jq _ v l R0))
  have E:=Hh (yK (w:=w) hm);clear hm;obtain ⟨a,cap,rfl,_,hm,_⟩:=R;clear R0;generalize l.length=n at *
  go_enter func30,ntmps30
  go_wp2_with fail;refine GA.mono ?_;rintro e w1 ⟨rfl,b1⟩;have z1:w.heap.size < w1.heap.size:=by have:=b1.size;simp at this;omega
  have B1:=aW B0 b1;have r0:=(b1.block _ (by simp)).trans (bc w _);obtain ⟨c0,c1,f0,f1⟩:=yH r0;have RR:=Hh (bg r0 0 (.slice none 0 0));clear b1 B0 r0 GA;go_wp2
  (try simp only [Exit.inBlock,Exit.then])
  exact bp (v:=.tuple #[file 0 (.slice none 0 0),.int .i64 1]) (eG (p:=2) (r:=3) rfl _ _ w.heap.size 0 _ 1 rfl rfl RR) rfl (E _ (aQ B1 (ac _)))
end Re
namespace Re
structure Ag (w:World) (h:R4) (l:List Int) (g gF N cap k:Nat) (wr:World):Prop where
 row:wr.heap[gF]? = some (.cells #[.int .i64 3,.slice (some ⟨g,0,none⟩) N cap] 79 (0,0))
 res:wr.heap[w.heap.size]? = some (.cells #[.int .i64 0,.slice none 0 0] 79 (0,0))
 own:Ow K4 wr (w.heap.size+1) 42 (.slice (some ⟨g,0,none⟩) N cap) (part h l k)
 aI:Below w.heap.size w wr
theorem A8 (w:World) (v:Value) (l:List Int) (R:Rd KI w v l):Calls prog 107 #[v] w (gW w l):=by
 have B0:=Hh ((aa w.heap.size w).alloc (ac _) (.cells #[.int .i64 0,.slice none 0 0] 79));have R0:=Hh (R.below B0)
 by_cases hm:gY l
 ·have GA:=Hh (aM (show oO l=true from bj hm) (wW _ v l R0))
  have HE:=Hh (fun u w'=>tQ (w:=w) hm u w');have hl:=hm.1.2;have OK:=Hh hm.2;clear hm R0;obtain ⟨a,cap0,rfl,_,hm,hA⟩:=R;have HA:=Hh hA;unfold maxLen at hm;clear hA;have HF:Hid (bM l=kL 3 (l.length:Int) :: l.map iW):=Hh rfl;have PS:=Hh (fun h k=>zG (k:=k) h (l:=l));have PE:=Hh (fun h=>Aq h l);have PL:=Hh (fun h k=>Ar h l k);have NL:Hid (newL 3 (l.length:Int)=part (kL 3 (l.length:Int)) l 0):=Hh (by rw [rG];rfl);have NO:=Hh (fun w=>xY w 3 (l.length:Int) ⟨by omega,by omega,by omega,by omega⟩);unfold vX at NO;rw [NL.out] at NO;clear NL;generalize kL 3 (l.length:Int)=h at *;generalize hn:l.length=n at *;have HN:=Hh hn;clear hn;unfold file at NO
  go_enter func107,ntmps107
  go_wp2_with fail;refine GA.mono ?_;rintro e w1 ⟨rfl,b1⟩;have z1:w.heap.size+1<=w1.heap.size:=by have:=b1.size;simp at this;omega
  have B1:=aW B0 b1;have r1:=(b1.block _ (by simp)).trans (bc w _);have S1:=Hh r1;clear b1 GA B0 r1;go_wp2_with fail;refine (NO _).mono ?_;rintro e w2 ⟨u,rfl,o2,b2⟩;obtain ⟨g,cap,rfl,hg1,hg2,hcc,hcm,_,_⟩:=o2.form (by rw [PL.out _ _ (cg _)];omega);rw [PL.out _ _ (cg _)] at o2 hcc ⊢;have hz:∀ o,(w2.alloc o).heap.size=w2.heap.size+1:=fun o=>by simp
  have F0:Hid (Ag w h l g w2.heap.size (n+1) cap 0 (w2.alloc (.cells #[.int .i64 3,.slice (some ⟨g,0,none⟩) (n+1) cap] 79))):=Hh
   ⟨bc w2 _,(cA _ _ _ (by have:=b2.size;omega)).trans ((b2.block _ (by omega)).trans S1.out),(o2.alloc _).low (by omega),(B1.out.trans (b2.mono (by omega))).alloc (by have:=b2.size;omega) _⟩
  have hgF:w.heap.size < w2.heap.size:=by have:=b2.size;omega
  have hg0:w.heap.size < g:=by omega
  clear b2 o2 S1 B1 NO hz;go_wp2;generalize w2.alloc (.cells #[.int .i64 3,.slice (some ⟨g,0,none⟩) (n+1) cap] 79)=W at *;generalize w2.heap.size=gF at *;generalize hN2:n+1=N at *;have HN2:=Hh hN2;clear hN2
  go_loopw [20] (fun i wr=>∃ k:Nat,k<=n/\i = .int .i64 k/\Hid (Ag w h l g gF N cap k wr)) (fun i _=>n - (intOf i).toNat)
  case atStart=>exact ⟨0,cg _,rfl,F0⟩
  case round =>
   obtain ⟨k,hk,rfl,RR⟩:=hrel
   by_cases hlt:k < n
   ·obtain ⟨b,off,rfl,A⟩:=HA (by omega)
    have c0:=qh (A.below RR.aI) k (by rw [HN.out];exact hlt);have PK:=Hh (PS h k hlt);have PLK:=Hh (PL h k hk);have ok:=OK.out k hlt;have AA:=Hh A;clear A;unfold Bc at ok;generalize gU l k=x at *;have W2:IntKind.u8.wrap x=x:=by rw [IntKind.wrap];simp [IntKind.signed,IntKind.bits];omega
    obtain ⟨K1,hK1⟩:∃ K1,K1=k+1:=⟨_,rfl⟩;have W1:IntKind.i64.wrap (1+(k:Int))=(K1:Int):=by rw [cG _ (by omega)];omega
    have hkN:K1 < N:=by have:=HN2.out;omega
    obtain ⟨g',cap',eg,_,_,_,_,hfr,hat⟩:=RR.own.form (by rw [PLK.out];omega);have eg':g'=g:=by
     injection eg with e1;injection e1 with e1;injection e1 with e1 _ _;exact e1.symm
    subst eg';have hKL:K1 < (part h l k).length:=by rw [PLK.out];have:=HN2.out;omega
    have eK:K1=1+k:=by omega
    have O5:=Hh (gJ (i:=K1) RR.own (by rw [PLK.out]) hKL (iW x));rw [show (part h l k).set K1 (iW x)=part h l (k+1) by rw [eK];exact PK.out] at O5;clear eK;have HK:=Hh hK1;clear hK1;obtain ⟨d0,d1,d2,d3⟩:=wM hat K1 hKL;rw [cQ] at d0 d1 d2 d3;have f0:=hfr (K1 * 4);have f1:=hfr (K1 * 4+1);have f2:=hfr (K1 * 4+2);have f3:=hfr (K1 * 4+3);have k1:=Fl.rc RR.row 1;have hne:gF≠g':=fun e=>by
     have:=RR.own.apart RR.row (by decide);exact this (by simp [Value.ownBlock,e])
    have iN:=aK (g:=g') (o:=K1 * 4) (r:=iW x) RR.row hne;have r5:=aK (g:=g') (o:=K1 * 4) (r:=iW x) RR.res (by omega);have B5:=Hh (aJ (o:=K1 * 4) (r:=iW x) RR.aI (show w.heap.size<=g' by omega));have N5:Hid (Ag w h l g' gF N cap (k+1) (bC wr g' (K1 * 4) (iW x))):=Hh ⟨iN,r5,O5,B5⟩;clear hfr hat eg O5 B5 iN r5 RR hne;unfold bC iW at N5;go_wp2
    go_roundw
    case rel=>exact ⟨k+1,by omega,by go_num,N5⟩
    case measure=>simp [intOf];omega
   ·obtain rfl:k=n:=by omega
    have PK:=Hh (PE h);have PLK:=Hh (PL h k (ac _));clear PS PE PL OK;have O5:=Hh (show Ow K4 wr (w.heap.size+1) 42 (.slice (some ⟨g,0,none⟩) N cap) (bM l) by rw [HF.out,← PK.out];exact RR.out.own);obtain ⟨d0,d1⟩:=pI RR.row;obtain ⟨e0,e1,f0,f1⟩:=yH RR.res;have hne:(Value.slice (some ⟨g,0,none⟩) N cap).ownBlock≠some w.heap.size:=O5.range (.inl (by omega));have RV:=Hh (bg RR.res 3 (.slice (some ⟨g,0,none⟩) N cap));have O6:=Hh (dX (u:=.slice (some ⟨g,0,none⟩) N cap) O5 hne 3);have B6:=Hh (aQ (p:=3) (v:=.slice (some ⟨g,0,none⟩) N cap) RR.aI (ac _));clear RR O5 hne PK PLK;go_wp2
    (try simp only [Exit.inBlock,Exit.then])
    exact bp (v:=.tuple #[file 3 _,.int .i64 0]) (eG (p:=2) (r:=3) rfl _ _ w.heap.size 3 _ 0 rfl rfl RV) rfl (HE _ _ O6.rd B6)
 ·have GA:=Hh (aM (show oO l=false from ai hm) (wW _ v l R0))
  have E:=Hh (yK (w:=w) hm);clear hm;obtain ⟨a,cap,rfl,_,hm,_⟩:=R;clear R0;generalize l.length=n at *
  go_enter func107,ntmps107
  go_wp2_with fail;refine GA.mono ?_;rintro e w1 ⟨rfl,b1⟩;have z1:w.heap.size < w1.heap.size:=by have:=b1.size;simp at this;omega
  have B1:=aW B0 b1;have r0:=(b1.block _ (by simp)).trans (bc w _);obtain ⟨c0,c1,f0,f1⟩:=yH r0;have RR:=Hh (bg r0 0 (.slice none 0 0));clear b1 B0 r0 GA;go_wp2
  (try simp only [Exit.inBlock,Exit.then])
  exact bp (v:=.tuple #[file 0 (.slice none 0 0),.int .i64 1]) (eG (p:=2) (r:=3) rfl _ _ w.heap.size 0 _ 1 rfl rfl RR) rfl (E _ (aQ B1 (ac _)))
end Re
namespace Fl
def eqB (l l':List R4):Bool:=decide (l=l')
theorem QW (w:World) (v v':Value) (l l':List R4) (R:Rd K4 w v l) (R':Rd K4 w v' l'):Calls prog 132 #[v,v'] w fun e w'=>e = .returned (.bool (eqB l l'))/\Below w.heap.size w w':=by
 have HNO:Hid (¬ l=l'->false=eqB l l'):=fun h=>(ai h).symm;have HYES:Hid (l=l'->true=eqB l l'):=fun b=>(bj b).symm;have HL:Hid (l.length=l'.length->(∀ i,i < l.length->bD l i=bD l' i)->l=l'):=fun a b=>Ch a b;obtain ⟨a,cap,rfl,_,hm,hA⟩:=R;obtain ⟨a',cap',rfl,_,hm',hA'⟩:=R';have HA:=Hh hA;have HA':=Hh hA';unfold maxLen at hm hm';clear hA hA';have HNE:Hid (l.length≠l'.length->¬ (l=l')):=fun h2 h=>h2 (by rw [h]);generalize hn:l.length=n at *;generalize hn':l'.length=n' at *;have HN:=Hh hn;have HN':=Hh hn';clear hn hn'
 by_cases h2:n=n'
 ·subst h2
  go_enter func132,ntmps132
  go_wp2
  go_loopw [13,5] (fun i j wr=>∃ k:Nat,k<=n/\i = .int .i64 k/\Hid (Below w.heap.size w wr)/\Hid (∀ i,i < k->bD l i=bD l' i)) (fun i j _=>n - (intOf i).toNat)
  case atStart=>exact ⟨0,cg _,rfl,aa _ _,fun i hi=>by omega⟩
  case round =>
   obtain ⟨j,hj,rfl,bw,hs⟩:=hrel
   by_cases hlt:j < n
   ·obtain ⟨b,off,rfl,A⟩:=HA (by omega)
    obtain ⟨b',off',rfl,A'⟩:=HA' (by omega);obtain ⟨c0,c1,c2,c3⟩:=wM (A.below bw) j (by have:=HN.out;omega);obtain ⟨d0,d1,d2,d3⟩:=wM (A'.below bw) j (by have:=HN'.out;omega);have HAA:=Hh A;have HAA':=Hh A';clear A A';have es:=qU (bD l j) (bD l' j)
    by_cases he:bD l j=bD l' j
    ·have ST:Hid (∀ i,i < j+1->bD l i=bD l' i):=fun i hi=>by
      by_cases e:i=j
      ·rw [e];exact he
      ·exact hs i (by omega)
     rw [bj he] at es;clear he;generalize bD l j=r at *;generalize bD l' j=r' at *;go_wp2
     go_quiet (fail)
     go_wp2
     go_roundw
     case rel=>exact ⟨j+1,by omega,by go_num,da bw.out _,ST⟩
     case measure=>simp [intOf];omega
    ·have E:=Hh (HNO (fun h=>he (by rw [h])))
     rw [ai he] at es;clear he;generalize bD l j=r at *;generalize bD l' j=r' at *;go_wp2
     go_quiet (fail)
     go_wp2
     go_ret
     exact ⟨aC E,da bw _⟩
   ·obtain rfl:j=n:=by omega
    have E:=Hh (HYES (HL (by trivial) (fun i hi=>hs i hi)));go_wp2
    go_ret
    exact ⟨aC E,bw⟩
 ·have E:=Hh (HNO (HNE h2))
  have h3:¬ ((n:Int)=n'):=by omega
  clear HL HA HA' HYES HNO
  go_enter func132,ntmps132
  go_wp2
  go_ret
  exact ⟨aC E,aa _ _⟩
theorem Xk (w:World) (p p':Int) (v v':Value) (l l':List R4) (R:Rd K4 w v l) (R':Rd K4 w v' l'):Calls prog 108 #[file p v,file p' v'] w fun e w'=>e = .returned (.bool (l6 p l p' l'))/\Below w.heap.size w w':=by
 have bb:=((aa w.heap.size w).alloc (ac _) (.cells #[.int .i64 p,v] 79)).alloc (by simp) (.cells #[.int .i64 p',v'] 79);have B0:=Hh bb;have Q:=Hh (QW _ v v' l l' (R.below bb) (R'.below bb));obtain ⟨a,cap,rfl,_⟩:=R;obtain ⟨a',cap',rfl,_⟩:=R';clear bb;generalize l.length=n at *;generalize l'.length=n' at *;unfold file
 by_cases h:p=p'
 ·subst h
  have E:Hid (eqB l l'=l6 p l p l'):=Hh (by unfold eqB l6;rw [cU];exact ⟨fun h=>⟨rfl,h⟩,fun h=>h.2⟩)
  go_enter func108,ntmps108
  go_wp2_with fail;refine Q.mono ?_;rintro e w1 ⟨rfl,b1⟩;have B1:=aW B0 b1;clear b1 Q;generalize eqB l l'=bq at *;go_wp2
  go_ret
  exact ⟨aC E,B1⟩
 ·have E:Hid (false=l6 p l p' l'):=Hh (ai (fun k=>h k.1)).symm
  go_enter func108,ntmps108
  go_wp2
  go_ret
  exact ⟨aC E,B0⟩
end Fl
namespace Re
structure Me (w1:World) (L:List Int) (k:Nat) (u:Value) (wr:World):Prop where
 own:Ow KI wr w1.heap.size 3 u (L.take k)
 aI:Below w1.heap.size w1 wr
variable {w:World} {b off:Nat} {l:List R4}
theorem E7 (h:At K4 w b off l):At K4 w b (off+4) (l.drop 1):=fun i hi j u hu=>by
 rw [eQ] at hi;have e:=h (i+1) (by omega) j u (by rw [← hu];congr 1;simp [List.getD]);rw [show off+(i+1) * K4.n+j=off+4+i * K4.n+j by show off+(i+1) * 4+j=off+4+i * 4+j;omega] at e;exact e
theorem Dv (h:l.length<=1):At K4 w b off (l.drop 1):=fun i hi=>by rw [eQ] at hi;omega
theorem zf (h:dF l) (k:Nat):dF (l.drop k):=fun r hr=>h r (List.mem_of_mem_drop hr)
theorem Up (l:List R4) (k:Nat):bD (l.drop 1) k=bD l (k+1):=by unfold bD;simp only [af,List.getElem?_drop];rw [Nat.add_comm 1 k]
theorem vI (w:World) (p:Int) (v:Value) (l:List R4) (R:Rd K4 w v l) (ok:dF l):Calls prog 80 #[file p v] w (lQ w p l):=by
 have B0:=Hh ((aa w.heap.size w).alloc (ac _) (.cells #[.int .i64 p,v] 79));have R0:=Hh (R.below B0);clear R
 by_cases hg:aO p l
 ·have GA:=Hh (aM (show aZ p l=true from bj hg) (Fl.bJ _ p v l R0.out))
  have hl:=hg.2.2.1;have hl2:=hg.2.2.2.1;have HG:=Hh hg;have OK:=Hh ok;clear hg ok;have SA:=Hh (fun w v' l' R R'=>Fl.Xk w p 3 v v' l l' R R');obtain ⟨a,cap,rfl,⟨hc,_⟩,hm,hA⟩:=R0.out;obtain ⟨b,off,rfl,hA⟩:=hA (by omega);have HA:=Hh hA;unfold maxLen at hm;clear hA;have FA:=Hh (fun w v R=>A8 w v (fI l) R);have YES:=Hh (fun h u w'=>Fg (w:=w) (p:=p) (l:=l) (w':=w') h u);have NO:=Hh (fun h w'=>Gn (w:=w) (p:=p) (l:=l) (w':=w') h);have RN:Hid (∀ k,k+1 < l.length->(fI l).take k ++ [(bD (l.drop 1) k).1]=(fI l).take (k+1)):=Hh (fun k h=>by rw [Up];exact Ir h);have RA:Hid ((fI l).take (l.length - 1)=fI l):=Hh (by rw [← kg,cW]);have RL:Hid (∀ k,k<=l.length - 1->((fI l).take k).length=k):=Hh (fun k h=>by rw [cH,kg];omega);have IS:Hid (Bj p l↔gY (fI l)/\(p=3/\l=bM (fI l))):=Hh ⟨fun h=>h.2,fun h=>⟨HG.out,h⟩⟩;generalize hn:l.length=n at *;have HN:=Hh hn;clear hn;unfold file at *
  go_enter func80,ntmps80
  go_wp2_with fail;refine GA.out.mono ?_;rintro e w1 ⟨rfl,b1⟩;have B1:=Hh (B0.out.trans (b1.mono B0.out.size));have A1:=Hh (HA.out.below b1);have R1:=Hh (R0.out.below b1);have X1:=(b1.block _ (by simp)).trans (bc w _);have c1:=Fl.rc X1 1;have Y1:=Hh X1;clear b1 GA B0 HA R0 X1;have AI:Hid (n<=1->At K4 w1 b off (l.drop 1)):=Hh (fun h=>Dv (by rw [HN.out];exact h));have AR:=Hh (E7 A1);have KR:=Hh (zf OK 1);have LR:Hid ((l.drop 1).length=n - 1):=Hh (by rw [eQ,HN.out]);clear HG OK A1;have hn1:n - 1<=255:=by omega
  have RN2:Hid (∀ k,k < n - 1->(fI l).take k ++ [(bD (l.drop 1) k).1]=(fI l).take (k+1)):=Hh (fun k h=>RN k (by omega));clear RN;generalize l.drop 1=r at *;generalize fI l=L at *;go_wp2
  case' inl =>
   have A2:=Hh (AI (by omega));clear AI AR
  case' inr =>
   have A2:=AR;clear AI AR;generalize off+4=off2 at *
  all_goals
   generalize n - 1=m at *;clear c1
   go_loopw [16,4] (fun i u wr=>∃ (k:Nat),k<=m/\i = .int .i64 k/\Hid (Me w1 L k u wr)) (fun i _ _=>m - (intOf i).toNat)
   case atStart=>exact ⟨0,cg _,rfl,Hh ⟨by rw [List.take_zero];exact Rw.Ow.nil _ _ _,aa _ _⟩⟩
   case round =>
    obtain ⟨k,hk,rfl,RR⟩:=hrel;obtain ⟨av,cv,ev,hcv,hmv⟩:=RR.own.slice;rw [RL.out k hk] at ev hcv;subst ev
    by_cases hlt:k < m
    ·obtain ⟨c0,c1',c2,c3⟩:=wM (A2.below RR.aI) k (by rw [LR.out];exact hlt)
     have kv:=(iH KR k).1;have RX:=Hh (RN2 k hlt);have RK:=Hh (RL k hk);generalize bD r k=y at *;have W0:IntKind.i64.wrap y.1=y.1:=cG _ (by omega);have zb:=RR.aI.size
     go_wp2_with (at_builtin;refine Rw.eT underlying86 xM rfl (by omega) rfl _ _ rfl w1.heap.size _ _ rfl ((RR.out.own.alloc _).alloc _) _ y.1 rfl ?d1 ?d2 ?d3 ?_)
     case d1 =>
      intro j u hu
      match j,hu with
      | 0,hu=>simp [KI,Rw.int] at hu;subst hu;rw [jb];go_simp
     case d2=>rw [RK.out];omega
     case d3=>simp;omega
     intro v' w3 o3 b3
     rw [RX.out] at o3;have N3:Hid (Me w1 L (k+1) v' w3):=Hh ⟨o3,((RR.aI.alloc zb _).alloc (by simp;omega) _).trans (b3.mono (ac _))⟩;obtain ⟨av',cv',ev',_,_⟩:=o3.slice;rw [RL.out _ (by omega)] at ev';subst ev';clear o3 b3 RR RX RK kv;go_wp2
     go_roundw
     case rel=>exact ⟨k+1,by omega,by go_num,N3⟩
     case measure=>simp [intOf];omega
    ·obtain rfl:k=m:=by omega
     have O2:=RR.own;rw [RA.out] at O2;have RL2:=Hh O2.rd;have BW:=Hh (B1.trans (RR.aI.mono B1.size));have RF:=Hh (R1.below RR.aI);have XF:=jf RR.aI Y1;clear RR O2 RN2 RL RA A2 KR LR R1 Y1 B1;unfold gW file at FA;go_wp2_with fail;refine (FA _ _ RL2).mono ?_;rintro e w4 ⟨u4,rfl,r4,b4⟩;obtain ⟨a4,n4,k4,rfl⟩:∃ a n c,u4 = .slice a n c:=by obtain ⟨a,c,e,_⟩:=r4;exact ⟨a,_,c,e⟩
     have B4:=aW BW b4;have RF4:=Hh (RF.below b4);have RL4:=Hh (RL2.below b4);have X4:=jf b4 XF;have r4h:=Hh r4;have BB:Hid (Below w4.heap.size w4 (w4.alloc (.cells #[.int .i64 (fP L),.slice a4 n4 k4] 79))):=Hh ((aa _ _).alloc (ac _) _);have B5:=aW B4 BB;have RF5:=Hh (RF4.below BB);have RL5:=Hh (RL4.below BB);have RU5:=Hh (r4.below BB);have X5:=jf BB X4;have Y5:=bc w4 (.cells #[.int .i64 (fP L),.slice a4 n4 k4] 79);clear b4 BW RF RL2 XF r4 r4h FA BB B4 RF4 RL4 X4
     by_cases hs:gY L
     ·have e1:fP L=3:=aw hs
      have e2:fN L=0:=aw hs;have e3:fL L=bM L:=aw hs;rw [e1] at B5 RF5 RL5 RU5 X5 Y5 ⊢;rw [e3] at RU5;rw [e2];clear e1 e2 e3
      by_cases hq:p=3/\l=bM L
      ·have E:=Hh (YES (IS.out.2 ⟨hs,hq⟩))
       have S4:=Hh (fun w v' R R'=>aM (show l6 p l 3 (bM L)=true from bj hq) (SA w v' (bM L) R R'));clear YES NO IS SA hs hq;go_upto_region 10 with fail
       (try (rename cap=1=>hc1;subst hc1))
       generalize w4.alloc (.cells #[.int .i64 3,.slice a4 n4 k4] 79)=W at *;generalize w4.heap.size=gF at *;obtain ⟨d0,d1⟩:=pI X5;obtain ⟨e0,e1⟩:=pI Y5;go_wp2_with fail;refine (S4 _ _ RF5 RU5).mono ?_;rintro e w6 ⟨rfl,b6⟩;have E6:=Hh (E _ _ (RL5.below b6) (aW B5 b6));clear b6 S4 d0 d1 e0 e1;go_wp2
       go_ret2
       exact E6
      ·have E:=Hh (NO (fun h=>hq (IS.out.1 h).2))
       have S4:=Hh (fun w v' R R'=>aM (show l6 p l 3 (bM L)=false from ai hq) (SA w v' (bM L) R R'));clear YES NO IS SA hs hq;go_upto_region 10 with fail
       (try (rename cap=1=>hc1;subst hc1))
       generalize w4.alloc (.cells #[.int .i64 3,.slice a4 n4 k4] 79)=W at *;generalize w4.heap.size=gF at *;obtain ⟨d0,d1⟩:=pI X5;obtain ⟨e0,e1⟩:=pI Y5;go_wp2_with fail;refine (S4 _ _ RF5 RU5).mono ?_;rintro e w6 ⟨rfl,b6⟩;have E6:=Hh (E.out _ (B5.out.trans (b6.mono B5.out.size)));clear b6 S4 d0 d1 e0 e1;go_wp2
       go_ret2
       exact E6.out
     ·have e2:fN L=1:=am hs
      rw [e2];have E:=Hh (NO.out (fun h=>hs (IS.out.1 h).1));clear YES NO IS SA hs e2 RU5 RL5 RF5 X5 Y5;go_wp2
      go_ret2
      exact E.out _ B5.out
 ·have GA:=Hh (aM (show aZ p l=false from ai hg) (Fl.bJ _ p v l R0.out))
  have E:=Hh (fun w'=>Gn (w:=w) (p:=p) (l:=l) (w':=w') (fun h=>hg h.1));clear hg ok;obtain ⟨a,cap,rfl,_,hm,hA⟩:=R0.out;clear hA R0;generalize l.length=n at *;unfold file at *
  go_enter func80,ntmps80
  go_wp2_with fail;refine GA.mono ?_;rintro e w1 ⟨rfl,b1⟩;have B1:=aW B0 b1;clear b1 GA B0;go_wp2
  go_ret2
  exact E _ B1
structure aev (W0:World) (l:List R4) (k:Nat) (u:Value) (wr:World):Prop where
 own:Ow KI wr W0.heap.size 3 u ((fI l).take (k - 1))
 aI:Below W0.heap.size W0 wr
 pla:∀ i,1<=i->i < k->plain (bD l i)
theorem lC (w:World) (p:Int) (v:Value) (l:List R4) (R:Rd K4 w v l) (ok:dF l):Calls prog 28 #[file p v] w (pW w p l):=by
 have B0:=Hh ((aa w.heap.size w).alloc (ac _) (.cells #[.int .i64 p,v] 79));have X0:=Hh (bc w (.cells #[.int .i64 p,v] 79));have Z0:Hid ((w.alloc (.cells #[.int .i64 p,v] 79)).heap.size=w.heap.size+1):=Hh (by simp);have R0:=Hh (R.below B0.out);clear R
 by_cases hg:aO p l
 ·have GA:=Hh (fun w v R=>aM (show aZ p l=true from bj hg) (bP w p v l R))
  have hl:=hg.2.2.1;have hl2:=hg.2.2.2.1;have HG:=Hh hg;have OK:=Hh ok;clear hg ok;have YES:=Hh (fun h u w'=>Za (w:=w) (p:=p) (l:=l) (w':=w') h u);have NO:=Hh (fun h w'=>V9 (w:=w) (p:=p) (l:=l) (w':=w') h)
  by_cases h3:p=3
  ·subst h3
   have IS:=Hh (fun h=>aek HG.out h);have IP:Hid (∀ i,1<=i->i < l.length->¬ plain (bD l i)->¬ Bj 3 l):=Hh (fun i h1 h2 h h'=>h (Yf h' h1 h2));have IQ:Hid (¬ gY (fI l)->¬ Bj 3 l):=Hh (fun h h'=>h h'.2.1);have RN:Hid (∀ k,k+1 < l.length->(fI l).take k ++ [(bD l (k+1)).1]=(fI l).take (k+1)):=Hh (fun k h=>Ir h);have RA:Hid ((fI l).take (l.length - 1)=fI l):=Hh (by rw [← kg,cW]);have RL:Hid (∀ k,k<=l.length - 1->((fI l).take k).length=k):=Hh (fun k h=>by rw [cH,kg];omega);obtain ⟨a,cap,rfl,⟨hc,_⟩,hm,hA⟩:=R0.out;obtain ⟨b,off,rfl,hA2⟩:=hA (by omega);have A0:=Hh hA2;unfold maxLen at hm;clear hA hA2;generalize hn:l.length=n at *;have HN:=Hh hn;clear hn;unfold file at *
   go_enter func28,ntmps28
   go_upto_region 1 with fail;generalize w.alloc (.cells #[.int .i64 3,.slice (some ⟨b,off,none⟩) n cap] 79)=W0 at *;have O0:=Hh (Rw.Ow.made (K:=KI) W0 W0.heap.size 3 (ac _));have B1:=Hh ((aa W0.heap.size W0).alloc (ac _) (.cells #[] 3));go_upto_region 2 with fail;generalize W0.alloc (.cells #[] 3)=W1 at *;generalize Value.slice (some ⟨W0.heap.size,0,none⟩) 0 0=u0 at *;have wl:=Z0.out;have X1:=(B1.out.block w.heap.size (by omega)).trans X0.out;have c0:=Fl.rc X1 0;have c1:=Fl.rc X1 1;go_wp2_with fail;refine (GA.out _ _ (R0.out.below B1.out)).mono ?_;rintro e w1 ⟨rfl,b1⟩;have B2:=Hh (B1.out.trans (b1.mono B1.out.size));have O2:=Hh (O0.out.keep b1);have d0:=Fl.rc ((B2.out.block w.heap.size (by omega)).trans X0.out) 0;clear b1 GA B1 O0 R0 c0 c1 X1;go_wp2;clear d0;have MA:=Hh (fun w v R=>jq w v (fI l) R);have BZ:Hid (∀ wr,Below W0.heap.size W0 wr->Below w.heap.size w wr):=Hh (fun wr h=>B0.out.trans (h.mono (by omega)));clear wl;generalize hT:fI l=T at *;have HT:=Hh hT;clear hT
   go_loopw [5,4] (fun i u wr=>∃ (k:Nat),1<=k/\k<=n/\i = .int .i64 k/\Hid (aev W0 l k u wr)) (fun i _ _=>n - (intOf i).toNat)
   case atStart=>exact ⟨1,ac _,hl,rfl,Hh ⟨by rw [Nat.sub_self,List.take_zero];exact O2.out,B2.out,fun i h1 h2=>by omega⟩⟩
   case round =>
    obtain ⟨k,hk1,hk,rfl,RR⟩:=hrel;obtain ⟨av,cv,ev,hcv,hmv⟩:=RR.out.own.slice;rw [HT.out,RL.out (k - 1) (by omega)] at ev hcv;generalize hLn:k - 1=Ln at ev hcv;have HLn:=Hh hLn;clear hLn;subst ev;have XR:=Hh ((RR.out.aI.block w.heap.size (by have:=Z0.out;omega)).trans X0.out);have c1:=Fl.rc XR.out 1
    by_cases hlt:k < n
    ·obtain ⟨d0,d1,d2,d3⟩:=wM (A0.out.below RR.out.aI) k (by rw [HN.out];exact hlt)
     have kv:=(iH OK.out k).1;have P1:=Hh (IP.out k hk1 hlt)
     have P2:Hid (plain (bD l k)->∀ i,1<=i->i < k+1->plain (bD l i)):=Hh (fun g i h1 h2=>by
      by_cases e:i=k
      ·rw [e];exact g
      ·exact RR.out.pla i h1 (by omega))
     have RX:Hid (T.take (k - 1) ++ [(bD l k).1]=T.take k):=Hh (by have:=RN.out (k - 1) (by omega);rw [show k - 1+1=k by omega] at this;exact this);have BW:=Hh (BZ.out _ RR.out.aI);generalize hy:bD l k=y at *;have HY:=Hh hy;clear hy;obtain ⟨y1,y2,y3,y4⟩:=y;unfold plain at P1 P2;simp only at d0 d1 d2 d3 kv P1 P2 RX;have zb:=RR.out.aI.size
     by_cases h2:y2=0
     ·subst h2
      by_cases h3:y3=0
      ·subst h3
       by_cases h4:y4=0
       ·subst h4
        have PP:=Hh (P2.out ⟨rfl,rfl,rfl⟩);clear P1 P2;have W0':IntKind.i64.wrap y1=y1:=cG _ (by omega)
        go_wp2_with (at_builtin;refine Rw.eT underlying86 xM rfl (by omega) rfl _ _ rfl W0.heap.size _ _ rfl ((RR.out.own.alloc _).alloc _) _ y1 rfl ?d1 ?d2 ?d3 ?_)
        case d1 =>
         intro j u hu
         match j,hu with
         | 0,hu=>simp [KI,Rw.int] at hu;subst hu;rw [jb];go_simp
        case d2=>rw [HT.out,RL.out (k - 1) (by omega)];omega
        case d3=>simp;omega
        intro v' w3 o3 b3
        rw [HT.out,RX.out,← HT.out] at o3;have N3:Hid (aev W0 l (k+1) v' w3):=Hh ⟨o3,((RR.out.aI.alloc zb _).alloc (by simp;omega) _).trans (b3.mono (ac _)),PP.out⟩;obtain ⟨av',cv',ev',_,_⟩:=o3.slice;rw [HT.out,RL.out _ (by omega)] at ev';subst ev';clear o3 b3 RR RX kv PP XR HY BW c1;go_wp2
        go_roundw
        case rel=>exact ⟨k+1,by omega,by omega,by go_num,N3⟩
        case measure=>simp [intOf];omega
       ·have E:=Hh (NO.out (P1.out (fun g=>h4 g.2.2)) _ ((BW.out.alloc BW.out.size (.cells #[.int .u8 y1,.int .u8 0,.int .u8 0,.int .u8 y4] 42))))
        have t4:(y4 == 0)=false:=by simp [h4]
        clear P1 P2 h4;go_wp2
        go_ret2
        exact E.out
      ·have E:=Hh (NO.out (P1.out (fun g=>h3 g.2.1)) _ ((BW.out.alloc BW.out.size (.cells #[.int .u8 y1,.int .u8 0,.int .u8 y3,.int .u8 y4] 42))))
       have t3:(y3 == 0)=false:=by simp [h3]
       clear P1 P2 h3;go_wp2
       go_ret2
       exact E.out
     ·have E:=Hh (NO.out (P1.out (fun g=>h2 g.1)) _ ((BW.out.alloc BW.out.size (.cells #[.int .u8 y1,.int .u8 y2,.int .u8 y3,.int .u8 y4] 42))))
      have t2:(y2 != 0)=true:=by simp [h2]
      clear P1 P2;go_wp2
      go_ret2
      exact E.out
    ·obtain rfl:k=n:=by omega
     have O3:=RR.out.own;rw [HT.out,RA.out] at O3;have RO2:=Hh (O3.low (show w.heap.size<=W0.heap.size by have:=Z0.out;omega));have BW:=Hh (BZ.out _ RR.out.aI);have PL2:=Hh (fun h=>IS.out (fun i h1 h2=>RR.out.pla i h1 h2) h);clear RR O3 XR RN RL RA A0 OK IP HG
     by_cases hs:gY T
     ·have E:=Hh (YES.out (PL2.out hs))
      have MB:=Hh (fun w v R=>aM (show oO T=true from bj hs) (MA.out w v R));clear YES NO PL2 MA IQ IS hs;go_wp2_with fail;refine (MB.out _ _ RO2.out.rd).mono ?_;rintro e w4 ⟨rfl,b4⟩;have E4:=Hh (E.out _ _ (RO2.out.keep b4) (BW.out.trans (b4.mono BW.out.size)));clear b4 MB E;go_wp2
      go_ret2
      exact E4.out
     ·have E:=Hh (NO.out (IQ.out hs))
      have MB:=Hh (fun w v R=>aM (show oO T=false from ai hs) (MA.out w v R));clear YES NO PL2 MA IQ IS hs;go_wp2_with fail;refine (MB.out _ _ RO2.out.rd).mono ?_;rintro e w4 ⟨rfl,b4⟩;have E4:=Hh (E.out _ (BW.out.trans (b4.mono BW.out.size)));clear b4 MB E;go_wp2
      go_ret2
      exact E4.out
  ·have E:=Hh (NO.out (fun h=>h3 h.2.2.1))
   have t0:(p == 3)=false:=by simp [h3]
   clear YES NO HG OK h3;obtain ⟨a,cap,rfl,_,hm,hA⟩:=R0.out;clear hA;generalize l.length=n at *;unfold file at *
   go_enter func28,ntmps28
   go_upto_region 1 with fail;generalize w.alloc (.cells #[.int .i64 p,.slice a n cap] 79)=W0 at *;have B1:=Hh ((aa W0.heap.size W0).alloc (ac _) (.cells #[] 3));have wl:=Z0.out;go_upto_region 2 with fail;generalize W0.alloc (.cells #[] 3)=W1 at *;have X1:=(B1.out.block w.heap.size (by omega)).trans X0.out;have c0:=Fl.rc X1 0;have c1:=Fl.rc X1 1;go_wp2_with fail;refine (GA.out _ _ (R0.out.below B1.out)).mono ?_;rintro e w1 ⟨rfl,b1⟩;have B2:=Hh (B1.out.trans (b1.mono B1.out.size));have d0:=Fl.rc ((B2.out.block w.heap.size (by omega)).trans X0.out) 0;have E2:=Hh (E.out _ (B0.out.trans (B2.out.mono (by omega))));clear b1 GA B1 R0 c0 c1 X1 B2;go_wp2
   go_ret2
   exact E2.out
 ·have GA:=Hh (fun w v R=>aM (show aZ p l=false from ai hg) (bP w p v l R))
  have E:=Hh (fun w'=>V9 (w:=w) (p:=p) (l:=l) (w':=w') (fun h=>hg h.1));clear hg ok;obtain ⟨a,cap,rfl,_,hm,hA⟩:=R0.out;clear hA;generalize l.length=n at *;unfold file at *
  go_enter func28,ntmps28
  go_upto_region 1 with fail;generalize w.alloc (.cells #[.int .i64 p,.slice a n cap] 79)=W0 at *;have B1:=Hh ((aa W0.heap.size W0).alloc (ac _) (.cells #[] 3));have wl:=Z0.out;go_upto_region 2 with fail;generalize W0.alloc (.cells #[] 3)=W1 at *;have X1:=(B1.out.block w.heap.size (by omega)).trans X0.out;have c0:=Fl.rc X1 0;have c1:=Fl.rc X1 1;go_wp2_with fail;refine (GA.out _ _ (R0.out.below B1.out)).mono ?_;rintro e w1 ⟨rfl,b1⟩;have B2:=Hh (B1.out.trans (b1.mono B1.out.size));have E2:=Hh (E.out _ (B0.out.trans (B2.out.mono (by omega))));clear b1 GA B1 R0 c0 c1 X1 B2;go_wp2
  go_ret2
  exact E2.out
theorem qL (w:World) (p:Int) (v:Value) (l:List R4) (R:Rd K4 w v l) (ok:dF l):Calls prog 28 #[file p v] w (lQ w p l) :=
 (lC w p v l R ok).mono fun _ _ ⟨u,e,o,b⟩=>⟨u,e,o.rd,b⟩
end Re
namespace Cu
open Go.Maps
open Fs (Rs rH key iy)
open Re (qL)
def mg (w:World) (A:aU) (n:Int) (e:Ending) (w':World):Prop:=∃ v,e = .returned (.tuple #[file (fP A n) v,.bool (fB A n)])/\Rd K4 w' v (fR A n)/\Below w.heap.size w w'
variable {L:List aD} {n d:Int}
theorem Xy (h:∀ j,j < L.length->∀ e,L[j]? = some e->e.n≠n):fB (L.map aD.abs) n=false/\fP (L.map aD.abs) n=0/\fR (L.map aD.abs) n = []:=by
 have e:Fs.look key n (L.map aD.abs)=none:=by
  rw [iy]
  rw [Fs.eO.2 fun x hx=>by
   obtain ⟨i,hi⟩:=dj hx
   exact h i (bs.1 hi).1 x hi]
  rfl
 unfold fB fP fR;rw [e];exact ⟨rfl,rfl,rfl⟩
theorem Uk {k:Nat} {c:aD} (hc:L[k]? = some c) (hn:c.n=n) (h:∀ j,j < k->∀ e,L[j]? = some e->e.n≠n):fB (L.map aD.abs) n=true/\fP (L.map aD.abs) n=c.p/\fR (L.map aD.abs) n=c.l:=by
 have e:Fs.look aD.n n L=some c:=by
  unfold Fs.look;rw [List.find?_eq_some_iff_getElem];obtain ⟨hk,hc2⟩:=bs.1 hc;refine ⟨by simpa using hn,k,hk,hc2,fun j hj=>?_⟩;have:=h j hj _ (aq (by omega))
  simpa using this
 have e2:Fs.look key n (L.map aD.abs)=some c.abs:=by rw [iy,e];rfl
 unfold fB fP fR;rw [e2];exact ⟨rfl,rfl,rfl⟩
theorem Cm {fn:Func} {p q:Tmp} (h:fn.results=#[.cell p 79,.tmp q]) (tmps:Array Value) (w:World) (g1:Nat) (k:Int) (u:Value) (b:Bool)
 (hp:tmps.getD p undef = .pointer (some ⟨g1,0,none⟩)) (hq:tmps.getD q undef = .bool b)
 (h1:w.heap[g1]? = some (.cells #[.int .i64 k,u] 79 (0,0))) :
 (results fn tmps).run prog w = .ok (.tuple #[file k u,.bool b]) w:=by
 have e1:=fX (P:=prog) w g1 79 79 #[.int .i64 k,u] (0,0) _ h1 underlying79 rfl (by show _=some 2;kernel_rfl);have hp':tmps[p]?.getD undef = .pointer (some ⟨g1,0,none⟩):=by simpa using hp
 have hq':tmps[q]?.getD undef = .bool b:=by simpa using hq
 simp only [results,h]
 simp [Result.andThen,hp',hq',asAddr,e1,file]
theorem mh {w:World} {r:Nat} {F:Nat->Prop} {A:aU} (R:Rs w r F A d) (n:Int):Calls prog 27 #[.pointer (some ⟨r,0,none⟩),.int .i64 n] w (mg w A n):=by
 obtain ⟨v,L,h,rfl⟩:=R;have c0:=Fl.rc h.row 0;have hlen:=h.len;have FI:=Hh h.list.file;obtain ⟨a,cap,rfl,_,_,h3⟩:=h.list.rd;have H3:=Hh h3;have NO:Hid ((∀ j,j < L.length->∀ e,L[j]? = some e->e.n≠n)->fB (L.map aD.abs) n=false/\fP (L.map aD.abs) n=0/\fR (L.map aD.abs) n = []):=Hh Xy;have YES:Hid (∀ (k:Nat) (c:aD),L[k]? = some c->c.n=n->(∀ j,j < k->∀ e,L[j]? = some e->e.n≠n)->fB (L.map aD.abs) n=true/\fP (L.map aD.abs) n=c.p/\fR (L.map aD.abs) n=c.l):=Hh (fun _ _=>Uk);have X0:=Hh (bc w (.cells #[.int .i64 0,.slice none 0 0] 79));have B0:=Hh ((aa w.heap.size w).alloc (ac _) (.cells #[.int .i64 0,.slice none 0 0] 79));have C0:=Hh (iI B0 c0);clear h h3 c0;generalize hN:L.length=N at *;have HN:=Hh hN;clear hN
 go_enter func27,ntmps27
 go_upto_region 1 with fail;generalize w.alloc (.cells #[.int .i64 0,.slice none 0 0] 79)=w0 at *;go_wp2
 go_loopw [6] (fun i wr=>∃ k:Nat,k<=N/\i = .int .i64 k/\Hid (∀ j,j < k->∀ e,L[j]? = some e->e.n≠n)/\Hid (Below w.heap.size w wr)/\w0=wr) (fun i _=>N - (intOf i).toNat)
 case atStart=>exact ⟨0,cg _,rfl,fun j hj=>by omega,B0,by trivial⟩
 case round =>
  clear B0;obtain ⟨k,hk,rfl,hb,B,e0⟩:=hrel;subst e0;have c0:=C0.out
  by_cases hlt:k < N
  ·have hkL:k < L.length:=by have:=HN.out;omega
   obtain ⟨c,hc⟩:∃ c,L[k]? = some c:=⟨_,aq hkL⟩;obtain ⟨b,off,rfl,hA⟩:=H3 (by omega);obtain ⟨x0,x1,x2⟩:=at3 (hA.below B) hc;have HAA:=Hh hA
   by_cases he:c.n=n
   ·have Y:=Hh (YES k c hc he hb)
    have RF:=Hh (FI c (cN hc));have x1':=x1;clear hkL hA NO YES hb hc;unfold aD.sl at x2 RF;generalize c.a=ca at *;generalize c.cap=ccap at *;generalize c.p=cp at *;generalize c.n=cn at *;generalize c.l=cl at *;subst he;obtain ⟨z0,z1,f0,f1⟩:=yH X0;have R1:=Hh (bg X0 cp (.slice ca cl.length ccap));have B1:=Hh (aQ (p:=cp) (v:=.slice ca cl.length ccap) B (ac _))
    have E:Hid (mg w (L.map aD.abs) cn (.returned (.tuple #[file cp (.slice ca cl.length ccap),.bool true])) (fF w0 w.heap.size cp (.slice ca cl.length ccap))):=Hh (by
     obtain ⟨y1,y2,y3⟩:=Y;refine ⟨_,by rw [y1,y2],?_,B1.out⟩;rw [y3]
     exact RF.below B1)
    clear Y RF B;go_wp2
    (try simp only [Exit.inBlock,Exit.then])
    exact bp (Cm (p:=4) (q:=5) rfl _ _ w.heap.size cp (.slice ca cl.length ccap) true rfl rfl R1) rfl E
   ·have NB:Hid (∀ j,j < k+1->∀ e,L[j]? = some e->e.n≠n):=fun j hj e hje=>by
     by_cases ej:j=k
     ·subst ej
      rw [hc] at hje;obtain rfl:=cP hje;exact he
     ·exact hb j (by omega) e hje
    clear hc hkL hA NO YES x1 x2;generalize c.n=cn at *;go_wp2
    go_roundw
    case rel=>exact ⟨k+1,by omega,by go_num,NB,B,by trivial⟩
    case measure=>simp [intOf];omega
  ·obtain rfl:k=N:=by omega
   have E:=Hh (NO hb);obtain ⟨z0,z1,f0,f1⟩:=yH X0;have R1:=Hh (bg X0 0 (.slice none 0 0));have B1:=Hh (aQ (p:=0) (v:=.slice none 0 0) B (ac _))
   have E1:Hid (mg w (L.map aD.abs) n (.returned (.tuple #[file 0 (.slice none 0 0),.bool false])) (fF w0 w.heap.size 0 (.slice none 0 0))):=Hh (by
    obtain ⟨y1,y2,y3⟩:=E;refine ⟨_,by rw [y1,y2],?_,B1.out⟩;rw [y3]
    exact Rw.Rd.nil _)
   clear NO YES hb B;go_wp2
   (try simp only [Exit.inBlock,Exit.then])
   exact bp (Cm (p:=4) (q:=5) rfl _ _ w.heap.size 0 (.slice none 0 0) false rfl rfl R1) rfl E1
end Cu
namespace Ro
def gI (w:World) (p:Int) (l:List R4) (e:Ending) (w':World):Prop:=∃ u,e = .returned (.tuple #[u,.int .i64 (qI p l)])/\Ow K5 w' w.heap.size 170 u (kD p l)/\Below w.heap.size w w'
structure Me (w:World) (r:List R4) (k:Nat) (u:Value) (L:List E5) (wr:World):Prop where
 own:Ow K5 wr w.heap.size 170 u L
 red:Read r k L
 aI:Below w.heap.size w wr
variable {w:World} {b off:Nat} {l:List R4}
theorem E7 (h:At K4 w b off l):At K4 w b (off+4) (l.drop 1):=fun i hi j u hu=>by
 rw [eQ] at hi;have e:=h (i+1) (by omega) j u (by rw [← hu];congr 1;simp [List.getD]);rw [show off+(i+1) * K4.n+j=off+4+i * K4.n+j by show off+(i+1) * 4+j=off+4+i * 4+j;omega] at e;exact e
theorem Dv (h:l.length<=1):At K4 w b off (l.drop 1):=fun i hi=>by rw [eQ] at hi;omega
theorem zf (h:dF l) (k:Nat):dF (l.drop k):=fun r hr=>h r (List.mem_of_mem_drop hr)
def Lt (w:World) (p:Int) (l:List R4) (L:List E5):Prop:=(iY L->∀ u w',Ow K5 w' w.heap.size 170 u L->Below w.heap.size w w'->gI w p l (.returned (.tuple #[u,.int .i64 0])) w')/\(¬ iY L->∀ w',Below w.heap.size w w'->gI w p l (.returned (.tuple #[.slice none 0 0,.int .i64 2])) w')
theorem OI {p:Int} {L:List E5} (hg:aO p l) (h:mz (l.drop 1)=some L):Lt w p l L :=
 ⟨fun hm u w' hu hb=>by
  have e:=YQ hg h hm;exact ⟨u,by rw [e.2],by rw [e.1];exact hu,hb⟩,fun hm w' hb=>by
  have e:=acw (p:=p) h hm
  exact ⟨_,by rw [e.2],by rw [e.1];exact Rw.Ow.nil _ _ _,hb⟩⟩
theorem zR (w:World) (p:Int) (v:Value) (l:List R4) (R:Rd K4 w v l) (ok:dF l):Calls prog 114 #[file p v] w (gI w p l):=by
 have B0:=Hh ((aa w.heap.size w).alloc (ac _) (.cells #[.int .i64 p,v] 79));have R0:=Hh (R.below B0);have HE:Hid (kD p l = []/\qI p l=2->∀ w',Below w.heap.size w w'->gI w p l (.returned (.tuple #[.slice none 0 0,.int .i64 2])) w'):=Hh (fun h w' hb=>⟨_,by rw [h.2],by rw [h.1];exact Rw.Ow.nil _ _ _,hb⟩);clear R
 by_cases hg:aO p l
 ·have GA:=Hh (aM (show aZ p l=true from bj hg) (Fl.bJ _ p v l R0.out))
  have hl:=hg.2.2.1;have hl2:=hg.2.2.2.1;have HG:=Hh hg;have OK:=Hh ok;clear hg ok;obtain ⟨a,cap,rfl,⟨hc,_⟩,hm,hA⟩:=R0.out;obtain ⟨b,off,rfl,hA⟩:=hA (by omega);have HA:=Hh hA;unfold maxLen at hm;clear hA R0;generalize hn:l.length=n at *;have HN:=Hh hn;clear hn;unfold file at *
  go_enter func114,ntmps114
  go_wp2_with fail;refine GA.mono ?_;rintro e w1 ⟨rfl,b1⟩;have B1:=aW B0 b1;have A1:=Hh (HA.below b1);have c1:w1.cell? ⟨w.heap.size,1,none⟩=some (.slice (some ⟨b,off,none⟩) n cap):=(b1.cell (by simp)).trans (by go_simp);clear b1 GA B0 HA;have HS:Hid (mz (l.drop 1)=none->∀ w',Below w.heap.size w w'->gI w p l (.returned (.tuple #[.slice none 0 0,.int .i64 2])) w'):=Hh (fun h=>HE (Jm h));have HT:Hid (∀ L,mz (l.drop 1)=some L->Lt w p l L):=Hh (fun L h=>OI HG h);have AI:Hid (n<=1->At K4 w1 b off (l.drop 1)):=Hh (fun h=>Dv (by rw [HN.out];exact h));have AR:=Hh (E7 A1);have KR:=Hh (zf OK 1);have LR:Hid ((l.drop 1).length=n - 1):=Hh (by rw [eQ,HN.out]);clear HE HG OK A1;have hn1:n - 1<=255:=by omega
  generalize l.drop 1=r at *;go_wp2
  case' inl =>
   have A2:=Hh (AI (by omega));clear AI AR;generalize off=off2 at *
  case' inr =>
   have A2:=AR;clear AI AR;generalize off+4=off2 at *
  all_goals
   generalize n - 1=m at *
   go_loopw [16,4] (fun i u wr=>∃ (k:Nat) (L:List E5),k<=m/\i = .int .i64 k/\Hid (Me w1 r k u L wr)) (fun i _ _=>m - (intOf i).toNat)
   case atStart=>exact ⟨0,[],cg _,rfl,Hh ⟨Rw.Ow.nil _ _ _,A7 r,aa _ _⟩⟩
   case round =>
    obtain ⟨k,L,hk,rfl,RR⟩:=hrel;obtain ⟨av,cv,ev,hcv,hmv⟩:=RR.own.slice;have LL:=Hh RR.red.1;generalize L.length=Ln at ev hcv LL;subst ev
    by_cases hlt:k < m
    ·obtain ⟨c0,c1',c2,c3⟩:=wM (A2.below RR.aI) k (by rw [LR.out];exact hlt)
     have kv:=iH KR k;have TA:=Hh (fun w=>kZ w (bD r k) kv);have Q1:=Hh (Ga RR.red (by rw [LR.out];exact hlt));have Q2:=Hh (JF RR.red (by rw [LR.out];exact hlt));have Q3:=Hh (Cr RR.red (by rw [LR.out];exact hlt));clear kv
     by_cases h1:fZ (eF (bD r k))
     ·have e1:qM (bD r k)=eF (bD r k):=aw h1
      have e2:qK (bD r k)=0:=aw h1;rw [e1,e2] at TA;have P2:=Hh (Q2 h1);have P3:=Hh (Q3 h1);clear e1 e2 Q1 Q2 Q3 h1;unfold fM aH at TA;generalize eF (bD r k)=x at *;generalize bD r k=y at *
      by_cases h4:x.1=4
      ·have TE:=Hh (HT L (P2 h4))
       clear P2 P3 HS HT;go_wp2_with fail;refine (TA _).mono ?_;rintro e w2 ⟨rfl,b2⟩;have BA:=RR.aI.alloc RR.aI.size (.cells #[.int .u8 y.1,.int .u8 y.2.1,.int .u8 y.2.2.1,.int .u8 y.2.2.2] 42);have B2:=Hh (BA.trans (b2.mono BA.size));have O2:=Hh ((RR.own.alloc (.cells #[.int .u8 y.1,.int .u8 y.2.1,.int .u8 y.2.2.1,.int .u8 y.2.2.2] 42)).keep b2);have BW:Hid (∀ o,Below w.heap.size w (w2.alloc o)):=Hh (fun o=>B1.trans ((B2.alloc B2.size o).mono B1.size));have RW:Hid (∀ o,Ow K5 (w2.alloc o) w.heap.size 170 (.slice av Ln cv) L):=Hh (fun o=>(O2.alloc o).low B1.size);clear BA b2 B2 O2 RR c0 c1' c2 c3 TA
       by_cases hm:iY L
       ·have E:=Hh (TE.out.1 hm)
        have IT:=Hh (fun w v R=>aM (show gH L=true from bj hm) (je w v L R));clear TE hm;go_wp2_with fail;refine (IT _ _ (Rw.Ow.rd (RW _))).mono ?_;rintro e w4 ⟨rfl,b4⟩;have E4:=Hh (E _ _ (Rw.Ow.keep (RW _) b4) (eW (BW _) (b4.mono (Below.size (BW _)))));clear b4 E IT;go_wp2
        go_ret2
        exact E4
       ·have E:=Hh (TE.out.2 hm)
        have IT:=Hh (fun w v R=>aM (show gH L=false from ai hm) (je w v L R));clear TE hm;go_wp2_with fail;refine (IT _ _ (Rw.Ow.rd (RW _))).mono ?_;rintro e w4 ⟨rfl,b4⟩;have E4:=Hh (E _ (eW (BW _) (b4.mono (Below.size (BW _)))));clear b4 E IT;go_wp2
        go_ret2
        exact E4
      ·have PR:=Hh (P3 h4)
       clear P2 P3 HS HT;go_wp2_with fail;refine (TA _).mono ?_;rintro e w2 ⟨rfl,b2⟩;have BA:=RR.aI.alloc RR.aI.size (.cells #[.int .u8 y.1,.int .u8 y.2.1,.int .u8 y.2.2.1,.int .u8 y.2.2.2] 42);have B2:=Hh (BA.trans (b2.mono BA.size));have O2:=Hh ((RR.own.alloc (.cells #[.int .u8 y.1,.int .u8 y.2.1,.int .u8 y.2.2.1,.int .u8 y.2.2.2] 42)).keep b2);have LN:=Hh RR.red.1;have z2:=B2.size;clear BA b2 RR c0 c1' c2 c3 TA
       go_wp2_with (at_builtin;refine Rw.eT underlying126 Vp rfl (by omega) rfl _ _ rfl w1.heap.size _ _ rfl ((O2.out.alloc _).alloc _) _ x rfl ?d1 ?d2 ?d3 ?_)
       case d1 =>
        intro j u hu
        match j,hu with
        | 0,hu=>simp [K5] at hu;subst hu;go_simp
        | 1,hu=>simp [K5] at hu;subst hu;go_simp
        | 2,hu=>simp [K5] at hu;subst hu;go_simp
        | 3,hu=>simp [K5] at hu;subst hu;go_simp
        | 4,hu=>simp [K5] at hu;subst hu;go_simp
        | j+5,hu=>simp [K5] at hu
       case d2=>rw [LN.out];omega
       case d3=>simp;omega
       intro v' w3 o3 b3
       have N3:Hid (Me w1 r (k+1) v' (L ++ [x]) w3):=Hh ⟨o3,PR,((B2.alloc z2 _).alloc (by simp;omega) _).trans (b3.mono (ac _))⟩;obtain ⟨av',cv',ev',_,_⟩:=o3.slice;generalize (L ++ [x]).length=Ln' at ev';subst ev';clear o3 b3 O2 B2 PR LN;go_wp2
       go_roundw
       case rel=>exact ⟨k+1,L ++ [x],by omega,by go_num,N3⟩
       case measure=>simp [intOf];omega
     ·have e1:qM (bD r k)=z5:=am h1
      have e2:qK (bD r k)=2:=am h1;rw [e1,e2] at TA;have E:=Hh (HS (Q1 h1));clear e1 e2 Q1 Q2 Q3 h1 HS HT;unfold fM aH at TA;simp only [z5] at TA;generalize bD r k=y at *;go_wp2_with fail;refine (TA _).mono ?_;rintro e w2 ⟨rfl,b2⟩;have BA:=RR.aI.alloc RR.aI.size (.cells #[.int .u8 y.1,.int .u8 y.2.1,.int .u8 y.2.2.1,.int .u8 y.2.2.2] 42);have B2:=Hh (BA.trans (b2.mono BA.size));have O2:=Hh ((RR.own.alloc (.cells #[.int .u8 y.1,.int .u8 y.2.1,.int .u8 y.2.2.1,.int .u8 y.2.2.2] 42)).keep b2);have BW:Hid (∀ o,Below w.heap.size w (w2.alloc o)):=Hh (fun o=>B1.trans ((B2.alloc B2.size o).mono B1.size));clear BA b2 B2 O2 RR c0 c1' c2 c3 TA;go_wp2
      go_ret2
      exact E _ (BW _)
    ·obtain rfl:k=m:=by omega
     have TE:=Hh (HT L (Gp (by rw [LR.out];exact RR.out.red)));have BW:=Hh (B1.trans (RR.aI.mono B1.size));have RW:=Hh (RR.own.low B1.size);clear RR HS HT
     by_cases hm:iY L
     ·have E:=Hh (TE.out.1 hm)
      have IT:=Hh (fun w v R=>aM (show gH L=true from bj hm) (je w v L R));clear TE hm;go_wp2_with fail;refine (IT _ _ (Rw.Ow.rd RW)).mono ?_;rintro e w4 ⟨rfl,b4⟩;have E4:=Hh (E _ _ (Rw.Ow.keep RW b4) (eW BW (b4.mono (Below.size BW))));clear b4 E IT;go_wp2
      go_ret2
      exact E4
     ·have E:=Hh (TE.out.2 hm)
      have IT:=Hh (fun w v R=>aM (show gH L=false from ai hm) (je w v L R));clear TE hm;go_wp2_with fail;refine (IT.out _ _ (Rw.Ow.rd RW.out)).mono ?_;rintro e w4 ⟨rfl,b4⟩;have E4:=Hh (E.out _ (eW BW.out (b4.mono (Below.size BW.out))));clear b4 E IT;go_wp2
      go_ret2
      exact E4.out
 ·have GA:=Hh (aM (show aZ p l=false from ai hg) (Fl.bJ _ p v l R0.out))
  have E:=Hh (HE.out (Pk hg));clear hg HE ok;obtain ⟨a,cap,rfl,_,hm,hA⟩:=R0.out;clear hA R0;generalize l.length=n at *;unfold file at *
  go_enter func114,ntmps114
  go_wp2_with fail;refine GA.mono ?_;rintro e w1 ⟨rfl,b1⟩;have B1:=aW B0 b1;clear b1 GA B0;go_wp2
  go_ret2
  exact E _ B1
end Ro
namespace Cu
open Go.Maps
open Fs (gN)
open Ro (zR gI)
attribute [local irreducible] Sd.bA wpQuiet
def Yb (w:World) (A:aU) (n:Int) (e:Ending) (w':World):Prop:=∃ v,e = .returned (file (fP A n) v)/\Rd K4 w' v (fR A n)/\Below w.heap.size w w'
section
variable {s t p:Nat} {F G:Nat->Prop} {c:Cs} {vn vq:Value} {L:List Nd} {Fs:Nat->Nat->Prop} {w w':World}
variable {nn:Nat}
theorem Cn (h:Cl w s F c t vn L p vq Fs) (hn:nn < c.S.length) (n:Int):Calls prog 81 #[ptr s,.int .i64 nn,.int .i64 n] w (Yb w (aN c.S nn).1 n):=by
 have B0:=Hh ((aa w.heap.size w).alloc (ac _) (.cells #[.int .i64 0,.slice none 0 0] 79));have X0:=Hh (bc w (.cells #[.int .i64 0,.slice none 0 0] 79));have C1:=Hh (Dc (h.below B0) hn);unfold dR at C1;clear h hn;generalize (aN c.S nn).1=A at *;unfold ptr at *
 go_enter func81,ntmps81
 go_wp2_with fail;refine C1.mono ?_;rintro e w1 ⟨v,rfl,hv,b1⟩;obtain ⟨L,hL,rfl⟩:=hv (fun k=>k=w.heap.size) (fun k e=>by rw [e];simp);have FO:=Hh hL.xP;have X1:=Hh (jf b1 X0);have B1:=aW B0 b1;have FI:=Hh hL.file;have hlen:L.length<=9223372036854775807:=by
  obtain ⟨_,_,_,⟨_,_⟩,hm,_⟩:=hL.rd;unfold maxLen at hm
  omega
 obtain ⟨a,cap,rfl,_,_,h3⟩:=hL.rd;have H3:=Hh h3;have NO:Hid ((∀ j,j < L.length->∀ e,L[j]? = some e->e.n≠n)->fB (L.map aD.abs) n=false/\fP (L.map aD.abs) n=0/\fR (L.map aD.abs) n = []):=Hh Xy;have YES:Hid (∀ (k:Nat) (c:aD),L[k]? = some c->c.n=n->(∀ j,j < k->∀ e,L[j]? = some e->e.n≠n)->fB (L.map aD.abs) n=true/\fP (L.map aD.abs) n=c.p/\fR (L.map aD.abs) n=c.l):=Hh (fun _ _=>Uk);have BB:=Hh (aa w1.heap.size w1);clear hv hL h3 b1 C1 X0 B0;generalize hN:L.length=N at *;have HN:=Hh hN;clear hN;go_wp2
 go_loopw [13] (fun i wr=>∃ k:Nat,k<=N/\i = .int .i64 k/\Hid (∀ j,j < k->∀ e,L[j]? = some e->e.n≠n)/\Hid (Below w1.heap.size w1 wr)) (fun i _=>N - (intOf i).toNat)
 case atStart=>exact ⟨0,cg _,rfl,fun j hj=>by omega,BB⟩
 case round =>
  clear BB;obtain ⟨k,hk,rfl,hb,B⟩:=hrel
  by_cases hlt:k < N
  ·have hkL:k < L.length:=by have:=HN.out;omega
   obtain ⟨c,hc⟩:∃ c,L[k]? = some c:=⟨_,aq hkL⟩;obtain ⟨b,off,rfl,hA⟩:=H3 (by omega);obtain ⟨x0,x1,x2⟩:=at3 (hA.below B) hc;have HAA:=Hh hA;have RF:=Hh (FI c (cN hc));have FF:=Hh (FO c (cN hc));have Y:=Hh (YES k c hc)
   have NB:Hid (c.n≠n->∀ j,j < k+1->∀ e,L[j]? = some e->e.n≠n):=Hh (fun he j hj e hje=>by
    by_cases ej:j=k
    ·subst ej
     rw [hc] at hje;obtain rfl:=cP hje;exact he
    ·exact hb j (by omega) e hje)
   clear hc hkL hA;unfold aD.sl at x2 RF FF;generalize c.a=ca at *;generalize c.cap=ccap at *;generalize c.p=cp at *;generalize c.n=cn at *;generalize c.l=cl at *;have Z0:=Hh (bc wr (.cells #[.int .i64 cn,.int .i64 cp,.slice ca cl.length ccap] 81));have BN:=Hh ((aa wr.heap.size wr).alloc (ac _) (.cells #[.int .i64 cn,.int .i64 cp,.slice ca cl.length ccap] 81));go_upto_region 4 with fail;clear x0 x1 x2;generalize wr.alloc (.cells #[.int .i64 cn,.int .i64 cp,.slice ca cl.length ccap] 81)=W at *;have B2:=aW B BN;clear BN B;generalize wr.heap.size=gx at *;obtain ⟨y0,y1,y2⟩:=D6 Z0
   by_cases he:cn=n
   ·have Y1:=Hh (Y he hb)
    subst he;have XW:=Hh (jf B2 X1);obtain ⟨z0,z1,f0,f1⟩:=yH XW;have R1:=Hh (bg XW cp (.slice ca cl.length ccap));have BS:=Hh (aQ (p:=cp) (v:=.slice ca cl.length ccap) (aW B1 B2) (ac _));have RS:=Hh (gN (RF.below B2) (G:=fun k=>k=w.heap.size) FF ((ay.set (fun k=>k=w.heap.size) W (a:=⟨w.heap.size,0,none⟩) rfl (.int .i64 cp)).trans (ay.set (fun k=>k=w.heap.size) _ (a:=⟨w.heap.size,1,none⟩) rfl (.slice ca cl.length ccap)) fun _ _ g=>g))
    have E:Hid (Yb w (L.map aD.abs) cn (.returned (file cp (.slice ca cl.length ccap))) (fF W w.heap.size cp (.slice ca cl.length ccap))):=Hh (by
     obtain ⟨y1,y2,y3⟩:=Y1;refine ⟨_,by rw [y2],?_,BS.out⟩;rw [y3]
     exact RS)
    clear Y Y1 RF FF NO YES hb NB X1 Z0 B2 BS RS;generalize w.heap.size=g0 at *;go_wp2
    (try simp only [Exit.inBlock,Exit.then])
    exact bp (j4 (p:=6) rfl _ _ g0 cp (.slice ca cl.length ccap) rfl R1) rfl E
   ·have NB1:=Hh (NB he)
    clear Y RF FF NB hb;go_wp2
    go_roundw
    case rel=>exact ⟨k+1,by omega,by go_num,NB1,B2⟩
    case measure=>simp [intOf];omega
  ·obtain rfl:k=N:=by omega
   have E:=Hh (NO (fun j hj=>hb j (by have:=HN.out;omega)));have XW:=Hh (jf B X1);obtain ⟨z0,z1,f0,f1⟩:=yH XW;have R1:=Hh (bg XW 0 (.slice none 0 0));have BS:=Hh (aQ (p:=0) (v:=.slice none 0 0) (aW B1 B) (ac _))
   have E1:Hid (Yb w (L.map aD.abs) n (.returned (file 0 (.slice none 0 0))) (fF wr w.heap.size 0 (.slice none 0 0))):=Hh (by
    obtain ⟨y1,y2,y3⟩:=E;refine ⟨_,by rw [y2],?_,BS.out⟩;rw [y3]
    exact Rw.Rd.nil _)
   clear NO YES hb E BS B X1;generalize w.heap.size=g0 at *;go_wp2
   (try simp only [Exit.inBlock,Exit.then])
   exact bp (j4 (p:=6) rfl _ _ g0 0 (.slice none 0 0) rfl R1) rfl E1
def TbC (w:World) (l:List E5) (e:Ending) (w':World):Prop:=∃ u,e = .returned u/\Ow K5 w' w.heap.size 170 u l/\Below w.heap.size w w'
theorem Kz (h:Cl w s F c t vn L p vq Fs) (hn:nn < c.S.length) {k:Int} (hk:0<=k/\k<=100):Calls prog 86 #[ptr s,.int .i64 nn,.int .i64 k] w (TbC w (kD (fP (aN c.S nn).1 (32+k)) (fR (aN c.S nn).1 (32+k)))):=by
 have C1:=Hh (Cn h hn (32+k));have OK:=Hh (Jb (h.TD hn).okA (32+k));have hw:=cG (32+k) (by omega);unfold Yb at C1;clear h hn;generalize (aN c.S nn).1=A at *;generalize fP A (32+k)=fp at *;generalize fR A (32+k)=fr at *;unfold ptr at *
 go_enter func86,ntmps86
 go_wp2_with fail;refine C1.mono ?_;rintro e w1 ⟨v,rfl,rv,b1⟩;have C2:=Hh (zR w1 fp v fr rv OK);have B1:=Hh b1;obtain ⟨a,cap,rfl,_⟩:=rv.slice;unfold gI at C2;clear C1 rv b1 OK;generalize kD fp fr=l at *;generalize qI fp fr=z at *;generalize fr.length=n at *;unfold file at *;go_wp2_with fail;refine C2.mono ?_;rintro e w2 ⟨u,rfl,ow,b2⟩;have E:Hid (TbC w l (.returned u) w2):=Hh ⟨u,rfl,ow.low B1.size,aW B1 b2⟩;clear C2 ow b2 B1;go_wp2
 go_ret
 exact E
end
end Cu
namespace Cu
open Go.Extern.Stop Go.Stop Go.Extern
open Fs (fq rR aco acT adp WZ Uh ac4 acV VP Vt Yw ab8 acj acI ady abV Mw Zi Uy Xm YM Zj Tq VK rA)
def Ma (n e:Int):Value:=.agg #[.int .i64 n,.iface 25 (.int .i64 e)]
def kQ (n e:Int):Value:=.iface 151 (Ma n e)
theorem Tj (v:Value) (w:World):(Extern.ReflectliteType.typeOf #[.iface 151 v]).run prog w = .ok (.iface 234 (.agg #[.pointer (some ⟨1,151,none⟩)])) w:=by kernel_rfl
theorem Mm (v:Value) (xT:TypeId) (w:World):(Instr.typeAssert (.iface 151 v) xT 239 true).run prog w = .ok (.tuple #[.iface 151 v,.bool true]) w:=run_typeAssert_hasB underlying239 (by kernel_rfl) v xT w
theorem Bl (v : Value) (w : World) : (Go.method 472 151 v "Unwrap").run Tryz.prog w = .ok (255, v) w := by kernel_rfl
theorem Io (w:World) (n:Int) (x:Value):Calls prog 255 #[.agg #[.int .i64 n,x]] w fun e w'=>e = .returned x/\Below w.heap.size w w':=by
 go_enter func255,ntmps255
 go_wp2
 go_ret
 exact ⟨rfl,(aa w.heap.size w).alloc (ac _) _⟩
theorem afe (w:World):(Tq #[.agg #[.pointer (some ⟨1,151,none⟩)],.iface 234 (.agg #[.pointer (some ⟨1,25,none⟩)])]).run prog w = .ok (.bool false) w:=by kernel_rfl
theorem aei (v:Value) (xT:TypeId) (w:World):(Instr.typeAssert (.iface 151 v) xT 247 true).run prog w = .ok (.tuple #[.nilIface,.bool false]) w:=run_typeAssert_lacksB underlying247 (by kernel_rfl) (by kernel_rfl) v xT w
theorem Xx (n e:Int) (tb b:Nat) (w:World) (hb:w.cell? ⟨b,0,none⟩=some (.pointer (some ⟨tb,0,none⟩))) (ht:w.heap[tb]? = some (.cells #[.int .i64 0] 25 (0,0))) :
 Calls prog 113 #[kQ n e,.iface 157 (.pointer (some ⟨tb,0,none⟩)),.agg #[.pointer (some ⟨1,157,none⟩),.pointer (some ⟨b,0,none⟩),.int .u64 150],.iface 234 (.agg #[.pointer (some ⟨1,25,none⟩)])] w (rA w tb e):=by
 have h42:=@run_callFunc_extern prog 103 _ Extern.ReflectliteType.typeOf func103 (by kernel_rfl) (by kernel_rfl) (by kernel_rfl) (by kernel_rfl);have h102:=@run_callFunc_extern prog 264 _ Tq func264 (by kernel_rfl) (by kernel_rfl) (by kernel_rfl) (by kernel_rfl);have h60:=@run_callFunc_extern prog 133 _ VK func133 (by kernel_rfl) (by kernel_rfl) (by kernel_rfl) (by kernel_rfl);have h50:=@run_callFunc_extern prog 110 _ Mw func110 (by kernel_rfl) (by kernel_rfl) (by kernel_rfl) (by kernel_rfl);have h61:=@run_callFunc_extern prog 134 _ ReflectliteValue.set func134 (by kernel_rfl) (by kernel_rfl) (by kernel_rfl) (by kernel_rfl);have tF:=Tj;have tE:=rR;have mA:=acV;have aF:=afe;have aE:=acj;have nA:=aei;have uF:=Mm;have mU:=Bl;have vE:=acT;have HB:=Hh hb;have HT:=Hh ht;have B0:=Hh ((aa w.heap.size w).alloc (ac _) (.cells #[.pointer (some ⟨1,157,none⟩),.pointer (some ⟨b,0,none⟩),.int .u64 150] 202));clear hb ht;unfold kQ Ma
 go_enter func113,ntmps113
 go_wp2;refine wp_loop_rounds 2 ?_;rw [rounds_succ]
 go_wp2_with (go_at_call 255;refine (Io _ _ _).mono ?_;rintro ev w1 ⟨rfl,b1⟩)
 have B1:=aW B0 b1;have G0:=(b1.block _ (by simp)).trans (bc w _);obtain ⟨e0,e1,e2⟩:=D6 G0;have hbl:=bo _ _ HB;have el:=acI ⟨b,0,none⟩ ⟨tb,0,none⟩ w1 ((B1.cell hbl).trans HB);have htl:=bm HT;have T1:=(B1.block tb htl).trans HT;have T2:=(cA w1 (.cells #[.int .i64 e] 25) tb (by have:=B1.out.size;omega)).trans T1;have st:=abV ⟨tb,0,none⟩ ⟨w1.heap.size,0,none⟩ e (.int .i64 0) (w1.alloc (.cells #[.int .i64 e] 25)) (by simp) (ah T2 0) (aj T2 0);have RES:Hid (rA w tb e (.returned (.bool true)) ((w1.alloc (.cells #[.int .i64 e] 25)).setCell ⟨tb,0,none⟩ (.int .i64 e))):=by
  refine ⟨rfl,?_,?_⟩
  ·have:=Rw.aB (j:=0) T2 (.int .i64 e)
   rw [this]
   simp
  ·exact (ay.of_below (B1.alloc B1.size _)).trans (ay.set (fun k=>k=tb) _ (a:=⟨tb,0,none⟩) rfl _) fun _ _ g=>g
 clear b1 G0 T1 T2 HB HT B0 B1 hbl htl;rw [rounds_succ];go_wp2
 go_ret
 exact RES
theorem YR (n e:Int) (tb:Nat) (w:World) (hg:fq w) (ht:w.heap[tb]? = some (.cells #[.int .i64 0] 25 (0,0))) :
 Calls prog 85 #[kQ n e,.iface 157 (.pointer (some ⟨tb,0,none⟩))] w (rA w tb e):=by
 have h50:=@run_callFunc_extern prog 110 _ Mw func110 (by kernel_rfl) (by kernel_rfl) (by kernel_rfl) (by kernel_rfl);have h51:=@run_callFunc_extern prog 111 _ Zi func111 (by kernel_rfl) (by kernel_rfl) (by kernel_rfl) (by kernel_rfl);have h52:=@run_callFunc_extern prog 112 _ Uy func112 (by kernel_rfl) (by kernel_rfl) (by kernel_rfl) (by kernel_rfl);have h95:=@run_callFunc_extern prog 249 _ Xm func249 (by kernel_rfl) (by kernel_rfl) (by kernel_rfl) (by kernel_rfl);have h104:=@run_callFunc_extern prog 266 _ YM func266 (by kernel_rfl) (by kernel_rfl) (by kernel_rfl) (by kernel_rfl);have h105:=@run_callFunc_extern prog 267 _ Zj func267 (by kernel_rfl) (by kernel_rfl) (by kernel_rfl) (by kernel_rfl);have f6:=aco;have f7:=adp;have mK:=WZ;have mE:=Uh;have mI:=ac4;have kP:=VP;have kE:=Vt;have eP:=Yw;have iE:=ab8;have hlt:=Nat.lt_of_le_of_lt (cg _) (bo _ _ hg);have htl:=bm ht;have B2:Below w.heap.size w ((w.alloc (.cells #[.pointer (some ⟨tb,0,none⟩)] 157)).alloc (.cells #[.pointer (some ⟨1,157,none⟩),.pointer (some ⟨w.heap.size,0,none⟩),.int .u64 150] 202)):=((aa w.heap.size w).alloc (ac _) _).alloc (by simp) _;have n8:=ady ⟨w.heap.size,0,none⟩ ⟨tb,0,none⟩ ((w.alloc (.cells #[.pointer (some ⟨tb,0,none⟩)] 157)).alloc (.cells #[.pointer (some ⟨1,157,none⟩),.pointer (some ⟨w.heap.size,0,none⟩),.int .u64 150] 202)) (by simp);have hg2:((w.alloc (.cells #[.pointer (some ⟨tb,0,none⟩)] 157)).alloc (.cells #[.pointer (some ⟨1,157,none⟩),.pointer (some ⟨w.heap.size,0,none⟩),.int .u64 150] 202)).cell? ⟨0,0,none⟩=some (.iface 234 (.agg #[.pointer (some ⟨1,111,none⟩)])):=hg.below B2;have AL:=Hh (Xx n e tb w.heap.size ((w.alloc (.cells #[.pointer (some ⟨tb,0,none⟩)] 157)).alloc (.cells #[.pointer (some ⟨1,157,none⟩),.pointer (some ⟨w.heap.size,0,none⟩),.int .u64 150] 202)) (by simp) ((B2.block tb htl).trans ht));have BB:=Hh B2;have HTL:=Hh htl;clear hg ht B2 htl;unfold kQ Ma at *
 go_enter func85,ntmps85
 go_wp2_with (go_at_call 113;refine AL.mono ?_;rintro ev w1 ⟨rfl,r1,o1⟩)
 go_ret
 exact ⟨rfl,r1,(ay.of_below BB).trans o1 fun _ _ g=>g⟩
theorem Hf (n e:Int) (w:World) (hg:fq w):Calls prog 58 #[kQ n e] w fun ev w'=>ev = .returned (.int .i64 e)/\Below w.heap.size w w':=by
 have B0:=Hh ((aa w.heap.size w).alloc (ac _) (.cells #[.int .i64 0] 25));have AS:=Hh (YR n e w.heap.size (w.alloc (.cells #[.int .i64 0] 25)) (hg.below B0) (bc w _));clear hg;unfold kQ Ma at *
 go_enter func58,ntmps58
 go_wp2_with fail;refine AS.mono ?_;rintro ev w1 ⟨rfl,r1,o1⟩;have c1:=Fl.rc r1 0;have BB:=Hh (B0.trans (o1.below (by simp) fun k hk=>by rw [hk];exact ac _));clear r1 o1 B0 AS;go_wp2
 go_ret
 exact ⟨rfl,BB⟩
open Go.Maps
open Re (vI zy)
attribute [local irreducible] Sd.bA wpQuiet
def SqC (w:World) (A:aU) (nn:Int) (e:Ending) (w':World):Prop:=Below w.heap.size w w'/\((qF A=true/\∃ u,e = .returned (.tuple #[u,.nilIface])/\Rd KI w' u (jT A))\/(qF A=false/\e = .returned (.tuple #[.slice none 0 0,kQ nn 2])))
theorem ZH (A:aU) (h:sN (fP A 40) (fR A 40)=0):qF A=true:=by
 unfold qF;rw [h,ce];refine ⟨?_,rfl⟩
 cases hb:fB A 40 with
 | true=>rfl
 | false =>
   exfalso
   have e:Fs.look Fs.key 40 A=none:=by
    unfold fB at hb
    cases hl:Fs.look Fs.key 40 A with
    | none=>rfl
    | some x=>rw [hl] at hb;cases hb
   have p0:fP A 40=0:=by unfold fP;rw [e]
   unfold sN at h
   split at h
   ·rename_i g
    have:=g.2.2.1
    omega
   ·omega
theorem adl (A:aU) (h:¬ sN (fP A 40) (fR A 40)=0):qF A=false/\sN (fP A 40) (fR A 40)=2:=by
 refine ⟨?_,?_⟩
 ·unfold qF
  rw [ai h,Bool.and_false]
 ·unfold sN at h ⊢
  split
  ·rename_i g;rw [aw g] at h;exact absurd rfl h
  ·rfl
section
variable {s t p:Nat} {F G:Nat->Prop} {c:Cs} {vn vq:Value} {L:List Nd} {Fs:Nat->Nat->Prop} {w w':World}
theorem mH (h:Cl w s F c t vn L p vq Fs) {nn:Nat} (hn:nn < c.S.length):Calls prog 50 #[ptr s,.int .i64 nn] w (SqC w (aN c.S nn).1 nn):=by
 have C1:=Hh (Cn h hn 40);have OK:=Hh (Jb (h.TD hn).okA 40);unfold Yb at C1;clear h hn;generalize (aN c.S nn).1=A at *;have Z:=Hh (ZH A);have T:=Hh (adl A);have HL:Hid (sL (fP A 40) (fR A 40)=jT A):=Hh rfl;unfold ptr at *
 go_enter func50,ntmps50
 go_wp2_with fail;refine C1.mono ?_;rintro e w1 ⟨v,rfl,rv,b1⟩;have C2:=Hh (vI w1 (fP A 40) v (fR A 40) rv OK);have B1:=Hh b1;obtain ⟨a,cap,rfl,_⟩:=rv.slice;unfold lQ at C2;rw [HL.out] at C2;clear C1 rv b1 OK HL;generalize sN (fP A 40) (fR A 40)=z at *;generalize fP A 40=fp at *;generalize (fR A 40).length=n at *;unfold file at *;go_wp2_with fail;refine C2.mono ?_;rintro e w2 ⟨u,rfl,ru,b2⟩;have B2:=aW B1 b2;have RU:=Hh ru;obtain ⟨ua,uc,rfl,_⟩:=RU.slice;clear ru b2 C2 B1;generalize (jT A).length=ln at RU ⊢
 by_cases hz:z=0
 ·have E:Hid (SqC w A nn (.returned (.tuple #[.slice ua ln uc,.nilIface])) w2):=Hh ⟨B2,.inl ⟨Z hz,_,rfl,RU⟩⟩
  subst hz;clear Z T RU B2;go_wp2
  go_ret2
  exact E
 ·obtain ⟨t1,t2⟩:=T hz
  subst t2;have E:Hid (SqC w A nn (.returned (.tuple #[.slice none 0 0,.iface 151 (.agg #[.int .i64 nn,.iface 25 (.int .i64 2)])])) w2):=Hh ⟨B2,.inr ⟨t1,rfl⟩⟩;clear Z T RU B2 hz t1;go_wp2
  go_ret2
  exact E
variable {l:List Int}
theorem ad7 (hs:gY l) (h:c.pl < l.length):nE l c.pl=0/\nR l c.pl=gU l (lH c l)/\nT l c.pl=(qh c l:Int):=by
 have hx:Lr l c.pl:=⟨hs,by omega,by omega⟩;unfold nE nR nT qh lH;rw [aw hx,aw hx,aw hx,am (by omega),ch];refine ⟨rfl,rfl,?_⟩
 by_cases e:c.pl+1=l.length
 ·rw [aw (by omega),aw e];rfl
 ·rw [am (by omega),am e];omega
theorem acz (hs:gY l) (h:¬ c.pl < l.length):nE l c.pl=1/\nR l 0=gU l (lH c l)/\nT l 0=(qh c l:Int):=by
 have hx:¬ Lr l c.pl:=fun g=>by have:=g.2.2;omega
 have hy:Lr l 0:=⟨hs,by omega,by have:=hs.1;omega⟩;unfold nE nR nT qh lH;rw [am hx,aw hy,aw hy,aw (by omega)];refine ⟨rfl,rfl,?_⟩
 by_cases e:0+1=l.length
 ·rw [aw (by omega),aw e];rfl
 ·rw [am (by omega),am e];rfl
def NxC (w:World) (s:Nat) (x:Int) (n:Nat) (e:Ending) (w':World):Prop:=e = .returned (.int .i64 x)/\∃ w1,Below w.heap.size w w1/\w'=w1.setCell ⟨s,2,none⟩ (.int .i64 n)
theorem Qt (h:Cl w s F c t vn L p vq Fs) {v:Value} (R:Rd KI w v l) (hs:gY l):Calls prog 60 #[ptr s,v] w (NxC w s (gU l (lH c l)) (qh c l)):=by
 have C1:=Hh (zy w v l c.pl R);have C2:=Hh (fun w1 b=>zy w1 v l 0 (R.below (w':=w1) b));have H:=Hh h;have d2:=h.cells.2.2.1;have IN:=Hh (ad7 (c:=c) hs);have OUT:=Hh (acz (c:=c) hs);obtain ⟨a,cap,rfl,_⟩:=R.slice;clear h hs R;unfold mP at C1 C2;generalize gU l (lH c l)=x at *;generalize qh c l=y at *
 by_cases hp:c.pl < l.length
 ·obtain ⟨e1,e2,e3⟩:=IN hp
  rw [e1,e2,e3] at C1;have HH:=Hh (fun w1 b=>(H.below (w':=w1) b).cells.2.2.1);have HF:=Hh (fun w1 b=>(H.below (w':=w1) b).Xg 2);clear e1 e2 e3 IN OUT C2 hp H;generalize c.pl=pl at *;generalize l.length=n at *;unfold ptr at *
  go_enter func60,ntmps60
  go_wp2_with fail;refine C1.mono ?_;rintro e w1 ⟨rfl,b1⟩;have k2:=HH.out w1 b1;have f2:=HF.out w1 b1;have E:Hid (NxC w s x y (.returned (.int .i64 x)) (w1.setCell ⟨s,2,none⟩ (.int .i64 y))):=Hh ⟨rfl,w1,b1,rfl⟩;clear C1 HH HF b1 d2;go_wp2
  go_ret
  exact E
 ·obtain ⟨e1,e2,e3⟩:=OUT hp
  rw [e1] at C1;rw [e2,e3] at C2;have HH:=Hh (fun w1 b=>(H.below (w':=w1) b).cells.2.2.1);have HF:=Hh (fun w1 b=>(H.below (w':=w1) b).Xg 2);clear e1 e2 e3 IN OUT hp H;generalize nR l c.pl=x0 at *;generalize nT l c.pl=y0 at *;generalize nE l 0=z0 at *;generalize c.pl=pl at *;generalize l.length=n at *;unfold ptr at *
  go_enter func60,ntmps60
  go_wp2_with fail;refine C1.mono ?_;rintro e w1 ⟨rfl,b1⟩;have D2:=Hh (C2 w1 b1);have B1:=Hh b1;clear C1 C2 b1 d2;go_wp2_with fail;refine D2.mono ?_;rintro e w2 ⟨rfl,b2⟩;have B2:=aW B1 b2;have k2:=HH.out w2 B2;have f2:=HF.out w2 B2;have E:Hid (NxC w s x y (.returned (.int .i64 x)) (w2.setCell ⟨s,2,none⟩ (.int .i64 y))):=Hh ⟨rfl,w2,B2,rfl⟩;clear D2 HH HF B1 B2 b2;go_wp2
  go_ret
  exact E
end
end Cu
