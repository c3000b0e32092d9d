import Derived.Test.YtpepoackmcohlaaGreatDoorPg12
set_option maxRecDepth 100000
set_option maxHeartbeats 4000000
namespace Go.Proofs.YtpepoackmcohlaaGreatDoor
open Go.Proofs.Tryz Go.RowKit
open Ck (Hd KS LL bZ kF vN zD zh)
open Fl (K4 R4 aH aO ah aj bQ dF file z4)
open Fs (Fx Rs aD aG aU ay eB)
open Pa (Jo K2 KB KN Ka Nr Rfl S2 TL Vg XM aN aV bU bX cK dY dx fC fQ iG iU lK nM nQ nS ptr qC rX sV vJ xS xV xw yR yx zC zQ)
open Ro (E5 K5 bO fZ gI jM kD qI z5)
open Rw (At Kind Ow Rd)
open Wt (Pf)
namespace Cu
open Go.Maps
open Ck (sN sE tE tN jm xD gD)
open Pa (hr hb hq)
attribute [local irreducible] Sd.bA wpQuiet
def AV (F:Nat->Prop) (q:Option Nat) (ps:List Nat) (i j:Nat):Prop:=F j\/q=some j\/∃ m,m < ps.length/\m≠i/\ps.getD m 0=j
def AN (F:Nat->Prop) (q:Option Nat) (ps:List Nat) (j:Nat):Prop:=F j\/q=some j\/∃ m,m < ps.length/\ps.getD m 0=j
section
variable {E:TypeId} {w wr w1 w2:World} {F:Nat->Prop} {S:bX} {k:Nat} {o o':Value} {ps:List Nat} {g:Nat}
structure PR (E:TypeId) (w:World) (F:Nat->Prop) (S:bX) (k:Nat) (o:Value) (ps:List Nat) (wr:World):Prop where
 own:Ow KN wr w.heap.size E o ps
 len:ps.length=k
 each:∀ i,i < k->Rs wr (ps.getD i 0) (AV F o.ownBlock ps i) (aN S i).1 (aN S i).2
 lo:∀ i,i < k->w.heap.size<=ps.getD i 0
 lt:∀ i,i < k->ps.getD i 0 < wr.heap.size
 aI:Below w.heap.size w wr
structure PN (E:TypeId) (w:World) (F:Nat->Prop) (S:bX) (k:Nat) (o:Value) (ps:List Nat) (g:Nat) (wr:World):Prop where
 own:Ow KN wr w.heap.size E o ps
 len:ps.length=k
 each:∀ i,i < k->Rs wr (ps.getD i 0) (fun j=>AV F o.ownBlock ps i j\/j=g) (aN S i).1 (aN S i).2
 lo:∀ i,i < k->w.heap.size<=ps.getD i 0
 lt:∀ i,i < k->ps.getD i 0 < wr.heap.size
 aI:Below w.heap.size w wr
 new:Rs wr g (AN F o.ownBlock ps) (aN S k).1 (aN S k).2
 ng:w.heap.size<=g
 lg:g < wr.heap.size
variable {r:Nat} {A:aU} {d:Int}
theorem Jp (h:Rs w r F A d):r < w.heap.size:=by obtain ⟨_,_,h,_⟩:=h;exact bm h.row
theorem PR.made (hb:Below w.heap.size w wr):PR E w F S 0 (.slice (some ⟨wr.heap.size,0,none⟩) 0 0) [] (wr.alloc (.cells #[] E)):=⟨Rw.Ow.made _ _ _ hb.size,rfl,fun i hi=>by omega,fun i hi=>by omega,fun i hi=>by omega,hb.alloc hb.size _⟩
theorem PR.below (h:PR E w F S k o ps wr) (b:Below wr.heap.size wr w1):PR E w F S k o ps w1:=⟨h.own.keep b,h.len,fun i hi=>Fs.Rs.below (h.each i hi) b,h.lo,fun i hi=>cd (h.lt i hi) b.size,h.aI.trans (b.mono h.aI.size)⟩
theorem PR.Dr (h:PR E w F S k o ps wr):∀ k,o.ownBlock=some k->k < wr.heap.size:=fun k e=>(ci h.own k e).2
theorem PR.an (hF:∀ j,F j->j < w.heap.size) (h:PR E w F S k o ps wr):∀ j,AN F o.ownBlock ps j->j < wr.heap.size:=fun j g=>by
 rcases g with g | g | ⟨m,hm,rfl⟩
 ·exact cd (hF j g) h.aI.size
 ·exact h.Dr j g
 ·exact h.lt m (by rw [← h.len];exact hm)
theorem PR.src (h:PR E w F S k o ps wr) {w0:World} (h0:Rs w0 r F A d) (b0:Below w0.heap.size w0 wr) (hz:w0.heap.size<=w.heap.size):Rs wr r (AN F o.ownBlock ps) A d:=by
 refine dY (Fs.Rs.only h0 (ay.of_below b0)) fun j hj g=>?_
 rcases g with g | g | ⟨m,hm,rfl⟩
 ·exact .inl g
 ·have:=(ci h.own j g).1
  exact .inr ⟨by omega,hj⟩
 ·have:=h.lo m (by rw [← h.len];exact hm)
  exact .inr ⟨by omega,hj⟩
theorem PR.pend (h:PR E w F S k o ps wr) (b:Below wr.heap.size wr w1) (r:Rs w1 g (AN F o.ownBlock ps) (aN S k).1 (aN S k).2) (hg:wr.heap.size<=g):PN E w F S k o ps g w1:=by
 have hl:=Jp r;have hz:=h.aI.size;refine ⟨h.own.keep b,h.len,fun i hi=>?_,h.lo,fun i hi=>cd (h.lt i hi) b.size,h.aI.trans (b.mono hz),r,by omega,hl⟩;refine dY (Fs.Rs.only (h.each i hi) (ay.of_below b)) fun j hj q=>?_
 rcases q with q | q
 ·exact .inl q
 ·subst q;exact .inr ⟨hg,hj⟩
theorem PN.below (h:PN E w F S k o ps g wr) (b:Below wr.heap.size wr w1):PN E w F S k o ps g w1:=⟨h.own.keep b,h.len,fun i hi=>Fs.Rs.below (h.each i hi) b,h.lo,fun i hi=>cd (h.lt i hi) b.size,h.aI.trans (b.mono h.aI.size),Fs.Rs.below h.new b,h.ng,cd h.lg b.size⟩
theorem PN.push (h:PN E w F S k o ps g wr) (own:Ow KN w1 w.heap.size E o' (ps ++ [g])) (gr:wr.grownBy w1 o.ownBlock) (hq:o'.ownBlock=o.ownBlock\/∃ g,o'.ownBlock=some g/\wr.heap.size<=g):PR E w F S (k+1) o' (ps ++ [g]) w1:=by
 have hl:∀ j,o'.ownBlock=some j->j < w1.heap.size:=fun j e=>(ci own j e).2;have oq:=aV gr;have at_old:∀ i,i < k->(ps ++ [g]).getD i 0=ps.getD i 0:=fun i hi=>by rw [af,fk (by rw [h.len];exact hi),af]
 have at_new:(ps ++ [g]).getD k 0=g:=by rw [af,fh (by rw [h.len];exact ac _),h.len];simp
 have list:∀ (G:Nat->Prop) j,(∀ j,o.ownBlock=some j->G j)->o'.ownBlock=some j->Fx G wr w1 j:=fun G j hG e=>by
  rcases hq with q | ⟨x,q,hx⟩
  ·exact .inl (hG j (by rw [← q];exact e))
  ·rw [q] at e
   injection e with e;subst e;exact .inr ⟨hx,hl _ q⟩
 refine ⟨own,by rw [cI,h.len];rfl,fun i hi=>?_,fun i hi=>?_,fun i hi=>?_,h.aI.grown gr h.aI.size fun j e=>(ci h.own j e).1⟩
 ·by_cases e:i=k
  ·subst e
   rw [at_new];refine dY (Fs.Rs.only h.new (oq.mono fun j _ e=>.inr (.inl e))) fun j hj q=>?_
   rcases q with q | q | ⟨m,hm,hne,rfl⟩
   ·exact .inl (.inl q)
   ·exact list _ j (fun j e=>.inr (.inl e)) q
   ·rw [cI,h.len] at hm
    simp only [dl,dm] at hm;rw [at_old m (by omega)];exact .inl (.inr (.inr ⟨m,by rw [h.len];omega,rfl⟩))
  ·rw [at_old i (by omega)]
   refine dY (Fs.Rs.only (h.each i (by omega)) (oq.mono fun j _ e=>.inl (.inr (.inl e)))) fun j hj q=>?_
   rcases q with q | q | ⟨m,hm,hne,rfl⟩
   ·exact .inl (.inl (.inl q))
   ·exact list _ j (fun j e=>.inl (.inr (.inl e))) q
   ·rw [cI,h.len] at hm
    simp only [dl,dm] at hm
    by_cases em:m=k
    ·subst em;rw [at_new];exact .inl (.inr rfl)
    ·rw [at_old m (by omega)]
     exact .inl (.inl (.inr (.inr ⟨m,by rw [h.len];omega,hne,rfl⟩)))
 ·by_cases e:i=k
  ·subst e;rw [at_new];exact h.ng
  ·rw [at_old i (by omega)];exact h.lo i (by omega)
 ·by_cases e:i=k
  ·subst e;rw [at_new];exact cd h.lg gr.size
  ·rw [at_old i (by omega)];exact cd (h.lt i (by omega)) gr.size
end
def RfF (w:World) (F:Nat->Prop) (v:Value) (S:bX):Prop:=∃ ps:List Nat,Rd KN w v ps/\ps.length=S.length/\∀ i,i < S.length->Rs w (ps.getD i 0) F (aN S i).1 (aN S i).2
variable {w:World} {F:Nat->Prop} {v vs vt vl:Value} {S:bX}
theorem RfF.aeX (h:RfF w F v S):Rfl w v S:=by
 obtain ⟨ps,h1,h2,h3⟩:=h;exact ⟨ps,h1,h2,fun i hi=>dY (h3 i hi) nofun⟩
theorem RfF.one (h:RfF w F v S) {k:Nat} (hk:k < S.length):∃ b off cap s,v = .slice (some ⟨b,off,none⟩) S.length cap/\w.cell? ⟨b,off+k,none⟩=some (ptr s)/\Rs w s F (aN S k).1 (aN S k).2:=by
 obtain ⟨ps,⟨a,cap,e,_,_,h3⟩,h2,hs⟩:=h;obtain ⟨b,off,rfl,hA⟩:=h3 (by omega);exact ⟨b,off,cap,_,by rw [e,h2],TL hA (by omega),hs k hk⟩
def RrP (w:World) (F:Nat->Prop) (E:Int) (S':bX) (e:Ending) (w':World):Prop:=∃ v ps,e = .returned (.tuple #[v,.int .i64 E])/\(E=0->PR 51 w F S' S'.length v ps w')/\Below w.heap.size w w'
theorem PR.low {E:TypeId} {w w0 wr:World} {F:Nat->Prop} {S:bX} {k:Nat} {o:Value} {ps:List Nat} (h:PR E w F S k o ps wr) (hz:w0.heap.size<=w.heap.size) (b:Below w0.heap.size w0 wr):PR E w0 F S k o ps wr:=⟨h.own.low hz,h.len,h.each,fun i hi=>cE hz (h.lo i hi),h.lt,b⟩
theorem JS (hF:∀ j,F j->j < w.heap.size) {vp:Value} {T:LL} {V:List Bool} {P:List S2} (HF:RfF w F vs S) (HT:kF w vt T) (HV:Rd KB w vl V) (RP:Rd K2 w vp P) (hd:∀ i,i < S.length->0<=(aN S i).2/\(aN S i).2 < 900000) :
 Calls prog 67 #[vs,vt,vl,vp] w (RrP w F (iG S T V) (nQ S T V P)):=by
 have HS:=HF.aeX;have HFF:=Hh HF;have hFF:=Hh hF;have TA:=Hh (xD w vt T HT);unfold gD at TA;have NO:Hid (¬ (1<=S.length/\S.length<=32/\T.length=S.length/\V.length=S.length)->iG S T V=1/\(1:Int)≠0):=Hh (fun h=>⟨am h,by decide⟩);have YES:Hid ((1<=S.length/\S.length<=32/\T.length=S.length/\V.length=S.length)->iG S T V=tE T):=Hh (fun h=>aw h);have LL0:Hid (iG S T V=0->nQ S T V P=xS S T V (hr S T V P)):=Hh (fun h=>aw h);have FIN:Hid (∀ E,iG S T V=E/\E≠0->∀ w',Below w.heap.size w w'->RrP w F (iG S T V) (nQ S T V P) (.returned (.tuple #[.slice none 0 0,.int .i64 E])) w'):=Hh (fun E h w' b=>⟨_,[],by rw [h.1],fun e=>absurd (h.1.symm.trans e) h.2,b⟩);obtain ⟨sa,cs,rfl,ms⟩:=HS.slice;obtain ⟨ta,ct,rfl,mt⟩:=HT.slice;obtain ⟨la,cl,rfl,ml⟩:=HV.slice;unfold maxLen at ms mt ml;have HS0:=Hh HS;have HT0:=Hh HT;have HV0:=Hh HV;have RP0:=Hh RP;have DD:=Hh hd;clear HS HT HV RP hd HF hF
 by_cases h1:S.length < 1
 ·have N2:=Hh (FIN 1 (NO (by omega)) w (aa _ _))
  clear NO YES LL0 FIN;generalize iG S T V=a1 at *;generalize nQ S T V P=a2 at *;generalize S.length=n at *;generalize T.length=nt at *;generalize V.length=nv at *
  go_enter func67,ntmps67
  go_wp2
  go_ret2
  exact N2
 ·by_cases h2:32 < S.length
  ·have N2:=Hh (FIN 1 (NO (by omega)) w (aa _ _))
   clear NO YES LL0 FIN;generalize iG S T V=a1 at *;generalize nQ S T V P=a2 at *;generalize S.length=n at *;generalize T.length=nt at *;generalize V.length=nv at *
   go_enter func67,ntmps67
   go_wp2
   go_ret2
   exact N2
  ·by_cases h3:T.length=S.length
   ·by_cases h4:V.length=S.length
    ·have YE:=Hh (YES ⟨by omega,by omega,h3,h4⟩)
     by_cases hE:tE T=0
     ·have EL:=Hh (LL0 (by rw [YE.out];exact hE))
      have NS:Hid (Nr w (.slice sa S.length cs) (.slice ta T.length ct) (.slice la V.length cl) S T V):=Hh ⟨HS0,HT0,HV0,h3,h4,hE⟩;have HD:=Hh (fun W b=>zC (NS.below (w':=W) b) (RP0.below b));have EZ:iG S T V=0:=by rw [YE.out];exact hE
      have OH:=Hh (zQ S T V P);have AT:=Hh (fun i hi=>nS S T V (hr S T V P) (i:=i) hi);have RL:=Hh (iU S T V (hr S T V P));rw [EZ,EL.out];rw [hE] at TA;unfold yx at HD;clear NO YES LL0 FIN YE EL EZ;generalize hr S T V P=h at *;generalize xS S T V h=S' at *;generalize tN T=tn at *;rw [h3,h4] at NS HD ⊢;rw [h3] at HT0 TA;rw [h4] at HV0;have H3:=Hh h3;have H4:=Hh h4;clear h3 h4 hE;generalize hn:S.length=n at *;have HN:=Hh hn;clear hn
      go_enter func67,ntmps67
      go_wp2_with fail;refine TA.mono ?_;rintro e w1 ⟨rfl,b1⟩;have B1:=Hh b1;clear b1 TA;go_wp2_with fail;refine (HD w1 B1).mono ?_;rintro e w2 ⟨rfl,b2⟩;have B2':=aW B1 b2;have B2:=Hh (B2'.alloc B2'.size (.cells (lK (hb h) (hq h)) 179));have Y2:=Hh (fC.new w2 (hb h) (hq h));clear b2 B1 HD B2';have hgy:=Y2.lt
      go_upto_region 7 with ((with_reducible refine vJ (o:=⟨none,_,_,_,_,_⟩) rfl _ _ rfl (hb h) (hq h) ?_ ?_ ?_);(exact rfl);(exact rfl))
      generalize (w2.alloc (.cells (lK (hb h) (hq h)) 179))=W2 at *;generalize w2.heap.size=gy at *;have P0:Hid (PR 51 W2 F S' 0 (.slice (some ⟨W2.heap.size,0,none⟩) 0 0) [] (W2.alloc (.cells #[] 51))):=Hh (PR.made (aa _ _));go_wp2;generalize (W2.alloc (.cells #[] 51))=W3 at *
      go_loopw [14,13] (fun i o wr=>∃ (k:Nat) (ps:List Nat),k<=n/\i = .int .i64 k/\Hid (PR 51 W2 F S' k o ps wr)) (fun i _ _=>n - (intOf i).toNat)
      case atStart=>exact ⟨0,[],cg _,rfl,P0⟩
      case round =>
       obtain ⟨k,ps,hk,rfl,I⟩:=hrel;clear P0;obtain ⟨av,cv,ev,_⟩:=I.own.slice;have OWN:=Hh I.own;generalize ps.length=Lp at ev;subst ev;have BI:=Hh (B2.trans (I.aI.mono B2.size))
       by_cases hlt:k < n
       ·obtain ⟨b1,o1,c1,s,e1,cS,hS⟩:=HFF.one (k:=k) (by have:=HN.out;omega)
        rw [HN.out] at e1;injection e1 with e1 _ e2;subst e1 e2;obtain ⟨b2,o2,c2,at',ct',e2,cT,_,_⟩:=NS.tb.one (k:=k) (by have:=H3.out;omega);have RT:=Hh (NS.tb.rd (k:=k) (by have:=H3.out;omega) e2 cT);rw [H3.out] at e2;injection e2 with e2 _ e3;subst e2 e3;obtain ⟨a3,c3,e3,_,_,hv3⟩:=NS.lv;rw [H4.out] at e3;injection e3 with e3 _ e4;subst e3 e4;obtain ⟨b3,o3,rfl,A3⟩:=hv3 (by have:=H4.out;omega);have cV:=Ka (A3.below BI) (i:=k) (by have:=H4.out;omega);rw [show V.getD k false=bU V k from rfl] at cV;have EA:=Hh (AT k (by have:=HN.out;omega));have OKT:=Hh (nM NS.ok (k:=k) (by have:=H3.out;omega));have ML:=Hh (jM (jm (qC NS.ok) k (by have:=H3.out;omega)));have HS2:=Hh hS;have hzz:=B2.size;have HZ:=Hh hzz;clear hS hv3 A3 hzz;unfold ptr at cS;have CS:=Hh cS;have CT:=Hh cT;have lS:=bo _ _ cS;have lT:=bo _ _ cT;clear cS cT
        cases hv:bU V k with
        | true =>
          rw [hv] at cV;rw [hv,aw rfl] at EA;generalize hlk:(bZ T k).length=lk at *;go_upto_region 12 with fail;clear cV;have sS:=Sc.aA (C:=fun W=>Below w.heap.size w W) (a:=⟨b1,o1+k,none⟩) (fun W' h=>(h.cell lS).trans CS);have sT:=Sc.aA (C:=fun W=>Below w.heap.size w W) (a:=⟨b2,o2+k,none⟩) (fun W' h=>(h.cell lT).trans CT);have BD:=Hh (BI.trans ((aa wr.heap.size wr).drew.mono BI.size));have ne:Nonempty (Sc.In (fun W=>Below w.heap.size w W)):=⟨⟨_,BD⟩⟩;have ID:=Hh (I.below ((aa wr.heap.size wr).drew));refine Sc.start (fun W=>Below w.heap.size w W) [(false,0),(false,1),(false,2),(false,3),(false,4),(false,5),(false,6),(false,7),(false,8),(true,9),(true,10),(true,11),(true,12),(false,13)] (by kernel_rfl) (by kernel_rfl) (by kernel_rfl) BD ?_;dsimp only [Sd.aP,List.getElem?_cons_succ,List.getElem?_cons_zero]
          repeat (refine Sd.lit ?_;quiet_step (fail);refine bk ?_)
          clear sS sT;have YD:=Hh (Y2.below ID.aI hgy);generalize wr.drew=Wd at *;refine Sd.call (by rfl) (fun K hK=>?_);refine wp_load_row 179 _ rfl gy rfl _ _ _ _ YD underlying179 rfl (Jo _ _) ?_;refine hK _ _ (Sc.Cl.of BD) ?_;clear hK K;have AP:=Hh (yR (w:=Wd) (r0:=s) (F:=AN F (Value.slice av Lp cv).ownBlock ps) (x:=aN S k) (ID.src HS2 BD HZ) (ID.an fun j e=>cd (hFF j e) HZ) (DD k (by omega)) (RT.out.below BD.out) (fun y hy=>(OKT.out y hy).1) (by have:=ML.out;omega) OH.out);unfold sV at AP;refine Sd.call (by rfl) (fun K hK=>?_);go_simp;refine AP.mono ?_;rintro e w5 ⟨g,rfl,rs5,ng5,b5⟩;have B5:=aW BD b5;refine hK _ _ (Sc.Cl.of B5) ?_;clear hK K;unfold ptr;refine Sd.call (by rfl) (fun K hK=>?_);go_simp;have LN:=Hh I.len;have I5:=Hh ((ID.pend b5 (by rw [EA.out];exact rs5) ng5).below ((aa w5.heap.size w5).alloc (ac _) (.cells #[.pointer (some ⟨g,0,none⟩)] 51)));have N6:=Hh (bc w5 (.cells #[.pointer (some ⟨g,0,none⟩)] 51));have B6:=Hh (B5.alloc B5.size (.cells #[.pointer (some ⟨g,0,none⟩)] 51));refine hK _ _ (Sc.Cl.of B6) ?_;clear hK K rs5 ng5 b5 I OWN AP ID BD YD;generalize w5.heap.size=g5 at *;generalize (w5.alloc (.cells #[.pointer (some ⟨g,0,none⟩)] 51))=W6 at *;refine Sd.call (by rfl) (fun K hK=>?_);refine cK (K:=KN) underlying34 XM rfl (by omega) _ _ rfl W2.heap.size _ _ rfl I5.out.own _ g rfl ?d1 ?d2 ?d3 ?_
          case d1 =>
           intro j u hu
           match j,hu with
           | 0,hu=>simp [KN] at hu;subst hu;exact ah N6.out 0
           | j+1,hu=>simp [KN] at hu
          case d2=>rw [LN.out];omega
          case d3=>have:=I5.aI.size;exact this
          intro v' w6 o6 g6 h6
          have NEW:=Hh (I5.push o6 g6 h6);refine hK _ _ (Sc.Cl.of (B2.trans (NEW.aI.mono B2.size))) ?_;clear hK K o6 g6 h6 I5 LN B5 B6 N6;obtain ⟨av',cv',ev',_⟩:=NEW.own.slice;generalize (ps ++ [g]).length=Lp' at ev';subst ev'
          repeat (refine Sd.lit ?_;quiet_step (fail);refine bk ?_)
          refine Sd.done ?_;go_wp2
          go_roundw
          case rel=>exact ⟨k+1,ps ++ [g],by omega,by go_num,NEW⟩
          case measure=>simp [intOf];omega
        | false =>
          rw [hv] at cV;rw [hv,am dr] at EA;have cS:=(BI.cell lS).trans CS;have RC:=Hh (xw (w:=wr) (r:=s) (F:=AN F (Value.slice av Lp cv).ownBlock ps) (x:=aN S k) (I.src HS2 BI HZ) (I.an fun j e=>cd (hFF j e) HZ));unfold rX at RC;go_wp2_with fail;refine RC.mono ?_;rintro e w5 ⟨g,rfl,rs5,ng5,b5⟩;have LN:=Hh I.len;have I5:=Hh ((I.pend b5 (by rw [EA.out];exact rs5) ng5).below ((aa w5.heap.size w5).alloc (ac _) (.cells #[.pointer (some ⟨g,0,none⟩)] 51)));clear rs5 ng5 b5 I OWN RC cS cV
          (try unfold ptr)
          go_wp2_with (at_builtin;refine dx (K:=KN) underlying34 XM rfl (by omega) rfl _ _ rfl W2.heap.size _ _ rfl I5.out.own _ g rfl ?d1 ?d2 ?d3 ?_)
          case d1 =>
           intro j u hu
           match j,hu with
           | 0,hu=>simp [KN] at hu;subst hu;unfold ptr;go_simp
           | j+1,hu=>simp [KN] at hu
          case d2=>rw [LN.out];omega
          case d3=>have:=I5.aI.size;exact this
          intro v' w6 o6 g6 h6
          have NEW:=Hh (I5.push o6 g6 (by simpa using h6));clear o6 g6 h6 I5 LN;obtain ⟨av',cv',ev',_⟩:=NEW.own.slice;generalize (ps ++ [g]).length=Lp' at ev';subst ev';go_wp2
          go_roundw
          case rel=>exact ⟨k+1,ps ++ [g],by omega,by go_num,NEW⟩
          case measure=>simp [intOf];omega
       ·obtain rfl:k=n:=by omega
        have RES:Hid (RrP w F 0 S' (.returned (.tuple #[.slice av Lp cv,.int .i64 0])) wr):=Hh ⟨_,ps,rfl,fun _=>by rw [RL.out];exact I.out.low B2.out.size BI.out,BI.out⟩;clear I OWN;go_wp2
        go_ret2
        exact RES
     ·have N2:=Hh (fun w' b=>FIN (tE T) ⟨YE,hE⟩ w' b)
      have hne:(tE T != 0)=true:=by simpa using hE
      clear NO YES LL0 FIN YE hE HS0 HT0 HV0 DD;rw [h3,h4];generalize iG S T V=a1 at *;generalize nQ S T V P=a2 at *;generalize S.length=n at *;generalize tE T=te at *;generalize tN T=tn at *;rw [h3] at TA;clear h3 h4
      go_enter func67,ntmps67
      go_wp2_with fail;refine TA.mono ?_;rintro e w1 ⟨rfl,b1⟩;have N3:=Hh (N2 w1 b1);clear b1 N2 TA;go_wp2
      go_ret2
      exact N3
    ·have N2:=Hh (FIN 1 (NO (by rintro ⟨_,_,_,h⟩;exact h4 h)) w (aa _ _))
     clear NO YES LL0 FIN HS0 HT0 HV0 DD TA;rw [h3];clear h3;generalize iG S T V=a1 at *;generalize nQ S T V P=a2 at *;generalize S.length=n at *;generalize V.length=nv at *;have h5:((nv:Int) != (n:Int))=true:=by simp;omega
     go_enter func67,ntmps67
     go_wp2
     go_ret2
     exact N2
   ·have N2:=Hh (FIN 1 (NO (by rintro ⟨_,_,h,_⟩;exact h3 h)) w (aa _ _))
    clear NO YES LL0 FIN HS0 HT0 HV0 DD TA;generalize iG S T V=a1 at *;generalize nQ S T V P=a2 at *;generalize S.length=n at *;generalize T.length=nt at *;generalize V.length=nv at *;have h5:((nt:Int) != (n:Int))=true:=by simp;omega
    go_enter func67,ntmps67
    go_wp2
    go_ret2
    exact N2
end Cu
namespace Cu
open Go.Maps
def Gz (F:Nat->Prop) (r p:Nat) (vl:Value) (j:Nat):Prop:=F j\/j=r\/j=p\/vl.ownBlock=some j
structure Rz (B:Nat) (F:Nat->Prop) (r:Nat) (c:Cs) (t:Nat) (vs:Value) (ps:List Nat) (vl:Value) (p:Nat) (vq:Value) (w:World):Prop where
 row:w.heap[r]? = some (.cells #[vs,vl,.pointer (some ⟨p,0,none⟩),.int .i64 c.pl,vq] 39 (0,0))
 so:Ow KN w B 51 vs ps
 sl:ps.length=c.S.length
 st:∀ i,i < ps.length->Rs w (ps.getD i 0) (AV (Gz F r p vl) vs.ownBlock ps i) (aN c.S i).1 (aN c.S i).2
 Yy:∀ i,i < ps.length->B<=ps.getD i 0
 lv:Ow KB w B 4 vl c.V
 pr:Pf w p c.P t
 sp:Ow K2 w B 95 vq c.Q
 lo:B<=r/\B<=p
 nr:¬ F r
 np:¬ F p
 nv:∀ k,vs.ownBlock=some k\/vl.ownBlock=some k\/vq.ownBlock=some k->¬ F k
 low:∀ k,F k->k < w.heap.size
section
variable {B r t p:Nat} {F G:Nat->Prop} {c:Cs} {vs vl vq:Value} {ps:List Nat} {w w':World}
theorem Rz.Ri (h:Rz B F r c t vs ps vl p vq w):r < w.heap.size:=bm h.row
theorem Rz.plt (h:Rz B F r c t vs ps vl p vq w):p < w.heap.size:=h.pr.lt
theorem Rz.Yx (h:Rz B F r c t vs ps vl p vq w):∀ k,vs.ownBlock=some k\/vl.ownBlock=some k\/vq.ownBlock=some k->B<=k/\k < w.heap.size:=fun k g=>by
 rcases g with g | g | g
 ·exact ci h.so k g
 ·exact ci h.lv k g
 ·exact ci h.sp k g
theorem UX {a:Wt.A} (h:Pf w p a t):∃ cs,w.heap[p]? = some (.cells cs 56 (0,0)):=by obtain ⟨_,_,_,_,h,_⟩:=h;exact ⟨_,h⟩
theorem Rz.rp (h:Rz B F r c t vs ps vl p vq w):r≠p:=fun e=>by
 obtain ⟨cs,hp⟩:=UX h.pr;have:=h.row;rw [e,hp] at this;injection this with this;injection this with _ h2 _;exact absurd h2 (by decide)
theorem Rz.vr (h:Rz B F r c t vs ps vl p vq w):vs.ownBlock≠some r/\vl.ownBlock≠some r/\vq.ownBlock≠some r:=⟨h.so.apart h.row (by decide),h.lv.apart h.row (by decide),h.sp.apart h.row (by decide)⟩
theorem Rz.vp (h:Rz B F r c t vs ps vl p vq w):vs.ownBlock≠some p/\vl.ownBlock≠some p/\vq.ownBlock≠some p:=by
 obtain ⟨cs,hp⟩:=UX h.pr;exact ⟨h.so.apart hp (by decide),h.lv.apart hp (by decide),h.sp.apart hp (by decide)⟩
theorem Rz.only (h:Rz B F r c t vs ps vl p vq w) (o:ay F w w'):Rz B (Fx F w w') r c t vs ps vl p vq w':=by
 refine ⟨(o.block r h.Ri h.nr).trans h.row,aG h.so (fun k e=>h.nv k (.inl e)) o,h.sl,fun i hi=>?_,h.Yy,aG h.lv (fun k e=>h.nv k (.inr (.inl e))) o,h.pr.only o h.np,aG h.sp (fun k e=>h.nv k (.inr (.inr e))) o,h.lo,Fx.not h.nr h.Ri,Fx.not h.np h.plt,fun k e=>Fx.not (h.nv k e) (h.Yx k e).2,Fx.low h.low o.size⟩;refine dY (Fs.Rs.only (h.st i hi) (o.mono fun k _ g=>.inl (.inl g))) fun k hk g=>?_
 rcases g with (g | g) | g
 ·rcases g with g | g
  ·exact .inl (.inl (.inl g))
  ·exact .inr g
 ·exact .inl (.inl (.inr g))
 ·exact .inl (.inr g)
theorem Rz.below (h:Rz B F r c t vs ps vl p vq w) (b:Below w.heap.size w w'):Rz B F r c t vs ps vl p vq w' :=
 ⟨(b.block r h.Ri).trans h.row,h.so.keep b,h.sl,fun i hi=>Fs.Rs.below (h.st i hi) b,h.Yy,h.lv.keep b,h.pr.below b,h.sp.keep b,h.lo,h.nr,h.np,h.nv,fun k g=>cd (h.low k g) b.size⟩
variable {i t':Nat}
theorem Rz.yN (h:Rz B F r c t vs ps vl p vq w) (hi:i < ps.length) (o:ay G w w') (hG:∀ k,G k->AV (Gz F r p vl) vs.ownBlock ps i k):Rs w' (ps.getD i 0) (AV (Gz F r p vl) vs.ownBlock ps i) (aN c.S i).1 (aN c.S i).2 :=
 dY (Fs.Rs.only (h.st i hi) (o.mono fun k _ g=>hG k g)) fun _ _ g=>.inl g
theorem Rz.Dz (h:Rz B F r c t vs ps vl p vq w) (hi:i < ps.length):¬ AV (Gz F r p vl) vs.ownBlock ps i (ps.getD i 0):=by obtain ⟨_,_,hh,_⟩:=h.st i hi;exact hh.off
theorem Rz.pair (h:Rz B F r c t vs ps vl p vq w) {P:Wt.A} (o:ay (fun k=>k=p) w w') (hp:Pf w' p P t'):Rz B F r { c with P:=P } t' vs ps vl p vq w' :=
 ⟨(o.block r h.Ri h.rp).trans h.row,aG h.so (fun k e g=>h.vp.1 (by rw [e,g])) o,h.sl,fun i hi=>h.yN hi o (fun k g=>.inl (.inr (.inr (.inl g)))),h.Yy,aG h.lv (fun k e g=>h.vp.2.1 (by rw [e,g])) o,hp,aG h.sp (fun k e g=>h.vp.2.2 (by rw [e,g])) o,h.lo,h.nr,h.np,h.nv,fun k g=>cd (h.low k g) o.size⟩
theorem Rz.cell (h:Rz B F r c t vs ps vl p vq w) (k:Nat) (u:Value) {c':Cs} {vq':Value} (hrow:(#[vs,vl,.pointer (some ⟨p,0,none⟩),.int .i64 c.pl,vq]:Array Value).setIfInBounds k u=#[vs,vl,.pointer (some ⟨p,0,none⟩),.int .i64 c'.pl,vq']) (hS:c'.S=c.S) (hV:c'.V=c.V) (hP:c'.P=c.P) (hq:Ow K2 w B 95 vq' c'.Q) (hn:∀ k,vq'.ownBlock=some k->¬ F k):Rz B F r c' t vs ps vl p vq' (w.setCell ⟨r,k,none⟩ u):=by
 have o:=ay.set (fun k=>k=r) w (a:=⟨r,k,none⟩) rfl u;have rw_:=Rw.aB (j:=k) h.row u;rw [hrow] at rw_;refine ⟨rw_,aG h.so (fun k e g=>h.vr.1 (by rw [e,g])) o,by rw [hS];exact h.sl,fun i hi=>by rw [hS];exact h.yN hi o (fun k g=>.inl (.inr (.inl g))),h.Yy,by rw [hV];exact aG h.lv (fun k e g=>h.vr.2.1 (by rw [e,g])) o,by rw [hP];exact h.pr.only o h.rp.symm,aG hq (fun k e g=>hq.apart h.row (by decide) (by rw [e,g])) o,h.lo,h.nr,h.np,fun k g=>?_,fun k g=>cd (h.low k g) o.size⟩
 rcases g with g | g | g
 ·exact h.nv k (.inl g)
 ·exact h.nv k (.inr (.inl g))
 ·exact hn k g
theorem Rz.store (h:Rz B F r c t vs ps vl p vq w) (hi:i < ps.length) {x:aU×Int} (o:ay (fun k=>k=ps.getD i 0) w w') (hs:Rs w' (ps.getD i 0) (AV (Gz F r p vl) vs.ownBlock ps i) x.1 x.2):Rz B F r { c with S:=jh c.S i x } t vs ps vl p vq w':=by
 have off:=h.Dz hi;have hl:i < c.S.length:=by rw [← h.sl];exact hi
 have ne:∀ k,AV (Gz F r p vl) vs.ownBlock ps i k->k≠ps.getD i 0:=fun k g e=>off (e ▸ g);have nq:vq.ownBlock≠some (ps.getD i 0):=by
  obtain ⟨_,_,hh,_⟩:=h.st i hi;exact h.sp.apart hh.row (by decide)
 refine ⟨(o.block r h.Ri (ne r (.inl (.inr (.inl rfl))))).trans h.row,aG h.so (fun k e g=>ne k (.inr (.inl e)) g) o,by show ps.length=(jh c.S i x).length;rw [h.sl];exact List.length_set.symm,fun j hj=>?_,h.Yy,aG h.lv (fun k e g=>ne k (.inl (.inr (.inr (.inr e)))) g) o,h.pr.only o (fun g=>ne p (.inl (.inr (.inr (.inl rfl)))) g),aG h.sp (fun k e g=>nq (by rw [e,g])) o,h.lo,h.nr,h.np,h.nv,fun k g=>cd (h.low k g) o.size⟩
 show Rs w' _ _ (aN (jh c.S i x) j).1 (aN (jh c.S i x) j).2
 rw [DF (by omega) (by omega)]
 by_cases e:j=i
 ·subst e
  rw [aw rfl];exact hs
 ·rw [am (by omega)]
  exact h.yN hj o fun k g=>.inr (.inr ⟨i,hi,fun q=>e q.symm,g.symm⟩)
theorem Rz.stores (h:Rz B F r c t vs ps vl p vq w) {S':bX} {v':Value} {ps':List Nat} {w0:World} (hB:B<=w0.heap.size) (hn:PR 51 w0 (Gz F r p vl) S' S'.length v' ps' w) (hF:∀ k,F k->k < w0.heap.size):Rz B F r { c with S:=S' } t v' ps' vl p vq (w.setCell ⟨r,0,none⟩ v'):=by
 have o:=ay.set (fun k=>k=r) w (a:=⟨r,0,none⟩) rfl v';have rw_:=Rw.aB (j:=0) h.row v';have ap:=hn.own.apart h.row (by decide);refine ⟨rw_,(aG hn.own (fun k e g=>ap (by rw [e,g])) o).low hB,hn.len,fun i hi=>?_,fun i hi=>cE hB (hn.lo i (by rw [← hn.len];exact hi)),aG h.lv (fun k e g=>h.vr.2.1 (by rw [e,g])) o,h.pr.only o h.rp.symm,aG h.sp (fun k e g=>h.vr.2.2 (by rw [e,g])) o,h.lo,h.nr,h.np,fun k g=>?_,fun k g=>cd (h.low k g) o.size⟩
 ·exact dY (Fs.Rs.only (hn.each i (by rw [← hn.len];exact hi)) (o.mono fun k _ g=>.inl (.inr (.inl g)))) fun _ _ g=>.inl g
 ·rcases g with g | g | g
  ·intro q
   have:=(ci hn.own k g).1;have:=hF k q
   omega
  ·exact h.nv k (.inr (.inl g))
  ·exact h.nv k (.inr (.inr g))
theorem Rz.cells (h:Rz B F r c t vs ps vl p vq w):w.cell? ⟨r,0,none⟩=some vs/\w.cell? ⟨r,1,none⟩=some vl/\w.cell? ⟨r,2,none⟩=some (.pointer (some ⟨p,0,none⟩))/\w.cell? ⟨r,3,none⟩=some (.int .i64 c.pl)/\w.cell? ⟨r,4,none⟩=some vq:=⟨ah h.row 0,ah h.row 1,ah h.row 2,ah h.row 3,ah h.row 4⟩
theorem Rz.Xg (h:Rz B F r c t vs ps vl p vq w) (k:Nat):w.frozen? ⟨r,k,none⟩=false:=aj h.row k
theorem Rz.rff (h:Rz B F r c t vs ps vl p vq w):RfF w (Gz F r p vl) vs c.S:=⟨ps,h.so.rd,h.sl,fun i hi=>dY (h.st i (by rw [h.sl];exact hi)) fun _ _ g=>.inl g⟩
theorem Rz.Wo (h:Rz B F r c t vs ps vl p vq w):∀ k,Gz F r p vl k->k < w.heap.size:=fun k g=>by
 rcases g with g | g | g | g
 ·exact h.low k g
 ·rw [g];exact h.Ri
 ·rw [g];exact h.plt
 ·exact (h.Yx k (.inr (.inl g))).2
theorem Rz.WV (h:Rz B F r c t vs ps vl p vq w) (i:Nat):∀ k,AV (Gz F r p vl) vs.ownBlock ps i k->k < w.heap.size:=fun k g=>by
 rcases g with g | g | ⟨m,hm,_,rfl⟩
 ·exact h.Wo k g
 ·exact (h.Yx k (.inl g)).2
 ·exact Jp (h.st m hm)
def lD (B:Nat) (F:Nat->Prop) (k:Nat):Prop:=B<=k/\¬ F k
theorem Rz.mine (h:Rz B F r c t vs ps vl p vq w):lD B F r/\lD B F p/\(∀ i,i < ps.length->lD B F (ps.getD i 0))/\∀ k,vl.ownBlock=some k->lD B F k :=
 ⟨⟨h.lo.1,h.nr⟩,⟨h.lo.2,h.np⟩,fun i hi=>⟨h.Yy i hi,fun g=>h.Dz hi (.inl (.inl g))⟩,fun k e=>⟨(h.Yx k (.inr (.inl e))).1,h.nv k (.inr (.inl e))⟩⟩
end
end Cu
namespace Ro
open Fl (kL bD aC aM)
theorem kG (w:World) (v:R4) (hv:bQ v):Calls prog 91 #[aH v] w fun e w'=>e = .returned (.tuple #[fM (qM v),.int .i64 (qK v)])/\Below w.heap.size w w':=by
 obtain ⟨a,s,f,r⟩:=v;obtain ⟨⟨a0,a1⟩,⟨s0,s1⟩,⟨f0,f1⟩,r0,r1⟩:=hv;simp only at a0 a1 s0 s1 f0 f1 r0 r1;have q1:a.tdiv 64=a / 64:=df a0;have q2:a.tmod 64=a % 64:=dk a0;have B0:=Hh ((((aa w.heap.size w).alloc (ac _) (.cells #[.int .u8 a,.int .u8 s,.int .u8 f,.int .u8 r] 42)).alloc (by simp) (.cells #[.int .i64 0,.int .i64 0,.int .i64 0,.int .i64 0,.int .i64 0] 170)).alloc (by simp;omega) (.cells #[.int .i64 (a % 64),.int .i64 s,.int .i64 f,.int .i64 r,.int .i64 (a / 64)] 170));have GA:=Hh (bP (((w.alloc (.cells #[.int .u8 a,.int .u8 s,.int .u8 f,.int .u8 r] 42)).alloc (.cells #[.int .i64 0,.int .i64 0,.int .i64 0,.int .i64 0,.int .i64 0] 170)).alloc (.cells #[.int .i64 (a % 64),.int .i64 s,.int .i64 f,.int .i64 r,.int .i64 (a / 64)] 170)) (eF (a,s,f,r)));have g0:0<=a / 64:=by omega
 have g1:a / 64<=3:=by omega
 have g2:0<=a % 64:=by omega
 have g3:a % 64<=63:=by omega
 unfold fM at GA
 by_cases hg:fZ (eF (a,s,f,r))
 ·rw [og hg] at GA
  have EP:Hid (qM (a,s,f,r)=(a % 64,s,f,r,a / 64)):=Hh (aw hg);have EN:Hid (qK (a,s,f,r)=0):=Hh (aw hg);clear hg;simp only [eF] at GA;generalize a / 64=y1 at *;generalize a % 64=y2 at *;unfold aH
  go_enter func91,ntmps91
  go_wp2_with fail;refine GA.mono ?_;rintro e w1 ⟨rfl,b1⟩;have B1:=aW B0 b1;have c0:w1.cell? ⟨w.heap.size+2,0,none⟩=some (.int .i64 y2):=(b1.cell (by simp)).trans (by go_simp);have c1:w1.cell? ⟨w.heap.size+2,1,none⟩=some (.int .i64 s):=(b1.cell (by simp)).trans (by go_simp);have c2:w1.cell? ⟨w.heap.size+2,2,none⟩=some (.int .i64 f):=(b1.cell (by simp)).trans (by go_simp);have c3:w1.cell? ⟨w.heap.size+2,3,none⟩=some (.int .i64 r):=(b1.cell (by simp)).trans (by go_simp);have c4:w1.cell? ⟨w.heap.size+2,4,none⟩=some (.int .i64 y1):=(b1.cell (by simp)).trans (by go_simp);have k0:w1.cell? ⟨w.heap.size+1,0,none⟩=some (.int .i64 0):=(b1.cell (by simp)).trans (by go_simp);have k1:w1.cell? ⟨w.heap.size+1,1,none⟩=some (.int .i64 0):=(b1.cell (by simp)).trans (by go_simp);have k2:w1.cell? ⟨w.heap.size+1,2,none⟩=some (.int .i64 0):=(b1.cell (by simp)).trans (by go_simp);have k3:w1.cell? ⟨w.heap.size+1,3,none⟩=some (.int .i64 0):=(b1.cell (by simp)).trans (by go_simp);have k4:w1.cell? ⟨w.heap.size+1,4,none⟩=some (.int .i64 0):=(b1.cell (by simp)).trans (by go_simp);have m0:w1.frozen? ⟨w.heap.size+1,0,none⟩=false:=(b1.frozen (by simp)).trans (by go_simp);have m1:w1.frozen? ⟨w.heap.size+1,1,none⟩=false:=(b1.frozen (by simp)).trans (by go_simp);have m2:w1.frozen? ⟨w.heap.size+1,2,none⟩=false:=(b1.frozen (by simp)).trans (by go_simp);have m3:w1.frozen? ⟨w.heap.size+1,3,none⟩=false:=(b1.frozen (by simp)).trans (by go_simp);have m4:w1.frozen? ⟨w.heap.size+1,4,none⟩=false:=(b1.frozen (by simp)).trans (by go_simp);clear b1 GA B0;go_wp2
  (try simp only [Exit.inBlock,Exit.then])
  refine bp (v:=.tuple #[.agg #[.int .i64 y2,.int .i64 s,.int .i64 f,.int .i64 r,.int .i64 y1],.int .i64 0]) ?_ rfl ⟨by rw [EP.out,EN.out];rfl,?_⟩
  ·rw [results_cell_tmp rfl];go_simp;try rfl
  ·exact ((((B1.setCell (by simp) _).setCell (by simp) _).setCell (by simp) _).setCell (by simp) _).setCell (by simp) _
 ·rw [Ht hg] at GA
  have EP:Hid (qM (a,s,f,r)=z5):=Hh (am hg);have EN:Hid (qK (a,s,f,r)=2):=Hh (am hg);clear hg;simp only [eF] at GA;generalize a / 64=y1 at *;generalize a % 64=y2 at *;unfold aH
  go_enter func91,ntmps91
  go_wp2_with fail;refine GA.mono ?_;rintro e w1 ⟨rfl,b1⟩;have B1:=aW B0 b1;have k0:w1.cell? ⟨w.heap.size+1,0,none⟩=some (.int .i64 0):=(b1.cell (by simp)).trans (by go_simp);have k1:w1.cell? ⟨w.heap.size+1,1,none⟩=some (.int .i64 0):=(b1.cell (by simp)).trans (by go_simp);have k2:w1.cell? ⟨w.heap.size+1,2,none⟩=some (.int .i64 0):=(b1.cell (by simp)).trans (by go_simp);have k3:w1.cell? ⟨w.heap.size+1,3,none⟩=some (.int .i64 0):=(b1.cell (by simp)).trans (by go_simp);have k4:w1.cell? ⟨w.heap.size+1,4,none⟩=some (.int .i64 0):=(b1.cell (by simp)).trans (by go_simp);have m0:w1.frozen? ⟨w.heap.size+1,0,none⟩=false:=(b1.frozen (by simp)).trans (by go_simp);have m1:w1.frozen? ⟨w.heap.size+1,1,none⟩=false:=(b1.frozen (by simp)).trans (by go_simp);have m2:w1.frozen? ⟨w.heap.size+1,2,none⟩=false:=(b1.frozen (by simp)).trans (by go_simp);have m3:w1.frozen? ⟨w.heap.size+1,3,none⟩=false:=(b1.frozen (by simp)).trans (by go_simp);have m4:w1.frozen? ⟨w.heap.size+1,4,none⟩=false:=(b1.frozen (by simp)).trans (by go_simp);clear b1 GA B0;go_wp2
  (try simp only [Exit.inBlock,Exit.then])
  refine bp (v:=.tuple #[.agg #[.int .i64 0,.int .i64 0,.int .i64 0,.int .i64 0,.int .i64 0],.int .i64 2]) ?_ rfl ⟨by rw [EP.out,EN.out];rfl,?_⟩
  ·rw [results_cell_tmp rfl];go_simp;try rfl
  ·exact ((((B1.setCell (by simp) _).setCell (by simp) _).setCell (by simp) _).setCell (by simp) _).setCell (by simp) _
open Fl (iH aZ wM)
theorem xx (w:World) (p:Int) (v:Value) (l:List R4) (R:Rd K4 w v l) (ok:dF l):Calls prog 66 #[file p v] w (gI w p l):=by
 have B0:=Hh ((aa w.heap.size w).alloc (ac _) (.cells #[.int .i64 p,v] 79));have R0:=Hh (R.below B0);have HE:Hid (kD p l = []/\qI p l=2->∀ w',Below w.heap.size w w'->gI w p l (.returned (.tuple #[.slice none 0 0,.int .i64 2])) w'):=Hh (fun h w' hb=>⟨_,by rw [h.2],by rw [h.1];exact Rw.Ow.nil _ _ _,hb⟩);clear R
 by_cases hg:aO p l
 ·have GA:=Hh (aM (show aZ p l=true from bj hg) (Fl.bP _ p v l R0.out))
  have hl:=hg.2.2.1;have hl2:=hg.2.2.2.1;have HG:=Hh hg;have OK:=Hh ok;clear hg ok;obtain ⟨a,cap,rfl,⟨hc,_⟩,hm,hA⟩:=R0.out;obtain ⟨b,off,rfl,hA⟩:=hA (by omega);have HA:=Hh hA;unfold maxLen at hm;clear hA R0;generalize hn:l.length=n at *;have HN:=Hh hn;clear hn;unfold file at *
  go_enter func66,ntmps66
  go_wp2_with fail;refine GA.mono ?_;rintro e w1 ⟨rfl,b1⟩;have B1:=aW B0 b1;have A1:=Hh (HA.below b1);have c1:w1.cell? ⟨w.heap.size,1,none⟩=some (.slice (some ⟨b,off,none⟩) n cap):=(b1.cell (by simp)).trans (by go_simp);clear b1 GA B0 HA;have HS:Hid (mz (l.drop 1)=none->∀ w',Below w.heap.size w w'->gI w p l (.returned (.tuple #[.slice none 0 0,.int .i64 2])) w'):=Hh (fun h=>HE (Jm h));have HT:Hid (∀ L,mz (l.drop 1)=some L->Lt w p l L):=Hh (fun L h=>OI HG h);have KR:=Hh OK;have LR:Hid ((l.drop 1).length=n - 1):=Hh (by rw [eQ,HN.out]);have HD:Hid (∀ k,1<=k->k < n->bD l k=bD (l.drop 1) (k - 1)):=Hh (fun k h1 h2=>by unfold bD;simp only [af,List.getElem?_drop];rw [show 1+(k - 1)=k by omega]);have C1:=Hh c1;have O0:=Hh (Rw.Ow.made (K:=K5) w1 w1.heap.size 170 (ac _));have B00:=Hh ((aa w1.heap.size w1).alloc (ac _) (.cells #[] 170));clear HE HG OK c1;generalize l.drop 1=r at *;go_wp2;generalize w1.alloc (.cells #[] 170)=W at *;generalize Value.slice (some ⟨w1.heap.size,0,none⟩) 0 0=u0 at *
  go_loopw [5,4] (fun i u wr=>∃ (k:Nat) (L:List E5),1<=k/\k<=n/\i = .int .i64 k/\Hid (Me w1 r (k - 1) u L wr)) (fun i _ _=>n - (intOf i).toNat)
  case atStart=>exact ⟨1,[],ac _,hl,rfl,Hh ⟨O0,A7 r,B00⟩⟩
  case round =>
   obtain ⟨k,L,hk1,hk,rfl,RR⟩:=hrel;have c1:=iI RR.aI C1;obtain ⟨av,cv,ev,hcv,hmv⟩:=RR.own.slice;generalize L.length=Ln at ev hcv;subst ev
   by_cases hlt:k < n
   ·obtain ⟨c0,c1',c2,c3⟩:=wM (A1.below RR.aI) k (by rw [HN.out];exact hlt)
    have kv:=iH KR k;have hkr:k - 1 < r.length:=by rw [LR.out];omega
    have hd:=HD.out k hk1 hlt;have TA:=Hh (fun w=>kG w (bD l k) kv);have Q1:Hid (¬ fZ (eF (bD l k))->mz r=none):=Hh (by rw [hd];exact Ga RR.out.red hkr);have Q2:Hid (fZ (eF (bD l k))->(eF (bD l k)).1=4->mz r=some L):=Hh (by rw [hd];exact JF RR.out.red hkr);have Q3:Hid (fZ (eF (bD l k))->(eF (bD l k)).1≠4->Read r (k - 1+1) (L ++ [eF (bD l k)])):=Hh (by rw [hd];exact Cr RR.out.red hkr);clear kv hkr hd
    by_cases h1:fZ (eF (bD l k))
    ·have e1:qM (bD l k)=eF (bD l k):=aw h1
     have e2:qK (bD l k)=0:=aw h1;rw [e1,e2] at TA;have P2:=Hh (Q2 h1);have P3:=Hh (Q3 h1);clear e1 e2 Q1 Q2 Q3 h1;unfold fM aH at TA;generalize eF (bD l k)=x at *;generalize bD l k=y at *
     by_cases h4:x.1=4
     ·have TE:=Hh (HT L (P2 h4))
      clear P2 P3 HS HT;go_wp2_with fail;refine (TA _).mono ?_;rintro e w2 ⟨rfl,b2⟩;have BA:=RR.aI;have B2:=Hh (BA.trans (b2.mono BA.size));have O2:=Hh (RR.own.keep b2);have BW:Hid (∀ o,Below w.heap.size w (w2.alloc o)):=Hh (fun o=>B1.trans ((B2.alloc B2.size o).mono B1.size));have RW:Hid (∀ o,Ow K5 (w2.alloc o) w.heap.size 170 (.slice av Ln cv) L):=Hh (fun o=>(O2.alloc o).low B1.size);clear BA b2 B2 O2 RR c0 c1' c2 c3 TA
      by_cases hm:iY L
      ·have E:=Hh (TE.out.1 hm)
       have IT:=Hh (fun w v R=>aM (show gH L=true from bj hm) (jq w v L R));clear TE hm;go_wp2_with fail;refine (IT _ _ (Rw.Ow.rd (RW _))).mono ?_;rintro e w4 ⟨rfl,b4⟩;have E4:=Hh (E _ _ (Rw.Ow.keep (RW _) b4) (eW (BW _) (b4.mono (Below.size (BW _)))));clear b4 E IT;go_wp2
       go_ret2
       exact E4
      ·have E:=Hh (TE.out.2 hm)
       have IT:=Hh (fun w v R=>aM (show gH L=false from ai hm) (jq w v L R));clear TE hm;go_wp2_with fail;refine (IT _ _ (Rw.Ow.rd (RW _))).mono ?_;rintro e w4 ⟨rfl,b4⟩;have E4:=Hh (E _ (eW (BW _) (b4.mono (Below.size (BW _)))));clear b4 E IT;go_wp2
       go_ret2
       exact E4
     ·have PR:=Hh (P3 h4)
      clear P2 P3 HS HT;go_wp2_with fail;refine (TA _).mono ?_;rintro e w2 ⟨rfl,b2⟩;have BA:=RR.aI;have B2:=Hh (BA.trans (b2.mono BA.size));have O2:=Hh (RR.own.keep b2);have LN:=Hh RR.red.1;have z2:=B2.size;clear BA b2 RR c0 c1' c2 c3 TA
      go_wp2_with (at_builtin;refine Rw.eT underlying126 Vp rfl (by omega) rfl _ _ rfl w1.heap.size _ _ rfl ((O2.out.alloc _).alloc _) _ x rfl ?d1 ?d2 ?d3 ?_)
      case d1 =>
       intro j u hu
       match j,hu with
       | 0,hu=>simp [K5] at hu;subst hu;go_simp
       | 1,hu=>simp [K5] at hu;subst hu;go_simp
       | 2,hu=>simp [K5] at hu;subst hu;go_simp
       | 3,hu=>simp [K5] at hu;subst hu;go_simp
       | 4,hu=>simp [K5] at hu;subst hu;go_simp
       | j+5,hu=>simp [K5] at hu
      case d2=>rw [LN.out];omega
      case d3=>simp;omega
      intro v' w3 o3 b3
      have N3:Hid (Me w1 r (k+1 - 1) v' (L ++ [x]) w3):=Hh ⟨o3,by rw [show k+1 - 1=k - 1+1 by omega];exact PR.out,((B2.out.alloc z2 _).alloc (by simp;omega) _).trans (b3.mono (ac _))⟩;obtain ⟨av',cv',ev',_,_⟩:=o3.slice;generalize (L ++ [x]).length=Ln' at ev';subst ev';clear o3 b3 O2 B2 PR LN;go_wp2
      go_roundw
      case rel=>exact ⟨k+1,L ++ [x],by omega,by omega,by go_num,N3⟩
      case measure=>simp [intOf];omega
    ·have e1:qM (bD l k)=z5:=am h1
     have e2:qK (bD l k)=2:=am h1;rw [e1,e2] at TA;have E:=Hh (HS (Q1 h1));clear e1 e2 Q1 Q2 Q3 h1 HS HT;unfold fM aH at TA;simp only [z5] at TA;generalize bD l k=y at *;go_wp2_with fail;refine (TA _).mono ?_;rintro e w2 ⟨rfl,b2⟩;have BA:=RR.aI;have B2:=Hh (BA.trans (b2.mono BA.size));have O2:=Hh (RR.own.keep b2);have BW:Hid (∀ o,Below w.heap.size w (w2.alloc o)):=Hh (fun o=>B1.trans ((B2.alloc B2.size o).mono B1.size));clear BA b2 B2 O2 RR c0 c1' c2 c3 TA;go_wp2
     go_ret2
     exact E _ (BW _)
   ·obtain rfl:k=n:=by omega
    have TE:=Hh (HT L (Gp (by rw [LR.out];exact RR.out.red)));have BW:=Hh (B1.trans (RR.aI.mono B1.size));have RW:=Hh (RR.own.low B1.size);clear RR HS HT
    by_cases hm:iY L
    ·have E:=Hh (TE.out.1 hm)
     have IT:=Hh (fun w v R=>aM (show gH L=true from bj hm) (jq w v L R));clear TE hm;go_wp2_with fail;refine (IT _ _ (Rw.Ow.rd RW)).mono ?_;rintro e w4 ⟨rfl,b4⟩;have E4:=Hh (E _ _ (Rw.Ow.keep RW b4) (eW BW (b4.mono (Below.size BW))));clear b4 E IT;go_wp2
     go_ret2
     exact E4
    ·have E:=Hh (TE.out.2 hm)
     have IT:=Hh (fun w v R=>aM (show gH L=false from ai hm) (jq w v L R));clear TE hm;go_wp2_with fail;refine (IT.out _ _ (Rw.Ow.rd RW.out)).mono ?_;rintro e w4 ⟨rfl,b4⟩;have E4:=Hh (E.out _ (eW BW.out (b4.mono (Below.size BW.out))));clear b4 E IT;go_wp2
     go_ret2
     exact E4.out
 ·have GA:=Hh (aM (show aZ p l=false from ai hg) (Fl.bP _ p v l R0.out))
  have E:=Hh (HE.out (Pk hg));clear hg HE ok;obtain ⟨a,cap,rfl,_,hm,hA⟩:=R0.out;clear hA R0;generalize l.length=n at *;unfold file at *
  go_enter func66,ntmps66
  go_wp2_with fail;refine GA.mono ?_;rintro e w1 ⟨rfl,b1⟩;have B1:=aW B0 b1;clear b1 GA B0;go_wp2
  go_ret2
  exact E _ B1
end Ro
namespace Cu
open Go.Maps
open Wt (opn jv)
open Ro (xx)
open Ck (sl)
open Re (KI gU gY)
attribute [local irreducible] Sd.bA wpQuiet
theorem qY {α β:Type} {K:Rw.Kind α} {J:Rw.Kind β} {w:World} {B B' E E':Nat} {v v':Value} {l:List α} {l':List β} (h:Ow K w B E v l) (h':Ow J w B' E' v' l') (hE:E≠E'):∀ k,v.ownBlock=some k->v'.ownBlock≠some k:=fun k hk=>by
 obtain ⟨_,h⟩:=h
 rcases h with ⟨rfl,_⟩ | ⟨g,cap,cur,rfl,_,hh,_⟩
 ·simp [Value.ownBlock] at hk
 ·simp only [Value.ownBlock,eC] at hk
  subst hk;exact h'.apart hh hE
structure TB (w0:World) (T:LL) (k:Nat) (v:Value) (hs:List Hd) (wr:World):Prop where
 own:Ow KS wr w0.heap.size 126 v hs
 len:hs.length=k
 each:∀ j,j < k->Ow K5 wr w0.heap.size 170 (sl (hs.getD j zh)) (bZ T j)
 aI:Below w0.heap.size w0 wr
section
variable {w0 wr w':World} {T:LL} {k:Nat} {v v':Value} {hs:List Hd} {c:Hd}
theorem TB.below (h:TB w0 T k v hs wr) (b:Below wr.heap.size wr w'):TB w0 T k v hs w':=⟨h.own.keep b,h.len,fun j hj=>(h.each j hj).keep b,h.aI.trans (b.mono h.aI.size)⟩
theorem TB.push (h:TB w0 T k v hs wr) (hc:Ow K5 wr w0.heap.size 170 (sl c) (bZ T k)) (own:Ow KS w' w0.heap.size 126 v' (hs ++ [c])) (gr:wr.grownBy w' v.ownBlock):TB w0 T (k+1) v' (hs ++ [c]) w':=by
 have oq:=aV gr;refine ⟨own,by rw [cI,h.len];rfl,fun j hj=>?_,h.aI.grown gr h.aI.size fun j e=>(ci h.own j e).1⟩
 by_cases e:j=k
 ·subst e
  have:(hs ++ [c]).getD j zh=c:=by rw [af,fh (by rw [h.len];exact ac _),h.len];simp
  rw [this];exact aG hc (fun k e g=>qY hc h.own (by decide) k e g) oq
 ·have:(hs ++ [c]).getD j zh=hs.getD j zh:=by rw [af,fk (by rw [h.len];omega),af]
  rw [this];exact aG (h.each j (by omega)) (fun k e g=>qY (h.each j (by omega)) h.own (by decide) k e g) oq
theorem TB.rdl (h:TB w0 T T.length v hs wr):kF wr v T:=vN h.own.rd h.len fun i hi=>(h.each i hi).rd
end
theorem QJ (a:Wt.A):opn a = -1\/opn a=0\/opn a=1:=by
 unfold opn Wt.op
 split
 ·exact .inr (.inl rfl)
 ·split
  ·exact .inr (.inr rfl)
  ·exact .inl rfl
def VZ (w:World) (B:Nat) (F:Nat->Prop) (r p:Nat) (vl vq:Value) (c:Cs) (t:Nat) (e:Ending) (w':World):Prop:=∃ vs' ps',e = .returned (.int .i64 (rE c))/\Rz B F r { rC c with Q:=c.Q } (t+1) vs' ps' vl p vq w'/\ay (lD B F) w w'
variable {G G' F:Nat->Prop} {w w':World}
theorem ay.more (h:ay G w w') (hg:∀ k,G k->G' k):ay G' w w':=h.mono fun k _ g=>hg k g
variable {B r t p:Nat} {c:Cs} {vs vl vq:Value} {ps:List Nat}
theorem Dq (h:Rz B F r c t vs ps vl p vq w) (hB:B<=w.heap.size) (ok:jB c t) (ht:t<=1000):Calls prog 38 #[.pointer (some ⟨r,0,none⟩)] w (VZ w B F r p vl vq c t):=by
 have Z:=Hh h;have OK:=Hh ok;have HB:=Hh hB;obtain ⟨c0,c1,c2,c3,c4⟩:=h.cells;have C1:=Hh (Wt.Mk h.pr (by omega));unfold Wt.eH at C1;have FIN:Hid (∀ x vs' ps' w',x=rE c->Rz B F r { rC c with Q:=c.Q } (t+1) vs' ps' vl p vq w'->ay (lD B F) w w'->VZ w B F r p vl vq c t (.returned (.int .i64 x)) w'):=Hh (fun x vs' ps' w' e z o=>⟨vs',ps',by rw [e],z,o⟩);have hpn:=h.sl;clear h ok hB
 rcases QJ c.P with ho | ho
 ·have E0:Hid (0=rE c/\{ rC c with Q:=c.Q } = { c with P:=jv c.P }):=Hh (by
   have hlt:opn c.P < 0:=by omega
   refine ⟨by unfold rE;rw [aw hlt],?_⟩;unfold rC
   rw [aw hlt])
  rw [ho] at C1;clear ho
  go_enter func38,ntmps38
  go_wp2_with fail;refine C1.mono ?_;rintro e w1 ⟨rfl,p1,o1⟩;have E:=Hh (FIN 0 vs ps w1 E0.out.1 (by rw [E0.out.2];exact Z.out.pair o1 p1) (ay.more o1 fun k g=>by rw [g];exact Z.out.mine.2.1));clear FIN C1 o1 p1;go_wp2
  go_ret
  exact E
 ·obtain ⟨b,hb,hb2⟩:∃ b:Nat,opn c.P=b/\b < 2:=by rcases ho with ho | ho;exact ⟨0,ho,by omega⟩;exact ⟨1,ho,by omega⟩
  have hnl:¬ opn c.P < 0:=by omega
  have EO:own c=(aN c.S b).1:=by unfold own;rw [hb]
  have E2:Hid (qF (own c)=false->2=rE c/\{ rC c with Q:=c.Q } = { c with P:=jv c.P }):=Hh (fun h=>by
   refine ⟨by unfold rE;rw [am hnl,h];rfl,?_⟩;unfold rC;rw [am hnl,h]
   rfl)
  have E1:Hid (qF (own c)=true->iG c.S (rT c) c.V=rE c/\{ rC c with Q:=c.Q } = { S:=if iG c.S (rT c) c.V=0 then nQ c.S (rT c) c.V c.Q else c.S,V:=c.V,P:=jv c.P,pl:=qh c (jT (own c)),Q:=c.Q }):=Hh (fun h=>by
   refine ⟨by unfold rE;rw [am hnl,h];rfl,?_⟩;unfold rC;rw [am hnl,h]
   rfl)
  have hbn:b < ps.length:=by have:=OK.out.len;omega
  obtain ⟨g,cap,rfl,hg,hgl,_,_,_,hA⟩:=Z.so.form (by omega);have cb:=TL hA (i:=b) hbn;rw [cQ] at cb;have hs:=Z.st b hbn;have AK:=(OK.st b (by omega)).1;rw [← EO] at hs AK;have HS:=Hh hs;have AKK:=Hh AK;rw [hb] at C1;unfold ptr at cb;clear ho hnl hA hs AK;generalize hps:ps.getD b 0=s at *
  go_enter func38,ntmps38
  go_wp2_with fail;refine C1.mono ?_;rintro e w1 ⟨rfl,p1,o1⟩;have Z1:=Hh (Z.pair o1 p1);have O1:Hid (ay (lD B F) w w1):=Hh (ay.more o1 fun k g=>by rw [g];exact Z.out.mine.2.1);have HB1:Hid (B<=w1.heap.size):=Hh (cE HB o1.size);have gp:g≠p:=fun e=>Z.vp.1 (by rw [← e];rfl);have cb1:=o1.cell cb gp;obtain ⟨d0,d1,d2,d3,d4⟩:=Z1.cells;have CS:=Hh (xQ (by have:=Z1.out.st b hbn;rw [hps] at this;exact this) (show eB (aN c.S b).1 by rw [← EO];exact AKK.out));rw [show (aN ({ c with P:=jv c.P } : Cs).S b).1=own c from EO.symm] at CS;clear c0 c1 c2 c3 c4 cb C1 p1 o1 HS AKK;have hbI:(b:Int) < 2:=by omega
  generalize hpl:ps.length=n at *;go_wp2_with fail;refine CS.mono ?_;rintro e w2 ⟨u,rfl,ru,b2⟩;have Z2:=Hh (Z1.below b2);have O2:=Hh (O1.then b2);have HB2:Hid (B<=w2.heap.size):=Hh (cE HB1 b2.size);have U2:=Hh ru;obtain ⟨ua,uc,rfl,_,_⟩:=U2.slice;clear ru b2 CS cb1 d0 d1 d2 d3 d4 Z1 O1
  cases hq:qF (own c) with
  | false =>
    have E:=Hh (FIN 2 _ ps w2 (E2 hq).1 (by rw [(E2.out hq).2];exact Z2.out) O2.out);clear FIN E1 E2 hq U2 Z2 O2 HB2;generalize (jT (own c)).length=ln at *;go_wp2
    go_ret
    exact E
  | true =>
    have SQ:=Ex hq;have G1:=Hh (fun x vs' ps' w' (e:x=iG c.S (rT c) c.V) z o=>FIN x vs' ps' w' (e.trans (E1 hq).1) (by rw [(E1.out hq).2];exact z) o);have RT:Hid (rT c=OR c.S (gU (jT (own c)) (lH c (jT (own c))))):=Hh rfl;clear FIN E1 E2 hq EO;generalize jT (own c)=l at *;obtain ⟨⟨sq1,sq2⟩,sq3⟩:=SQ;obtain ⟨d0,d1,d2,d3,d4⟩:=Z2.cells;have f3:=Z2.Xg 3;have hp:c.pl<=64:=OK.pl;generalize hln:l.length=ln at *;have HLN:=Hh hln
    go_upto_if 41 with fail
    go_cut [2] from 41 to 124 (fun z wx=>Value.int .i64 0=z/\Hid (Rz B F r { c with P:=jv c.P,pl:=lH c l } (t+1) (.slice (some ⟨g,0,none⟩) n cap) ps vl p vq wx/\Ow KI wx w1.heap.size 3 (.slice ua ln uc) l/\ay (lD B F) w wx/\B<=wx.heap.size))
    case first =>
     by_cases hlt:ln<=c.pl
     ·have e0:lH c l=0:=by unfold lH;rw [aw (by omega)]
      have Z3:=Hh (Z2.cell (c':={ c with P:=jv c.P,pl:=lH c l }) (vq':=vq) 3 (.int .i64 0) (by rw [e0];rfl) rfl rfl rfl Z2.out.sp fun k e=>Z2.out.nv k (.inr (.inr e)));have hI:(ln:Int)<=(c.pl:Int):=by omega
      have REL:=Hh (db Z3 (db (U2.far (p:=⟨r,3,none⟩) Z2.row (by decide) (.int .i64 0)) (db (O2.out.trans (ay.set (fun k=>k=r) w2 (a:=⟨r,3,none⟩) rfl (.int .i64 0)) fun k _ g=>by rw [g];exact Z2.out.mine.1) (show B<=(w2.setCell ⟨r,3,none⟩ (.int .i64 0)).heap.size by simp [World.setCell];exact HB2.out))));clear Z3 Z2 U2 O2 HB2 G1 RT e0;go_wp2
      go_meet
      exact ⟨rfl,REL⟩
     ·have e0:lH c l=c.pl:=by unfold lH;rw [am (by omega)]
      have hI:¬ (ln:Int)<=(c.pl:Int):=by omega
      have REL:Hid (Rz B F r { c with P:=jv c.P,pl:=lH c l } (t+1) (.slice (some ⟨g,0,none⟩) n cap) ps vl p vq w2/\Ow KI w2 w1.heap.size 3 (.slice ua ln uc) l/\ay (lD B F) w w2/\B<=w2.heap.size):=Hh ⟨by rw [e0];exact Z2.out,U2.out,O2.out,HB2.out⟩;clear Z2 U2 O2 HB2 G1 RT e0;go_wp2
      go_meet
      exact ⟨rfl,REL⟩
    case rest =>
     obtain ⟨e1,XX⟩:=hcut;subst e1;clear d0 d1 d2 d3 d4 f3 Z2 U2 O2 HB2;have A0:lH c l < ln:=by unfold lH;split <;> omega
     have A1:qh c l=if lH c l+1=ln then 0 else lH c l+1:=by unfold qh;rw [hln]
     generalize lH c l=a0 at *;have W1:IntKind.i64.wrap ((a0:Int)+1)=(a0:Int)+1:=cG _ (by omega);obtain ⟨gu,cu,e,_,_,_,_,_,hU⟩:=XX.out.2.1.form (by omega);injection e with e1 e2 e3;subst e1 e3;have cu0:=Re.qh hU (i:=a0) (by omega);rw [cQ] at cu0;obtain ⟨d0,d1,d2,d3,d4⟩:=XX.out.1.cells;have f3:=XX.out.1.Xg 3;clear hU e2;have Z3:=Hh (XX.out.1.cell (c':={ c with P:=jv c.P,pl:=a0+1 }) (vq':=vq) 3 (.int .i64 ((a0:Int)+1)) rfl rfl rfl rfl XX.out.1.sp fun k e=>XX.out.1.nv k (.inr (.inr e)));have O3:Hid (ay (lD B F) w (wc.setCell ⟨r,3,none⟩ (.int .i64 ((a0:Int)+1)))):=Hh (XX.out.2.2.1.trans (ay.set (fun k=>k=r) wc (a:=⟨r,3,none⟩) rfl (.int .i64 ((a0:Int)+1))) fun k _ g=>by rw [g];exact XX.out.1.mine.1);have HB3:Hid (B<=(wc.setCell ⟨r,3,none⟩ (.int .i64 ((a0:Int)+1))).heap.size):=Hh (by simp [World.setCell];exact XX.out.2.2.2);go_upto_region 11 with fail;generalize wc.setCell ⟨r,3,none⟩ (.int .i64 ((a0:Int)+1))=w3 at *;clear d0 d1 d2 d3 d4 f3 XX cu0;obtain ⟨d0,d1,d2,d3,d4⟩:=Z3.cells;have f3:=Z3.Xg 3;have NN:=sq3 a0 (by omega);unfold Re.Bc at NN;generalize hnn:gU l a0=nn at *
     go_upto_if 65 with fail
     go_cut [2] from 65 to 124 (fun z wx=>Value.int .i64 0=z/\Hid (Rz B F r { c with P:=jv c.P,pl:=qh c l } (t+1) (.slice (some ⟨g,0,none⟩) n cap) ps vl p vq wx/\ay (lD B F) w wx/\B<=wx.heap.size))
     case first =>
      by_cases hlt:a0+1=ln
      ·have e0:qh c l=0:=by rw [A1,aw hlt]
       have Z4:=Hh (Z3.cell (c':={ c with P:=jv c.P,pl:=qh c l }) (vq':=vq) 3 (.int .i64 0) (by rw [e0];rfl) rfl rfl rfl Z3.out.sp fun k e=>Z3.out.nv k (.inr (.inr e)));have q1:((a0:Int)+1 == (ln:Int))=true:=ic.2 (by omega);have q2:decide ((a0:Int)+1=(ln:Int))=true:=bj (by omega);have REL:=Hh (db Z4 (db (O3.trans (ay.set (fun k=>k=r) w3 (a:=⟨r,3,none⟩) rfl (.int .i64 0)) fun k _ g=>by rw [g];exact Z3.out.mine.1) (show B<=(w3.setCell ⟨r,3,none⟩ (.int .i64 0)).heap.size by simp [World.setCell];exact HB3.out)));clear Z4 Z3 O3 HB3 G1 RT e0 A1 hlt hnn;go_wp2
       go_meet
       exact ⟨rfl,REL⟩
      ·have e0:qh c l=a0+1:=by rw [A1,am hlt]
       have q1:((a0:Int)+1 == (ln:Int))=false:=cx.2 (by omega);have q2:decide ((a0:Int)+1=(ln:Int))=false:=ai (by omega);have REL:Hid (Rz B F r { c with P:=jv c.P,pl:=qh c l } (t+1) (.slice (some ⟨g,0,none⟩) n cap) ps vl p vq w3/\ay (lD B F) w w3/\B<=w3.heap.size):=Hh ⟨by rw [e0];exact Z3.out,O3.out,HB3.out⟩;clear Z3 O3 HB3 G1 RT e0 A1 hlt hnn;go_wp2
       go_meet
       exact ⟨rfl,REL⟩
     case rest =>
      obtain ⟨e1,XX⟩:=hcut;subst e1;clear d0 d1 d2 d3 d4 f3 Z3 O3 HB3 A1 A0;generalize wc=wB at *;have Z4:=Hh XX.out.1;have O4:=Hh XX.out.2.1;have HB4:=Hh XX.out.2.2;have hnS:n=c.S.length:=by omega
      have hn32:n<=32:=by have:=OK.out.len;omega
      have LT:Hid (∀ k:Nat,k < n->bZ (rT c) k=kD (fP (aN c.S k).1 (32+nn)) (fR (aN c.S k).1 (32+nn))):=Hh (fun k hk=>by rw [RT.out];exact Vw _ _ (by omega));have LL:Hid ((rT c).length=n):=Hh (by rw [RT.out,DW];omega);have W2:IntKind.i64.wrap (32+nn)=32+nn:=cG _ (by omega);have T0:Hid (TB wB (rT c) 0 (.slice (some ⟨wB.heap.size,0,none⟩) 0 0) [] (wB.alloc (.cells #[] 126))):=Hh ⟨Rw.Ow.made _ _ _ (ac _),rfl,fun j hj=>by omega,(aa _ _).alloc (ac _) _⟩;have OKA:Hid (∀ k:Nat,k < n->eB (aN c.S k).1):=Hh (fun k hk=>(OK.st k (by omega)).1);clear XX RT hnn;generalize rT c=T at *;go_upto_region 14 with fail;generalize wB.alloc (.cells #[] 126)=w4 at *;generalize wB.heap.size=gB at T0 ⊢;go_wp2
      go_loopw [8,7] (fun i o wr=>∃ (k:Nat) (hs:List Hd),k<=n/\i = .int .i64 k/\Hid (TB wB T k o hs wr)) (fun i _ _=>n - (intOf i).toNat)
      case atStart=>exact ⟨0,[],cg _,rfl,T0⟩
      case round =>
       clear T0;obtain ⟨k,hs,hk,rfl,I⟩:=hrel;have Z5:=Hh (Z4.below I.aI);obtain ⟨av,cv,ev,_⟩:=I.own.slice;generalize hLp:hs.length=Lp at ev;subst ev;obtain ⟨d0,d1,d2,d3,d4⟩:=Z5.cells
       by_cases hlt:k < n
       ·obtain ⟨g',cap',e,_,_,_,_,_,hA⟩:=Z5.so.form (by omega)
        injection e with e1 e2 e3;injection e1 with e1;injection e1 with e1;subst e1 e3;have ck:=TL hA (i:=k) (by omega);rw [cQ] at ck;have C6:Hid (Calls prog 27 #[.pointer (some ⟨ps.getD k 0,0,none⟩),.int .i64 (32+nn)] wr (mg wr (aN c.S k).1 (32+nn))):=Hh (mh (Z5.st k (by omega)) (32+nn));have OF:=Hh (Jb (OKA k hlt) (32+nn));have LTk:=Hh (LT k hlt);unfold mg at C6;unfold ptr at ck;clear hA e2;generalize ps.getD k 0=sk at *;generalize fP (aN c.S k).1 (32+nn)=fp at *;generalize fB (aN c.S k).1 (32+nn)=fb at *;generalize fR (aN c.S k).1 (32+nn)=fr at *;go_wp2_with fail;refine C6.mono ?_;rintro e w5 ⟨v5,rfl,r5,b5⟩;have R5:=Hh r5;obtain ⟨a5,c5,rfl,_⟩:=R5.slice;have BA:=Hh (b5.alloc b5.size (.cells #[.int .i64 fp,.slice a5 fr.length c5] 79));have C7:=Hh (xx (w5.alloc (.cells #[.int .i64 fp,.slice a5 fr.length c5] 79)) fp _ fr (R5.below ((aa w5.heap.size w5).alloc (ac _) _)) OF);unfold gI at C7;clear r5 b5 C6 R5 OF d0 d1 d2 d3 d4 ck;unfold file at *;generalize fr.length=n5 at *;generalize qI fp fr=tn at *;rw [← LTk.out] at C7;generalize hlk:(bZ T k).length=lk at *;have hz:=I.aI.size;go_wp2_with fail;refine C7.mono ?_;rintro e w6 ⟨u6,rfl,o6,b6⟩;have B6:=aW BA b6;have U6:=Hh (o6.low (cE hz BA.size));obtain ⟨a6,c6,e6,_,_⟩:=U6.slice;rw [hlk] at e6;subst e6;have I6:=Hh ((I.below B6).below ((aa w6.heap.size w6).alloc (ac _) (.cells #[.slice a6 lk c6] 126)));have U7:=Hh (U6.keep ((aa w6.heap.size w6).alloc (ac _) (.cells #[.slice a6 lk c6] 126)));clear o6 b6 C7 BA B6 U6 I hz
        go_wp2_with (at_builtin;refine dx (K:=KS) underlying125 zD rfl (by omega) rfl _ _ rfl wB.heap.size _ _ rfl I6.out.own _ (a6,lk,c6) rfl ?d1 ?d2 ?d3 ?_)
        case d1 =>
         intro j u hu
         match j,hu with
         | 0,hu=>simp [KS] at hu;subst hu;unfold sl;go_simp
         | j+1,hu=>simp [KS] at hu
        case d2=>rw [hLp];have:=I6.out.len;omega
        case d3=>have:=I6.aI.size;exact this
        intro v' w7 o7 g7 h7
        have NEW:=Hh (I6.push (c:=(a6,lk,c6)) U7 o7 (by simpa using g7));clear o7 g7 h7 I6 U7;obtain ⟨av',cv',ev',_⟩:=NEW.own.slice;generalize (hs ++ [(a6,lk,c6)]).length=Lp' at ev';subst ev';go_wp2
        go_roundw
        case rel=>exact ⟨k+1,hs ++ [(a6,lk,c6)],by omega,by go_num,NEW⟩
        case measure=>simp [intOf];omega
       ·obtain rfl:k=n:=by omega
        have TT:=Hh (TB.rdl (by rw [LL.out];exact I.out));have ZL:=Hh (Z5.rff);have GZ:=Hh (Z5.Wo);have DV:Hid (∀ i:Nat,i < c.S.length->0<=(aN c.S i).2/\(aN c.S i).2 < 900000):=Hh (fun i hi=>by have:=OK.out.st i hi;exact ⟨this.2.1,by omega⟩)
        have CR:=Hh (fun W (b:Below wr.heap.size wr W)=>JS (F:=Gz F r p vl) (w:=W) (fun j g=>cd (GZ j g) b.size) (HF:=(by
         obtain ⟨q1,q2,q3,q4⟩:=ZL
         exact ⟨q1,q2.below b,q3,fun i hi=>Fs.Rs.below (q4 i hi) b⟩)) (TT.below b) (Z5.lv.rd.below b) (Z5.sp.rd.below b) DV)
        unfold RrP at CR;have O5:=Hh (O4.then I.aI);have HB5:Hid (B<=wr.heap.size):=Hh (cE HB4 I.aI.size);have LOW:=Hh Z5.low
        have G2:Hid (∀ v9 ps9 w9,Below wr.heap.size wr w9->iG c.S T c.V=0->PR 51 wr.drew (Gz F r p vl) (nQ c.S T c.V c.Q) (nQ c.S T c.V c.Q).length v9 ps9 w9->VZ w B F r p vl vq c t (.returned (.int .i64 0)) (w9.setCell ⟨r,0,none⟩ v9)):=Hh (fun v9 ps9 w9 b9 e pr=>by
         have z:=(Z5.below b9).stores (w0:=wr.drew) (show B<=wr.drew.heap.size from HB5) pr (fun k g=>show k < wr.drew.heap.size from LOW k g)
         exact G1 0 v9 ps9 _ e.symm (by rw [aw e];exact z) ((O5.out.then b9).trans (ay.set (fun k=>k=r) w9 (a:=⟨r,0,none⟩) rfl v9) fun k _ g=>by rw [g];exact Z5.out.mine.1))
        have G3:Hid (∀ w9,Below wr.heap.size wr w9->¬ iG c.S T c.V=0->VZ w B F r p vl vq c t (.returned (.int .i64 (iG c.S T c.V))) w9):=Hh (fun w9 b9 e=>G1 _ _ ps w9 rfl (by rw [am e];exact Z5.out.below b9) (O5.out.then b9));have CF:=Hh (fun w9 (b9:Below wr.heap.size wr w9)=>db (Z5.below b9).cells.1 ((Z5.below b9).Xg 0));clear hpn hnS;go_upto_region 20 with fail;have l0:=bo _ _ d0;have l1:=bo _ _ d1;have l4:=bo _ _ d4;have D0:=Hh d0;have D1:=Hh d1;have D4:=Hh d4;clear d0 d1 d2 d3 d4;have s0:=Sc.aA (C:=fun W=>Below wr.heap.size wr W) (a:=⟨r,0,none⟩) (fun W' h=>(h.cell l0).trans D0);have s1:=Sc.aA (C:=fun W=>Below wr.heap.size wr W) (a:=⟨r,1,none⟩) (fun W' h=>(h.cell l1).trans D1);have s4:=Sc.aA (C:=fun W=>Below wr.heap.size wr W) (a:=⟨r,4,none⟩) (fun W' h=>(h.cell l4).trans D4);have BD:=Hh ((aa wr.heap.size wr).drew);have ne:Nonempty (Sc.In (fun W=>Below wr.heap.size wr W)):=⟨⟨_,BD⟩⟩;refine Sc.start (fun W=>Below wr.heap.size wr W) [(false,0),(false,1),(false,2),(false,3),(false,4),(false,5),(false,6),(false,7),(false,8),(false,9),(false,10),(false,11),(false,12),(true,13),(false,14),(false,15),(false,16),(false,17),(false,18)] (by kernel_rfl) (by kernel_rfl) (by kernel_rfl) BD ?_;dsimp only [Sd.aP,List.getElem?_cons_succ,List.getElem?_cons_zero]
        iterate 13 (refine Sd.lit ?_;quiet_step (fail);refine bk ?_)
        clear s0 s1 s4;refine Sd.call (by rfl) (fun K hK=>?_);go_simp;refine (CR _ BD).mono ?_;rintro e w9 ⟨v9,ps9,rfl,pr9,b9⟩;have B9:=aW BD b9;refine hK _ _ (Sc.Cl.of B9) ?_;clear hK K;have PR9:=Hh pr9;clear CR b9 pr9
        iterate 5 (refine Sd.lit ?_;quiet_step (fail);refine bk ?_)
        refine Sd.done ?_;clear Z5 I Z4 TT ZL GZ DV O4 HB4 O5 HB5 LOW G1 LT LL OKA BD D0 D1 D4 ne;obtain ⟨x0,x1⟩:=CF w9 B9;clear CF
        by_cases hE:iG c.S T c.V=0
        ·obtain ⟨a9,c9,e9,_,_⟩:=(PR9 hE).own.slice
         have E:=Hh (G2 v9 ps9 w9 B9 hE (PR9 hE));rw [e9] at E ⊢;generalize ps9.length=l9 at *;clear G2 G3 PR9;rw [hE];clear hE;go_wp2
         go_ret
         exact E
        ·have E:=Hh (G3 w9 B9 hE)
         have q1:(iG c.S T c.V == 0)=false:=cx.2 hE;have q2:decide (iG c.S T c.V=0)=false:=ai hE;clear G2 G3 PR9 hE;generalize iG c.S T c.V=E9 at *;go_wp2
         go_ret
         exact E
def oV (w:World) (B:Nat) (F:Nat->Prop) (r p:Nat) (vl:Value) (c:Cs) (t:Nat) (x:Ac) (e:Ending) (w':World):Prop:=∃ vs' ps' vl' vq',vl'.ownBlock=vl.ownBlock/\e = .returned (.int .i64 (bE x c))/\Rz B F r (bK x c) (t+1) vs' ps' vl' p vq' w'/\ay (lD B F) w w'
theorem afn (c:Cs):(rC c).Q = []:=by
 unfold rC
 split
 ·rfl
 ·split <;> rfl
theorem Rv (h:Rz B F r c t vs ps vl p vq w) (hB:B<=w.heap.size) (ok:jB c t) (ht:t<=1000) (x:Ac) (hk:x.k=1):Calls prog 12 #[.pointer (some ⟨r,0,none⟩),eU x] w (oV w B F r p vl c t x):=by
 have B0:=Hh ((aa w.heap.size w).alloc (ac _) (.cells (bH x) 44));have C1:=Hh (Dq (h.below B0) (cE hB B0.size) ok ht);have EE:Hid (bE x c=rE c/\bK x c=rC c):=Hh ⟨aw hk,aw hk⟩
 have FIN:Hid (∀ vs' ps' w',Rz B F r { rC c with Q:=c.Q } (t+1) vs' ps' vl p vq w'->ay (lD B F) w w'->oV w B F r p vl c t x (.returned (.int .i64 (rE c))) (w'.setCell ⟨r,4,none⟩ (.slice none 0 0))):=Hh (fun vs' ps' w' z o=>by
  refine ⟨vs',ps',vl,.slice none 0 0,rfl,by rw [EE.out.1],?_,o.trans (ay.set (fun k=>k=r) w' (a:=⟨r,4,none⟩) rfl _) fun k _ g=>by rw [g];exact z.mine.1⟩;rw [EE.out.2]
  exact z.cell (c':=rC c) 4 (.slice none 0 0) rfl rfl rfl rfl (by rw [afn];exact Rw.Ow.nil _ _ _) (fun k e=>by simp [Value.ownBlock] at e))
 unfold VZ at C1;clear h ok EE;unfold eU bH;unfold bH at B0 C1;obtain ⟨k,n,f,rr,v,s,m,tt⟩:=x;simp only at hk B0 C1 ⊢;subst hk;generalize rE c=re at *;generalize ({ rC c with Q:=c.Q } : Cs)=c' at *
 go_enter func12,ntmps12
 go_wp2_with fail;refine C1.mono ?_;rintro e w1 ⟨vs',ps',rfl,z1,o1⟩;have O1:=Hh ((ay.of_below (G:=lD B F) B0).trans o1 fun k _ g=>g);have E:=Hh (FIN vs' ps' w1 z1 O1);have d4:=z1.cells.2.2.2.2;have f4:=z1.Xg 4;clear FIN C1 z1 o1 O1;go_wp2
 go_ret
 exact E
theorem aas {a:Wt.A} (h:Wt.Pf w p a t):Wt.Pf w p a (t+1):=by
 obtain ⟨s0,s1,n,la,hr,hv⟩:=h;exact ⟨s0,s1,n,la,hr,⟨hv.b0,hv.b1,hv.bl,by have:=hv.bn;omega,hv.e0,hv.e1⟩⟩
theorem Rz.late (h:Rz B F r c t vs ps vl p vq w):Rz B F r c (t+1) vs ps vl p vq w:=⟨h.row,h.so,h.sl,h.st,h.Yy,h.lv,aas h.pr,h.sp,h.lo,h.nr,h.np,h.nv,h.low⟩
theorem nL (h:Rz B F r c t vs ps vl p vq w) (b:Below w.heap.size w w') (x:Ac) {z:Int} (hz:z=bE x c) (hc:bK x c=c):oV w B F r p vl c t x (.returned (.int .i64 z)) w' :=
 ⟨vs,ps,vl,vq,rfl,by rw [hz],by rw [hc];exact (h.below b).late,ay.of_below b⟩
theorem WO (h:Rz B F r c t vs ps vl p vq w) (x:Ac) (hk:x.k=3) (hq:c.Q.length=32):Calls prog 12 #[.pointer (some ⟨r,0,none⟩),eU x] w (oV w B F r p vl c t x):=by
 have B0:=Hh ((aa w.heap.size w).alloc (ac _) (.cells (bH x) 44));have he:bE x c=11:=by
  unfold bE;rw [am (by omega),aw hk,aw hq]
 have E:=Hh (nL h B0 x he.symm (by unfold bK;rw [am (by omega),aw (by omega)]));have d4:=(h.below B0).cells.2.2.2.2;obtain ⟨qa,qc,rfl,_,_⟩:=h.sp.slice;rw [hq] at *;clear h he;unfold bH at B0 E d4;unfold eU bH;obtain ⟨k,n,f,rr,v,s,m,tt⟩:=x;simp only at hk B0 E d4 ⊢;subst hk
 go_enter func12,ntmps12
 go_wp2
 go_ret
 exact E
theorem aaD (h:Rz B F r c t vs ps vl p vq w) (x:Ac) (h1:x.k≠1) (h3:x.k≠3) (hb:x.k < 2\/6 < x.k\/no c x.n):Calls prog 12 #[.pointer (some ⟨r,0,none⟩),eU x] w (oV w B F r p vl c t x):=by
 have B0:=Hh ((aa w.heap.size w).alloc (ac _) (.cells (bH x) 44));have he:bE x c=1:=by
  unfold bE;rw [am h1,am h3,aw hb]
 have E:=Hh (fun w' b=>nL h (w':=w') b x he.symm (by unfold bK;rw [am h1,aw (by omega)]));have d0:=(h.below B0).cells.1;have hl:=h.sl;obtain ⟨sa,sc,rfl,_,_⟩:=h.so.slice;rw [hl] at *;unfold no at hb;clear h he hl;unfold bH at B0 E d0;unfold eU bH;obtain ⟨k,n,f,rr,v,s,m,tt⟩:=x;simp only at h1 h3 hb B0 E d0 ⊢;generalize c.S.length=ln at *;have q1:=cx.2 h1;have q1':decide (k=1)=false:=ai h1;have q3:=cx.2 h3;have q3':decide (k=3)=false:=ai h3
 go_enter func12,ntmps12
 go_upto_region 10 with fail;clear h1 h3 q1 q1' q3 q3';have X0:=Hh (bc w (.cells #[.int .i64 k,.int .i64 n,.int .i64 f,.int .i64 rr,.int .u8 v.1,.int .u8 v.2.1,.int .u8 v.2.2.1,.int .u8 v.2.2.2,.int .i64 s,.int .i64 m,.int .i64 tt] 44));generalize w.alloc (.cells #[.int .i64 k,.int .i64 n,.int .i64 f,.int .i64 rr,.int .u8 v.1,.int .u8 v.2.1,.int .u8 v.2.2.1,.int .u8 v.2.2.2,.int .i64 s,.int .i64 m,.int .i64 tt] 44)=W at *;generalize w.heap.size=gx at X0 ⊢;obtain ⟨x0,x1⟩:=pI X0
 by_cases g1:k < 2
 ·have p1:decide (k < 2)=true:=bj g1
  clear hb
  go_quiet (fail)
  go_wp2
  go_ret
  exact E _ (da B0 _)
 ·have p1:decide (k < 2)=false:=ai g1
  by_cases g2:6 < k
  ·have p2:decide (6 < k)=true:=bj g2
   clear hb
   go_quiet (fail)
   go_wp2
   go_ret
   exact E _ (da B0 _)
  ·have p2:decide (6 < k)=false:=ai g2
   by_cases g3:n < 0
   ·have p3:decide (n < 0)=true:=bj g3
    clear hb
    go_quiet (fail)
    go_wp2
    go_ret
    exact E _ (da B0 _)
   ·have p3:decide (n < 0)=false:=ai g3
    have p4:decide ((ln:Int)<=n)=true:=bj (by omega);clear hb
    go_quiet (fail)
    go_wp2
    go_ret
    exact E _ (da B0 _)
theorem qE (x:Ac) (z:Int) (hz:bE x c=z) (h1:x.k≠1) (h:z≠0\/x.k=6):bK x c=c:=by
 unfold bK;rw [am h1]
 by_cases e:bE x c≠0
 ·rw [aw e]
 ·rcases h with h | h
  ·exact absurd hz (fun g=>e (by rw [g];exact h))
  ·rw [am e,am (by omega),am (by omega),am (by omega),am (by omega)]
theorem QC (h:Rz B F r c t vs ps vl p vq w) (ok:jB c t) (x:Ac) (hk:x.k=6) (hn:¬ no c x.n):Calls prog 12 #[.pointer (some ⟨r,0,none⟩),eU x] w (oV w B F r p vl c t x):=by
 have B0:=Hh ((aa w.heap.size w).alloc (ac _) (.cells (bH x) 44));have he:bE x c=if x.t < -2000\/2000 < x.t then 1 else 0:=by
  unfold bE;rw [am (by omega),am (by omega),am (by rintro (g | g | g);omega;omega;exact hn g),am (by omega),am (by omega),am (by omega)]
 have E:=Hh (fun w' b z (hz:z=bE x c)=>nL h (w':=w') b x hz (qE x z hz.symm (by omega) (.inr hk)));have Z:=Hh (h.below B0);have d0:=Z.cells.1;have d1:=Z.cells.2.1;have hl:=h.sl;have hv:=ok.lv;have hlen:=ok.len;obtain ⟨sa,sc,rfl,_,_⟩:=h.so.slice;unfold no at hn;obtain ⟨gl,cl,rfl,_,_,_,_,_,hA⟩:=Z.lv.form (by omega);rw [hl] at d0;rw [hv] at d1;have cb:=Pa.Ka hA (i:=x.n.toNat) (by omega);rw [cQ] at cb;clear h hl ok hA;unfold bH at B0 d0 d1 cb;unfold eU bH;obtain ⟨k,n,f,rr,v,s,m,tt⟩:=x;simp only at hk hn he B0 E d0 d1 cb ⊢;subst hk;obtain ⟨n,rfl⟩:∃ j:Nat,n=j:=⟨n.toNat,by omega⟩;rw [ch] at cb;generalize c.V.getD n false=lv at *;have hlt:n < c.S.length:=by omega
 generalize c.S.length=ln at *;rw [he] at E
 go_enter func12,ntmps12
 go_upto_region 10 with fail;have X0:=Hh (bc w (.cells #[.int .i64 6,.int .i64 n,.int .i64 f,.int .i64 rr,.int .u8 v.1,.int .u8 v.2.1,.int .u8 v.2.2.1,.int .u8 v.2.2.2,.int .i64 s,.int .i64 m,.int .i64 tt] 44));generalize w.alloc (.cells #[.int .i64 6,.int .i64 n,.int .i64 f,.int .i64 rr,.int .u8 v.1,.int .u8 v.2.1,.int .u8 v.2.2.1,.int .u8 v.2.2.2,.int .i64 s,.int .i64 m,.int .i64 tt] 44)=W at *;generalize w.heap.size=gx at X0 ⊢;have x0:=Fl.rc X0 0;have x1:=Fl.rc X0 1;have x10:=Fl.rc X0 10;have p3:decide ((n:Int) < 0)=false:=ai (by omega);have p4:decide ((ln:Int)<=(n:Int))=false:=ai (by omega);have p5:decide (ln<=n)=false:=ai (by omega);clear hn hv hlen he
 go_quiet (fail)
 go_wp2
 go_quiet (fail)
 generalize hW:(W.drewN _).drewN _=W3 at *;have B3:Hid (Below w.heap.size w W3):=Hh (by rw [← hW];exact da (da B0.out _) _);have X3:Hid (W3.heap[gx]? = some (.cells #[.int .i64 6,.int .i64 n,.int .i64 f,.int .i64 rr,.int .u8 v.1,.int .u8 v.2.1,.int .u8 v.2.2.1,.int .u8 v.2.2.2,.int .i64 s,.int .i64 m,.int .i64 tt] 44 (0,0))):=Hh (by rw [← hW];exact X0.out);clear hW x0 x1 x10 X0 d0 d1 cb Z B0;have x0:=Fl.rc X3 0;have x10:=Fl.rc X3 10;have E3:=Hh (fun z hz=>E W3 B3 z hz);clear E
 by_cases h1:tt < -2000
 ·have E4:=Hh (E3 1 (aw (.inl h1)).symm)
  clear E3;go_wp2
  go_ret
  exact E4
 ·by_cases h2:2000 < tt
  ·have E4:=Hh (E3 1 (aw (.inr h2)).symm)
   clear E3;go_wp2
   go_ret
   exact E4
  ·have E4:=Hh (E3 0 (am (by omega)).symm)
   clear E3;go_wp2
   go_ret
   exact E4
theorem Fe (h:Rz B F r c t vs ps vl p vq w) (ok:jB c t) (x:Ac) (hk:x.k=2) (hn:¬ no c x.n) (hlv:bU c.V x.n=false):Calls prog 12 #[.pointer (some ⟨r,0,none⟩),eU x] w (oV w B F r p vl c t x):=by
 have B0:=Hh ((aa w.heap.size w).alloc (ac _) (.cells (bH x) 44));have he:bE x c=10:=by
  unfold bE;rw [am (by omega),am (by omega),am (by rintro (g | g | g);omega;omega;exact hn g),aw hk,am (by rw [hlv];decide)]
 have E:=Hh (fun w' b=>nL h (w':=w') b x he.symm (qE x 10 he (by omega) (.inl (by decide))));have Z:=Hh (h.below B0);have d0:=Z.cells.1;have d1:=Z.cells.2.1;have hl:=h.sl;have hv:=ok.lv;have hlen:=ok.len;obtain ⟨sa,sc,rfl,_,_⟩:=h.so.slice;unfold no at hn;obtain ⟨gl,cl,rfl,_,_,_,_,_,hA⟩:=Z.lv.form (by omega);rw [hl] at d0;rw [hv] at d1;have cb:=Pa.Ka hA (i:=x.n.toNat) (by omega);rw [cQ] at cb;clear h hl ok hA;unfold bH at B0 d0 d1 cb;unfold eU bH;obtain ⟨k,n,f,rr,v,s,m,tt⟩:=x;simp only at hk hn hlv he B0 E d0 d1 cb ⊢;subst hk;obtain ⟨n,rfl⟩:∃ j:Nat,n=j:=⟨n.toNat,by omega⟩;rw [ch] at cb;have hlv':c.V.getD n false=false:=by unfold bU at hlv;rw [ch] at hlv;exact hlv
 rw [hlv'] at cb;clear hlv hlv';have hlt:n < c.S.length:=by omega
 generalize c.S.length=ln at *
 go_enter func12,ntmps12
 go_upto_region 10 with fail;have X0:=Hh (bc w (.cells #[.int .i64 2,.int .i64 n,.int .i64 f,.int .i64 rr,.int .u8 v.1,.int .u8 v.2.1,.int .u8 v.2.2.1,.int .u8 v.2.2.2,.int .i64 s,.int .i64 m,.int .i64 tt] 44));generalize w.alloc (.cells #[.int .i64 2,.int .i64 n,.int .i64 f,.int .i64 rr,.int .u8 v.1,.int .u8 v.2.1,.int .u8 v.2.2.1,.int .u8 v.2.2.2,.int .i64 s,.int .i64 m,.int .i64 tt] 44)=W at *;generalize w.heap.size=gx at X0 ⊢;obtain ⟨x0,x1⟩:=pI X0;have p3:decide ((n:Int) < 0)=false:=ai (by omega);have p4:decide ((ln:Int)<=(n:Int))=false:=ai (by omega);have p5:decide (ln<=n)=false:=ai (by omega);clear hn hv hlen he
 go_quiet (fail)
 go_wp2
 go_quiet (fail)
 generalize hW:(W.drewN _).drewN _=W3 at *;have B3:Hid (Below w.heap.size w W3):=Hh (by rw [← hW];exact da (da B0.out _) _);have X3:Hid (W3.heap[gx]? = some (.cells #[.int .i64 2,.int .i64 n,.int .i64 f,.int .i64 rr,.int .u8 v.1,.int .u8 v.2.1,.int .u8 v.2.2.1,.int .u8 v.2.2.2,.int .i64 s,.int .i64 m,.int .i64 tt] 44 (0,0))):=Hh (by rw [← hW];exact X0.out);clear hW x0 x1 X0 d0 d1 cb Z B0;have x0:=Fl.rc X3 0;have E3:=Hh (E W3 B3);clear E;go_wp2
 go_ret
 exact E3
theorem Ez (h:Rz B F r c t vs ps vl p vq w) (ok:jB c t) (x:Ac) (hk:x.k=4) (hn:¬ no c x.n) (hlv:bU c.V x.n=false):Calls prog 12 #[.pointer (some ⟨r,0,none⟩),eU x] w (oV w B F r p vl c t x):=by
 have B0:=Hh ((aa w.heap.size w).alloc (ac _) (.cells (bH x) 44));have he:bE x c=10:=by
  unfold bE;rw [am (by omega),am (by omega),am (by rintro (g | g | g);omega;omega;exact hn g),am (by omega),aw hk,am (by rw [hlv];decide)]
 have E:=Hh (fun w' b=>nL h (w':=w') b x he.symm (qE x 10 he (by omega) (.inl (by decide))));have Z:=Hh (h.below B0);have d0:=Z.cells.1;have d1:=Z.cells.2.1;have hl:=h.sl;have hv:=ok.lv;have hlen:=ok.len;obtain ⟨sa,sc,rfl,_,_⟩:=h.so.slice;unfold no at hn;obtain ⟨gl,cl,rfl,_,_,_,_,_,hA⟩:=Z.lv.form (by omega);rw [hl] at d0;rw [hv] at d1;have cb:=Pa.Ka hA (i:=x.n.toNat) (by omega);rw [cQ] at cb;clear h hl ok hA;unfold bH at B0 d0 d1 cb;unfold eU bH;obtain ⟨k,n,f,rr,v,s,m,tt⟩:=x;simp only at hk hn hlv he B0 E d0 d1 cb ⊢;subst hk;obtain ⟨n,rfl⟩:∃ j:Nat,n=j:=⟨n.toNat,by omega⟩;rw [ch] at cb;have hlv':c.V.getD n false=false:=by unfold bU at hlv;rw [ch] at hlv;exact hlv
 rw [hlv'] at cb;clear hlv hlv';have hlt:n < c.S.length:=by omega
 generalize c.S.length=ln at *
 go_enter func12,ntmps12
 go_upto_region 10 with fail;have X0:=Hh (bc w (.cells #[.int .i64 4,.int .i64 n,.int .i64 f,.int .i64 rr,.int .u8 v.1,.int .u8 v.2.1,.int .u8 v.2.2.1,.int .u8 v.2.2.2,.int .i64 s,.int .i64 m,.int .i64 tt] 44));generalize w.alloc (.cells #[.int .i64 4,.int .i64 n,.int .i64 f,.int .i64 rr,.int .u8 v.1,.int .u8 v.2.1,.int .u8 v.2.2.1,.int .u8 v.2.2.2,.int .i64 s,.int .i64 m,.int .i64 tt] 44)=W at *;generalize w.heap.size=gx at X0 ⊢;obtain ⟨x0,x1⟩:=pI X0;have p3:decide ((n:Int) < 0)=false:=ai (by omega);have p4:decide ((ln:Int)<=(n:Int))=false:=ai (by omega);have p5:decide (ln<=n)=false:=ai (by omega);clear hn hv hlen he
 go_quiet (fail)
 go_wp2
 go_quiet (fail)
 generalize hW:(W.drewN _).drewN _=W3 at *;have B3:Hid (Below w.heap.size w W3):=Hh (by rw [← hW];exact da (da B0.out _) _);have X3:Hid (W3.heap[gx]? = some (.cells #[.int .i64 4,.int .i64 n,.int .i64 f,.int .i64 rr,.int .u8 v.1,.int .u8 v.2.1,.int .u8 v.2.2.1,.int .u8 v.2.2.2,.int .i64 s,.int .i64 m,.int .i64 tt] 44 (0,0))):=Hh (by rw [← hW];exact X0.out);clear hW x0 x1 X0 d0 d1 cb Z B0;have x0:=Fl.rc X3 0;have E3:=Hh (E W3 B3);clear E;go_wp2
 go_ret
 exact E3
theorem zW (h:Rz B F r c t vs ps vl p vq w) (ok:jB c t) (x:Ac) (hk:x.k=5) (hn:¬ no c x.n) (hlv:bU c.V x.n=true):Calls prog 12 #[.pointer (some ⟨r,0,none⟩),eU x] w (oV w B F r p vl c t x):=by
 have B0:=Hh ((aa w.heap.size w).alloc (ac _) (.cells (bH x) 44));have he:bE x c=10:=by
  unfold bE;rw [am (by omega),am (by omega),am (by rintro (g | g | g);omega;omega;exact hn g),am (by omega),am (by omega),aw hk,aw hlv]
 have E:=Hh (fun w' b=>nL h (w':=w') b x he.symm (qE x 10 he (by omega) (.inl (by decide))));have Z:=Hh (h.below B0);have d0:=Z.cells.1;have d1:=Z.cells.2.1;have hl:=h.sl;have hv:=ok.lv;have hlen:=ok.len;obtain ⟨sa,sc,rfl,_,_⟩:=h.so.slice;unfold no at hn;obtain ⟨gl,cl,rfl,_,_,_,_,_,hA⟩:=Z.lv.form (by omega);rw [hl] at d0;rw [hv] at d1;have cb:=Pa.Ka hA (i:=x.n.toNat) (by omega);rw [cQ] at cb;clear h hl ok hA;unfold bH at B0 d0 d1 cb;unfold eU bH;obtain ⟨k,n,f,rr,v,s,m,tt⟩:=x;simp only at hk hn hlv he B0 E d0 d1 cb ⊢;subst hk;obtain ⟨n,rfl⟩:∃ j:Nat,n=j:=⟨n.toNat,by omega⟩;rw [ch] at cb;have hlv':c.V.getD n false=true:=by unfold bU at hlv;rw [ch] at hlv;exact hlv
 rw [hlv'] at cb;clear hlv hlv';have hlt:n < c.S.length:=by omega
 generalize c.S.length=ln at *
 go_enter func12,ntmps12
 go_upto_region 10 with fail;have X0:=Hh (bc w (.cells #[.int .i64 5,.int .i64 n,.int .i64 f,.int .i64 rr,.int .u8 v.1,.int .u8 v.2.1,.int .u8 v.2.2.1,.int .u8 v.2.2.2,.int .i64 s,.int .i64 m,.int .i64 tt] 44));generalize w.alloc (.cells #[.int .i64 5,.int .i64 n,.int .i64 f,.int .i64 rr,.int .u8 v.1,.int .u8 v.2.1,.int .u8 v.2.2.1,.int .u8 v.2.2.2,.int .i64 s,.int .i64 m,.int .i64 tt] 44)=W at *;generalize w.heap.size=gx at X0 ⊢;obtain ⟨x0,x1⟩:=pI X0;have p3:decide ((n:Int) < 0)=false:=ai (by omega);have p4:decide ((ln:Int)<=(n:Int))=false:=ai (by omega);have p5:decide (ln<=n)=false:=ai (by omega);clear hn hv hlen he
 go_quiet (fail)
 go_wp2
 go_quiet (fail)
 generalize hW:(W.drewN _).drewN _=W3 at *;have B3:Hid (Below w.heap.size w W3):=Hh (by rw [← hW];exact da (da B0.out _) _);have X3:Hid (W3.heap[gx]? = some (.cells #[.int .i64 5,.int .i64 n,.int .i64 f,.int .i64 rr,.int .u8 v.1,.int .u8 v.2.1,.int .u8 v.2.2.1,.int .u8 v.2.2.2,.int .i64 s,.int .i64 m,.int .i64 tt] 44 (0,0))):=Hh (by rw [← hW];exact X0.out);clear hW x0 x1 X0 d0 d1 cb Z B0;have x0:=Fl.rc X3 0;have E3:=Hh (E W3 B3);clear E;go_wp2
 go_ret
 exact E3
end Cu
namespace Pa
open Go.Maps
open Fs (St rH Kc gT lM sP Li Ey jk at3 E3)
open Ck (sl)
attribute [local irreducible] Sd.bA wpQuiet Sg.dG
variable {P:Program}
theorem YV {l:List Oper} (f:Sg.Fl) (o:Oper) (t:TypeId) (z:Value) (bytes:Nat) {s:Nat} {v:Value} (ho:l.toArray[f.idx]? = some o) (hd:o.dst=some f.slot) (hg:o.guard=none) (hsv:f.sv=some (s,v)) (hop:o.op = .buildSlice t 1 #[(0,.tmp s)]) (hu:P.underlying t=some (.slice f.ty))
 (hi:(P.info? f.ty).map (fun i=>(i.zero,i.size,i.bytes))=some (some z,1,bytes)) (hv:v.cells=#[v]) (hcs:f.cs=#[v]:=by rfl) (hfn:f.n=some 1:=by rfl):Sg.Bp P l f:=by
 obtain ⟨i0,hi0,hz0,hz1,hz2⟩:=ew hi;refine ⟨o,ho,hd,hg,fun a0 w h0=>?_⟩;have hρ:a0.eval (.tmp s)=v:=h0 s v hsv;clear h0;generalize a0.eval=ρ at *;unfold execOp;have hf:Instr.fill (fun i=>some (i * i0.size,i0.size)) ((Array.range (1 * i0.size)).map (z.cells[· % z.cells.size]!)) ((#[(0,Operand.tmp s)]:Array (Nat×Operand)).map fun (i,x)=>(i,ρ x)).toList=some #[v]:=by
  rw [hz1]
  simp [Instr.fill,hρ,hv]
  rw [show Array.range 1=#[0] from rfl,show ∀ g:Nat->Value,Array.map g #[0]=#[g 0] from fun g=>by simp]
  rfl
 rw [hcs,hfn];simp only [hop,Sem.run_bind,run_buildSlice w t f.ty 1 _ #[v] i0 z hu hi0 hz0 (by rw [hz1];omega) (by rw [hz1];omega) hf,Result.andThen_ok]
 rfl
variable {ops:Array Oper} {C:World->Prop} {K:Act->Prop} {a:Act}
theorem aa8 {o:Oper} {r:List Oper} (h:wpQuiet P ops C (fun a'=>Sg.Va P ops C K r a') [o] a):Sg.Va P ops C K (o :: r) a:=h
theorem aa3 (h:K a):Sg.Va P ops C K [] a:=h
end Pa
namespace Cu
open Go.Maps
open Pa (aa8 aa3)
attribute [local irreducible] Sd.bA wpQuiet Sg.dG
theorem yP:(prog.info? 95).map (fun i=>(i.zero,i.size,i.bytes))=some (some (.agg #[.int .i64 0,.int .i64 0]),2,16):=by kernel_rfl
variable {α:Type} {w:World} {B g bytes s r t p:Nat}
theorem adx {K:Kind α} {E:Nat} (h:w.heap[g]? = some (.cells #[] E (0,0))) (hB:B<=g):Ow K w B E (.slice (some ⟨g,0,none⟩) 0 0) [] :=
 ⟨by show (K.flat ([]:List α)).length=0 * K.n;simp [Rw.Kind.flat],.inr ⟨g,0,#[],rfl,hB,h,ac _,by unfold maxLen;omega,by simp,by simp [Rw.Kind.flat]⟩⟩
variable {P:Program}
theorem aaK {K:Kind α} {E:TypeId} {o:Oper} {a:Act} {KK:Act->World->Prop} {Q:Exit->Act->World->Prop} {T:TypeId} {z:Value} (ht:P.underlying T=some (.slice E))
 (hi:(P.info? E).map (fun i=>(i.zero,i.size,i.bytes))=some (some z,K.n,bytes)) (hz:z.cells.size=K.n) (hby:bytes<=64) (s x:Operand)
 (ho:o.op = .call { callee:=.builtin .append,args:=#[s,x],argTypes:=#[T,T] }) (B g:Nat) (hs:a.eval s = .slice (some ⟨g,0,none⟩) 0 0) (hr:w.heap[g]? = some (.cells #[] E (0,0))) (hB:B<=g)
 (u:Value) (y:List α) (hx:a.eval x=u) (hu:Rd K w u y) (hlen:y.length < 2199023255552)
 (h:∀ v' w',Ow K w' B E v' y->Below w.heap.size w w'->KK (a.put o.dst v') w'):o.wp P a w KK Q:=by
 have lt:=bm hr
 by_cases h0:0 < y.length
 ·obtain ⟨ad,cap,rfl,h1,h2,h3⟩:=hu
  obtain ⟨b,off,rfl,hA⟩:=h3 h0;exact Fl.MP ht hi hz hby s x ho ⟨g,0,none⟩ hs b off cap y hx hA h0 hlen fun v' w' hv b=>h v' w' (hv.low (by omega)) b
 ·have ey:y = []:=eI.1 (by omega)
  subst ey;obtain ⟨i0,hi0,hz0,hz1,hz2⟩:=ew hi;obtain ⟨ad,cap,rfl,h1,h2,h3⟩:=hu;have hx':=hx;have hrun:(Builtin.append_ #[T,T] o.type #[.slice (some ⟨g,0,none⟩) 0 0,.slice ad 0 cap]).run P w = .ok (.slice (some ⟨g,0,none⟩) 0 0) w:=by
   cases ad with
   | none=>simp [Builtin.append_,run_underlying ht,sizeOf,typeInfo,hi0,Builtin.lenOf,Builtin.firstCells,storeCells]
   | some ad=>simp [Builtin.append_,run_underlying ht,sizeOf,typeInfo,hi0,Builtin.lenOf,Builtin.firstCells,storeCells,loadCells,loadCellsFrom,storeCells,Result.andThen]
  have k:=h _ w (adx (K:=K) hr hB) (aa _ _);unfold Oper.wp
  simp [execOp,ho,resolve,invoke,builtin,hs,hx',hrun,Result.andThen]
  exact k
variable {l:List Oper}
theorem aa1 (f:Sg.Fl) (o:Oper) (t:TypeId) (z:Value) (size bytes:Nat) (ho:l.toArray[f.idx]? = some o) (hd:o.dst=some f.slot) (hg:o.guard=none) (hop:o.op = .buildSlice t 0 #[]) (hu:P.underlying t=some (.slice f.ty))
 (hi:(P.info? f.ty).map (fun i=>(i.zero,i.size,i.bytes))=some (some z,size,bytes)) (hcs:f.cs=#[]) (hfn:f.n=some 0):Sg.Bp P l f:=by
 obtain ⟨i0,hi0,hz0,hz1,hz2⟩:=ew hi;refine ⟨o,ho,hd,hg,fun a0 w _=>?_⟩;generalize a0.eval=ρ at *;unfold execOp;have hr:(Instr.buildSlice t 0 #[]).run P w = .ok (.slice (some ⟨w.heap.size,0,none⟩) 0 0) (w.alloc (.cells #[] f.ty)):=by
  simp [Instr.buildSlice,run_underlying hu,sizeOf,typeInfo,hi0,newRow,Instr.fill,show Array.range 0=#[] from rfl]
 have hm:(Array.map (fun x:Nat×Operand=>(x.fst,ρ x.snd)) #[])=#[]:=by simp
 rw [hcs,hfn];simp only [hop,Sem.run_bind,hm,hr,Result.andThen_ok]
 rfl
theorem abW (f:Sg.Fl) (o:Oper) (t:TypeId) (z:Value) (bytes:Nat) (x y:Value) (ho:l.toArray[f.idx]? = some o) (hd:o.dst=some f.slot) (hg:o.guard=none) (hsv:f.sv=some (s,.agg #[x,y])) (hop:o.op = .buildSlice t 1 #[(0,.tmp s)]) (hu:P.underlying t=some (.slice f.ty))
 (hi:(P.info? f.ty).map (fun i=>(i.zero,i.size,i.bytes))=some (some z,2,bytes)) (hcs:f.cs=#[x,y]) (hfn:f.n=some 1):Sg.Bp P l f:=by
 obtain ⟨i0,hi0,hz0,hz1,hz2⟩:=ew hi;refine ⟨o,ho,hd,hg,fun a0 w h0=>?_⟩;have hρ:a0.eval (.tmp s) = .agg #[x,y]:=h0 s _ hsv;clear h0;generalize a0.eval=ρ at *;unfold execOp;have hf:Instr.fill (fun i=>some (i * i0.size,i0.size)) ((Array.range (1 * i0.size)).map (z.cells[· % z.cells.size]!)) ((#[(0,Operand.tmp s)]:Array (Nat×Operand)).map fun (i,x)=>(i,ρ x)).toList=some #[x,y]:=by
  rw [hz1]
  simp [Instr.fill,hρ,Value.cells]
  rw [show Array.range 2=#[0,1] from rfl,show ∀ g:Nat->Value,Array.map g #[0,1]=#[g 0,g 1] from fun g=>by simp]
  rfl
 rw [hcs,hfn];simp only [hop,Sem.run_bind,run_buildSlice w t f.ty 1 _ #[x,y] i0 z hu hi0 hz0 (by rw [hz1];omega) (by rw [hz1];omega) hf,Result.andThen_ok]
 rfl
theorem Sb {F:Nat->Prop} {c:Cs} {vs vl vq:Value} {ps:List Nat} (h:Rz B F r c t vs ps vl p vq w) (hB:B<=w.heap.size) (x:Ac) (hk:x.k=3) (hq:c.Q.length≠32) (hq2:c.Q.length<=32):Calls prog 12 #[.pointer (some ⟨r,0,none⟩),eU x] w (oV w B F r p vl c t x):=by
 have B0:=Hh ((aa w.heap.size w).alloc (ac _) (.cells (bH x) 44));have he:bE x c=0:=by
  unfold bE;rw [am (by omega),aw hk,am hq]
 have hc:bK x c = { c with Q:=c.Q ++ [(x.s,x.m)] }:=by
  unfold bK;rw [am (by omega),am (by rw [he];simp),aw hk]
 have Z:=Hh (h.below B0)
 have FIN:Hid (∀ W w' v',Below w.heap.size w W->Below W.heap.size W w'->Ow K2 w' W.heap.size 95 v' (c.Q ++ [(x.s,x.m)])->oV w B F r p vl c t x (.returned (.int .i64 0)) (w'.setCell ⟨r,4,none⟩ v')):=Hh (fun W w' v' b0 b hv=>by
  have b1:=b0.trans (b.mono b0.size)
  have z:=((h.below b1).cell (c':={ c with Q:=c.Q ++ [(x.s,x.m)] }) 4 v' rfl rfl rfl rfl (hv.low (by have:=b0.size;omega)) (fun k e g=>by
   have:=(ci hv k e).1;have:=h.low k g;have:=b0.size
   omega)).late
  refine ⟨vs,ps,vl,v',rfl,by rw [he],by rw [hc];exact z,(ay.of_below (G:=lD B F) b1).trans (ay.set (fun k=>k=r) w' (a:=⟨r,4,none⟩) rfl _) fun k _ g=>by rw [g];exact h.mine.1⟩)
 have SP:=Hh Z.sp;have d4:=Z.cells.2.2.2.2;have g4:=Z.Xg 4;have LR:=Z.Ri;obtain ⟨qa,qc,rfl,_,_⟩:=h.sp.slice;have HQ:=Hh (db hq hq2);have hq':=cx.2 (by omega);clear h he hc hq hq2;generalize hln:c.Q.length=ln at *;have HLN:=Hh hln;clear hln;unfold bH at B0 SP d4 g4 LR Z;unfold eU bH;obtain ⟨k,n,f,rr,v,s,m,tt⟩:=x;simp only at hk B0 SP d4 g4 LR Z FIN ⊢;subst hk
 go_enter func12,ntmps12
 go_upto_region 8 with fail;clear hq';have X0:=Hh (bc w (.cells #[.int .i64 3,.int .i64 n,.int .i64 f,.int .i64 rr,.int .u8 v.1,.int .u8 v.2.1,.int .u8 v.2.2.1,.int .u8 v.2.2.2,.int .i64 s,.int .i64 m,.int .i64 tt] 44));generalize w.alloc (.cells #[.int .i64 3,.int .i64 n,.int .i64 f,.int .i64 rr,.int .u8 v.1,.int .u8 v.2.1,.int .u8 v.2.2.1,.int .u8 v.2.2.2,.int .i64 s,.int .i64 m,.int .i64 tt] 44)=W at *;generalize w.heap.size=gx at X0 ⊢;have lx:=bm X0;have x0:=Sc.aA (C:=Below W.heap.size W) (a:=⟨r,4,none⟩) (fun W' h=>(h.cell LR).trans d4);have x1:=Sc.aA (C:=Below W.heap.size W) (a:=⟨gx,8,none⟩) (fun W' h=>(h.cell lx).trans (ah X0 8));have x2:=Sc.aA (C:=Below W.heap.size W) (a:=⟨gx,9,none⟩) (fun W' h=>(h.cell lx).trans (ah X0 9));have ne:Nonempty (Sc.In (Below W.heap.size W)):=⟨⟨_,aa _ _⟩⟩;refine Sg.adJ (Below W.heap.size W) [0,2,3,4,5,7,8,9,10,11] [(2,1),(1,6),(2,12),(1,13)] [14,15,16]
  [⟨1,26,#[],95,none,some 0⟩,⟨12,37,#[.int .i64 s,.int .i64 m],95,some (36,.agg #[.int .i64 s,.int .i64 m]),some 1⟩]
  (by kernel_rfl) (by kernel_rfl) (by kernel_rfl) (by kernel_rfl) (by rfl) (by show ([26,37]:List Nat).Nodup;decide)
  (by intro f hf f' hf';simp only [cj,cY,fS] at hf hf';rcases hf with rfl | rfl <;> rcases hf' with rfl | rfl <;> simp)
  (by intro f hf f' hf';simp only [cj,cY,fS] at hf hf';rcases hf with rfl | rfl <;> rcases hf' with rfl | rfl <;> simp)
  (by
    intro f hf
    simp only [cj,cY,fS] at hf
    rcases hf with rfl | rfl
    ·exact aa1 _ _ _ _ _ _ rfl rfl rfl rfl underlying37 yP rfl rfl
    ·exact abW _ _ _ _ _ _ _ rfl rfl rfl rfl rfl underlying37 yP rfl rfl)
  ((aa _ _).drew) (fun W' h=>h.size) (fun W' o h=>h.alloc h.size o) ?_
 dsimp only [Sg.dL,List.getElem?_cons_succ,List.getElem?_cons_zero]
 repeat (refine aa8 ?_;quiet_step (fail);refine bk ?_)
 refine aa3 ⟨fun f hf=>by simp only [cj,cY,fS] at hf;rcases hf with rfl | rfl <;> (intro s v e;cases e <;> rfl),?_⟩;dsimp only [Sg.aP,List.getElem?_cons_succ,List.getElem?_cons_zero];clear x0 x1 x2;refine Sg.meet (fun g1 wm hb hc row n1 hH hL=>?_);have R1:=Hh row;have N1:=Hh n1;clear hb hc row n1 hH hL;go_simp;refine Sg.call (fun xs w2 hb hc=>⟨by rfl,fun K hK=>?_⟩);have r1:=jf hb R1;have bw:Below W.heap.size W w2:=by obtain ⟨p,rfl⟩:=hc;exact p.ok
 clear hb hc R1;simp only [Sg.fill,cm,br];refine aaK (K:=K2) underlying37 yP rfl (by omega) _ _ rfl W.heap.size g1 (by rfl) r1 N1.out (.slice qa ln qc) c.Q (by rfl) (SP.out.rd.below bw) (by have:=HQ.out.2;have:=HLN.out;omega) ?_
 intro v' w3 own bl
 have B3:=Hh (bw.trans (bl.mono bw.size));refine hK _ _ (Sc.Cl.of B3) bl.size (fun g hg hl=>bl.block g hl) ?_;have O3:=Hh own;clear hK K own bl r1 bw N1;refine Sg.meet (fun g2 wm hb hc row n2 hH hL=>?_);have R2:=Hh row;have O4:=Hh (O3.keep hb);clear hb hc row n2 hH hL O3;go_simp;refine Sg.abJ (fun xs w4 hb hc=>⟨by rfl,fun K hK=>?_⟩);have r2:=jf hb R2;have bw:Below W.heap.size W w4:=by obtain ⟨p,rfl⟩:=hc;exact p.ok
 have O5:=O4.keep hb;clear hb hc R2 O4;simp only [Sg.fill,br]
 refine cK (K:=K2) underlying37 yP rfl (by omega) _ _ rfl W.heap.size v' c.Q rfl O5 ⟨g2,0,none⟩ (s,m) (by rfl) (fun j u hu=>by
  match j,hu with
  | 0,hu =>
    simp [K2] at hu
    subst hu;rw [Ck.jb];exact ah r2 0
  | 1,hu =>
    simp [K2] at hu
    subst hu;exact ah r2 1
  | j+2,hu=>simp [K2] at hu) (by have:=HQ.out.2;have:=HLN.out;omega) bw.size ?_
 intro v2 w5 own gr hq
 have b5:=bw.grown gr bw.size fun k e=>(ci O5 k e).1;refine hK _ _ (Sc.Cl.of b5) gr.size ?_;have OW:=Hh own;have B5:=Hh b5;clear hK K own gr hq r2 bw O5 b5;refine Sg.abH (fun w6 hb hc=>?_);have b6:=aW B5 hb;have E:=Hh (FIN W w6 v2 B0 b6 (OW.keep hb));obtain ⟨a2,cap2,rfl,_⟩:=OW.slice;generalize (c.Q ++ [(s,m)]).length=l2 at *;have c4:=(b6.cell LR).trans d4;have f4:=(b6.frozen LR).trans g4;clear hb hc OW B5 FIN b6 d4 g4;dsimp only [Sg.dL,List.getElem?_cons_succ,List.getElem?_cons_zero];refine Sg.sU (fun K hK=>?_);go_simp;refine hK _ _ ?_;clear hK K;refine Sg.sU (fun K hK=>?_);go_simp;refine hK _ _ ?_;clear hK K;refine Sg.sU (fun K hK=>?_);go_simp;refine hK _ _ ?_;clear hK K;refine Sg.aeF ?_;go_wp2
 go_ret
 exact E
end Cu
namespace Cu
open Go.Maps
def Fw (w:World) (B:Nat) (k:Nat):Prop:=B<=k/\k < w.heap.size
theorem X6 {S:bX} {x:aU×Int} (i:Nat):aN (S ++ [x]) i=if i < S.length then aN S i else if i=S.length then x else ([],0):=by
 unfold aN;rw [ch,af,List.getElem?_append]
 split
 ·rw [af]
 ·split
  ·rename_i h h2
   subst h2
   simp
  ·rename_i h h2
   rw [eA (by simp;omega)]
   rfl
variable {i B0 r p s:Nat}
theorem yt {l:List Nat} {x:Nat} (hi:i < l.length+1):(l ++ [x]).getD i 0=if i < l.length then l.getD i 0 else x:=by
 rw [af,List.getElem?_append]
 split
 ·rw [af]
 ·obtain rfl:i=l.length:=by omega
  simp
def Wn (r:Nat) (vs vl:Value) (k:Nat):Prop:=k=r\/vs.ownBlock=some k\/vl.ownBlock=some k
variable {w wr wm wf w1 w':World} {vs vl vs' vl':Value} {ps:List Nat}
theorem Rz.push {c:Cs} {A:aU} (h:Rz w.heap.size (Fw w B0) r c 0 vs ps vl p (.slice none 0 0) wr) (hB0:B0<=w.heap.size) (hw:w.heap.size<=wr.heap.size) (hq:c.Q = []) (b:Below wr.heap.size wr wm) (hs0:wr.heap.size<=s) (hs1:s < wm.heap.size)
 (hs:Rs wm s (fun k=>B0<=k/\k < wr.heap.size) A 0) (o:ay (Wn r vs vl) wm wf)
 (row:wf.heap[r]? = some (.cells #[vs',vl',.pointer (some ⟨p,0,none⟩),.int .i64 c.pl,.slice none 0 0] 39 (0,0)))
 (so:Ow KN wf w.heap.size 51 vs' (ps ++ [s])) (so':vs'.ownBlock=vs.ownBlock\/∃ g,vs'.ownBlock=some g/\wm.heap.size<=g)
 (lv:Ow KB wf w.heap.size 4 vl' (c.V ++ [true])) (lv':vl'.ownBlock=vl.ownBlock\/∃ g,vl'.ownBlock=some g/\wm.heap.size<=g) :
 Rz w.heap.size (Fw w B0) r { c with S:=c.S ++ [(A,0)],V:=c.V ++ [true] } 0 vs' (ps ++ [s]) vl' p (.slice none 0 0) wf:=by
 have hsl:=h.sl;have hm:=b.size;have nb:∀ {v' v:Value},(v'.ownBlock=v.ownBlock\/∃ g,v'.ownBlock=some g/\wm.heap.size<=g)->∀ k,v'.ownBlock=some k->v.ownBlock=some k\/wm.heap.size<=k:=fun hv k e=>by
  rcases hv with q | ⟨g,q,hg⟩
  ·exact .inl (q ▸ e)
  ·rw [q] at e
   injection e with e;exact .inr (e ▸ hg)
 have vb:∀ k,vs.ownBlock=some k\/vl.ownBlock=some k->w.heap.size<=k/\k < wr.heap.size:=fun k g=>h.Yx k (by rcases g with g | g;exact .inl g;exact .inr (.inl g));refine ⟨row,so,by simp [hsl],fun i hi=>?_,fun i hi=>?_,lv,?_,by show Ow K2 wf _ _ _ c.Q;rw [hq];exact Rw.Ow.nil _ _ _,h.lo,h.nr,h.np,fun k g q=>?_,fun k g=>by have:=h.low k g;have:=o.size;omega⟩
 ·rw [cI,go] at hi
  rw [yt hi,X6]
  by_cases hil:i < ps.length
  ·rw [aw hil,aw (by omega)]
   have r1:=Fs.Rs.only (h.st i hil) (ay.of_below b)
   have r2:=Fs.Rs.only r1 (o.mono fun k _ g=>by
    rcases g with g | g | g
    ·exact .inl (.inl (.inr (.inl g)))
    ·exact .inl (.inr (.inl g))
    ·exact .inl (.inl (.inr (.inr (.inr g)))))
   refine dY r2 fun k hk g=>?_
   rcases g with g | g | ⟨m,hmm,hmi,rfl⟩
   ·rcases g with g | g | g | g
    ·exact .inl (.inl (.inl (.inl g)))
    ·exact .inl (.inl (.inl (.inr (.inl g))))
    ·exact .inl (.inl (.inl (.inr (.inr (.inl g)))))
    ·rcases nb lv' k g with g | g
     ·exact .inl (.inl (.inl (.inr (.inr (.inr g)))))
     ·exact .inr ⟨g,hk⟩
   ·rcases nb so' k g with g | g
    ·exact .inl (.inl (.inr (.inl g)))
    ·exact .inr ⟨g,hk⟩
   ·rw [cI,go] at hmm
    rw [yt hmm]
    by_cases hml:m < ps.length
    ·rw [aw hml]
     exact .inl (.inl (.inr (.inr ⟨m,hml,hmi,rfl⟩)))
    ·rw [am hml]
     exact .inl (.inr ⟨hs0,hs1⟩)
  ·rw [am hil,am (by omega),aw (by omega)]
   have r2:=Fs.Rs.only hs (o.mono fun k _ g=>by
    rcases g with g | g
    ·subst g;exact ⟨by have:=h.lo.1;omega,h.Ri⟩
    ·have:=vb k g;exact ⟨by omega,this.2⟩)
   refine dY r2 fun k hk g=>?_
   rcases g with g | g | ⟨m,hmm,hmi,rfl⟩
   ·rcases g with g | g | g | g
    ·exact .inl ⟨g.1,h.low k g⟩
    ·subst g;exact .inl ⟨by have:=h.lo.1;omega,h.Ri⟩
    ·subst g;exact .inl ⟨by have:=h.lo.2;omega,h.plt⟩
    ·rcases nb lv' k g with g | g
     ·have:=vb k (.inr g);exact .inl ⟨by omega,this.2⟩
     ·exact .inr ⟨g,hk⟩
   ·rcases nb so' k g with g | g
    ·have:=vb k (.inl g);exact .inl ⟨by omega,this.2⟩
    ·exact .inr ⟨g,hk⟩
   ·rw [cI,go] at hmm
    rw [yt hmm,aw (by omega)];have:=h.Yy m (by omega);have:=Jp (h.st m (by omega));exact .inl ⟨by omega,by omega⟩
 ·rw [cI,go] at hi
  rw [yt hi]
  split
  ·exact h.Yy i (by assumption)
  ·omega
 ·refine (h.pr.below b).only o ?_
  rintro (g | g | g)
  ·exact h.rp g.symm
  ·exact h.vp.1 g
  ·exact h.vp.2.1 g
 ·have fl:=q.2
  rcases g with g | g | g
  ·rcases nb so' k g with g | g
   ·exact h.nv k (.inl g) q
   ·omega
  ·rcases nb lv' k g with g | g
   ·exact h.nv k (.inr (.inl g)) q
   ·omega
  ·simp [Value.ownBlock] at g
theorem adE (hp:Pf w1 p Wt.new 0) (hp0:w.heap.size<=p) (b:Below w.heap.size w w1) (L:List Pl):Rz w.heap.size (Fw w B0) w1.heap.size (bT (L.take 0)) 0 (.slice none 0 0) [] (.slice none 0 0) p (.slice none 0 0) (w1.alloc (.cells #[.slice none 0 0,.slice none 0 0,.pointer (some ⟨p,0,none⟩),.int .i64 0,.slice none 0 0] 39)):=by
 have ba:Below w1.heap.size w1 (w1.alloc (.cells #[.slice none 0 0,.slice none 0 0,.pointer (some ⟨p,0,none⟩),.int .i64 0,.slice none 0 0] 39)):=(aa _ _).alloc (ac _) _;refine ⟨bc w1 _,Rw.Ow.nil _ _ _,rfl,fun i hi=>by simp at hi,fun i hi=>by simp at hi,Rw.Ow.nil _ _ _,hp.below ba,Rw.Ow.nil _ _ _,⟨b.size,hp0⟩,fun g=>?_,fun g=>?_,fun k g=>?_,fun k g=>?_⟩
 ·have:=g.2;have:=b.size;omega
 ·have:=g.2;omega
 ·simp [Value.ownBlock] at g
 ·have:=g.2;have:=b.size;have:=ba.size;omega
theorem Xz {P:Program} {l:List Oper} (f:Sg.Fl) (o:Oper) (t:TypeId) (z v:Value) (bytes:Nat) (ho:l.toArray[f.idx]? = some o) (hd:o.dst=some f.slot) (hg:o.guard=none) (hop:o.op = .buildSlice t 1 #[(0,.const v)]) (hu:P.underlying t=some (.slice f.ty))
 (hi:(P.info? f.ty).map (fun i=>(i.zero,i.size,i.bytes))=some (some z,1,bytes)) (hv:v.cells=#[v]) (hcs:f.cs=#[v]) (hfn:f.n=some 1):Sg.Bp P l f:=by
 obtain ⟨i0,hi0,hz0,hz1,hz2⟩:=ew hi;refine ⟨o,ho,hd,hg,fun a0 w _=>?_⟩;unfold execOp;have hρ:a0.eval (.const v)=v:=rfl;generalize a0.eval=ρ at *;have hf:Instr.fill (fun i=>some (i * i0.size,i0.size)) ((Array.range (1 * i0.size)).map (z.cells[· % z.cells.size]!)) ((#[(0,Operand.const v)]:Array (Nat×Operand)).map fun (i,x)=>(i,ρ x)).toList=some #[v]:=by
  rw [hz1]
  simp [Instr.fill,hρ,hv]
  rw [show Array.range 1=#[0] from rfl,show ∀ g:Nat->Value,Array.map g #[0]=#[g 0] from fun g=>by simp]
  rfl
 rw [hcs,hfn];simp only [hop,Sem.run_bind,run_buildSlice w t f.ty 1 _ #[v] i0 z hu hi0 hz0 (by rw [hz1];omega) (by rw [hz1];omega) hf,Result.andThen_ok]
 rfl
def pO (w:World) (B0:Nat) (L:List Pl) (e:Ending) (w':World):Prop :=
 (gK L=0->∃ r vs ps vl p,e = .returned (.tuple #[.pointer (some ⟨r,0,none⟩),.int .i64 0])/\Rz w.heap.size (Fw w B0) r (bT L) 0 vs ps vl p (.slice none 0 0) w') /\
 (gK L≠0->e = .returned (.tuple #[.pointer none,.int .i64 (gK L)]))/\Below w.heap.size w w'
variable {L:List Pl}
theorem vP {z:Int} (b:Below w.heap.size w w') (h:gK L=z) (h0:z≠0):pO w B0 L (.returned (.tuple #[.pointer none,.int .i64 z])) w' :=
 ⟨fun g=>absurd (h.symm.trans g) h0,fun _=>by rw [h],b⟩
theorem aag (b:Below w.heap.size w w') (h:gK L=0) (z:Rz w.heap.size (Fw w B0) r (bT L) 0 vs ps vl p (.slice none 0 0) w'):pO w B0 L (.returned (.tuple #[.pointer (some ⟨r,0,none⟩),.int .i64 0])) w' :=
 ⟨fun _=>⟨r,vs,ps,vl,p,rfl,z⟩,fun g=>absurd h g,b⟩
structure NI (w:World) (B0 r p:Nat) (L:List Pl) (i:Nat) (vs:Value) (ps:List Nat) (vl:Value) (wr:World):Prop where
 rz:Rz w.heap.size (Fw w B0) r (bT (L.take i)) 0 vs ps vl p (.slice none 0 0) wr
 aI:Below w.heap.size w wr
 gd:Gds L i
structure IN (wr:World) (B0 s:Nat) (A:aU) (k:Nat) (wk:World):Prop where
 rs:Rs wk s (fun k=>B0<=k/\k < wr.heap.size) (A.take k) 0
 aI:Below wr.heap.size wr wk
 inn:Inn A k
end Cu
