import Derived.Test.YtdbdacceecnpmaaGreatDoorQr4
set_option maxRecDepth 100000
set_option maxHeartbeats 2000000
namespace Go.Proofs.YtdbdacceecnpmaaGreatDoor
open Go.Proofs.Tryz Go.RowKit
open Ck (LL RdL lat sE sN snd snd_is tE tN who_cases)
open Fl (K4 arr4 at_bool file goodF hdr okR rat rec4 ret_bool row_cell row_frozen sto4 sto4_below sto4_other z4)
open Fs (Abs Fx OkA Only St Wf gB gV)
open Ro (E5 K5 at5 eat eat_mem ent good_any mayB mayP okB okE okE_bounds ok_yes z5)
open Rw (At Ow Rd)
open Ua (Row arr arr_congr arr_one frm info_of load_frame store_frame store_new tb tp)
namespace Pa
open Go.Maps
open Fs (Rh sA sB dA dD dE copy_any CopySt dos_any DoSPost Glob rd_only)
open Fl (R4)
attribute [local irreducible] Sd.wpSd wpQuiet
variable {w w' wr wr' w1 w2:World} {b r cnt s g N B0 B1 cnt':Nat} {D:DataW Value} {left left':Lit->Bool}
theorem ranges_kept {n:Nat} (h:w.ranges prog 261 Rh b r n D left cnt) (hb:w'.heap[b]? = w.heap[b]?) (hr:w'.heap[r]? = w.heap[r]?):w'.ranges prog 261 Rh b r n D left cnt:=by
 obtain ⟨es,clock,since,seen,c0,q1,q2,q3,q4,q5,q6⟩:=h;exact ⟨es,clock,since,seen,c0,hb.trans q1,q2,q3,q4,hr.trans q5,q6⟩
def Vis (t:List E5) (left:Lit->Bool) (n k:Int):Bool:=decide (grp t n k≠[]) && !left (pk n k)
structure Fixed (w:World) (t:List E5) (b r N B0 B1:Nat) (vs:Int->Int->Value) (D:DataW Value):Prop where
 has:∀ f r,Wf f->Wf r->Maps.has D (pk f r)=decide (grp t f r≠[])
 val:∀ f r,Wf f->Wf r->grp t f r≠[]->∀ z,D.atKey (pk f r) z = .held (vs f r)
 in_:∀ f r k,(vs f r).ownBlock=some k->B0<=k/\k < B1
 inb:B0<=b/\b < B1
 inr:B0<=r/\r < B1
 le:w.heap.size<=B0
structure AI (w:World) (t:List E5) (h:Hr) (A:Abs) (d:Int) (b r N B0 B1:Nat) (vs:Int->Int->Value) (D:DataW Value) (g:Nat) (wr:World) (left:Lit->Bool) (cnt:Nat) (F:Nat->Prop):Prop where
 rg:wr.ranges prog 261 Rh b r N D left cnt
 has:∀ kl,left kl=true->Maps.has D kl=true
 st:St wr g F (recV h t (Vis t left) A) d
 row:∀ f r,Rd K5 wr (vs f r) (grp t f r)
 lo:∀ k,F k->w.heap.size<=k
 off:∀ k,F k->k < B0\/B1<=k
 sz:B1<=wr.heap.size
 bel:Below w.heap.size w wr
def ApPost (w:World) (x:Abs×Int) (e:Ending) (w':World):Prop:=∃ g F,e = .returned (ptr g)/\St w' g F x.1 x.2/\(∀ k,F k->w.heap.size<=k)/\Below w.heap.size w w'
variable {n k f d:Int} {t:List E5}
theorem grp_wf (ok:∀ x∈t,okE x) (h:grp t n k≠[]):Wf n/\Wf k:=by
 obtain ⟨x,hx⟩:=List.exists_mem_of_ne_nil _ h;obtain ⟨h1,h2⟩:=cg.1 hx;obtain ⟨_,_,q1,q2,_⟩:=okE_bounds (ok x h1);simp only [mt,aZ] at h2;rw [← h2.2.1,← h2.2.2];exact ⟨wf_of (by omega),wf_of (by omega)⟩
theorem grp_y (ok:∀ x∈t,okE x) (n k:Int):okY (grp t n k):=fun x hx=>by
 obtain ⟨_,_,_,_,q⟩:=okE_bounds (ok x (cg.1 hx).1);exact q
theorem grp_r (ok:∀ x∈t,okE x) (h:grp t n k≠[]):k≠0:=by
 obtain ⟨x,hx⟩:=List.exists_mem_of_ne_nil _ h;obtain ⟨h1,h2⟩:=cg.1 hx;simp only [mt,aZ] at h2;have:=ok x h1;unfold okE Ro.place at this
 omega
theorem grp_h (ok:∀ x∈t,okE x) (n k:Int):∀ x∈grp t n k,Wf x.2.1/\0<=x.2.2.2.2/\x.2.2.2.2<=3:=fun x hx=>by
 obtain ⟨_,q1,_,_,q⟩:=okE_bounds (ok x (cg.1 hx).1);exact ⟨wf_of (by omega),q⟩
variable {h:Hr} {A A':Abs}
theorem vis_next (ok:∀ x∈t,okE x) {r:Int} (hf:Wf f) (hr:Wf r) (hl:left (pk f r)=true) (hg:grp t f r≠[]) (hA:OkA A) :
 rcv1 h (grp t f r) f r (recV h t (Vis t left) A)=recV h t (Vis t fun z=>left z && !z.sameKey (pk f r)) A:=by
 rw [rcv1_next hA (grp_r ok hg) (grp_y ok f r)];refine rec_congr fun n k hnk=>?_;obtain ⟨hn,hk⟩:=grp_wf ok hnk;unfold also Vis
 by_cases e:n=f/\k=r
 ·obtain ⟨rfl,rfl⟩:=e
  have:(pk n k).sameKey (pk n k)=true:=by simp [pk,Lit.sameKey]
  simp [hnk,this]
 ·have:=sameKey_ne fun e2=>e (pk_inj hn hk hf hr e2)
  simp [this,e]
theorem vis_start (ok:∀ x∈t,okE x) (hD:∀ f r,Wf f->Wf r->Maps.has D (pk f r)=decide (grp t f r≠[])) (h:Hr) (A:Abs):recV h t (Vis t (Maps.has D)) A=A:=by
 rw [rec_congr (V':=fun _ _=>false) fun n k hnk=>?_]
 ·exact rec_none fun _ _=>rfl
 ·obtain ⟨hn,hk⟩:=grp_wf ok hnk
  unfold Vis;rw [hD n k hn hk]
  simp [hnk]
theorem vis_end (hl:∀ kl,left kl=false) (h:Hr) (A:Abs):recV h t (Vis t left) A=recA h t A:=rec_all fun n k hnk=>by
 unfold Vis;rw [hl]
 simp [hnk]
variable {x x':Abs×Int}
theorem copy_has (H:Has w s x):Calls prog 118 #[.pointer (some ⟨s,0,none⟩)] w (CopySt w x.1 x.2):=by
 obtain ⟨F,S⟩:=H;exact copy_any S
theorem glob_lt (hg:Glob w):0 < w.heap.size:=aC _ _ hg
structure XI (w:World) (g:Nat) (x:Abs×Int) (wr:World) (F:Nat->Prop):Prop where
 st:St wr g F x.1 x.2
 lo:∀ k,F k->w.heap.size<=k
 bel:Below w.heap.size w wr
theorem XI.below {w:World} {g:Nat} {x:Abs×Int} {wr wr':World} {F:Nat->Prop} (h:XI w g x wr F) (b:Below wr.heap.size wr wr'):XI w g x wr' F:=⟨h.st.below b,h.lo,h.bel.trans (b.mono h.bel.size)⟩
variable {F:Nat->Prop}
theorem XI.step (h:XI w g x wr F) (st:St wr' g (Fx F wr wr') x'.1 x'.2) (o:Only F wr wr'):XI w g x' wr' (Fx F wr wr') :=
 ⟨st,fun k hk=>by
  rcases hk with hk | ⟨hk,_⟩
  ·exact h.lo k hk
  ·exact aX h.bel.size hk,h.bel.trans (o.below h.bel.size h.lo)⟩
theorem AI.step {vs:Int->Int->Value}
 (I:AI w t h A d b r N B0 B1 vs D g wr left cnt F) (X:Fixed w t b r N B0 B1 vs D) (rg:w1.ranges prog 261 Rh b r N D left' cnt') (has:∀ kl,left' kl=true->left kl=true) (g1:wr.grownBy w1 (some r)) (st:St w2 g (Fx F w1 w2) A' d) (o:Only F w1 w2) (e:A'=recV h t (Vis t left') A) :
 AI w t h A d b r N B0 B1 vs D g w2 left' cnt' (Fx F w1 w2):=by
 have off:∀ k,B0<=k->k < B1->¬ F k:=fun k h0 h1 hk=>by rcases I.off k hk with h | h <;> omega
 have z1:=g1.size;have hs:=I.sz;have ib:=X.inb;have ir:=X.inr;have le:=X.le;have eb:=o.block b (by omega) (off b ib.1 ib.2);have er:=o.block r (by omega) (off r ir.1 ir.2);have bw1:Below w.heap.size w w1:=I.bel.grown g1 I.bel.size (fun j hj=>by injection hj with hj;omega);refine ⟨ranges_kept rg eb er,fun kl hl=>I.has kl (has kl hl),by rw [← e];exact st,fun f r'=>?_,fun k hk=>?_,fun k hk=>?_,aX (aX hs z1) o.size,bw1.trans (o.below bw1.size I.lo)⟩
 ·have R:=I.row f r'
  obtain ⟨es,clock,since,seen,c0,_,_,_,_,hr,_⟩:=I.rg
  have R1:=rd_only R (G:=fun k=>k=r) (fun h0 k hk e=>by
   subst e;obtain ⟨a,cap,ea,_,_,h3⟩:=R;obtain ⟨b',off',rfl,hA⟩:=h3 h0;rw [ea] at hk;obtain rfl:b'=k:=by simpa [Value.ownBlock] using hk
   have c:=hA 0 h0 0 _ rfl
   simp [World.cell?,hr] at c) (Only.grown rfl g1)
  exact rd_only R1 (fun h0 k hk=>off k (X.in_ f r' k hk).1 (X.in_ f r' k hk).2) o
 ·rcases hk with hk | ⟨hk,_⟩
  ·exact I.lo k hk
  ·exact aX bw1.size hk
 ·rcases hk with hk | ⟨hk,_⟩
  ·exact I.off k hk
  ·exact .inr (by omega)
theorem apply_any (H:Has w s x) (hg:Glob w) (hd:0<=x.2/\x.2 < 900000) {v hv:Value} (R:Rd K5 w v t) (ok:∀ y∈t,okE y) (hl:t.length<=100) (M:HMap w hv h) (hh:okH h) :
 Calls prog 116 #[.pointer (some ⟨s,0,none⟩),v,hv] w (ApPost w (apS h t x)):=by
 have HG:=Hh hg;have C0:=Hh (copy_has H);have RR:=Hh R;have MM:=Hh M;have hA:=Hh H.okA;obtain ⟨A,d⟩:=x;unfold CopySt at C0;simp only at C0 hd hA;obtain ⟨a,cap,rfl,_,hm,hA0⟩:=R;have HA0:=Hh hA0;clear hA0;unfold maxLen at hm;clear H M hg;generalize hn:t.length=n at *;have HN:=Hh hn;have OKT:=Hh ok;have HH:=Hh hh;clear hn ok hh
 go_enter func116,ntmps116
 go_wp2_with fail;refine C0.mono ?_;rintro e w1 ⟨g,F1,rfl,s1,lo1,b1⟩;have S1:=Hh s1;have LO1:=Hh lo1;have B1:=Hh b1;clear s1 lo1 b1 C0;have RC:=Hh (received_any w1 _ t (RR.below B1) OKT (by have:=HN.out;omega));go_wp2_with fail;refine RC.mono ?_;rintro e w2 ⟨b,N,vs,D,rfl,gm,hb,hN,b2⟩;have GM:=Hh gm;have B2:=Hh b2;have own2:=gm.own;have HB:=Hh (bT hb hN);clear gm b2 RC hb hN
 go_wp2_with (first
  | (at_range;refine wpList_range_own _ rfl _ 258 rfl 261 175 keyedP underlying258 _ b N _ rfl own2 ?_;intro w0 hrg0 hg0 hs0)
  | fail)
 go_frame
 have hz1:=B1.size;have hz2:=B2.size;have FX:Hid (Fixed w t b w2.heap.size N w1.heap.size w0.heap.size vs D):=Hh ⟨GM.has,GM.val,fun f r k hk=>by have:=aU (GM.out.row f r) k hk;have:=HB.out.1;omega,⟨HB.out.1,by have:=GM.out.own.lt;omega⟩,⟨hz2,by omega⟩,hz1⟩;have G0:Hid (Below w2.heap.size w2 w0):=Hh ((aa _ _).grown hg0 (ac _) (fun j hj=>by cases hj));have I0:Hid (AI w t h A d b w2.heap.size N w1.heap.size w0.heap.size vs D g w0 (Maps.has D) (Maps.size D) F1):=Hh
  ⟨hrg0,fun kl hk=>hk,by rw [vis_start OKT.out GM.out.has];exact (S1.out.below B2.out).below G0.out,fun f r=>((GM.out.row f r).rd).below G0.out,LO1.out,fun k hk=>.inl (S1.out.low k hk),ac _,(B1.out.trans (B2.out.mono hz1)).trans (G0.out.mono (by omega))⟩
 clear hrg0 hg0 hs0 own2 G0 GM B1 B2 S1 LO1 hz1 hz2 HB;generalize w2.heap.size=r0 at *;generalize w1.heap.size=B0 at *;generalize w0.heap.size=B1 at *
 go_loopw [9] (fun _ wr=>∃ left cnt F,Hid (AI w t h A d b r0 N B0 B1 vs D g wr left cnt F)) (fun _ wr=>wr.rangeLeft b r0)
 case atStart=>exact ⟨_,_,_,I0⟩
 case round =>
  obtain ⟨left,cnt,F,I⟩:=hrel;clear I0;have hrg:=I.rg
  go_wp2_with (first
   | (at_next;refine wpList_next_ranges _ rfl _ rfl 261 keyedP Rh (fun p:Int×Int=>plc p.1 p.2) id (fun key kl hkey=>by obtain ⟨f,r,e,_⟩:=keyP_inv hkey;exact ⟨(f,r),e⟩) (fun v y _=>⟨v,rfl⟩) b r0 N _ _ _ rfl hrg ?_ ?_)
   | fail)
  ·intro hc0 hl0
   have SA:Hid (Has wr g (recA h t A,d)):=Hh ⟨F,by have:=I.st;rwa [vis_end hl0] at this⟩;have XI0:Hid (XI w g (exU t (recA h t A,d) 0) wr F):=Hh ⟨by have:=I.st;rwa [vis_end hl0] at this,I.lo,I.bel⟩;have XD:=Hh (fun k=>exU_d (t:=t) (recA h t A,d) k);have XE:=Hh (exU_end (t:=t) h (A,d));have XY:=Hh (fun k hk h3=>exU_yes (t:=t) (recA h t A,d) (j:=k) hk h3);have XN:=Hh (fun k hk h3=>exU_no (t:=t) (recA h t A,d) (j:=k) hk h3);clear SA hl0 hrg FX I;generalize recA h t A=RA at *;go_wp2;clear hc0 cnt left
   go_loopw [29] (fun i wr=>∃ (k:Nat) (F:Nat->Prop),k<=n/\i = .int .i64 k/\Hid (XI w g (exU t (RA,d) k) wr F)) (fun i _=>n - (intOf i).toNat)
   case atStart=>exact ⟨0,F,aI _,rfl,XI0⟩
   case round =>
    rename_i wr0 wr
    obtain ⟨k,F',hk,rfl,I⟩:=hrel;clear XI0
    by_cases hlt:k < n
    ·obtain ⟨b1,off,rfl,A1⟩:=HA0 (by omega)
     obtain ⟨c0,c1,c2,c3,c4⟩:=at5 (A1.below I.bel) k (by have:=HN.out;omega);rw [show t.getD k z5=eat t k from rfl] at c0 c1 c2 c3 c4;have okx:=OKT.out _ (Ro.eat_mem (l:=t) (i:=k) (by have:=HN.out;omega));have Y3:=Hh (XY k (by have:=HN.out;omega));have N3:=Hh (XN k (by have:=HN.out;omega));have DD:=XD.out k;generalize eat t k=x at *;obtain ⟨q,s',f',r',y⟩:=x;simp only at c0 c1 c2 c3 c4 Y3 N3;have I1:=Hh (I.below ((aa wr.heap.size wr).alloc (ac _) (.cells #[.int .i64 q,.int .i64 s',.int .i64 f',.int .i64 r',.int .i64 y] 244)));clear A1 I
     by_cases h3:q=3
     ·subst h3
      have Y4:=Hh (Y3 rfl);have DO:=Hh (dos_any I1.st (HG.below I1.bel) (fun hk=>by have:=I1.out.lo _ hk;have:=glob_lt HG.out;omega) (by have:=HN.out;omega) 2 f' r' z4 Fl.okR_z);unfold Ad.addr rec4 z4 at DO;clear Y3 N3 okx DD;go_wp2_with fail;refine DO.mono ?_;rintro e w5 ⟨rfl,q1,q2⟩;have I2:=Hh (I1.step (x':=exU t (RA,d) (k+1)) (by rw [Y4.out];exact q1) q2);clear q1 q2 DO I1;go_wp2
      go_roundw
      case rel=>exact ⟨k+1,_,by omega,by go_num,I2⟩
      case measure=>simp [intOf];omega
     ·have d3:(q == 3)=false:=by simpa using h3
      have N4:=N3.out h3;have I2:Hid (XI w g (exU t (RA,d) (k+1)) (wr.alloc (.cells #[.int .i64 q,.int .i64 s',.int .i64 f',.int .i64 r',.int .i64 y] 244)) F'):=by rw [N4];exact I1
      clear Y3 N3 okx DD N4 I1;go_wp2
      go_roundw
      case rel=>exact ⟨k+1,_,by omega,by go_num,I2⟩
      case measure=>simp [intOf];omega
    ·obtain rfl:k=n:=by omega
     have RES:Hid (ApPost w (apS h t (A,d)) (.returned (ptr g)) wr):=Hh ⟨g,F',rfl,by have:=I.out.st;rw [← HN.out] at this;rw [← XE.out];exact this,I.out.lo,I.out.bel⟩;go_wp2
     go_ret
     exact RES
  ·intro f r u kl y y2 w1 cnt1 hkey hlk hv hat hrg1 hlt hg1 hs1 hen
   obtain ⟨f',r',e1,hf,hr⟩:=keyP_inv hkey;obtain ⟨rfl,rfl⟩:f=f'/\r=r':=by
    unfold plc at e1;injection e1 with e1;have h1:=bF (fun t:Array Value=>t[0]?) e1;have h2:=bF (fun t:Array Value=>t[1]?) e1
    simp at h1 h2
    exact ⟨h1,h2⟩
   obtain rfl:kl=pk f r:=by
    have:=keyP hf hr;rw [hkey] at this;exact bh this
   have hg:=I.has _ hlk;rw [FX.out.has f r hf hr,aZ] at hg;have hv':u=vs f r:=by
    obtain ⟨h2,_⟩:DataW.held u=y/\[]=y2:=by simpa [Rh] using hv
    have h1:=hat .nil;rw [FX.out.val f r hf hr hg,← h2] at h1;injection h1 with h1;exact h1.symm
   subst hv';have hsz:=I.sz;have g1:=hg1;have bw1:Below w.heap.size w w1:=I.bel.grown hg1 I.bel.size (fun j hj=>by injection hj with hj;have:=FX.out.inr.1;have:=FX.out.le;omega);have off:∀ k,B0<=k->k < B1->¬ F k:=fun k h0 h1 hk=>by rcases I.out.off k hk with h | h <;> omega
   have st1:St w1 g F (recV h t (Vis t left) A) d:=I.st.only (G:=fun k=>k=r0) (fun k hk e=>by subst e;exact off k FX.out.inr.1 FX.out.inr.2 hk) (Only.grown rfl hg1)
   have R1:Rd K5 w1 (vs f r) (grp t f r):=rd_only (I.row f r) (G:=fun k=>k=r0) (fun h0 k hk e=>by
    subst e;obtain ⟨es,clock,since,seen,c0,_,_,_,_,hr0,_⟩:=I.rg;obtain ⟨a',cap',ea,_,_,h3⟩:=I.row f r;obtain ⟨b',off',rfl,hA'⟩:=h3 h0;rw [ea] at hk;obtain rfl:b'=k:=by simpa [Value.ownBlock] using hk
    have c:=hA' 0 h0 0 _ rfl
    simp [World.cell?,hr0] at c) (Only.grown rfl hg1)
   have bx:Below w1.heap.size w1 (w1.alloc (.cells #[.int .i64 f,.int .i64 r] 261)):=(aa _ _).alloc (ac _) _;have RV:=Hh (receive_any (st1.below bx) hf (r:=r) (R1.below bx) ((MM.below bw1).below bx) HH (grp_h OKT f r));have EQ:Hid (rcv1 h (grp t f r) f r (recV h t (Vis t left) A)=recV h t (Vis t fun z=>left z && !z.sameKey (pk f r)) A):=Hh (vis_next OKT hf hr hlk hg hA);have STEP:Hid (∀ w3 A',St w3 g (Fx F w1 w3) A' d->Only F w1 w3->A'=recV h t (Vis t fun z=>left z && !z.sameKey (pk f r)) A->AI w t h A d b r0 N B0 B1 vs D g w3 (fun z=>left z && !z.sameKey (pk f r)) cnt1 (Fx F w1 w3)):=Hh (fun w3 A' st o e=>I.step FX hrg1 (fun kl hl=>by simp at hl;exact hl.1) hg1 st o e);have BX:=Hh bx;have LT:=Hh hlt;have RG:=Hh I.rg;obtain ⟨au,cu,ev,_⟩:=R1.slice;rw [ev] at hen RV ⊢;generalize (grp t f r).length=gl at *;unfold plc at hen ⊢;clear st1 R1 bx off bw1 hrg1 hlt hg1 g1 hs1 hat hv hlk hkey hg hrg hsz I e1 ev;go_wp2_with fail;refine RV.mono ?_;rintro e w3 ⟨rfl,q1,q2⟩;have o3:=(Only.of_below (G:=F) BX).trans q2 fun _ _ g=>g
   have NEW:=Hh (STEP w3 _ (by
    refine q1.wide (fun k hk=>?_) (fun k hk=>?_)
    ·rcases hk with hk | ⟨hk,hk2⟩
     ·exact .inl hk
     ·exact .inr ⟨aX BX.size hk,hk2⟩
    ·rcases hk with hk | ⟨_,hk⟩
     ·exact q1.low k (.inl hk)
     ·exact hk) o3 EQ)
   have MS:Hid (w3.rangeLeft b r0 < wr.rangeLeft b r0):=by
    show _ < _
    rw [NEW.out.rg.left_eq,RG.out.left_eq];exact LT
   clear q1 q2 o3 STEP EQ RG LT RV hen;go_wp2
   go_roundw
   case rel=>exact ⟨_,_,_,NEW⟩
   case measure=>exact MS
end Pa
namespace Ck
attribute [local irreducible] Sd.wpSd wpQuiet
def sto5 (w:World) (g:Nat) (x:E5):World:=((((w.setCell ⟨g,0,none⟩ (.int .i64 x.1)).setCell ⟨g,1,none⟩ (.int .i64 x.2.1)).setCell ⟨g,2,none⟩ (.int .i64 x.2.2.1)).setCell ⟨g,3,none⟩ (.int .i64 x.2.2.2.1)).setCell ⟨g,4,none⟩ (.int .i64 x.2.2.2.2)
variable {w W:World} {g k B:Nat} {y x:E5}
theorem sto5_row (h:RowE w g y) (x:E5):RowE (sto5 w g x) g x :=
 Rw.heap_setCell_same (Rw.heap_setCell_same (Rw.heap_setCell_same (Rw.heap_setCell_same (Rw.heap_setCell_same h _) _) _) _) _
theorem sto5_other {o:Option Obj} (h:w.heap[k]? = o) (hne:k≠g):(sto5 w g x).heap[k]? = o :=
 (aH _ _ _ _ hne).trans ((aH _ _ _ _ hne).trans ((aH _ _ _ _ hne).trans ((aH _ _ _ _ hne).trans ((aH _ _ _ _ hne).trans h))))
theorem sto5_below (h:Below B w W) (hb:B<=g):Below B w (sto5 W g x) :=
 ((((h.setCell (p:=⟨g,0,none⟩) hb _).setCell (p:=⟨g,1,none⟩) hb _).setCell (p:=⟨g,2,none⟩) hb _).setCell (p:=⟨g,3,none⟩) hb _).setCell (p:=⟨g,4,none⟩) hb _
def PredS (g:Nat) (lb:Array Value) (p:Nat->E5->Bool) (L:LL) (w:World):Prop :=
 ∀ (W:World) (n:Nat) (x:E5),n < L.length->x∈lat L n->Below w.heap.size w W->Calls prog g (#[.int .i64 n,.agg #[.int .i64 x.1,.int .i64 x.2.1,.int .i64 x.2.2.1,.int .i64 x.2.2.2.1,.int .i64 x.2.2.2.2]] ++ lb) W fun e w'=>e = .returned (.bool (p n x))/\Below W.heap.size W w'
def WhoPost (w:World) (n:Int) (x:E5) (e:Ending) (w':World):Prop:=e = .returned (.tuple #[.int .i64 n,ent x])/\Below w.heap.size w w'
theorem find_any (w:World) (v:Value) (L:LL) (g:Nat) (lb:Array Value) (p:Nat->E5->Bool) (eg:∀ args w,(callFunc g args).run prog w = .ok (.enter g args) w) (R:RdL w v L) (hp:PredS g lb p L w) :
 Calls prog 189 #[v,.func (.func g) #[] lb] w (WhoPost w (whoN p L) (whoE p L)):=by
 obtain ⟨a,cap,rfl,_,hm,hA⟩:=R;have HA:=Hh hA;have HP:=Hh hp;have HH:Hid (∀ k i w',Within p L k i->k < L.length->i < (lat L k).length->p k (eat (lat L k) i)=true->Below w.heap.size w w'->WhoPost w (whoN p L) (whoE p L) (.returned (.tuple #[.int .i64 (k:Int),ent (eat (lat L k) i)])) w'):=fun k i w' h hk hi hq b=>by
  obtain ⟨e1,e2⟩:=within_hit h hk hi hq;rw [e1,e2];exact ⟨rfl,b⟩
 have HM:Hid (∀ w',Ahead p L L.length->Below w.heap.size w w'->WhoPost w (whoN p L) (whoE p L) (.returned (.tuple #[.int .i64 (-1),ent z5])) w'):=fun w' h b=>by
  obtain ⟨e1,e2⟩:=ahead_end h;rw [e1,e2];exact ⟨rfl,b⟩
 clear hA hp;generalize whoN p L=rn at *;generalize whoE p L=re at *;unfold maxLen at hm;generalize hn:L.length=n at *;have HN:=Hh hn;clear hn;have R0:Hid (RowE (w.alloc (.cells #[.int .i64 0,.int .i64 0,.int .i64 0,.int .i64 0,.int .i64 0] 244)) w.heap.size z5):=am w _;have B0:=Hh ((aa w.heap.size w).alloc (ac _) (.cells #[.int .i64 0,.int .i64 0,.int .i64 0,.int .i64 0,.int .i64 0] 244))
 go_enter func189,ntmps189
 go_wp2;generalize w.alloc (.cells #[.int .i64 0,.int .i64 0,.int .i64 0,.int .i64 0,.int .i64 0] 244)=w0 at *
 go_loopw [12] (fun i wr=>∃ k:Nat,k<=n/\i = .int .i64 k/\Hid (RowE wr w.heap.size z5)/\Hid (Below w.heap.size w wr)/\Hid (Ahead p L k)) (fun i _=>n - (intOf i).toNat)
 case atStart=>exact ⟨0,aI _,rfl,R0,B0,ahead_zero⟩
 case round =>
  obtain ⟨k,hk,rfl,rr,bw,hs⟩:=hrel
  by_cases hlt:k < n
  ·obtain ⟨b,off,rfl,A⟩:=HA (by omega)
   obtain ⟨u,c,a',cap',rfl,_,hm',hA'⟩:=A k hlt;have c':=bCe bw c;have HA':=Hh hA';have HX:=Hh (fun i (h:i < (lat L k).length)=>eat_mem h);have HAA:=Hh A;have HK:=Hh (show k < L.length by rw [HN.out];exact hlt);clear hA' c A;unfold maxLen at hm';generalize hl:(lat L k).length=m at *;have HL:=Hh hl;clear hl;have W0:=Hh (within_zero hs);clear hs;go_wp2
   go_loopw [19] (fun i wr=>∃ j:Nat,j<=m/\i = .int .i64 j/\Hid (RowE wr w.heap.size z5)/\Hid (Below w.heap.size w wr)/\Hid (Within p L k j)) (fun i _=>m - (intOf i).toNat)
   case atStart=>exact ⟨0,aI _,rfl,rr,bw,W0⟩
   case round =>
    clear c' rr bw W0;obtain ⟨j,hj,rfl,rr,bw,hs⟩:=hrel
    by_cases hjt:j < m
    ·obtain ⟨b',off',rfl,A'⟩:=HA' (by omega)
     obtain ⟨c0,c1,c2,c3,c4⟩:=at5 (A'.below bw) j (by rw [HL.out];exact hjt);rw [show (lat L k).getD j z5=eat (lat L k) j from rfl] at c0 c1 c2 c3 c4;have hc:=fun W hb=>HP W k (eat (lat L k) j) HK (HX j hjt) hb;have YES:=Hh (fun w' h hb=>HH k j w' hs (by have:=HK.out;rw [HN.out] at this;exact this) (by rw [HL.out];exact hjt) h hb);have NO:=Hh (fun h=>within_next hs (by rw [HL.out];exact hjt) h);clear A' hs;generalize eat (lat L k) j=x at *;have bx:=(aa wr.heap.size wr).alloc (ac _) (.cells #[.int .i64 x.1,.int .i64 x.2.1,.int .i64 x.2.2.1,.int .i64 x.2.2.2.1,.int .i64 x.2.2.2.2] 244);have gr:=rr.lt;have B1:=bTr bw bx;have R1:=Hh (rr.below bx gr);have X1:RowE (wr.alloc (.cells #[.int .i64 x.1,.int .i64 x.2.1,.int .i64 x.2.2.1,.int .i64 x.2.2.2.1,.int .i64 x.2.2.2.2] 244)) wr.heap.size x:=am wr _;clear bx;go_upto_region 7 with fail;clear c0 c1 c2 c3 c4;generalize wr.alloc (.cells #[.int .i64 x.1,.int .i64 x.2.1,.int .i64 x.2.2.1,.int .i64 x.2.2.2.1,.int .i64 x.2.2.2.2] 244)=V at *;generalize wr.heap.size=gx at *;have x0:=Fl.rc X1 0;have x1:=Fl.rc X1 1;have x2:=Fl.rc X1 2;have x3:=Fl.rc X1 3;have x4:=Fl.rc X1 4;have C:=Hh (hc V B1);have XX:=Hh X1;clear hc X1;generalize hq:p k x=q at *
     cases q with
     | true =>
       have Y:=Hh (fun w' hb=>YES w' rfl hb);clear hq YES NO;go_wp2_with fail;refine C.mono ?_;rintro e w1 ⟨rfl,b1⟩;have B2:=bTr B1 b1;have X2:=XX.below b1 XX.lt;have R2:=Hh (R1.below b1 R1.lt);clear b1 x0 x1 x2 x3 x4 C XX B1 R1;go_upto_region 8 with fail;have C0:RowE w1.drew gx x:=X2;have ne:Nonempty (Sc.In (fun W=>RowE W gx x)):=⟨⟨_,C0⟩⟩;have x0:=Sc.cell_in (C:=fun W=>RowE W gx x) (a:=⟨gx,0,none⟩) (v:=.int .i64 x.1) (fun W h=>row_cell h 0);have x1:=Sc.cell_in (C:=fun W=>RowE W gx x) (a:=⟨gx,1,none⟩) (v:=.int .i64 x.2.1) (fun W h=>row_cell h 1);have x2:=Sc.cell_in (C:=fun W=>RowE W gx x) (a:=⟨gx,2,none⟩) (v:=.int .i64 x.2.2.1) (fun W h=>row_cell h 2);have x3:=Sc.cell_in (C:=fun W=>RowE W gx x) (a:=⟨gx,3,none⟩) (v:=.int .i64 x.2.2.2.1) (fun W h=>row_cell h 3);have x4:=Sc.cell_in (C:=fun W=>RowE W gx x) (a:=⟨gx,4,none⟩) (v:=.int .i64 x.2.2.2.2) (fun W h=>row_cell h 4);refine Sc.start (fun W=>RowE W gx x) [(false,0),(false,1),(false,2),(true,3)] (by kernel_rfl) (by kernel_rfl) (by kernel_rfl) C0 ?_;dsimp only [Sd.picks,List.getElem?_cons_succ,List.getElem?_cons_zero]
       iterate 3 (refine Sd.lit ?_;quiet_step (fail);refine az ?_)
       refine Sd.call (by rfl) (fun K hK=>?_);clear x0 x1 x2 x3 x4 ne;have R2d:Hid (RowE w1.drew w.heap.size z5):=Hh R2;have B2d:=Hh (B2.drew);clear R2 B2 X2;generalize w1.drew=W2 at *;have d0:=Fl.rc R2d 0;have d1:=Fl.rc R2d 1;have d2:=Fl.rc R2d 2;have d3:=Fl.rc R2d 3;have d4:=Fl.rc R2d 4;have f0:W2.frozen? ⟨w.heap.size,0,none⟩=false:=row_frozen R2d 0;have f1:W2.frozen? ⟨w.heap.size,1,none⟩=false:=row_frozen R2d 1;have f2:W2.frozen? ⟨w.heap.size,2,none⟩=false:=row_frozen R2d 2;have f3:W2.frozen? ⟨w.heap.size,3,none⟩=false:=row_frozen R2d 3;have f4:W2.frozen? ⟨w.heap.size,4,none⟩=false:=row_frozen R2d 4;have hne:gx≠w.heap.size:=by have:=gr;omega
       have X3:RowE (sto5 W2 w.heap.size x) gx x:=sto5_other C0 hne;have R3:=Hh (sto5_row (y:=z5) R2d x);have B3:=Hh (sto5_below (g:=w.heap.size) (x:=x) B2d (ac _));go_simp;refine hK _ _ (Sc.Cl.of X3) ?_;clear hK K d0 d1 d2 d3 d4 f0 f1 f2 f3 f4;refine Sd.done ?_
       show Exit.then _ _ _ _ (sto5 W2 w.heap.size x)
       generalize sto5 W2 w.heap.size x=wS at *;go_wp2
       (try simp only [Exit.inBlock,Exit.then])
       exact aA (v:=.tuple #[.int .i64 (k:Int),ent x]) (results_who (p:=5) (r:=4) rfl _ _ w.heap.size k x rfl rfl R3) rfl (Y _ B3)
     | false =>
       have ST:=Hh (NO rfl);clear hq YES NO;go_wp2_with fail;refine C.mono ?_;rintro e w1 ⟨rfl,b1⟩;have B2:=bTr B1 b1;have R2:=Hh (R1.below b1 R1.lt);clear b1 x0 x1 x2 x3 x4 C XX B1 R1;go_wp2
       go_roundw
       case rel=>exact ⟨j+1,by omega,by go_num,R2,B2,ST⟩
       case measure=>simp [intOf];omega
    ·obtain rfl:j=m:=by omega
     have ST:=Hh (within_end (by rw [HL.out];exact hs.out) HK.out);clear hs;go_wp2
     go_roundw
     case rel=>exact ⟨k+1,by omega,by go_num,rr,bw,ST⟩
     case measure=>simp [intOf];omega
  ·obtain rfl:k=n:=by omega
   have d0:=Fl.rc rr 0;have d1:=Fl.rc rr 1;have d2:=Fl.rc rr 2;have d3:=Fl.rc rr 3;have d4:=Fl.rc rr 4;have f0:=row_frozen rr 0;have f1:=row_frozen rr 1;have f2:=row_frozen rr 2;have f3:=row_frozen rr 3;have f4:=row_frozen rr 4;have R3:=Hh (sto5_row (y:=z5) rr z5);have B3:=Hh (sto5_below (g:=w.heap.size) (x:=z5) bw (ac _));have E:=Hh (HM _ hs B3);go_wp2
   (try simp only [Exit.inBlock,Exit.then])
   exact aA (v:=.tuple #[.int .i64 (-1),ent z5]) (results_who (p:=5) (r:=4) rfl _ _ w.heap.size (-1) z5 rfl rfl R3) rfl E
theorem makeF (fn:Fn) (first cap:Array Value) (w:World):(Instr.makeFunc fn first cap).run prog w = .ok (.func fn first cap) w:=rfl
theorem sclos_any (w:World) (B:Nat) (s:Int) (L:LL) (hc:w.cell? ⟨B,0,none⟩=some (.int .i64 s)):PredS 225 #[.pointer (some ⟨B,0,none⟩)] (snd s) L w:=fun W n x _ _ hb=>by
 have hlt:=aC _ _ hc;have d:=(hb.cell hlt).trans hc;have hBW:=aV hlt hb.size;clear hc hlt hb
 show Calls prog 225 #[.int .i64 n,.agg #[.int .i64 x.1,.int .i64 x.2.1,.int .i64 x.2.2.1,.int .i64 x.2.2.2.1,.int .i64 x.2.2.2.2],.pointer (some ⟨B,0,none⟩)] W _
 have HB:=Hh (fun o=>(aa W.heap.size W).alloc (ac _) o);obtain ⟨x1,x2,x3,x4,x5⟩:=x;have Y:=fun h1 h2=>snd_yes (s:=s) (n:=n) (x:=(x1,x2,x3,x4,x5)) h1 h2;have N:=fun h=>snd_no (s:=s) (n:=n) (x:=(x1,x2,x3,x4,x5)) h;simp only at Y N ⊢
 by_cases h1:x1=1
 ·by_cases h2:x2=s
  ·rw [Y h1 h2]
   clear Y N
   go_enter func225,ntmps225
   go_wp2
   go_ret
   exact ⟨ret_bool (by first | rfl | simpa using h2),HB.out _⟩
  ·rw [N (fun h=>h2 h.2)]
   clear Y N
   go_enter func225,ntmps225
   go_wp2
   go_ret
   exact ⟨ret_bool (by first | rfl | simpa using h2),HB.out _⟩
 ·rw [N (fun h=>h1 h.1)]
  clear Y N
  go_enter func225,ntmps225
  go_wp2
  go_ret
  exact ⟨ret_bool (by first | rfl | simpa using h2),HB.out _⟩
def InSlots (L:LL):Prop:=∀ n,n < L.length->∀ x∈lat L n,0<=x.2.1/\x.2.1<=16
theorem cclos_any (w:World) (B:Nat) (F:Nat->Int) (L:LL) (hi:InSlots L) (hr:RowI w B F):PredS 209 #[.pointer (some ⟨B,0,none⟩)] (qc F) L w:=fun W n x hn hx hb=>by
 have R:=hr.below hb hr.lt;have hBW:=R.lt;obtain ⟨g1,g2⟩:=hi n hn x hx;clear hr hb hi hn hx
 show Calls prog 209 #[.int .i64 n,.agg #[.int .i64 x.1,.int .i64 x.2.1,.int .i64 x.2.2.1,.int .i64 x.2.2.2.1,.int .i64 x.2.2.2.2],.pointer (some ⟨B,0,none⟩)] W _
 have HB:=Hh (fun o=>(aa W.heap.size W).alloc (ac _) o);obtain ⟨x1,x2,x3,x4,x5⟩:=x;simp only at g1 g2 ⊢;obtain ⟨k,rfl⟩:∃ k:Nat,x2=k:=⟨x2.toNat,by omega⟩;have hk:k < 17:=by omega
 have d:=R.cell k hk;have Y:=fun h=>show qc F n (x1,(k:Int),x3,x4,x5)=true from an h;have N:=fun h=>show qc F n (x1,(k:Int),x3,x4,x5)=false from ak h;simp only [a7] at Y N;clear R g1 g2;generalize F k=z at *
 by_cases h1:x1=1
 ·by_cases h2:z=n
  ·rw [N (fun h=>h.2 h2)]
   clear Y N
   go_enter func209,ntmps209
   go_wp2
   go_ret
   exact ⟨ret_bool (by first | rfl | simpa using h2),HB.out _⟩
  ·rw [Y ⟨h1,h2⟩]
   clear Y N
   go_enter func209,ntmps209
   go_wp2
   go_ret
   exact ⟨ret_bool (by first | rfl | simpa using h2),HB.out _⟩
 ·rw [N (fun h=>h1 h.1)]
  clear Y N
  go_enter func209,ntmps209
  go_wp2
  go_ret
  exact ⟨ret_bool (by first | rfl | simpa using h2),HB.out _⟩
theorem gclos_any (w:World) (B:Nat) (F:Nat->Int) (L:LL) (hi:InSlots L) (hr:RowI w B F):PredS 210 #[.pointer (some ⟨B,0,none⟩)] (qg F) L w:=fun W n x hn hx hb=>by
 have R:=hr.below hb hr.lt;have hBW:=R.lt;obtain ⟨g1,g2⟩:=hi n hn x hx;clear hr hb hi hn hx
 show Calls prog 210 #[.int .i64 n,.agg #[.int .i64 x.1,.int .i64 x.2.1,.int .i64 x.2.2.1,.int .i64 x.2.2.2.1,.int .i64 x.2.2.2.2],.pointer (some ⟨B,0,none⟩)] W _
 have HB:=Hh (fun o=>(aa W.heap.size W).alloc (ac _) o);obtain ⟨x1,x2,x3,x4,x5⟩:=x;simp only at g1 g2 ⊢;obtain ⟨k,rfl⟩:∃ k:Nat,x2=k:=⟨x2.toNat,by omega⟩;have hk:k < 17:=by omega
 have d:=R.cell k hk;have Y:=fun h=>show qg F n (x1,(k:Int),x3,x4,x5)=true from an h;have N:=fun h=>show qg F n (x1,(k:Int),x3,x4,x5)=false from ak h;simp only [a7] at Y N;clear R g1 g2;generalize F k=z at *
 by_cases h1:x1=2
 ·by_cases h2:z < 0
  ·rw [Y ⟨h1,h2⟩]
   clear Y N
   go_enter func210,ntmps210
   go_wp2
   go_ret
   exact ⟨ret_bool (by first | rfl | simpa using h2),HB.out _⟩
  ·rw [N (fun h=>h2 h.2)]
   clear Y N
   go_enter func210,ntmps210
   go_wp2
   go_ret
   exact ⟨ret_bool (by first | rfl | simpa using h2),HB.out _⟩
 ·rw [N (fun h=>h1 h.1)]
  clear Y N
  go_enter func210,ntmps210
  go_wp2
  go_ret
  exact ⟨ret_bool (by first | rfl | simpa using h2),HB.out _⟩
theorem sending_any (w:World) (s:Int):Calls prog 214 #[.int .i64 s] w fun e w'=>e = .returned (.func (.func 225) #[] #[.pointer (some ⟨w.heap.size,0,none⟩)])/\w'=w.alloc (.cells #[.int .i64 s] 3):=by
 have hmf:=makeF
 go_enter func214,ntmps214
 go_wp2
 go_ret
 exact ⟨rfl,rfl⟩
theorem clash_any (w:World) (F:Nat->Int):Calls prog 190 #[.agg (ar F)] w fun e w'=>e = .returned (.func (.func 209) #[] #[.pointer (some ⟨w.heap.size,0,none⟩)])/\w'=w.alloc (.cells (ar F) 311):=by
 have hmf:=makeF
 go_enter func190,ntmps190
 go_wp2
 go_ret
 exact ⟨rfl,rfl⟩
theorem gap_any (w:World) (F:Nat->Int):Calls prog 191 #[.agg (ar F)] w fun e w'=>e = .returned (.func (.func 210) #[] #[.pointer (some ⟨w.heap.size,0,none⟩)])/\w'=w.alloc (.cells (ar F) 311):=by
 have hmf:=makeF
 go_enter func191,ntmps191
 go_wp2
 go_ret
 exact ⟨rfl,rfl⟩
end Ck
namespace Ro
open Fl (R4)
attribute [local irreducible] wpQuiet
theorem istable_any (w:World) (v:Value) (l:List E5) (R:Rd K5 w v l):Calls prog 132 #[v] w fun e w'=>e = .returned (.bool (mayB l))/\Below w.heap.size w w':=by
 have HNO:Hid (∀ k,k < l.length->¬ okAt l k->false=mayB l):=fun k hk h=>(ak (fun g=>h (g k hk))).symm;have HYES:Hid ((∀ i,i < l.length->okAt l i)->true=mayB l):=fun h=>(an h).symm;obtain ⟨a,cap,rfl,_,hm,hA⟩:=R;have HA:=Hh hA;unfold maxLen at hm;clear hA;generalize hn:l.length=n at *;have HN:=Hh hn;clear hn
 go_enter func132,ntmps132
 go_wp2
 go_loopw [8,3] (fun i s wr=>∃ k:Nat,k<=n/\i = .int .i64 k/\s = .int .i64 (prevS l k)/\Hid (Below w.heap.size w wr)/\Hid (∀ i,i < k->okAt l i)) (fun i _ _=>n - (intOf i).toNat)
 case atStart=>exact ⟨0,aI _,rfl,rfl,aa _ _,fun i hi=>by omega⟩
 case round =>
  obtain ⟨k,hk,rfl,rfl,bw,hs⟩:=hrel
  by_cases hlt:k < n
  ·obtain ⟨b,off,rfl,A⟩:=HA (by omega)
   obtain ⟨c0,c1,c2,c3,c4⟩:=at5 (A.below bw) k (by have:=HN.out;omega);have HAA:=Hh A;have GA:=Hh (fun w=>good_any w (eat l k));have hno:=HNO.out k hlt;have hok:okAt l k↔okE (eat l k)/\prevS l k < (eat l k).2.1:=Iff.rfl;have hst:okAt l k->∀ i,i < k+1->okAt l i:=fun g i hi=>by
    by_cases e:i=k
    ·rw [e];exact g
    ·exact hs i (by omega)
   have hpn:=prev_next l k;rw [show l.getD k z5=eat l k from rfl] at c0 c1 c2 c3 c4;clear A;unfold ent at GA;have P1:=Hh hno;have P2:=Hh hok;have P3:=Hh hst;have P4:=Hh hpn;clear hno hok hst hpn
   by_cases h1:okE (eat l k)
   ·rw [ok_yes h1] at GA
    have H1:=Hh h1;clear h1
    by_cases h2:(eat l k).2.1<=prevS l k
    ·have E:=Hh (P1 (fun g=>by have:=(P2.out.1 g).2;omega))
     clear P1 P2 P3 P4;generalize prevS l k=ps at *;generalize eat l k=x at *;go_wp2_with fail;refine (GA _).mono ?_;rintro e w1 ⟨rfl,b1⟩;have e1:w1.cell? ⟨wr.heap.size,1,none⟩=some (.int .i64 x.2.1):=(b1.cell (by simp)).trans (by go_simp);have B1:=Hh ((bw.alloc bw.size _).trans (b1.mono (aX bw.size (by simp))));clear b1;go_wp2
     go_ret
     exact ⟨ret_bool E,B1⟩
    ·have ST:=Hh (P3 (P2.out.2 ⟨H1,by omega⟩))
     have PN:=Hh P4;clear P1 P2 P3 P4;generalize prevS l k=ps at *;generalize eat l k=x at *;have h3:ps < x.2.1:=by omega
     go_wp2_with fail;refine (GA _).mono ?_;rintro e w1 ⟨rfl,b1⟩;have e1:w1.cell? ⟨wr.heap.size,1,none⟩=some (.int .i64 x.2.1):=(b1.cell (by simp)).trans (by go_simp);have B1:=Hh ((bw.alloc bw.size _).trans (b1.mono (aX bw.size (by simp))));clear b1;go_wp2
     go_roundw
     case rel=>exact ⟨k+1,by omega,by go_num,by rw [PN.out],B1,ST⟩
     case measure=>simp [intOf];omega
   ·have E:=Hh (P1 (fun g=>h1 (P2.out.1 g).1))
    rw [ok_no h1] at GA;clear P1 P2 P3 P4 h1;generalize prevS l k=ps at *;generalize eat l k=x at *;go_wp2_with fail;refine (GA _).mono ?_;rintro e w1 ⟨rfl,b1⟩;have B1:=Hh ((bw.alloc bw.size _).trans (b1.mono (aX bw.size (by simp))));clear b1;go_wp2
    go_ret
    exact ⟨ret_bool E,B1⟩
  ·obtain rfl:k=n:=by omega
   have E:=Hh (HYES (fun i hi=>hs i hi));generalize prevS l k=ps at *;go_wp2
   go_ret
   exact ⟨ret_bool E,bw⟩
end Ro
namespace Ro
open Fl (R4)
theorem put_any (w:World) (x:E5):Calls prog 213 #[ent x] w fun e w'=>e = .returned (.tuple #[rec4 (putR x),.int .i64 (putN x)])/\Below w.heap.size w w':=by
 obtain ⟨k,s,f,r,b⟩:=x;have B0:=Hh (((aa w.heap.size w).alloc (ac _) (.cells #[.int .i64 k,.int .i64 s,.int .i64 f,.int .i64 r,.int .i64 b] 244)).alloc (by simp) (.cells #[.int .u8 0,.int .u8 0,.int .u8 0,.int .u8 0] 36));have GA:=Hh (good_any ((w.alloc (.cells #[.int .i64 k,.int .i64 s,.int .i64 f,.int .i64 r,.int .i64 b] 244)).alloc (.cells #[.int .u8 0,.int .u8 0,.int .u8 0,.int .u8 0] 36)) (k,s,f,r,b));unfold ent at GA
 by_cases hg:okE (k,s,f,r,b)
 ·rw [ok_yes hg] at GA
  have EP:Hid (putR (k,s,f,r,b)=(64 * b+k,s,f,r)):=Hh (aj hg);have EN:Hid (putN (k,s,f,r,b)=0):=Hh (aj hg);obtain ⟨⟨g1,g2⟩,⟨g3,g4⟩,⟨g5,g6⟩,⟨g7,g8⟩,g9,g10⟩:=okE_bounds hg;clear hg;simp only at g1 g2 g3 g4 g5 g6 g7 g8 g9 g10 GA;unfold ent
  go_enter func213,ntmps213
  go_wp2_with fail;refine GA.mono ?_;rintro e w1 ⟨rfl,b1⟩;have B1:=bTr B0 b1;have c0:w1.cell? ⟨w.heap.size,0,none⟩=some (.int .i64 k):=(b1.cell (by simp;omega)).trans (by go_simp);have c1:w1.cell? ⟨w.heap.size,1,none⟩=some (.int .i64 s):=(b1.cell (by simp;omega)).trans (by go_simp);have c2:w1.cell? ⟨w.heap.size,2,none⟩=some (.int .i64 f):=(b1.cell (by simp;omega)).trans (by go_simp);have c3:w1.cell? ⟨w.heap.size,3,none⟩=some (.int .i64 r):=(b1.cell (by simp;omega)).trans (by go_simp);have c4:w1.cell? ⟨w.heap.size,4,none⟩=some (.int .i64 b):=(b1.cell (by simp;omega)).trans (by go_simp);have k0:w1.cell? ⟨w.heap.size+1,0,none⟩=some (.int .u8 0):=(b1.cell (by simp)).trans (by go_simp);have k1:w1.cell? ⟨w.heap.size+1,1,none⟩=some (.int .u8 0):=(b1.cell (by simp)).trans (by go_simp);have k2:w1.cell? ⟨w.heap.size+1,2,none⟩=some (.int .u8 0):=(b1.cell (by simp)).trans (by go_simp);have k3:w1.cell? ⟨w.heap.size+1,3,none⟩=some (.int .u8 0):=(b1.cell (by simp)).trans (by go_simp);have m0:w1.frozen? ⟨w.heap.size+1,0,none⟩=false:=(b1.frozen (by simp)).trans (by go_simp);have m1:w1.frozen? ⟨w.heap.size+1,1,none⟩=false:=(b1.frozen (by simp)).trans (by go_simp);have m2:w1.frozen? ⟨w.heap.size+1,2,none⟩=false:=(b1.frozen (by simp)).trans (by go_simp);have m3:w1.frozen? ⟨w.heap.size+1,3,none⟩=false:=(b1.frozen (by simp)).trans (by go_simp);have hz:w.heap.size+2<=w1.heap.size:=by have:=b1.size;simp at this;omega
  clear b1 GA B0;go_wp2
  (try simp only [Exit.inBlock,Exit.then])
  refine aA (v:=.tuple #[rec4 (64 * b+k,s,f,r),.int .i64 0]) ?_ rfl ⟨by rw [EP.out,EN.out],?_⟩
  ·rw [results_cell_tmp rfl];go_simp;rfl
  ·exact (((B1.setCell (by simp) _).setCell (by simp) _).setCell (by simp) _).setCell (by simp) _
 ·rw [ok_no hg] at GA
  have EP:Hid (putR (k,s,f,r,b)=z4):=Hh (ah hg);have EN:Hid (putN (k,s,f,r,b)=1):=Hh (ah hg);clear hg;simp only at GA;unfold ent
  go_enter func213,ntmps213
  go_wp2_with fail;refine GA.mono ?_;rintro e w1 ⟨rfl,b1⟩;have B1:=bTr B0 b1;have k0:w1.cell? ⟨w.heap.size+1,0,none⟩=some (.int .u8 0):=(b1.cell (by simp)).trans (by go_simp);have k1:w1.cell? ⟨w.heap.size+1,1,none⟩=some (.int .u8 0):=(b1.cell (by simp)).trans (by go_simp);have k2:w1.cell? ⟨w.heap.size+1,2,none⟩=some (.int .u8 0):=(b1.cell (by simp)).trans (by go_simp);have k3:w1.cell? ⟨w.heap.size+1,3,none⟩=some (.int .u8 0):=(b1.cell (by simp)).trans (by go_simp);have m0:w1.frozen? ⟨w.heap.size+1,0,none⟩=false:=(b1.frozen (by simp)).trans (by go_simp);have m1:w1.frozen? ⟨w.heap.size+1,1,none⟩=false:=(b1.frozen (by simp)).trans (by go_simp);have m2:w1.frozen? ⟨w.heap.size+1,2,none⟩=false:=(b1.frozen (by simp)).trans (by go_simp);have m3:w1.frozen? ⟨w.heap.size+1,3,none⟩=false:=(b1.frozen (by simp)).trans (by go_simp);have hz:w.heap.size+2<=w1.heap.size:=by have:=b1.size;simp at this;omega
  clear b1 GA B0;go_wp2
  (try simp only [Exit.inBlock,Exit.then])
  refine aA (v:=.tuple #[rec4 z4,.int .i64 1]) ?_ rfl ⟨by rw [EP.out,EN.out],?_⟩
  ·rw [results_cell_tmp rfl];go_simp;rfl
  ·exact (((B1.setCell (by simp) _).setCell (by simp) _).setCell (by simp) _).setCell (by simp) _
theorem take_any (w:World) (v:R4) (hv:okR v):Calls prog 131 #[rec4 v] w fun e w'=>e = .returned (.tuple #[ent (takeE v),.int .i64 (takeN v)])/\Below w.heap.size w w':=by
 obtain ⟨a,s,f,r⟩:=v;obtain ⟨⟨a0,a1⟩,⟨s0,s1⟩,⟨f0,f1⟩,r0,r1⟩:=hv;simp only at a0 a1 s0 s1 f0 f1 r0 r1;have q1:a.tdiv 64=a / 64:=Int.tdiv_eq_ediv_of_nonneg a0;have q2:a.tmod 64=a % 64:=Int.tmod_eq_emod_of_nonneg a0;have B0:=Hh ((((aa w.heap.size w).alloc (ac _) (.cells #[.int .u8 a,.int .u8 s,.int .u8 f,.int .u8 r] 36)).alloc (by simp) (.cells #[.int .i64 0,.int .i64 0,.int .i64 0,.int .i64 0,.int .i64 0] 244)).alloc (by simp;omega) (.cells #[.int .i64 (a % 64),.int .i64 s,.int .i64 f,.int .i64 r,.int .i64 (a / 64)] 244));have GA:=Hh (good_any (((w.alloc (.cells #[.int .u8 a,.int .u8 s,.int .u8 f,.int .u8 r] 36)).alloc (.cells #[.int .i64 0,.int .i64 0,.int .i64 0,.int .i64 0,.int .i64 0] 244)).alloc (.cells #[.int .i64 (a % 64),.int .i64 s,.int .i64 f,.int .i64 r,.int .i64 (a / 64)] 244)) (takeX (a,s,f,r)));have g0:0<=a / 64:=by omega
 have g1:a / 64<=3:=by omega
 have g2:0<=a % 64:=by omega
 have g3:a % 64<=63:=by omega
 unfold ent at GA
 by_cases hg:okE (takeX (a,s,f,r))
 ·rw [ok_yes hg] at GA
  have EP:Hid (takeE (a,s,f,r)=(a % 64,s,f,r,a / 64)):=Hh (aj hg);have EN:Hid (takeN (a,s,f,r)=0):=Hh (aj hg);clear hg;simp only [takeX] at GA;generalize a / 64=y1 at *;generalize a % 64=y2 at *;unfold rec4
  go_enter func131,ntmps131
  go_wp2_with fail;refine GA.mono ?_;rintro e w1 ⟨rfl,b1⟩;have B1:=bTr B0 b1;have c0:w1.cell? ⟨w.heap.size+2,0,none⟩=some (.int .i64 y2):=(b1.cell (by simp)).trans (by go_simp);have c1:w1.cell? ⟨w.heap.size+2,1,none⟩=some (.int .i64 s):=(b1.cell (by simp)).trans (by go_simp);have c2:w1.cell? ⟨w.heap.size+2,2,none⟩=some (.int .i64 f):=(b1.cell (by simp)).trans (by go_simp);have c3:w1.cell? ⟨w.heap.size+2,3,none⟩=some (.int .i64 r):=(b1.cell (by simp)).trans (by go_simp);have c4:w1.cell? ⟨w.heap.size+2,4,none⟩=some (.int .i64 y1):=(b1.cell (by simp)).trans (by go_simp);have k0:w1.cell? ⟨w.heap.size+1,0,none⟩=some (.int .i64 0):=(b1.cell (by simp)).trans (by go_simp);have k1:w1.cell? ⟨w.heap.size+1,1,none⟩=some (.int .i64 0):=(b1.cell (by simp)).trans (by go_simp);have k2:w1.cell? ⟨w.heap.size+1,2,none⟩=some (.int .i64 0):=(b1.cell (by simp)).trans (by go_simp);have k3:w1.cell? ⟨w.heap.size+1,3,none⟩=some (.int .i64 0):=(b1.cell (by simp)).trans (by go_simp);have k4:w1.cell? ⟨w.heap.size+1,4,none⟩=some (.int .i64 0):=(b1.cell (by simp)).trans (by go_simp);have m0:w1.frozen? ⟨w.heap.size+1,0,none⟩=false:=(b1.frozen (by simp)).trans (by go_simp);have m1:w1.frozen? ⟨w.heap.size+1,1,none⟩=false:=(b1.frozen (by simp)).trans (by go_simp);have m2:w1.frozen? ⟨w.heap.size+1,2,none⟩=false:=(b1.frozen (by simp)).trans (by go_simp);have m3:w1.frozen? ⟨w.heap.size+1,3,none⟩=false:=(b1.frozen (by simp)).trans (by go_simp);have m4:w1.frozen? ⟨w.heap.size+1,4,none⟩=false:=(b1.frozen (by simp)).trans (by go_simp);clear b1 GA B0;go_wp2
  (try simp only [Exit.inBlock,Exit.then])
  refine aA (v:=.tuple #[.agg #[.int .i64 y2,.int .i64 s,.int .i64 f,.int .i64 r,.int .i64 y1],.int .i64 0]) ?_ rfl ⟨by rw [EP.out,EN.out];rfl,?_⟩
  ·rw [results_cell_tmp rfl];go_simp;try rfl
  ·exact ((((B1.setCell (by simp) _).setCell (by simp) _).setCell (by simp) _).setCell (by simp) _).setCell (by simp) _
 ·rw [ok_no hg] at GA
  have EP:Hid (takeE (a,s,f,r)=z5):=Hh (ah hg);have EN:Hid (takeN (a,s,f,r)=2):=Hh (ah hg);clear hg;simp only [takeX] at GA;generalize a / 64=y1 at *;generalize a % 64=y2 at *;unfold rec4
  go_enter func131,ntmps131
  go_wp2_with fail;refine GA.mono ?_;rintro e w1 ⟨rfl,b1⟩;have B1:=bTr B0 b1;have k0:w1.cell? ⟨w.heap.size+1,0,none⟩=some (.int .i64 0):=(b1.cell (by simp)).trans (by go_simp);have k1:w1.cell? ⟨w.heap.size+1,1,none⟩=some (.int .i64 0):=(b1.cell (by simp)).trans (by go_simp);have k2:w1.cell? ⟨w.heap.size+1,2,none⟩=some (.int .i64 0):=(b1.cell (by simp)).trans (by go_simp);have k3:w1.cell? ⟨w.heap.size+1,3,none⟩=some (.int .i64 0):=(b1.cell (by simp)).trans (by go_simp);have k4:w1.cell? ⟨w.heap.size+1,4,none⟩=some (.int .i64 0):=(b1.cell (by simp)).trans (by go_simp);have m0:w1.frozen? ⟨w.heap.size+1,0,none⟩=false:=(b1.frozen (by simp)).trans (by go_simp);have m1:w1.frozen? ⟨w.heap.size+1,1,none⟩=false:=(b1.frozen (by simp)).trans (by go_simp);have m2:w1.frozen? ⟨w.heap.size+1,2,none⟩=false:=(b1.frozen (by simp)).trans (by go_simp);have m3:w1.frozen? ⟨w.heap.size+1,3,none⟩=false:=(b1.frozen (by simp)).trans (by go_simp);have m4:w1.frozen? ⟨w.heap.size+1,4,none⟩=false:=(b1.frozen (by simp)).trans (by go_simp);clear b1 GA B0;go_wp2
  (try simp only [Exit.inBlock,Exit.then])
  refine aA (v:=.tuple #[.agg #[.int .i64 0,.int .i64 0,.int .i64 0,.int .i64 0,.int .i64 0],.int .i64 2]) ?_ rfl ⟨by rw [EP.out,EN.out];rfl,?_⟩
  ·rw [results_cell_tmp rfl];go_simp;try rfl
  ·exact ((((B1.setCell (by simp) _).setCell (by simp) _).setCell (by simp) _).setCell (by simp) _).setCell (by simp) _
open Fl (at4 newP newL NewOwn new_own sto4_own sto2 sto2_row sto2_below sto2_off results_new)
attribute [local irreducible] Sd.wpSd wpQuiet
def FilePost (w:World) (l:List E5) (e:Ending) (w':World):Prop:=∃ u,e = .returned (.tuple #[file (fP l) u,.int .i64 (fN l)])/\Rd K4 w' u (fL l)/\Below w.heap.size w w'
variable {w:World} {l:List E5}
theorem file_no (h:¬ mayP l) (w':World) (hb:Below w.heap.size w w'):FilePost w l (.returned (.tuple #[file 0 (.slice none 0 0),.int .i64 1])) w' :=
 ⟨_,by unfold fP fN;rw [ah h,ah h],by unfold fL;rw [ah h];exact Rw.Rd.nil _,hb⟩
theorem file_yes (h:mayP l) (u:Value) (w':World) (hr:Rd K4 w' u (fileL l)) (hb:Below w.heap.size w w'):FilePost w l (.returned (.tuple #[file 3 u,.int .i64 0])) w' :=
 ⟨u,by unfold fP fN;rw [aj h,aj h],by unfold fL;rw [aj h];exact hr,hb⟩
structure FRel (w:World) (h:R4) (l:List E5) (g gF N cap k:Nat) (wr:World):Prop where
 row:wr.heap[gF]? = some (.cells #[.int .i64 3,.slice (some ⟨g,0,none⟩) N cap] 83 (0,0))
 res:wr.heap[w.heap.size]? = some (.cells #[.int .i64 0,.slice none 0 0] 83 (0,0))
 own:Ow K4 wr (w.heap.size+1) 36 (.slice (some ⟨g,0,none⟩) N cap) (part h l k)
 bel:Below w.heap.size w wr
def FC (g gF N cap gX:Nat) (x:E5) (W:World):Prop:=W.heap[gF]? = some (.cells #[.int .i64 3,.slice (some ⟨g,0,none⟩) N cap] 83 (0,0))/\W.heap[gX]? = some (.cells (row5 x) 244 (0,0))
theorem file_any (w:World) (v:Value) (l:List E5) (R:Rd K5 w v l):Calls prog 207 #[v] w (FilePost w l):=by
 have B0:=Hh ((aa w.heap.size w).alloc (ac _) (.cells #[.int .i64 0,.slice none 0 0] 83));have R0:=Hh (R.below B0)
 by_cases hm:mayP l
 ·have GA:=Hh (at_bool (show mayB l=true from an hm) (istable_any _ v l R0))
  have HE:=Hh (fun u w'=>file_yes (w:=w) hm u w');have hl:=may_len hm;clear hm R0;obtain ⟨a,cap0,rfl,_,hm,hA⟩:=R;have HA:=Hh hA;unfold maxLen at hm;clear hA;have HF:Hid (fileL l=hdr 3 ((l.length:Int)+1) :: (l.map putR ++ [endR])):=rfl;have PS:=Hh (fun h k=>part_set (k:=k) h (l:=l));have PE:=Hh (fun h=>part_end h l);have PL:=Hh (fun h k=>part_len h l k);have NL:Hid (newL 3 ((l.length:Int)+1)=part (hdr 3 ((l.length:Int)+1)) l 0):=Hh (by rw [part_start];rfl);have NO:=Hh (fun w=>new_own w 3 ((l.length:Int)+1) ⟨by omega,by omega,by omega,by omega⟩);unfold NewOwn at NO;rw [NL.out] at NO;clear NL;generalize hdr 3 ((l.length:Int)+1)=h at *;generalize hn:l.length=n at *;have HN:=Hh hn;clear hn;have W0:IntKind.i64.wrap ((n:Int)+1)=(n:Int)+1:=aR _ (by omega);unfold file at NO
  go_enter func207,ntmps207
  go_wp2_with fail;refine GA.mono ?_;rintro e w1 ⟨rfl,b1⟩;have z1:w.heap.size+1<=w1.heap.size:=by have:=b1.size;simp at this;omega
  have B1:=bTr B0 b1;have r1:=(b1.block _ (by simp)).trans (am w _);have S1:=Hh r1;clear b1 GA B0 r1;go_wp2_with fail;refine (NO _).mono ?_;rintro e w2 ⟨u,rfl,o2,b2⟩;obtain ⟨g,cap,rfl,hg1,hg2,hcc,hcm,_,_⟩:=o2.form (by rw [PL.out _ _ (aI _)];omega);rw [PL.out _ _ (aI _)] at o2 hcc ⊢;have hz:∀ o,(w2.alloc o).heap.size=w2.heap.size+1:=fun o=>by simp
  have F0:Hid (FRel w h l g w2.heap.size (n+2) cap 0 (w2.alloc (.cells #[.int .i64 3,.slice (some ⟨g,0,none⟩) (n+2) cap] 83))):=Hh
   ⟨am w2 _,(aQ _ _ _ (by have:=b2.size;omega)).trans ((b2.block _ (by omega)).trans S1.out),(o2.alloc _).low (by omega),(B1.out.trans (b2.mono (by omega))).alloc (by have:=b2.size;omega) _⟩
  have hgF:w.heap.size < w2.heap.size:=by have:=b2.size;omega
  have hg0:w.heap.size < g:=by omega
  clear b2 o2 S1 B1 NO hz;go_wp2;generalize w2.alloc (.cells #[.int .i64 3,.slice (some ⟨g,0,none⟩) (n+2) cap] 83)=W at *;generalize w2.heap.size=gF at *;generalize hN2:n+2=N at *;have HN2:=Hh hN2;clear hN2
  go_loopw [21] (fun i wr=>∃ k:Nat,k<=n/\i = .int .i64 k/\Hid (FRel w h l g gF N cap k wr)) (fun i _=>n - (intOf i).toNat)
  case atStart=>exact ⟨0,aI _,rfl,F0⟩
  case round =>
   obtain ⟨k,hk,rfl,RR⟩:=hrel
   by_cases hlt:k < n
   ·obtain ⟨b,off,rfl,A⟩:=HA (by omega)
    obtain ⟨c0,c1,c2,c3,c4⟩:=at5 (A.below RR.bel) k (by rw [HN.out];exact hlt);rw [show l.getD k z5=eat l k from rfl] at c0 c1 c2 c3 c4;have PT:=Hh (fun w=>put_any w (eat l k));have PK:=Hh (PS h k hlt);have PLK:=Hh (PL h k hk);have AA:=Hh A;clear A;unfold ent rec4 at PT;generalize putR (eat l k)=q at *;generalize putN (eat l k)=qn at *;generalize eat l k=x at *;obtain ⟨K1,hK1⟩:∃ K1,K1=k+1:=⟨_,rfl⟩;have W1:IntKind.i64.wrap (1+(k:Int))=(K1:Int):=by rw [aR _ (by omega)];omega
    have hkN:K1 < N:=by have:=HN2.out;omega
    have HK:=Hh hK1;clear hK1;go_upto_region 7 with fail;have gx:=ay RR.row;have zx:(wr.alloc (.cells (row5 x) 244)).heap.size=wr.heap.size+1:=by simp
    have BX:=Hh ((aa wr.heap.size wr).alloc (ac _) (.cells (row5 x) 244));have rowV:=(BX.block _ gx).trans RR.row;have resV:=Hh ((BX.block _ (by omega)).trans RR.out.res);have rowX:=am wr (.cells (row5 x) 244);have ownV:=Hh (RR.own.alloc (.cells (row5 x) 244));have belV:=Hh (RR.bel.trans (BX.mono RR.bel.size));clear BX RR c0 c1 c2 c3 c4;unfold row5 at zx rowV resV rowX ownV belV;generalize wr.alloc (.cells #[.int .i64 x.1,.int .i64 x.2.1,.int .i64 x.2.2.1,.int .i64 x.2.2.2.1,.int .i64 x.2.2.2.2] 244)=V at *;have C0:FC g gF N cap wr.heap.size x V.drew:=⟨rowV,rowX⟩;have ne:Nonempty (Sc.In (FC g gF N cap wr.heap.size x)):=⟨⟨_,C0⟩⟩;have k1:=Sc.cell_in (C:=FC g gF N cap wr.heap.size x) (a:=⟨gF,1,none⟩) (v:=.slice (some ⟨g,0,none⟩) N cap) (fun W' h=>row_cell h.1 1);have x0:=Sc.cell_in (C:=FC g gF N cap wr.heap.size x) (a:=⟨wr.heap.size,0,none⟩) (v:=.int .i64 x.1) (fun W' h=>row_cell h.2 0);have x1:=Sc.cell_in (C:=FC g gF N cap wr.heap.size x) (a:=⟨wr.heap.size,1,none⟩) (v:=.int .i64 x.2.1) (fun W' h=>row_cell h.2 1);have x2:=Sc.cell_in (C:=FC g gF N cap wr.heap.size x) (a:=⟨wr.heap.size,2,none⟩) (v:=.int .i64 x.2.2.1) (fun W' h=>row_cell h.2 2);have x3:=Sc.cell_in (C:=FC g gF N cap wr.heap.size x) (a:=⟨wr.heap.size,3,none⟩) (v:=.int .i64 x.2.2.2.1) (fun W' h=>row_cell h.2 3);have x4:=Sc.cell_in (C:=FC g gF N cap wr.heap.size x) (a:=⟨wr.heap.size,4,none⟩) (v:=.int .i64 x.2.2.2.2) (fun W' h=>row_cell h.2 4);refine Sc.start (FC g gF N cap wr.heap.size x) [(false,0),(false,1),(false,2),(false,3),(false,4),(true,5),(false,6),(false,7),(false,8),(false,9),(true,10)] (by kernel_rfl) (by kernel_rfl) (by kernel_rfl) C0 ?_;dsimp only [Sd.picks,List.getElem?_cons_succ,List.getElem?_cons_zero]
    iterate 5 (refine Sd.lit ?_;quiet_step (fail);refine az ?_)
    refine Sd.call (by rfl) (fun K hK=>?_);go_simp;refine (PT _).mono ?_;rintro e w4 ⟨rfl,b4⟩;have b4':=cC ((aa V.heap.size V).drew) b4;have B4:=bTr belV b4';have row4:=(b4'.block _ (by omega)).trans rowV;have rowX4:=(b4'.block _ (by omega)).trans rowX;have r4:=(b4'.block _ (by omega)).trans resV.out;have O4:=Hh (ownV.keep b4');refine hK _ _ (Sc.Cl.of ⟨row4,rowX4⟩) ?_;clear hK K b4 b4' belV ownV resV rowV rowX PT
    iterate 4 (refine Sd.lit ?_;quiet_step (fail);refine az ?_)
    refine Sd.call (by rfl) (fun K hK=>?_);obtain ⟨g',cap',eg,_,_,_,_,hfr,hat⟩:=O4.form (by rw [PLK.out];omega);have eg':g'=g:=by
     injection eg with e1;injection e1 with e1;injection e1 with e1 _ _;exact e1.symm
    subst eg';have hKL:K1 < (part h l k).length:=by rw [PLK.out];have:=HN2.out;omega
    have eK:K1=1+k:=by rw [HK.out];omega
    have O5:=Hh (sto4_own (i:=K1) O4 (by rw [PLK.out]) hKL q);rw [show (part h l k).set K1 q=part h l (k+1) by rw [eK];exact PK.out] at O5;clear eK;obtain ⟨d0,d1,d2,d3⟩:=at4 hat K1 hKL;rw [cd] at d0 d1 d2 d3;have f0:=hfr (K1 * 4);have f1:=hfr (K1 * 4+1);have f2:=hfr (K1 * 4+2);have f3:=hfr (K1 * 4+3);have row5:=sto4_other (g:=g') (o:=K1 * 4) (r:=q) row4 (by omega);have rowX5:=sto4_other (g:=g') (o:=K1 * 4) (r:=q) rowX4 (by omega);have r5:=sto4_other (g:=g') (o:=K1 * 4) (r:=q) r4 (by omega);have B5:=Hh (sto4_below (o:=K1 * 4) (r:=q) B4 (show w.heap.size<=g' by omega));have N5:Hid (FRel w h l g' gF N cap (k+1) (sto4 w4 g' (K1 * 4) q)):=Hh ⟨row5,r5,O5,B5⟩;clear hfr hat O4 B4 eg O5 B5;go_simp;refine hK _ _ (Sc.Cl.of ⟨row5,rowX5⟩) ?_;clear hK K d0 d1 d2 d3 f0 f1 f2 f3 row4 r4 rowX4 k1 ne C0 x0 x1 x2 x3 x4;refine Sd.done ?_
    show Exit.inBlock _ _ _ _ (sto4 w4 g' (K1 * 4) q)
    generalize sto4 w4 g' (K1 * 4) q=wS at *;go_wp2
    go_roundw
    case rel=>exact ⟨k+1,by omega,by go_num,N5⟩
    case measure=>simp [intOf];omega
   ·obtain rfl:k=n:=by omega
    have PK:=Hh (PE h);have PLK:=Hh (PL h k (ac _));have e1:putR endE=endR:=by decide
    have e2:putN endE=0:=by decide
    have PT:=Hh (fun w=>put_any w endE);have EE:=Hh (fun w=>end_any w);rw [e1,e2] at PT;clear e1 e2;unfold ent at PT EE;unfold rec4 at PT;simp only [endE,endR] at PT EE;obtain ⟨K1,hK1⟩:∃ K1,K1=k+1:=⟨_,rfl⟩;have W1:IntKind.i64.wrap (1+(k:Int))=(K1:Int):=by rw [aR _ (by omega)];omega
    have hkN:K1 < N:=by have:=HN2.out;omega
    have HK:=Hh hK1;clear hK1 PS PE PL;go_upto_region 9 with fail;have gx:=ay RR.row;have rowV:=RR.row;have resV:=Hh RR.res;have ownV:=Hh RR.own;have belV:=Hh RR.bel;clear RR;have C0:=rowV;have ne:Nonempty (Sc.In (fun W':World=>W'.heap[gF]? = some (.cells #[.int .i64 3,.slice (some ⟨g,0,none⟩) N cap] 83 (0,0)))):=⟨⟨_,C0⟩⟩;have k1:=Sc.cell_in (C:=fun W':World=>W'.heap[gF]? = some (.cells #[.int .i64 3,.slice (some ⟨g,0,none⟩) N cap] 83 (0,0))) (a:=⟨gF,1,none⟩) (v:=.slice (some ⟨g,0,none⟩) N cap) (fun W' h=>row_cell h 1);refine Sc.start (fun W':World=>W'.heap[gF]? = some (.cells #[.int .i64 3,.slice (some ⟨g,0,none⟩) N cap] 83 (0,0))) [(false,0),(false,1),(false,2),(false,3),(false,4),(true,5),(true,6),(false,7),(false,8),(false,9),(false,10),(true,11)] (by kernel_rfl) (by kernel_rfl) (by kernel_rfl) C0 ?_;dsimp only [Sd.picks,List.getElem?_cons_succ,List.getElem?_cons_zero]
    iterate 5 (refine Sd.lit ?_;quiet_step (fail);refine az ?_)
    refine Sd.call (by rfl) (fun K hK=>?_);go_simp;refine (EE _).mono ?_;rintro e w3 ⟨rfl,b3⟩;have b3':=cC ((aa wr.heap.size wr).drew) b3;have row3:=(b3'.block _ (by omega)).trans rowV;refine hK _ _ (Sc.Cl.of row3) ?_;clear hK K b3;refine Sd.call (by rfl) (fun K hK=>?_);go_simp;refine (PT _).mono ?_;rintro e w4 ⟨rfl,b4⟩;have b4':=b3'.trans (b4.mono b3'.size);have B4:=bTr belV b4';have row4:=(b4'.block _ (by omega)).trans rowV;have r4:=(b4'.block _ (by omega)).trans resV.out;have O4:=Hh (ownV.keep b4');refine hK _ _ (Sc.Cl.of row4) ?_;clear hK K b4 b3' b4' belV ownV resV rowV row3 PT EE
    iterate 4 (refine Sd.lit ?_;quiet_step (fail);refine az ?_)
    refine Sd.call (by rfl) (fun K hK=>?_);obtain ⟨g',cap',eg,_,_,_,_,hfr,hat⟩:=O4.form (by rw [PLK.out];omega);have eg':g'=g:=by
     injection eg with e1;injection e1 with e1;injection e1 with e1 _ _;exact e1.symm
    subst eg';have hKL:K1 < (part h l k).length:=by rw [PLK.out];have:=HN2.out;omega
    have eK:K1=1+k:=by rw [HK.out];omega
    have O5:=Hh (sto4_own (i:=K1) O4 (by rw [PLK.out]) hKL endR);rw [show (part h l k).set K1 endR=fileL l by rw [eK,HF.out];exact PK.out] at O5;clear eK;obtain ⟨d0,d1,d2,d3⟩:=at4 hat K1 hKL;rw [cd] at d0 d1 d2 d3;have f0:=hfr (K1 * 4);have f1:=hfr (K1 * 4+1);have f2:=hfr (K1 * 4+2);have f3:=hfr (K1 * 4+3);have row5:=sto4_other (g:=g') (o:=K1 * 4) (r:=endR) row4 (by omega);have r5:=sto4_other (g:=g') (o:=K1 * 4) (r:=endR) r4 (by omega);have B5:=Hh (sto4_below (o:=K1 * 4) (r:=endR) B4 (show w.heap.size<=g' by omega));clear hfr hat O4 B4 eg;go_simp;refine hK _ _ (Sc.Cl.of row5) ?_;clear hK K d0 d1 d2 d3 f0 f1 f2 f3 row4 r4 k1 ne C0;refine Sd.done ?_;obtain ⟨d0,d1⟩:=rc2 row5;obtain ⟨e0,e1,f0,f1⟩:=rf2 r5;have hne:(Value.slice (some ⟨g',0,none⟩) N cap).ownBlock≠some w.heap.size:=O5.range (.inl (by omega));have RR:=Hh (sto2_row r5 3 (.slice (some ⟨g',0,none⟩) N cap));have O6:=Hh (sto2_off (u:=.slice (some ⟨g',0,none⟩) N cap) O5 hne 3);have B6:=Hh (sto2_below (p:=3) (v:=.slice (some ⟨g',0,none⟩) N cap) B5 (ac _));clear row5 r5 O5 B5 hne
    show Exit.then _ _ _ _ (sto4 w4 g' (K1 * 4) endR)
    generalize sto4 w4 g' (K1 * 4) endR=wS at *;go_wp2
    (try simp only [Exit.inBlock,Exit.then])
    exact aA (v:=.tuple #[file 3 _,.int .i64 0]) (results_new (p:=2) (r:=3) rfl _ _ w.heap.size 3 _ 0 rfl rfl RR) rfl (HE _ _ O6.rd B6)
 ·have GA:=Hh (at_bool (show mayB l=false from ak hm) (istable_any _ v l R0))
  have E:=Hh (file_no (w:=w) hm);clear hm;obtain ⟨a,cap,rfl,_,hm,_⟩:=R;clear R0;generalize l.length=n at *
  go_enter func207,ntmps207
  go_wp2_with fail;refine GA.mono ?_;rintro e w1 ⟨rfl,b1⟩;have z1:w.heap.size < w1.heap.size:=by have:=b1.size;simp at this;omega
  have B1:=bTr B0 b1;have r0:=(b1.block _ (by simp)).trans (am w _);obtain ⟨c0,c1,f0,f1⟩:=rf2 r0;have RR:=Hh (sto2_row r0 0 (.slice none 0 0));clear b1 B0 r0 GA;go_wp2
  (try simp only [Exit.inBlock,Exit.then])
  exact aA (v:=.tuple #[file 0 (.slice none 0 0),.int .i64 1]) (results_new (p:=2) (r:=3) rfl _ _ w.heap.size 0 _ 1 rfl rfl RR) rfl (E _ (sto2_below B1 (ac _)))
end Ro
namespace Ck
attribute [local irreducible] Sd.wpSd wpQuiet
theorem sender_any (w:World) (v:Value) (L:LL) (s:Int) (R:RdL w v L):Calls prog 208 #[v,.int .i64 s] w (WhoPost w (sN s L) (sE s L)):=by
 have eg:=enters_of func225 (by kernel_rfl) rfl;have R0:RowE (w.alloc (.cells #[.int .i64 0,.int .i64 0,.int .i64 0,.int .i64 0,.int .i64 0] 244)) w.heap.size z5:=am w _;have b0:=(aa w.heap.size w).alloc (ac _) (.cells #[.int .i64 0,.int .i64 0,.int .i64 0,.int .i64 0,.int .i64 0] 244);have RV:=R.below b0;obtain ⟨a,cap,rfl,_⟩:=R.slice;clear R;have FA:=Hh (fun (W:World) (B:Nat) (hr:RdL W (.slice a L.length cap) L) (hc:W.cell? ⟨B,0,none⟩=some (.int .i64 s))=>find_any W _ L 225 #[.pointer (some ⟨B,0,none⟩)] (snd s) eg hr (sclos_any W B s L hc));clear eg;have RR:=Hh R0;have BB:=Hh b0;have RL:=Hh RV;clear R0 b0 RV;have E:Hid (∀ w',Below w.heap.size w w'->WhoPost w (sN s L) (sE s L) (.returned (.tuple #[.int .i64 (sN s L),ent (sE s L)])) w'):=fun w' b=>⟨rfl,b⟩;rw [show whoN (snd s) L=sN s L from rfl,show whoE (snd s) L=sE s L from rfl] at FA;generalize sN s L=rn at *;generalize sE s L=re at *;generalize L.length=n at *
 go_enter func208,ntmps208
 go_upto_region 1 with fail;generalize w.alloc (.cells #[.int .i64 0,.int .i64 0,.int .i64 0,.int .i64 0,.int .i64 0] 244)=w0 at *;go_wp2_with fail;refine (sending_any w0 s).mono ?_;rintro e w1 ⟨rfl,rfl⟩;have b1:=(aa w0.heap.size w0).alloc (ac _) (.cells #[.int .i64 s] 3);have F:=FA.out (w0.alloc (.cells #[.int .i64 s] 3)) w0.heap.size (RL.below b1) (by go_simp);have FB:=Hh F;have R1:=Hh (RR.below b1 RR.lt);have B1:=bTr BB b1;clear FA RL RR BB b1 F;generalize w0.heap.size=g0 at *;generalize w0.alloc (.cells #[.int .i64 s] 3)=V at *;go_wp2_with fail;refine FB.mono ?_;rintro e w2 ⟨rfl,b2⟩;have R2:=Hh (R1.below b2 R1.lt);have B2:=bTr B1 b2;clear FB R1 B1 b2;have d0:=Fl.rc R2 0;have d1:=Fl.rc R2 1;have d2:=Fl.rc R2 2;have d3:=Fl.rc R2 3;have d4:=Fl.rc R2 4;have f0:=row_frozen R2 0;have f1:=row_frozen R2 1;have f2:=row_frozen R2 2;have f3:=row_frozen R2 3;have f4:=row_frozen R2 4;have R3:=Hh (sto5_row (y:=z5) R2 re);have B3:=Hh (sto5_below (g:=w.heap.size) (x:=re) B2 (ac _));unfold ent;go_wp2
 (try simp only [Exit.inBlock,Exit.then])
 exact aA (v:=.tuple #[.int .i64 rn,ent re]) (results_who (p:=5) (r:=4) rfl _ _ w.heap.size rn re rfl rfl R3) rfl (E _ B3)
def no (_:Nat):Int:=0
def upto (L:LL) (k:Nat) (i:Nat):Int:=if i < k then sF L i else 0
theorem upto_zero (L:LL) (i:Nat):no i=upto L 0 i:=by unfold upto;rw [ah (ci _)];rfl
theorem upto_step (L:LL) (k i:Nat):upI (upto L k) k (sN k L) i=upto L (k+1) i:=by
 unfold upI upto
 by_cases e:i=k
 ·subst e;rw [aj rfl,aj (by omega)];rfl
 ·rw [ah e]
  by_cases c:i < k
  ·rw [aj c,aj (by omega)]
  ·rw [ah c,ah (by omega)]
structure TwoI (w wr:World) (F:Nat->Int):Prop where
 res:RowI wr w.heap.size no
 out_:RowI wr (w.heap.size+1) F
 bel:Below w.heap.size w wr
theorem twoI_new (w:World) (F:Nat->Int) (h:∀ i,i < 17->no i=F i):TwoI w ((w.alloc (.cells (ar no) 311)).alloc (.cells (ar no) 311)) F:=by
 have e:(w.alloc (.cells (ar no) 311)).heap.size=w.heap.size+1:=by simp
 have n2:=RowI.new (w.alloc (.cells (ar no) 311)) no;rw [e] at n2;exact ⟨(aQ _ _ _ (by simp)).trans (RowI.new w no),n2.to h,((aa _ _).alloc (ac _) _).alloc (by simp) _⟩
theorem TwoI.set_ {w wr:World} {F:Nat->Int} (h:TwoI w wr F) (k:Nat) (hk:k < 17) (x:Int):TwoI w (wr.setCell ⟨w.heap.size+1,k,none⟩ (.int .i64 x)) (upI F k x) :=
 ⟨h.1.far (by simp) _,h.2.set_ k hk x,h.3.setCell (by simp) _⟩
theorem TwoI.below {w wr w1:World} {F:Nat->Int} (h:TwoI w wr F) (hb:Below wr.heap.size wr w1):TwoI w w1 F :=
 ⟨h.1.below hb h.1.lt,h.2.below hb h.2.lt,h.3.trans (hb.mono h.3.size)⟩
theorem TwoI.to {w wr:World} {F G:Nat->Int} (h:TwoI w wr F) (e:∀ i,i < 17->F i=G i):TwoI w wr G:=⟨h.1,h.2.to e,h.3⟩
theorem below_setRow {B:Nat} {a w:World} (h:Below B a w) (g:Nat) (cs:Array Value) (hg:B<=g):Below B a (w.setRow g cs) :=
 ⟨h.os,h.tape,h.output,by rw [size_setRow];exact h.size,fun k hk=>(setRow_other w g k cs (by omega)).trans (h.block k hk)⟩
theorem senders_any (w:World) (v:Value) (L:LL) (R:RdL w v L):Calls prog 188 #[v] w fun e w'=>e = .returned (.agg (ar (sF L)))/\Below w.heap.size w w':=by
 have T0:=Hh (twoI_new w (upto L 0) (fun i _=>upto_zero L i));have SA:=Hh (fun (W:World) (s:Int) (hb:Below w.heap.size w W)=>sender_any W v L s (R.below hb));have E:Hid (ar (upto L 17)=ar (sF L)):=Hh (ar_congr fun i hi=>aj hi);have ST:=Hh (upto_step L);obtain ⟨a,cap,rfl,_⟩:=R.slice;clear R;generalize L.length=n at *
 go_enter func188,ntmps188
 go_wp2
 go_loopw [5] (fun i wr=>∃ k:Nat,k<=17/\i = .int .i64 k/\Hid (TwoI w wr (upto L k))) (fun i _=>17 - (intOf i).toNat)
 case atStart=>exact ⟨0,aI _,rfl,T0⟩
 case round =>
  obtain ⟨k,hk,rfl,T⟩:=hrel
  by_cases hlt:k < 17
  ·have C:=Hh (SA wr k T.bel)
   have UP:=Hh (ST k);generalize sN (k:Int) L=sn at *;generalize sE (k:Int) L=se at *;unfold WhoPost ent at C;go_wp2_with fail;refine C.mono ?_;rintro e w1 ⟨rfl,b1⟩;have T1:=Hh (T.below b1);have c:=T1.out_.cell k hlt;have f:=T1.out_.frozen k;have T2:=Hh ((T1.set_ k hlt sn).to (fun i _=>UP i));clear b1 T1 C;go_wp2
   go_roundw
   case rel=>exact ⟨k+1,by omega,by go_num,T2⟩
   case measure=>simp [intOf];omega
  ·obtain rfl:k=17:=by omega
   go_wp2_with (first
    | (refine wpList_load_row rfl 311 _ rfl _ rfl _ _ _ _ T.out_ underlying311 rfl (infoI _) ?_)
    | (refine wpList_store_row rfl 311 _ _ rfl _ _ rfl rfl _ _ T.res (infoI _) rfl (ar_one _) ?_))
   refine aA (results_ar rfl _ _ _ _ rfl (T.res.row _)) rfl ⟨by rw [E.out],?_⟩;exact below_setRow T.bel _ _ (ac _)
theorem isno_any (w:World) (v:Value) (l:List E5) (R:Rd K5 w v l):Calls prog 187 #[v] w fun e w'=>e = .returned (.bool (bad l))/\Below w.heap.size w w':=by
 have FA:=Hh (Ro.file_any w v l R);have hb:bad l = !mayB l:=rfl;obtain ⟨a,cap,rfl,_⟩:=R;unfold Ro.FilePost file at FA
 by_cases h:mayP l
 ·have e1:Ro.fN l=0:=aj h
  have e2:bad l=false:=by rw [hb,show mayB l=true from an h];rfl
  rw [e1] at FA;rw [e2];generalize Ro.fP l=p at *;generalize Ro.fL l=fl at *;clear e1 e2 hb h;generalize l.length=n at *
  go_enter func187,ntmps187
  go_wp2_with fail;refine FA.mono ?_;rintro e w1 ⟨u,rfl,r1,b1⟩;obtain ⟨a1,c1,rfl,_⟩:=r1;have HB:=Hh (fun o=>b1.alloc b1.size o);clear b1;go_wp2
  go_ret
  exact ⟨rfl,HB _⟩
 ·have e1:Ro.fN l=1:=ah h
  have e2:bad l=true:=by rw [hb,show mayB l=false from ak h];rfl
  rw [e1] at FA;rw [e2];generalize Ro.fP l=p at *;generalize Ro.fL l=fl at *;clear e1 e2 hb h;generalize l.length=n at *
  go_enter func187,ntmps187
  go_wp2_with fail;refine FA.mono ?_;rintro e w1 ⟨u,rfl,r1,b1⟩;obtain ⟨a1,c1,rfl,_⟩:=r1;have HB:=Hh (fun o=>b1.alloc b1.size o);clear b1;go_wp2
  go_ret
  exact ⟨rfl,HB _⟩
theorem index_any (w:World) (v:Value) (L:LL) (g:Nat) (q:List E5->Bool) (eg:∀ args w,(callFunc g args).run prog w = .ok (.enter g args) w) (R:RdL w v L)
 (hp:∀ (W:World) (u:Value) (l:List E5),Rd K5 W u l->Calls prog g #[u] W fun e w'=>e = .returned (.bool (q l))/\Below W.heap.size W w') :
 Calls prog 186 #[v,.func (.func g) #[] #[]] w fun e w'=>e = .returned (.int .i64 (idx q 0 L))/\Below w.heap.size w w':=by
 obtain ⟨a,cap,rfl,_,hm,hA⟩:=R;have HA:=Hh hA;have HP:=Hh hp;have HH:Hid (∀ k,IAhead q L k->k < L.length->q (lat L k)=true->idx q 0 L=k):=fun k=>iahead_hit;have HE:Hid (IAhead q L L.length->idx q 0 L = -1):=iahead_end;have HX:Hid (∀ k,IAhead q L k->k < L.length->q (lat L k)=false->IAhead q L (k+1)):=fun k=>iahead_next;clear hA hp;generalize hr:idx q 0 L=r at *;clear hr;unfold maxLen at hm;generalize hn:L.length=n at *;have HN:=Hh hn;clear hn
 go_enter func186,ntmps186
 go_wp2
 go_loopw [8] (fun i wr=>∃ k:Nat,k<=n/\i = .int .i64 k/\Hid (IAhead q L k)/\Hid (Below w.heap.size w wr)) (fun i _=>n - (intOf i).toNat)
 case atStart=>exact ⟨0,aI _,rfl,iahead_zero,aa _ _⟩
 case round =>
  obtain ⟨k,hk,rfl,hs,bw⟩:=hrel
  by_cases hlt:k < n
  ·obtain ⟨b,off,rfl,A⟩:=HA (by omega)
   obtain ⟨u,c,ru⟩:=A k hlt;have ru':=ru.below bw;have c':=bCe bw c;have AA:=Hh A;clear A;have hc:=HP.out wr u (lat L k) (ru.below bw);obtain ⟨a',cap',rfl,_⟩:=ru;have C:=Hh hc;have YES:=fun h=>HH k hs hlt h;have NO:=fun h=>HX k hs hlt h;clear hc ru' c;generalize q (lat L k)=qq at *;generalize (lat L k).length=m at *
   cases qq with
   | true =>
     have Y:=Hh (YES rfl);clear YES NO;go_wp2_with fail;refine C.mono ?_;rintro e w1 ⟨rfl,b1⟩;have B1:=bTr bw b1;clear b1;go_wp2
     go_ret
     exact ⟨Ua.ret_int Y.symm,B1⟩
   | false =>
     have N:=Hh (NO rfl);clear YES NO;go_wp2_with fail;refine C.mono ?_;rintro e w1 ⟨rfl,b1⟩;have B1:=bTr bw b1;clear b1;go_wp2
     go_roundw
     case rel=>exact ⟨k+1,by omega,by go_num,N,B1⟩
     case measure=>simp [intOf];omega
  ·obtain rfl:k=n:=by omega
   have E:=Hh (HE hs);go_wp2
   go_ret
   exact ⟨Ua.ret_int E.symm,bw⟩
end Ck
namespace Pa
open Go.Maps
open Fs (GetPost get_st)
open Ck (sender_any WhoPost)
open Fl (R4 sto4_row sto4_size)
attribute [local irreducible] Sd.wpSd wpQuiet Sg.wpSg
variable {T:LL} {s f r n:Int}
theorem sender_is (ok:tE T=0) (h:0<=sN s T):∃ n:Nat,sN s T=n/\n < T.length/\sE s T∈lat T n/\okE (sE s T)/\(sE s T).1=1/\(sE s T).2.1=s:=by
 rcases who_cases (snd s) T with ⟨n,x,hn,hx,hp,_,e1,e2⟩ | ⟨_,e1,_⟩
 ·have e1':=e1
  have e2':sE s T=x:=e2;obtain ⟨k1,k2⟩:=snd_is hp;exact ⟨n,e1',hn,by rw [e2'];exact hx,by rw [e2'];exact (tab_each ok hn x hx).1,by rw [e2'];exact k1,by rw [e2'];exact k2⟩
 ·have e1':sN s T = -1:=e1
  omega
variable {A:Abs}
theorem gV_ok (hA:OkA A) (f r:Int):okR (gV A f r):=by
 unfold gV
 split
 ·exact Fl.okR_z
 ·rename_i e he
  split
  ·exact Fl.okR_at (hA.find he).2.2.1 _
  ·exact Fl.okR_z
theorem gV_no (h:gB A f r=false):gV A f r=z4:=by
 unfold gB at h;unfold gV
 split
 ·rfl
 ·rename_i e he
  rw [he] at h;simp only [decide_eq_false_iff_not] at h;rw [ah h]
variable {w w':World}
theorem get_has {s:Nat} {x:Abs×Int} (H:Has w s x) (hn:Wf n) (r:Int):Calls prog 170 #[.pointer (some ⟨s,0,none⟩),.int .i64 n,.int .i64 r] w (GetPost w (gV x.1 n r) (gB x.1 n r)):=by
 obtain ⟨F,S⟩:=H;exact get_st S hn r
theorem arr4_at (v:R4) {j:Nat} (hj:j < 4):(arr4 v)[j]? = some (.int .u8 (rb v j)):=by
 obtain rfl | rfl | rfl | rfl:j=0\/j=1\/j=2\/j=3:=by omega
 all_goals rfl
def SentPost (w:World) (n x:Int) (b:Bool) (e:Ending) (w':World):Prop:=e = .returned (.tuple #[.int .i64 n,.int .u8 x,.bool b])/\Below w.heap.size w w'
variable {S:Sts} {V:List Bool}
theorem sent_no (h:snB S T V s=false) (b:Below w.heap.size w w'):SentPost w (sbN S T V s) (sbX S T V s) (snB S T V s) (.returned (.tuple #[.int .i64 (-1),.int .u8 0,.bool false])) w':=by
 refine ⟨?_,b⟩;unfold sbN sbX;rw [h]
 rfl
theorem sent_yes (h:snB S T V s=true) (b:Below w.heap.size w w'):SentPost w (sbN S T V s) (sbX S T V s) (snB S T V s) (.returned (.tuple #[.int .i64 (sN s T),.int .u8 (snX S T s),.bool true])) w':=by
 refine ⟨?_,b⟩;unfold sbN sbX;rw [h]
 rfl
theorem sent_any {vs vt vl:Value} (H:Ns w vs vt vl S T V) (s:Int):Calls prog 192 #[vs,vt,vl,.int .i64 s] w (SentPost w (sbN S T V s) (sbX S T V s) (snB S T V s)):=by
 have SA:=Hh (sender_any w vt T s H.tb);unfold WhoPost at SA;have NO:=Hh (fun h w' b=>sent_no (S:=S) (T:=T) (V:=V) (s:=s) (w:=w) (w':=w') h b);have YES:=Hh (fun h w' b=>sent_yes (S:=S) (T:=T) (V:=V) (s:=s) (w:=w) (w':=w') h b);have HH:=Hh H;obtain ⟨sa,cs,rfl,_⟩:=H.st.slice;obtain ⟨al,cl,el,_⟩:=H.lv.slice;rw [H.ll] at el;subst el
 by_cases h0:0<=sN s T
 ·obtain ⟨n,hn,hlt,hmem,oke,hk1,hk2⟩:=sender_is H.ok h0
  have GA:=Hh (fun w=>good_any w (sE s T));rw [ok_yes oke] at GA;obtain ⟨f0,r0,y0⟩:=(okE_bounds oke).2.2;have hnS:n < S.length:=by rw [← H.lt];exact hlt
  have hnV:n < V.length:=by rw [H.ll];exact hnS
  obtain ⟨b,off,cap,sp,e1,cS,hS⟩:=H.st.one hnS;injection e1 with e1 _ e2;subst e1 e2;obtain ⟨bl,ol,el2,AL⟩:∃ bl ol,al=some ⟨bl,ol,none⟩/\At KB w bl ol V:=by
   obtain ⟨a',c',e',_,_,h3⟩:=H.lv;injection e' with q1 _ q2;subst q1;exact h3 (by omega)
  subst el2;have cV:=atB AL hnV
  have SB:Hid (snB S T V s=(vat V n && gB (sat S n).1 (sE s T).2.2.1 (sE s T).2.2.2.1)):=Hh (by
   unfold snB
   rw [hn,an (Int.natCast_nonneg n),Bool.true_and])
  have SX:Hid (snX S T s=rb (gV (sat S n).1 (sE s T).2.2.1 (sE s T).2.2.2.1) (sE s T).2.2.2.2):=Hh (by
   unfold snX
   rw [hn])
  have ev:V.getD n false=vat V n:=rfl;rw [ev] at cV;rw [hn] at YES SA;have WF:=Hh (wf_of (n:=(sE s T).2.2.1) (by omega));have SG:Hid (∀ W,Below w.heap.size w W->Calls prog 170 #[.pointer (some ⟨sp,0,none⟩),.int .i64 (sE s T).2.2.1,.int .i64 (sE s T).2.2.2.1] W (GetPost W (gV (sat S n).1 (sE s T).2.2.1 (sE s T).2.2.2.1) (gB (sat S n).1 (sE s T).2.2.1 (sE s T).2.2.2.1))):=Hh (fun W b=>get_has (hS.below b) WF _);have GN:Hid (gB (sat S n).1 (sE s T).2.2.1 (sE s T).2.2.2.1=false->gV (sat S n).1 (sE s T).2.2.1 (sE s T).2.2.2.1=z4):=Hh gV_no;clear hmem hS HH H h0 hk1 hk2 hlt oke hn;unfold GetPost at SG;generalize gV (sat S n).1 (sE s T).2.2.1 (sE s T).2.2.2.1=gv at *;generalize gB (sat S n).1 (sE s T).2.2.1 (sE s T).2.2.2.1=gb at *;unfold ent at SA GA;generalize snX S T s=X at *;generalize sE s T=x at *;obtain ⟨q,s',f,r,y⟩:=x;simp only at y0 SX SA GA SG WF GN;obtain ⟨j,rfl⟩:∃ j:Nat,y=j:=⟨y.toNat,by omega⟩;have hj:j < 4:=by omega
  clear f0 r0 y0;generalize snB S T V s=a3 at *;generalize sbN S T V s=a1 at *;generalize sbX S T V s=a2 at *;generalize S.length=N at *;have lS:=aC _ _ cS;have lV:bl < w.heap.size:=aC _ _ cV;have CS:=Hh cS;have CV:=Hh cV;clear cS AL hnV
  go_enter func192,ntmps192
  go_wp2_with fail;refine SA.mono ?_;rintro e w1 ⟨rfl,b1⟩;have X1:Hid ((w1.alloc (.cells #[.int .i64 q,.int .i64 s',.int .i64 f,.int .i64 r,.int .i64 (j:Int)] 244)).heap[w1.heap.size]? = some (.cells #[.int .i64 q,.int .i64 s',.int .i64 f,.int .i64 r,.int .i64 (j:Int)] 244 (0,0))):=Hh (am w1 _);have B1:=Hh (b1.alloc b1.size (.cells #[.int .i64 q,.int .i64 s',.int .i64 f,.int .i64 r,.int .i64 (j:Int)] 244));have G1:=b1.size;go_upto_region 2 with fail;generalize (w1.alloc (.cells #[.int .i64 q,.int .i64 s',.int .i64 f,.int .i64 r,.int .i64 (j:Int)] 244))=W at *;clear b1 SA;generalize w1.heap.size=g at *;have cV:=(B1.cell lV).trans CV;have x0:=Fl.rc X1 0;have x1:=Fl.rc X1 1;have x2:=Fl.rc X1 2;have x3:=Fl.rc X1 3;have x4:=Fl.rc X1 4
  cases hv:vat V n with
  | false =>
    rw [hv] at cV;have N2:=Hh (NO (by rw [SB.out,hv];rfl) W B1.out);clear NO YES SB SX;go_wp2
    go_ret3
    exact N2
  | true =>
    rw [hv] at cV;go_wp2_with fail;refine (GA _).mono ?_;rintro e w2 ⟨rfl,b2⟩;have X2:=Hh (bBl b2 X1);have B2:=bTr B1 b2;clear b2 GA X1 B1 cV x0 x1 x2 x3 x4;go_upto_region 4 with fail;have cS:=Sd.cell_by ((B2.cell lS).trans CS);have x2:=Sd.cell_by (Fl.rc X2 2);have x3:=Sd.cell_by (Fl.rc X2 3);refine Sg.startP [(0,0),(0,1),(0,2),(0,3),(0,4),(0,5),(0,6),(0,7),(1,8),(0,9),(0,10),(0,11),(2,12),(1,13),(0,14)] [⟨12,12,#[.int .u8 0,.int .u8 0,.int .u8 0,.int .u8 0],36,none,none⟩] (by kernel_rfl) (by kernel_rfl) (by kernel_rfl) (by decide) (by decide) ?_ ?_ ?_
    ·simp
    ·intro f hf
     simp only [aN,bp,cG] at hf;subst hf;exact Sg.okP rfl rfl rfl fun ρ w=>by go_simp
    dsimp only [Sg.picks,List.getElem?_cons_succ,List.getElem?_cons_zero];have BW:=Hh ((aa w2.heap.size w2).drew);unfold ptr at cS
    repeat (refine Sg.lit (fun xs=>?_);simp only [Sg.fill,aK,aD];quiet_step (fail);refine az ?_)
    refine Sg.callB (fun xs w3 hb hc=>⟨by rfl,fun K hK=>?_⟩);have B3:=bTr BW hb;clear hb hc BW;simp only [Sg.fill,aK,aD];go_simp;refine (SG w3 (bTr B2 B3)).mono ?_;rintro e4 w4 ⟨rfl,b4⟩;have B4:=bTr B3 b4;refine hK _ _ (Sd.Cl.of B4) b4.size (fun _=>b4) ?_;clear hK K b4 B3 SG;unfold rec4
    repeat (refine Sg.lit (fun xs=>?_);simp only [Sg.fill,aK,aD];quiet_step (fail);refine az ?_)
    refine Sg.meetP (fun g7 w7 hb hc row n7 hH hL=>?_);have B7:=bTr B4 hb;have R7:Hid (w7.heap[g7]? = some (.cells (arr4 z4) 36 (0,0))):=Hh row;clear hb hc row hH hL B4
    repeat (refine Sg.lit (fun xs=>?_);simp only [Sg.fill,aD];quiet_step (fail);refine az ?_)
    refine Sg.callB (fun xs w9 hb hc=>⟨by rfl,fun K hK=>?_⟩);have B9:=bTr B7 hb;have R9:=bBl hb R7;obtain ⟨d0,d1,d2,d3⟩:=rc4 R9;have f0:w9.frozen? ⟨g7,0,none⟩=false:=row_frozen R9 0;have f1:w9.frozen? ⟨g7,1,none⟩=false:=row_frozen R9 1;have f2:w9.frozen? ⟨g7,2,none⟩=false:=row_frozen R9 2;have f3:w9.frozen? ⟨g7,3,none⟩=false:=row_frozen R9 3;have RA:=sto4_row R9 gv;have BA:=sto4_below (o:=0) (r:=gv) B9 n7;have hsz:=sto4_size w9 g7 0 gv;clear hb hc B7 R7 R9;simp only [Sg.fill,aD];go_simp;refine hK _ _ (Sd.Cl.of BA) (by rw [← hsz];exact ac _) (fun h=>absurd rfl h) ?_;clear hK K d0 d1 d2 d3 f0 f1 f2 f3 hsz
    show Sg.wpSg _ _ _ _ _ _ _ _ _ _ _ (sto4 w9 g7 0 gv)
    have B10:=bTr B2 BA;have X10:=Hh (bBl BA X2);have R10:=Hh RA;clear BA RA cS x2 x3 B9 B2 X2 CS CV n7;generalize sto4 w9 g7 0 gv=wA at *
    repeat (refine Sg.lit (fun xs=>?_);simp only [Sg.fill,aD];quiet_step (fail);refine az ?_)
    refine Sg.done (fun wB hb hc=>?_);have BB:=bTr B10 hb;have XB:=Hh (bBl hb X10);have RB:=Hh (bBl hb R10);clear hb hc B10 X10 R10
    cases hb:gb with
    | false =>
      have N2:=Hh (NO (by rw [SB.out,hv,hb];rfl) wB BB.out);clear NO YES SB SX;go_wp2
      go_ret3
      exact N2
    | true =>
      have N2:=Hh (YES (by rw [SB.out,hv,hb];rfl) wB.drew (BB.out.trans ((aa _ _).drew)));rw [SX.out] at N2;clear NO YES SB SX GN;go_upto_region 7 with fail;have x4:=Sd.cell_by (Fl.rc XB 4);have rj:=Sd.cell_by ((row_cell RB j).trans (arr4_at gv hj));obtain rfl | rfl | rfl | rfl:j=0\/j=1\/j=2\/j=3:=by omega
      all_goals
       refine Sd.start [(false,0),(false,1),(false,2),(false,3),(false,4),(false,5),(false,6),(false,7)] (by kernel_rfl) (by kernel_rfl) (by kernel_rfl) ?_;dsimp only [Sd.picks,List.getElem?_cons_succ,List.getElem?_cons_zero]
       repeat (refine Sd.lit ?_;quiet_step (fail);refine az ?_)
       refine Sd.done ?_;clear x4 rj;go_wp2
       go_ret3
       exact N2
 ·have SBF:snB S T V s=false:=by unfold snB;rw [ak h0];rfl
  have N2:=Hh (NO SBF);clear NO YES SBF HH H;generalize sbN S T V s=a1 at *;generalize sbX S T V s=a2 at *;generalize snB S T V s=a3 at *;have d0:decide (sN s T < 0)=true:=an (by omega);generalize sN s T=m at *;generalize sE s T=x at *;unfold ent at SA
  go_enter func192,ntmps192
  go_wp2_with fail;refine SA.mono ?_;rintro e w1 ⟨rfl,b1⟩;have B1:=Hh (b1.alloc b1.size (.cells #[.int .i64 x.1,.int .i64 x.2.1,.int .i64 x.2.2.1,.int .i64 x.2.2.2.1,.int .i64 x.2.2.2.2] 244));have hm0:m < 0:=by omega
  clear b1 SA;go_wp2
  go_ret3
  exact N2 _ B1
end Pa
namespace Ua
theorem place_any (w:World) (k:Nat) (h:k < 8):Calls prog 195 #[.int .i64 (k+1:Nat)] w fun e w'=>e = .returned (.int .u8 (2 ^ k))/\w=w':=by
 rcases (by omega:k=0\/k=1\/k=2\/k=3\/k=4\/k=5\/k=6\/k=7) with rfl | rfl | rfl | rfl | rfl | rfl | rfl | rfl
 all_goals
  go_enter func195,ntmps195
  go_wp2
  go_ret
  exact ⟨ret_int (by decide),rfl⟩
theorem isOdd_any (w:World) (F:Nat->Bool):Calls prog 196 #[.agg (arr F)] w fun e w'=>e = .returned (.bool (par F 9))/\Below w.heap.size w w':=by
 have R0:=Hh (Row.new w F);have B0:=Hh ((aa w.heap.size w).alloc (ac _) (.cells (arr F) 286))
 go_enter func196,ntmps196
 go_wp2
 go_loop [3,8] (fun o i=>∃ k:Nat,k<=9/\i = .int .i64 k/\o = .bool (par F k)) (fun _ i=>9 - (intOf i).toNat)
 case atStart=>exact ⟨0,by omega,rfl,rfl⟩
 case round =>
  obtain ⟨k,hk,rfl,rfl⟩:=hrel
  by_cases hlt:k < 9
  ·have c:=R0.cell (1+k) (by omega)
   have e:par F (k+1)=(par F k != F (1+k)):=by rw [par,Nat.add_comm 1 k]
   have E:=Hh e;clear e;go_wp2
   go_round
   case rel=>exact ⟨k+1,by omega,by go_num,by rw [E.out];cases par F k <;> cases F (1+k) <;> rfl⟩
   case measure=>simp [intOf];omega
  ·obtain rfl:k=9:=by omega
   go_wp2
   go_ret
   exact ⟨rfl,B0⟩
theorem put_1 (b:Int) (i:Nat):put b 1 i=false:=by unfold put;rw [ah (by omega)]
theorem put_step (b:Int) (k:Nat) (h:1<=k) (i:Nat):upd (put b k) k (bit b (k - 1)) i=put b (k+1) i:=by
 unfold upd put
 by_cases e:i=k
 ·subst e;rw [aj rfl,aj (by omega)]
 ·rw [ah e]
  by_cases c:1<=i/\i < k
  ·rw [aj c,aj (by omega)]
  ·rw [ah c,ah (by omega)]
def no (_:Nat):Bool:=false
def Two (w wr:World) (F:Nat->Bool):Prop:=Row wr w.heap.size no/\Row wr (w.heap.size+1) F/\Below w.heap.size w wr
variable {w wr:World} {F:Nat->Bool}
theorem Two.frame (h:Two w wr F):Row wr (w.heap.size+1) F:=h.2.1
theorem Two.res (h:Two w wr F):Row wr w.heap.size no:=h.1
theorem two_new (w:World) (F:Nat->Bool) (h:∀ i,i < 11->false=F i):Two w ((w.alloc (.cells (arr no) 286)).alloc (.cells (arr no) 286)) F:=by
 refine ⟨(Row.new w no).alloc _,?_,((aa _ _).alloc (ac _) _).alloc (by simp) _⟩;have:=Row.new (w.alloc (.cells (arr no) 286)) no;have e:(w.alloc (.cells (arr no) 286)).heap.size=w.heap.size+1:=by simp
 rw [e] at this;exact this.to h
theorem Two.set_ {w wr:World} {F:Nat->Bool} (h:Two w wr F) (k:Nat) (hk:k < 11) (x:Bool):Two w (wr.setCell ⟨w.heap.size+1,k,none⟩ (.bool x)) (upd F k x) :=
 ⟨h.1.far (by simp) _,h.2.1.set_ k hk x,h.2.2.setCell (by simp) _⟩
theorem Two.below {w wr w1:World} {F:Nat->Bool} (h:Two w wr F) (hb:Below wr.heap.size wr w1):Two w w1 F :=
 ⟨h.1.below hb h.1.lt,h.2.1.below hb h.2.1.lt,h.2.2.trans (hb.mono h.2.2.size)⟩
theorem Two.to {w wr:World} {F G:Nat->Bool} (h:Two w wr F) (e:∀ i,i < 11->F i=G i):Two w wr G:=⟨h.1,h.2.1.to e,h.2.2⟩
theorem put_any (w:World) (b:Int) (odd:Bool) (h0:0<=b) (h1:b<=255):Calls prog 193 #[.int .u8 b,.bool odd] w fun e w'=>e = .returned (.agg (arr (frm b odd)))/\Below w.heap.size w w':=by
 have T0:=Hh (two_new w (put b 1) (fun i _=>(put_1 b i).symm))
 go_enter func193,ntmps193
 go_wp2
 go_loopw [6] (fun i wr=>∃ k:Nat,1<=k/\k<=9/\i = .int .i64 k/\Hid (Two w wr (put b k))) (fun i _=>9 - (intOf i).toNat)
 case atStart=>exact ⟨1,by omega,by omega,rfl,T0⟩
 case round =>
  obtain ⟨k,k1,k9,rfl,T⟩:=hrel
  by_cases hlt:k < 9
  ·obtain ⟨j,rfl⟩:∃ j,k=j+1:=⟨k - 1,by omega⟩
   have c:=T.out.2.1.cell (j+1) (by omega);have f:=T.out.2.1.frozen (j+1);go_wp2_with fail;refine (place_any _ j (by omega)).mono ?_;rintro e w' ⟨rfl,rfl⟩;go_wp2
   go_roundw
   case rel=>exact ⟨j+1+1,by omega,by omega,by go_num,by rw [and_bit b j h0 h1 (by omega)];exact (T.out.set_ (j+1) (by omega) _).to (fun i _=>put_step b (j+1) (by omega) i)⟩
   case measure=>simp [intOf];omega
  ·obtain rfl:k=9:=by omega
   go_wp2_with (refine wpList_load_row rfl 286 _ rfl _ rfl _ _ _ _ T.out.2.1 underlying286 rfl (info_of _) ?_)
   refine (isOdd_any _ _).mono ?_;rintro e w1 ⟨rfl,b1⟩;have T1:=Hh (T.below b1);have c9:=T1.out.2.1.cell 9 (by omega);have c10:=T1.out.2.1.cell 10 (by omega);have f9:=T1.out.2.1.frozen 9;have f10:=T1.out.2.1.frozen 10;clear b1;have T2:=Hh ((T1.set_ 9 (by omega) (par (put b 9) 9 != odd)).set_ 10 (by omega) true)
   go_wp2_with (first
    | (refine wpList_load_row rfl 286 _ rfl _ rfl _ _ _ _ T2.out.2.1 underlying286 rfl (info_of _) ?_)
    | (refine wpList_store_row rfl 286 _ _ rfl _ _ rfl rfl _ _ T2.out.1 (info_of _) rfl (arr_one _) ?_))
   refine aA (results_cell_row rfl _ _ _ _ _ _ _ rfl (T2.out.1.row _) underlying286 rfl (info_of _)) rfl ⟨rfl,?_⟩;exact below_setRow T2.out.2.2 _ _ (ac _)
variable {a b c d m:Int}
theorem ret_three {p q:Bool} {k:IntKind} (h1:a=b) (h2:p=q) (h3:c=d):Ending.returned (.tuple #[.int k a,.bool p,.int .i64 c]) = .returned (.tuple #[.int k b,.bool q,.int .i64 d]):=by rw [h1,h2,h3]
theorem of_bad (h:bad F=true):0=tb F/\false=tp F/\2=te F:=by unfold tb tp te;rw [h];exact ⟨rfl,rfl,rfl⟩
theorem of_good (h:bad F=false):(val F 8:Int)=tb F/\par F 9=tp F/\0=te F:=by unfold tb tp te;rw [h];exact ⟨rfl,rfl,rfl⟩
theorem take_bad (w:World) (F:Nat->Bool) (hb:bad F=true):Calls prog 165 #[.agg (arr F)] w fun e w'=>e = .returned (.tuple #[.int .u8 (tb F),.bool (tp F),.int .i64 (te F)])/\Below w.heap.size w w':=by
 have R0:=Hh (Row.new w F);have B0:=Hh ((aa w.heap.size w).alloc (ac _) (.cells (arr F) 286));have c0:=R0.cell 0 (by omega);have c10:=R0.cell 10 (by omega);have OB:=Hh (of_bad hb);unfold bad at hb
 cases h0:F 0 with
 | true =>
   rw [h0] at c0;clear hb
   go_enter func165,ntmps165
   go_wp2
   go_ret3
   exact ⟨ret_three OB.out.1 OB.out.2.1 OB.out.2.2,B0⟩
 | false =>
   have h10:F 10=false:=by rw [h0] at hb;simpa using hb
   rw [h0] at c0;rw [h10] at c10;clear hb
   go_enter func165,ntmps165
   go_wp2
   go_ret3
   exact ⟨ret_three OB.out.1 OB.out.2.1 OB.out.2.2,B0⟩
theorem take_good (w:World) (F:Nat->Bool) (hb:bad F=false):Calls prog 165 #[.agg (arr F)] w fun e w'=>e = .returned (.tuple #[.int .u8 (tb F),.bool (tp F),.int .i64 (te F)])/\Below w.heap.size w w':=by
 have R0:=Hh (Row.new w F);have B0:=Hh ((aa w.heap.size w).alloc (ac _) (.cells (arr F) 286));have c0:=R0.cell 0 (by omega);have c10:=R0.cell 10 (by omega);have OB:=Hh (of_good hb);unfold bad at hb
 simp at hb
 obtain ⟨h0,h10⟩:=hb;rw [h0] at c0;rw [h10] at c10;clear h0 h10
 go_enter func165,ntmps165
 go_wp2
 go_loop [2,5] (fun x i=>∃ k:Nat,k<=8/\i = .int .i64 (k+1:Nat)/\x = .int .u8 (val F k:Nat)) (fun _ i=>9 - (intOf i).toNat)
 case atStart=>exact ⟨0,by omega,rfl,rfl⟩
 case round =>
  obtain ⟨k,hk,rfl,rfl⟩:=hrel
  by_cases hlt:k < 8
  ·have c:=R0.cell (k+1) (by omega)
   have hv:=val_lt F k
   cases hF:F (k+1) with
   | true =>
     rw [hF] at c;have E:=Hh (or_bit (val F k) k hlt hv);have V:Hid (val F (k+1)=val F k+2 ^ k):=by show val F (k+1)=_;rw [val,hF];rfl
     clear hF hv;go_wp2_with fail;refine (place_any _ k hlt).mono ?_;rintro e w' ⟨rfl,rfl⟩;go_wp2
     go_round
     case rel=>exact ⟨k+1,by omega,by go_num,by rw [V.out,E.out]⟩
     case measure=>simp [intOf];omega
   | false =>
     rw [hF] at c;have V:Hid (val F (k+1)=val F k):=by show val F (k+1)=_;rw [val,hF];rfl
     clear hF hv;go_wp2
     go_round
     case rel=>exact ⟨k+1,by omega,by go_num,by rw [V.out]⟩
     case measure=>simp [intOf];omega
  ·obtain rfl:k=8:=by omega
   go_wp2_with (refine wpList_load_row rfl 286 _ rfl _ rfl _ _ _ _ R0 underlying286 rfl (info_of _) ?_)
   refine (isOdd_any _ _).mono ?_;rintro e w1 ⟨rfl,b1⟩;have B1:=bTr B0 b1;clear b1;go_wp2
   go_ret3
   exact ⟨ret_three OB.out.1 OB.out.2.1 OB.out.2.2,B1⟩
theorem take_any (w:World) (F:Nat->Bool):Calls prog 165 #[.agg (arr F)] w fun e w'=>e = .returned (.tuple #[.int .u8 (tb F),.bool (tp F),.int .i64 (te F)])/\Below w.heap.size w w':=by
 cases h:bad F with
 | true=>exact take_bad w F h
 | false=>exact take_good w F h
theorem turn_0 (F:Nat->Bool) (m:Int) (i:Nat):turn F m 0 i=F i:=by unfold turn;rw [ah (by omega)]
variable {k:Nat}
theorem turn_yes (h:bit m k=true) (i:Nat):upd (turn F m k) k (!turn F m k k) i=turn F m (k+1) i:=by
 unfold upd turn
 by_cases e:i=k
 ·subst e;rw [aj rfl,ah (by omega),aj (by omega),h];simp
 ·rw [ah e]
  by_cases c:i < k
  ·rw [aj c,aj (by omega)]
  ·rw [ah c,ah (by omega)]
theorem turn_no (h:bit m k=false) (i:Nat):turn F m k i=turn F m (k+1) i:=by
 unfold turn
 by_cases e:i=k
 ·subst e;rw [ah (by omega),aj (by omega),h];simp
 ·by_cases c:i < k
  ·rw [aj c,aj (by omega)]
  ·rw [ah c,ah (by omega)]
def Own2 (w wr:World) (F:Nat->Bool):Prop:=Row wr w.heap.size F/\Row wr (w.heap.size+1) no/\Below w.heap.size w wr
theorem own2_new (w:World) (F:Nat->Bool):Own2 w ((w.alloc (.cells (arr F) 286)).alloc (.cells (arr no) 286)) F:=by
 refine ⟨(Row.new w F).alloc _,?_,((aa _ _).alloc (ac _) _).alloc (by simp) _⟩;have:=Row.new (w.alloc (.cells (arr F) 286)) no;have e:(w.alloc (.cells (arr F) 286)).heap.size=w.heap.size+1:=by simp
 rw [e] at this;exact this
theorem Own2.set_ {w wr:World} {F:Nat->Bool} (h:Own2 w wr F) (k:Nat) (hk:k < 11) (x:Bool):Own2 w (wr.setCell ⟨w.heap.size,k,none⟩ (.bool x)) (upd F k x) :=
 ⟨h.1.set_ k hk x,h.2.1.far (by simp) _,h.2.2.setCell (by simp) _⟩
theorem Own2.to {w wr:World} {F G:Nat->Bool} (h:Own2 w wr F) (e:∀ i,i < 11->F i=G i):Own2 w wr G:=⟨h.1.to e,h.2.1,h.2.2⟩
theorem turn_any (w:World) (F:Nat->Bool) (m:Int):Calls prog 194 #[.agg (arr F),.int .i64 m] w fun e w'=>e = .returned (.agg (arr (turn F m 11)))/\Below w.heap.size w w':=by
 have T0:=Hh ((own2_new w F).to (fun i _=>(turn_0 F m i).symm))
 go_enter func194,ntmps194
 go_wp2
 go_loopw [6] (fun i wr=>∃ k:Nat,k<=11/\i = .int .i64 k/\Hid (Own2 w wr (turn F m k))) (fun i _=>11 - (intOf i).toNat)
 case atStart=>exact ⟨0,by omega,rfl,T0⟩
 case round =>
  obtain ⟨k,hk,rfl,T⟩:=hrel
  by_cases hlt:k < 11
  ·have c:=T.out.1.cell k hlt
   have f:=T.out.1.frozen k
   cases hb:bit m k with
   | true =>
     have TY:=Hh (turn_yes (F:=F) hb);have tt:=(test_one m k).trans hb;clear hb;go_wp2
     go_roundw
     case rel=>exact ⟨k+1,by omega,by go_num,(T.out.set_ k hlt _).to (fun i _=>TY.out i)⟩
     case measure=>simp [intOf];omega
   | false =>
     have TN:=Hh (turn_no (F:=F) hb);have tt:=(test_one m k).trans hb;clear hb;go_wp2
     go_roundw
     case rel=>exact ⟨k+1,by omega,by go_num,T.out.to (fun i _=>TN.out i)⟩
     case measure=>simp [intOf];omega
  ·obtain rfl:k=11:=by omega
   go_wp2_with (first
    | (refine wpList_load_row rfl 286 _ rfl _ rfl _ _ _ _ T.out.1 underlying286 rfl (info_of _) ?_)
    | (refine wpList_store_row rfl 286 _ _ rfl _ _ rfl rfl _ _ T.out.2.1 (info_of _) rfl (arr_one _) ?_))
   refine aA (results_cell_row rfl _ _ _ _ _ _ _ rfl (T.out.2.1.row _) underlying286 rfl (info_of _)) rfl ⟨rfl,?_⟩;exact below_setRow T.out.2.2 _ _ (by omega)
end Ua
namespace Pa
open Go.Maps
open Ua (te put_any take_any turn_any below_setRow)
attribute [local irreducible] Sd.wpSd wpQuiet Sg.wpSg
def FramePost (w:World) (n:Int) (F:Nat->Bool) (b:Bool) (e:Ending) (w':World):Prop:=e = .returned (.tuple #[.int .i64 n,.agg (arr F),.bool b])/\Below w.heap.size w w'
theorem results_fr {fn:Func} {a p c:Tmp} (h:fn.results=#[.tmp a,.cell p 286,.tmp c]) (tmps:Array Value) (w:World) (g:Nat) (n:Value) (F:Nat->Bool) (b:Value)
 (ha:tmps.getD a undef=n) (hp:tmps.getD p undef = .pointer (some ⟨g,0,none⟩)) (hc:tmps.getD c undef=b) (h1:Row w g F) :
 (results fn tmps).run prog w = .ok (.tuple #[n,.agg (arr F),b]) w:=by
 have e1:=h1.load;have hp':tmps[p]?.getD undef = .pointer (some ⟨g,0,none⟩):=by simpa using hp
 have ha':tmps[a]?.getD undef=n:=by simpa using ha
 have hc':tmps[c]?.getD undef=b:=by simpa using hc
 simp only [results,h]
 simp [Result.andThen,hp',ha',hc',asAddr,e1]
structure FrI (w wr:World) (F:Nat->Bool):Prop where
 row:Row wr w.heap.size F
 bel:Below w.heap.size w wr
theorem FrI.below {w wr wr':World} {F:Nat->Bool} (h:FrI w wr F) (b:Below wr.heap.size wr wr'):FrI w wr' F:=⟨h.row.below b h.row.lt,h.bel.trans (b.mono h.bel.size)⟩
variable {w wr w':World}
theorem FrI.set {F:Nat->Bool} (h:FrI w wr F) (G:Nat->Bool):FrI w (wr.setRow w.heap.size (arr G)) G:=⟨h.row.row G,below_setRow h.bel _ _ (ac _)⟩
theorem FrI.to {w wr:World} {F G:Nat->Bool} (h:FrI w wr F) (e:∀ i,i < 11->F i=G i):FrI w wr G:=⟨h.row.to e,h.bel⟩
theorem fr_new (w:World):FrI w (w.alloc (.cells (arr lowF) 286)) lowF:=⟨Row.new w lowF,(aa w.heap.size w).alloc (ac _) _⟩
variable {vs vt vl vp:Value} {S:Sts} {T:LL} {V:List Bool}
theorem sbX_byt (H:Ns w vs vt vl S T V) (s:Int):byt (sbX S T V s):=by
 unfold sbX
 split
 ·rename_i h
  have h0:0<=sN s T:=by
   unfold snB at h;simp only [aG,aZ] at h;exact h.1.1
  obtain ⟨n,hn,hlt,_⟩:=sender_is H.ok h0;obtain ⟨_,_,_,_,_,_,hS⟩:=H.st.one (k:=n) (by rw [← H.lt];exact hlt);unfold snX;rw [hn];exact rb_ok (gV_ok hS.okA _ _) _
 ·unfold byt;omega
variable {P:List S2}
theorem frame_any (H:Ns w vs vt vl S T V) (RP:Rd K2 w vp P) (s:Int):Calls prog 164 #[vs,vt,vl,vp,.int .i64 s] w (FramePost w (sbN S T V s) (frF S T V P s) (snB S T V s)):=by
 have SA:=Hh (fun W b=>sent_any (H.below (w':=W) b) s);unfold SentPost at SA;have F0:=Hh (fr_new w);have RR:=Hh RP;obtain ⟨ap,cp,rfl,_,hm,hA⟩:=RP;have HA:=Hh hA;unfold maxLen at hm
 have XB:Hid (snB S T V s=true->byt (sbX S T V s)/\frF S T V P s=sq P s (frm (sbX S T V s) false) P.length):=Hh (fun h=>⟨sbX_byt H s,by
  unfold frF sbX
  rw [aj h,aj h]⟩)
 have LO:Hid (snB S T V s=false->frF S T V P s=lowF/\sbN S T V s = -1):=Hh (fun h=>by unfold frF sbN;rw [h];exact ⟨rfl,rfl⟩);clear hA H;generalize hn:P.length=n at *;have HN:=Hh hn;clear hn;generalize frF S T V P s=FF at *;generalize sbN S T V s=m at *;generalize sbX S T V s=x at *;generalize snB S T V s=bb at *
 go_enter func164,ntmps164
 go_wp2_with fail;have F1:Hid (FrI w (w.alloc (.cells #[.bool false,.bool false,.bool false,.bool false,.bool false,.bool false,.bool false,.bool false,.bool false,.bool false,.bool false] 286)) lowF):=F0;clear F0;generalize (w.alloc (.cells #[.bool false,.bool false,.bool false,.bool false,.bool false,.bool false,.bool false,.bool false,.bool false,.bool false,.bool false] 286))=W at *;refine (SA.out W F1.out.bel).mono ?_;rintro e w1 ⟨rfl,b1⟩;have F2:=Hh (F1.out.below b1);clear b1 F1 SA
 cases hb:bb with
 | false =>
   have EF:=Hh (LO.out hb);clear LO XB;have F3:=Hh (F2.out.set lowF)
   go_wp2_with ((with_reducible refine store_frame (o:=⟨none,_,_,_,_,_⟩) rfl _ _ rfl w.heap.size lowF lowF ?_ ?_ F2.out.row ?_);(exact rfl);(exact rfl))
   (try simp only [Exit.inBlock,Exit.then])
   refine aA (results_fr rfl _ _ _ _ lowF _ rfl rfl rfl F3.out.row) rfl ?_;exact ⟨by rw [EF.out.1,EF.out.2,hb];exact rfl,F3.out.bel⟩
 | true =>
   have EF:=Hh (XB hb);clear LO XB;obtain ⟨x0,x1⟩:=EF.out.1;go_wp2_with fail;refine (put_any w1 x false x0 x1).mono ?_;rintro e w2 ⟨rfl,b2⟩;have F3:=Hh ((F2.below b2).set (frm x false));have F4:=Hh (F2.below b2);clear b2 F2 x0 x1
   go_wp2_with (refine wpList_store_row rfl 286 _ _ rfl _ _ rfl rfl _ _ F4.row (info_of (frm x false)) rfl (arr_one _) ?_)
   clear F4;generalize w2.setRow w.heap.size (arr (frm x false))=W2 at *
   go_loopw [32] (fun i wr=>∃ k:Nat,k<=n/\i = .int .i64 k/\Hid (FrI w wr (sq P s (frm x false) k))) (fun i _=>n - (intOf i).toNat)
   case atStart=>exact ⟨0,aI _,rfl,F3⟩
   case round =>
    obtain ⟨k,hk,rfl,I⟩:=hrel;clear F3
    by_cases hlt:k < n
    ·obtain ⟨b,off,rfl,A1⟩:=HA (by omega)
     obtain ⟨c0,c1⟩:=at2 (A1.below I.bel) (i:=k) (by have:=HN.out;omega);have Y:=Hh (sq_yes P s (frm x false) (j:=k) (by have:=HN.out;omega));have N:=Hh (sq_no P s (frm x false) (j:=k) (by have:=HN.out;omega));generalize pat P k=z at *;obtain ⟨z1,z2⟩:=z;simp only at c0 c1 Y N;generalize hG:sq P s (frm x false) (k+1)=G' at *;have EG:=Hh hG;clear hG;generalize sq P s (frm x false) k=G at *;have I1:=Hh (I.out.below ((aa wr.heap.size wr).alloc (ac _) (.cells #[.int .i64 z1,.int .i64 z2] 96)));clear A1 I
     by_cases h1:z1=s
     ·subst h1
      have YY:=Y.out rfl;have TA:=Hh (turn_any (wr.alloc (.cells #[.int .i64 z1,.int .i64 z2] 96)) G (bits BinOp.and .i64 z2 2046));have TE:Hid (∀ i,i < 11->Ua.turn G (bits BinOp.and .i64 z2 2046) 11 i=G' i):=Hh (fun i hi=>by rw [YY];exact tn_code G z2 i hi);clear Y N YY;have SP:Hid ((wr.alloc (.cells #[.int .i64 z1,.int .i64 z2] 96)).heap[wr.heap.size]? = some (.cells #[.int .i64 z1,.int .i64 z2] 96 (0,0))):=Hh (am wr _);go_upto_region 9 with fail;generalize (wr.alloc (.cells #[.int .i64 z1,.int .i64 z2] 96))=W4 at *;have s1:W4.cell? ⟨wr.heap.size,1,none⟩=some (.int .i64 z2):=row_cell SP.out 1
      go_wp2_with (with_reducible refine load_frame (o:=⟨some 40,_,_,_,_,_⟩) rfl _ rfl w.heap.size G ?_ I1.out.row ?_);(exact rfl)
      refine TA.out.mono ?_;rintro e w5 ⟨rfl,b5⟩;have I5:=Hh (I1.out.below b5);have I6:=Hh ((I5.out.set (Ua.turn G (bits BinOp.and .i64 z2 2046) 11)).to TE.out);clear b5 I1 TA TE SP s1
      go_wp2_with ((with_reducible refine store_frame (o:=⟨none,_,_,_,_,_⟩) rfl _ _ rfl w.heap.size (Ua.turn G (bits BinOp.and .i64 z2 2046) 11) G ?_ ?_ I5.out.row ?_);(exact rfl);(exact rfl))
      go_roundw
      case rel=>exact ⟨k+1,by omega,by go_num,by rw [EG.out];exact I6⟩
      case measure=>simp [intOf];omega
     ·have I2:Hid (FrI w (wr.alloc (.cells #[.int .i64 z1,.int .i64 z2] 96)) (sq P s (frm x false) (k+1))):=by rw [EG.out,N.out h1];exact I1
      have d1:(z1 == s)=false:=by simpa using h1
      clear Y N I1;go_wp2
      go_roundw
      case rel=>exact ⟨k+1,by omega,by go_num,I2⟩
      case measure=>simp [intOf];omega
    ·obtain rfl:k=n:=by omega
     have EE:=Hh EF.out.2;have FE:Hid (arr FF=arr (sq P s (frm x false) k)):=Hh (by rw [EE.out]);go_upto_region 11 with fail;clear EF EE;generalize sq P s (frm x false) k=G at *;have C0:FrI w wr.drew G:=⟨I.row,I.bel.trans ((aa wr.heap.size wr).drew.mono I.bel.size)⟩;have k0:=Sc.cell_in (C:=fun W=>FrI w W G) (a:=⟨w.heap.size,0,none⟩) (fun W' h=>h.row.cell 0 (by omega));have k1:=Sc.cell_in (C:=fun W=>FrI w W G) (a:=⟨w.heap.size,1,none⟩) (fun W' h=>h.row.cell 1 (by omega));have k2:=Sc.cell_in (C:=fun W=>FrI w W G) (a:=⟨w.heap.size,2,none⟩) (fun W' h=>h.row.cell 2 (by omega));have k3:=Sc.cell_in (C:=fun W=>FrI w W G) (a:=⟨w.heap.size,3,none⟩) (fun W' h=>h.row.cell 3 (by omega));have k4:=Sc.cell_in (C:=fun W=>FrI w W G) (a:=⟨w.heap.size,4,none⟩) (fun W' h=>h.row.cell 4 (by omega));have k5:=Sc.cell_in (C:=fun W=>FrI w W G) (a:=⟨w.heap.size,5,none⟩) (fun W' h=>h.row.cell 5 (by omega));have k6:=Sc.cell_in (C:=fun W=>FrI w W G) (a:=⟨w.heap.size,6,none⟩) (fun W' h=>h.row.cell 6 (by omega));have k7:=Sc.cell_in (C:=fun W=>FrI w W G) (a:=⟨w.heap.size,7,none⟩) (fun W' h=>h.row.cell 7 (by omega));have k8:=Sc.cell_in (C:=fun W=>FrI w W G) (a:=⟨w.heap.size,8,none⟩) (fun W' h=>h.row.cell 8 (by omega));have k9:=Sc.cell_in (C:=fun W=>FrI w W G) (a:=⟨w.heap.size,9,none⟩) (fun W' h=>h.row.cell 9 (by omega));have k10:=Sc.cell_in (C:=fun W=>FrI w W G) (a:=⟨w.heap.size,10,none⟩) (fun W' h=>h.row.cell 10 (by omega));have ne:Nonempty (Sc.In (fun W=>FrI w W G)):=⟨⟨_,C0⟩⟩;refine Sc.start (fun W=>FrI w W G) [(false,0),(false,1),(false,2),(true,3),(false,4)] (by kernel_rfl) (by kernel_rfl) (by kernel_rfl) C0 ?_;dsimp only [Sd.picks,List.getElem?_cons_succ,List.getElem?_cons_zero]
     repeat (refine Sd.lit ?_;quiet_step (fail);refine az ?_)
     refine Sd.call (by rfl) (fun K hK=>?_);refine wp_store_row 286 _ _ rfl w.heap.size (arr G) rfl rfl 286 _ C0.row (info_of G) rfl (arr_one G) ?_;have C1:=C0.set G;refine hK _ _ (Sc.Cl.of C1) ?_;clear hK K k0 k1 k2 k3 k4 k5 k6 k7 k8 k9 k10 C0 I;generalize wr.drew.setRow w.heap.size (arr G)=W9 at *;refine Sd.lit ?_
     quiet_step (fail)
     refine az ?_;refine Sd.done ?_;have C2:=Hh C1;clear C1;go_wp2
     (try simp only [Exit.inBlock,Exit.then])
     refine aA (results_fr rfl _ _ _ _ G _ rfl rfl rfl C2.row) rfl ?_;exact ⟨by rw [FE.out,hb];exact rfl,C2.out.bel⟩
def HrdPost (w:World) (x:Int) (b:Bool) (e:Ending) (w':World):Prop:=e = .returned (.tuple #[.int .u8 x,.bool b])/\Below w.heap.size w w'
variable {s:Int}
theorem hrd_no (h:hrB S T V P s=false) (b:Below w.heap.size w w'):HrdPost w (hrV S T V P s) (hrB S T V P s) (.returned (.tuple #[.int .u8 0,.bool false])) w':=by
 refine ⟨?_,b⟩;unfold hrV;rw [h]
 rfl
theorem hrd_yes (h:hrB S T V P s=true) (b:Below w.heap.size w w'):HrdPost w (hrV S T V P s) (hrB S T V P s) (.returned (.tuple #[.int .u8 (tb (frF S T V P s)),.bool true])) w':=by
 refine ⟨?_,b⟩;unfold hrV;rw [h]
 rfl
theorem heard_any (H:Ns w vs vt vl S T V) (RP:Rd K2 w vp P) (s:Int):Calls prog 134 #[vs,vt,vl,vp,.int .i64 s] w (HrdPost w (hrV S T V P s) (hrB S T V P s)):=by
 have FA:=Hh (frame_any H RP s);unfold FramePost at FA;have NO:=Hh (fun h w' b=>hrd_no (S:=S) (T:=T) (V:=V) (P:=P) (s:=s) (w:=w) (w':=w') h b);have YES:=Hh (fun h w' b=>hrd_yes (S:=S) (T:=T) (V:=V) (P:=P) (s:=s) (w:=w) (w':=w') h b);have HB:Hid (hrB S T V P s=(snB S T V s && decide (te (frF S T V P s)=0) && !tp (frF S T V P s))):=Hh rfl;clear H RP;generalize hrV S T V P s=x at *;generalize hrB S T V P s=hb at *;generalize frF S T V P s=F at *;generalize sbN S T V s=m at *;generalize snB S T V s=bb at *
 go_enter func134,ntmps134
 go_wp2_with fail;refine FA.out.mono ?_;rintro e w1 ⟨rfl,b1⟩;have B1:=Hh (b1.alloc b1.size (.cells (arr F) 286));have R1:=Hh (Row.new w1 F);clear b1 FA;have TA:=Hh (take_any (w1.alloc (.cells (arr F) 286)) F)
 cases bb with
 | false =>
   have N2:=Hh (NO.out (by rw [HB.out];rfl) _ B1.out);clear NO YES HB TA
   go_wp2_with ((with_reducible refine store_new (o:=⟨none,_,_,_,_,_⟩) rfl _ _ rfl F ?_ ?_ ?_);(exact rfl);(exact rfl))
   go_ret2
   exact N2.out
 | true =>
   go_wp2_with (first
    | ((with_reducible refine store_new (o:=⟨none,_,_,_,_,_⟩) rfl _ _ rfl F ?_ ?_ ?_);(exact rfl);(exact rfl))
    | ((with_reducible refine load_frame (o:=⟨some 31,_,_,_,_,_⟩) rfl _ rfl w1.heap.size F ?_ R1.out ?_);(exact rfl)))
   refine TA.out.mono ?_;rintro e w2 ⟨rfl,b2⟩;have B2:=bTr B1 b2;clear b2 TA B1 R1;generalize tp F=p at *
   by_cases he:te F=0
   ·cases p with
    | true =>
      have N2:=Hh (NO (by rw [HB.out];simp) _ B2.out);clear NO YES HB;generalize tb F=y at *;generalize te F=z at *;go_wp2
      go_ret2
      exact N2
    | false =>
      have N2:=Hh (YES (by rw [HB.out,an he];rfl) _ B2.out);clear NO YES HB;generalize tb F=y at *;generalize te F=z at *;subst he;go_wp2
      go_ret2
      exact N2
   ·have N2:=Hh (NO (by rw [HB.out,ak he];rfl) _ B2.out)
    clear NO YES HB;generalize tb F=y at *;generalize te F=z at *;have d0:(z != 0)=true:=by simpa using he
    go_wp2
    go_ret2
    exact N2
end Pa
namespace Ck
attribute [local irreducible] Sd.wpSd wpQuiet
def TabPost (w:World) (L:LL) (e:Ending) (w':World):Prop:=e = .returned (.tuple #[.int .i64 (tN L),.int .i64 (tE L)])/\Below w.heap.size w w'
theorem tables_any (w:World) (v:Value) (L:LL) (R:RdL w v L):Calls prog 163 #[v] w (TabPost w L):=by
 have en:=enters_of func187 (by kernel_rfl) rfl;have IA:=Hh (index_any w v L 187 bad en R (fun W u l r=>isno_any W u l r));rw [show idx bad 0 L=bI L from rfl] at IA;have SA:=Hh (fun (W:World) (hb:Below w.heap.size w W)=>senders_any W v L (R.below hb));have TF:=Hh (fun h=>t_form (L:=L) h);have TC:=Hh (fun h h2=>t_clash (L:=L) h h2);have TG:=Hh (fun h h2 h3=>t_gap (L:=L) h h2 h3);have TO:=Hh (fun h h2 h3=>t_ok (L:=L) h h2 h3);have IS:Hid (¬ 0<=bI L->InSlots L):=fun h k hk x hx=>may_slot (may_all h k hk) hx;have CS:=Hh (fun h=>clash_same (L:=L) h);have GS:=Hh (fun h=>gap_same (L:=L) h);have RL:=Hh R;obtain ⟨a,cap,rfl,_⟩:=R.slice;clear R en;unfold TabPost
 by_cases h1:0<=bI L
 ·obtain ⟨e1,e2⟩:=TF h1
  rw [e1,e2];clear TF TC TG TO IS CS GS e1 e2;generalize bI L=r at *;generalize L.length=n at *
  go_enter func163,ntmps163
  go_wp2_with fail;refine IA.mono ?_;rintro e w1 ⟨rfl,b1⟩;go_wp2
  go_ret2
  exact ⟨rfl,b1⟩
 ·have is_:=IS.out h1
  have cs:=CS.out h1;have gs:=GS.out h1;have ec:=enters_of func209 (by kernel_rfl) rfl;have eg:=enters_of func210 (by kernel_rfl) rfl;have FC:Hid (∀ W B,Below w.heap.size w W->RowI W B (sF L)->∃ x,Calls prog 189 #[.slice a L.length cap,.func (.func 209) #[] #[.pointer (some ⟨B,0,none⟩)]] W (WhoPost W (clN L) x)):=fun W B hb hr=>by
   have:=find_any W _ L 209 #[.pointer (some ⟨B,0,none⟩)] (qc (sF L)) ec (RL.below hb) (cclos_any W B (sF L) L is_ hr);rw [cs] at this;exact ⟨_,this⟩
  have FG:Hid (∀ W B,Below w.heap.size w W->RowI W B (sF L)->∃ x,Calls prog 189 #[.slice a L.length cap,.func (.func 210) #[] #[.pointer (some ⟨B,0,none⟩)]] W (WhoPost W (gaN L) x)):=fun W B hb hr=>by
   have:=find_any W _ L 210 #[.pointer (some ⟨B,0,none⟩)] (qg (sF L)) eg (RL.below hb) (gclos_any W B (sF L) L is_ hr);rw [gs] at this;exact ⟨_,this⟩
  have TC':=Hh (TC h1);have TG':=Hh (TG h1);have TO':=Hh (TO h1);clear is_ cs gs ec eg TF IS CS GS TC TG TO RL;generalize sF L=F at *;generalize bI L=r at *;generalize clN L=rc at *;generalize gaN L=rg at *;generalize tN L=rn at *;generalize tE L=re at *;generalize L.length=n at *
  go_enter func163,ntmps163
  go_wp2_with fail;refine IA.mono ?_;rintro e w1 ⟨rfl,b1⟩;have SB:=Hh (SA w1 b1);have B1:=Hh b1;clear b1 SA IA;go_wp2_with fail;refine SB.mono ?_;rintro e w2 ⟨rfl,b2⟩;have B2:=bTr B1 b2;clear b2 B1 SB
  go_upto_region 5 with (with_reducible refine store_ar_new rfl (.tmp 4) (.tmp 11) rfl F rfl rfl ?_)
  have R3:=Hh (RowI.new w2 F);have B3:=Hh (B2.out.alloc B2.out.size (.cells (ar F) 311));generalize w2.alloc (.cells (ar F) 311)=V at *;generalize w2.heap.size=g at *;clear B2
  go_wp2_with (with_reducible refine load_ar rfl (.tmp 4) rfl g F rfl R3.out ?_)
  refine (clash_any V F).mono ?_;rintro e w4 ⟨rfl,rfl⟩;have b4:=(aa V.heap.size V).alloc (ac _) (.cells (ar F) 311);have R4:=Hh (R3.below b4 R3.lt);have B4:=bTr B3 b4;obtain ⟨xc,fc⟩:=FC (V.alloc (.cells (ar F) 311)) V.heap.size B4 (RowI.new V F);have CC:=Hh fc;clear b4 R3 B3 fc FC;generalize V.heap.size=gv at *;generalize V.alloc (.cells (ar F) 311)=V4 at *;unfold WhoPost ent at CC;go_wp2_with fail;refine CC.mono ?_;rintro e w5 ⟨rfl,b5⟩;have R5:=Hh (R4.below b5 R4.lt);have B5:=Hh (B4.out.trans (b5.mono B4.out.size));clear b5 R4 B4 CC
  by_cases h2:0<=rc
  ·obtain ⟨rfl,rfl⟩:=TC'.out h2
   clear TC' TG' TO';go_wp2
   go_ret2
   exact ⟨rfl,B5.out⟩
  ·have TG2:=Hh (TG'.out (by omega))
   have TO2:=Hh (TO'.out (by omega));clear TC' TG' TO';go_upto_region 8 with fail
   go_wp2_with (with_reducible refine load_ar rfl (.tmp 4) rfl g F rfl R5.out ?_)
   refine (gap_any w5 F).mono ?_;rintro e w6 ⟨rfl,rfl⟩;have b6:=(aa w5.heap.size w5).alloc (ac _) (.cells (ar F) 311);have B6:=bTr B5 b6;obtain ⟨xg,fg⟩:=FG (w5.alloc (.cells (ar F) 311)) w5.heap.size B6 (RowI.new w5 F);have CC:=Hh fg;clear b6 R5 B5 fg FG;generalize w5.heap.size=g5 at *;generalize w5.alloc (.cells (ar F) 311)=V6 at *;unfold WhoPost ent at CC;go_wp2_with fail;refine CC.mono ?_;rintro e w7 ⟨rfl,b7⟩;have B7:=bTr B6 b7;clear b7 B6 CC
   by_cases h3:0<=rg
   ·obtain ⟨rfl,rfl⟩:=TG2 h3
    clear TG2 TO2;go_wp2
    go_ret2
    exact ⟨rfl,B7⟩
   ·obtain ⟨rfl,rfl⟩:=TO2 (by omega)
    clear TG2 TO2;go_wp2
    go_ret2
    exact ⟨rfl,B7⟩
end Ck
namespace Pa
open Go.Maps
open Ck (tables_any TabPost)
def nI (ps:List (Option Nat)):Int:=match ps.findIdx? Option.isNone with | some k=>k | none=>-1
def nB (ps:List (Option Nat)):Bool:=ps.any Option.isNone
variable {ps:List (Option Nat)}
theorem nI_hit {k:Nat} (hk:k < ps.length) (h:∀ j,j < k->(ps.getD j none).isSome=true) (hn:ps.getD k none=none):nI ps=k:=by
 have e:ps.findIdx? Option.isNone=some k:=by
  rw [List.findIdx?_eq_some_iff_getElem];refine ⟨hk,?_,fun j hj=>?_⟩
  ·rw [af,ai hk] at hn
   have:ps[k]=none:=hn;rw [this];rfl
  ·have:=h j hj
   rw [af,ai (by omega)] at this;have h2:=this
   cases e2:ps[j]'(by omega) with
   | none=>rw [e2] at h2;cases h2
   | some q=>simp
 unfold nI;rw [e]
theorem nI_miss (h:∀ j,j < ps.length->(ps.getD j none).isSome=true):nI ps = -1:=by
 have e:ps.findIdx? Option.isNone=none:=by
  rw [List.findIdx?_eq_none_iff]
  intro x hx
  obtain ⟨j,hj,e⟩:=bK hx;have:=h j hj;rw [af,ai hj] at this;have h2:=this;rw [e] at h2
  cases x with
  | none=>cases h2
  | some q=>rfl
 unfold nI;rw [e]
theorem nB_is (ps:List (Option Nat)):decide (0<=nI ps)=nB ps:=by
 unfold nI nB
 rcases e:ps.findIdx? Option.isNone with _ | k
 ·have:=List.findIdx?_eq_none_iff.1 e
  rw [show ps.any Option.isNone=false from List.any_eq_false.2 fun x hx=>by have h:=this x hx;cases x <;> simp_all]
  rfl
 ·obtain ⟨hk,h,_⟩:=List.findIdx?_eq_some_iff_getElem.1 e
  rw [show ps.any Option.isNone=true from bP.2 ⟨_,bC hk,h⟩];exact an (Int.natCast_nonneg k)
theorem nB_some (l:List Nat):nB (l.map some)=false:=by
 unfold nB;rw [List.any_eq_false]
 intro x hx
 obtain ⟨y,_,rfl⟩:=bE.1 hx
 simp
variable {P:Program}
theorem eqIn_nil (W:World) (d:Nat) (t te:TypeId) (a:Addr) (h:P.underlying t=some (.pointer te)):(Op.equalIn (d+1) t (.pointer none) (.pointer (some a))).run P W = .ok false W:=by
 simp [Op.equalIn,run_underlying h]
theorem eq_nil (W:World) (t te:TypeId) (a:Addr) (h:P.underlying t=some (.pointer te)):(Op.equal t (.pointer none) (.pointer (some a))).run P W = .ok false W:=eqIn_nil W 9999 t te a h
theorem eql_nil (W:World) (t te:TypeId) (a:Addr) (h:P.underlying t=some (.pointer te)):(binOp .eql t (.pointer none) (.pointer (some a))).run P W = .ok (.bool false) W:=by
 simp only [binOp]
 simp [eq_nil W t te a h]
theorem pt_eql (q:Nat) (W:World):(binOp .eql 76 (.pointer none) (.pointer (some ⟨q,0,none⟩))).run prog W = .ok (.bool false) W:=eql_nil W _ _ _ underlying76
theorem index_any (w:World) (v:Value) (ps:List (Option Nat)) (R:Rd KP w v ps):Calls prog 185 #[v,.pointer none] w fun e w'=>e = .returned (.int .i64 (nI ps))/\Below w.heap.size w w':=by
 have HIT:Hid (∀ k,k < ps.length->(∀ j,j < k->(ps.getD j none).isSome=true)->ps.getD k none=none->nI ps=k):=Hh (fun k hk h hn=>nI_hit hk h hn);have MISS:Hid ((∀ j,j < ps.length->(ps.getD j none).isSome=true)->nI ps = -1):=Hh nI_miss;obtain ⟨a,cap,rfl,_,hm,hA⟩:=R;have HA:=Hh hA;unfold maxLen at hm;clear hA;generalize hn:ps.length=n at *;have HN:=Hh hn;clear hn;generalize nI ps=r at *
 go_enter func185,ntmps185
 go_wp2
 go_loopw [8] (fun i wr=>∃ k:Nat,k<=n/\i = .int .i64 k/\Hid (Below w.heap.size w wr)/\Hid (∀ j,j < k->(ps.getD j none).isSome=true)) (fun i _=>n - (intOf i).toNat)
 case atStart=>exact ⟨0,aI _,rfl,aa _ _,fun j hj=>by omega⟩
 case round =>
  obtain ⟨k,hk,rfl,bw,hs⟩:=hrel
  by_cases hlt:k < n
  ·obtain ⟨b,off,rfl,A1⟩:=HA (by omega)
   have c:=atP (A1.below bw) (i:=k) (by have:=HN.out;omega);have HT:=Hh (HIT k hlt hs)
   have NX:Hid ((ps.getD k none).isSome=true->∀ j,j < k+1->(ps.getD j none).isSome=true):=Hh (fun g j hj=>by
    by_cases e:j=k
    ·rw [e];exact g
    ·exact hs j (by omega))
   clear A1
   cases hp:ps.getD k none with
   | none =>
     rw [hp] at c;have E:=Hh (HT hp);unfold pv at c;simp only [Option.map_none] at c;clear HT NX HIT MISS;go_wp2
     go_ret
     exact ⟨by rw [E.out];rfl,bw.out⟩
   | some q =>
     rw [hp] at c;have S1:=Hh (NX (by rw [hp];rfl));unfold pv at c;simp only [bS] at c;have hN:=pt_eql q;clear HT NX;go_wp2
     go_roundw
     case rel=>exact ⟨k+1,by omega,by go_num,bw,S1⟩
     case measure=>simp [intOf];omega
  ·obtain rfl:k=n:=by omega
   have E:=Hh (MISS hs);go_wp2
   go_ret
   exact ⟨by rw [E.out];rfl,bw.out⟩
theorem contains_any (w:World) (v:Value) (ps:List (Option Nat)) (R:Rd KP w v ps):Calls prog 162 #[v,.pointer none] w fun e w'=>e = .returned (.bool (nB ps))/\Below w.heap.size w w':=by
 have C:=Hh (index_any w v ps R);have E:=Hh (nB_is ps);clear R;generalize nI ps=r at *;generalize nB ps=q at *
 go_enter func162,ntmps162
 go_wp2_with fail;refine C.mono ?_;rintro e w1 ⟨rfl,b1⟩;go_wp2
 go_ret
 exact ⟨by rw [← E.out];rfl,b1⟩
def fE (ps:List (Option Nat)) (T:LL) (V:List Bool):Int:=if 1<=ps.length/\ps.length<=32/\nB ps=false/\T.length=ps.length/\V.length=ps.length then tE T else 1
theorem fault_any (w:World) (vs vt vl:Value) (ps:List (Option Nat)) (T:LL) (V:List Bool) (RS:Rd KP w vs ps) (RT:RdL w vt T) (RV:Rd KB w vl V):Calls prog 133 #[vs,vt,vl] w fun e w'=>e = .returned (.int .i64 (fE ps T V))/\Below w.heap.size w w':=by
 have CA:=Hh (contains_any w vs ps RS);have TA:=Hh (fun W b=>tables_any W vt T (RT.below b));unfold TabPost at TA;have NO:Hid (¬ (1<=ps.length/\ps.length<=32/\nB ps=false/\T.length=ps.length/\V.length=ps.length)->fE ps T V=1):=Hh (fun h=>ah h);have YES:Hid ((1<=ps.length/\ps.length<=32/\nB ps=false/\T.length=ps.length/\V.length=ps.length)->fE ps T V=tE T):=Hh (fun h=>aj h);obtain ⟨a1,c1,rfl,m1⟩:=RS.slice;obtain ⟨a2,c2,rfl,m2⟩:=RT.slice;obtain ⟨a3,c3,rfl,m3⟩:=RV.slice;unfold maxLen at m1 m2 m3;clear RS RT RV;generalize ps.length=n at *;generalize T.length=nt at *;generalize V.length=nv at *;generalize fE ps T V=r at *;generalize nB ps=q at *;generalize tE T=te at *;generalize tN T=tn at *
 by_cases h1:n < 1
 ·have E:=Hh (NO (by omega))
  clear NO YES
  go_enter func133,ntmps133
  go_wp2
  go_ret
  exact ⟨by rw [E.out];rfl,aa _ _⟩
 ·by_cases h2:32 < n
  ·have E:=Hh (NO (by omega))
   clear NO YES
   go_enter func133,ntmps133
   go_wp2
   go_ret
   exact ⟨by rw [E.out];rfl,aa _ _⟩
  ·cases q with
   | true =>
     have E:=Hh (NO (by rintro ⟨_,_,h,_⟩;cases h));clear NO YES
     go_enter func133,ntmps133
     go_wp2_with fail;refine CA.mono ?_;rintro e w1 ⟨rfl,b1⟩;go_wp2
     go_ret
     exact ⟨by rw [E.out];rfl,b1⟩
   | false =>
     by_cases h3:nt=n
     ·by_cases h4:nv=n
      ·have E:=Hh (YES ⟨by omega,by omega,rfl,h3,h4⟩)
       clear NO YES;subst h3;subst h4
       go_enter func133,ntmps133
       go_wp2_with fail;refine CA.mono ?_;rintro e w1 ⟨rfl,b1⟩;go_wp2_with fail;refine (TA w1 b1).mono ?_;rintro e w2 ⟨rfl,b2⟩;go_wp2
       go_ret
       exact ⟨by rw [E.out];rfl,b1.trans (b2.mono b1.size)⟩
      ·have E:=Hh (NO (by rintro ⟨_,_,_,_,h⟩;exact h4 h))
       clear NO YES;subst h3;have h5:((nv:Int) != (nt:Int))=true:=by simp;omega
       go_enter func133,ntmps133
       go_wp2_with fail;refine CA.mono ?_;rintro e w1 ⟨rfl,b1⟩;go_wp2
       go_ret
       exact ⟨by rw [E.out];rfl,b1⟩
     ·have E:=Hh (NO (by rintro ⟨_,_,_,h,_⟩;exact h3 h))
      clear NO YES;have h5:((nt:Int) != (n:Int))=true:=by simp;omega
      go_enter func133,ntmps133
      go_wp2_with fail;refine CA.mono ?_;rintro e w1 ⟨rfl,b1⟩;go_wp2
      go_ret
      exact ⟨by rw [E.out];rfl,b1⟩
open Fs (Lst)
open Rw (Kind)
def SAp (w:World) (s:Nat) (x:Abs×Int) (q:Option Nat):Prop:=∃ F,St w s F x.1 x.2/\∀ k,F k->q≠some k
structure Good (Ap:World->Nat->Abs×Int->Option Nat->Prop):Prop where
 below:∀ {w w' s x q},Ap w s x q->Below w.heap.size w w'->Ap w' s x q
 grow:∀ {w w' s x q q'},Ap w s x q->w.grownBy w' q->(q'=q\/∃ g,q'=some g/\w.heap.size<=g)->(∀ g,q'=some g->g < w'.heap.size)->Ap w' s x q'
variable {w w':World} {q:Option Nat}
theorem only_grown (h:w.grownBy w' q):Only (fun k=>q=some k) w w':=⟨h.os,h.tape,h.output,h.size,fun k hk hn=>h.block k hk fun e=>hn e.symm⟩
theorem sap_good:Good SAp where
 below:=fun ⟨F,h,d⟩ b=>⟨F,h.below b,d⟩
 grow:=fun ⟨F,h,d⟩ g hq _=>⟨F,h.only (G:=fun k=>_=some k) (fun k hk e=>d k hk e) (only_grown g),fun k hk e=>by
  rcases hq with rfl | ⟨j,rfl,hj⟩
  ·exact d k hk e
  ·injection e with e
   have:=h.low k hk
   omega⟩
variable {s:Nat} {x:Abs×Int}
theorem SAp.has (h:SAp w s x q):Has w s x:=by obtain ⟨F,h,_⟩:=h;exact ⟨F,h⟩
theorem sap_new {F:Nat->Prop} (h:St w' s F x.1 x.2) (lo:∀ k,F k->w.heap.size<=k) (hq:∀ k,q=some k->k < w.heap.size):SAp w' s x q :=
 ⟨F,h,fun k hk e=>by have:=lo k hk;have:=hq k e;omega⟩
section
variable {Ap:World->Nat->Abs×Int->Option Nat->Prop} {E:TypeId} {w wr w1 w2:World} {S:Sts} {k:Nat} {o o':Value} {ps:List Nat} {g:Nat}
structure PI (Ap:World->Nat->Abs×Int->Option Nat->Prop) (E:TypeId) (w:World) (S:Sts) (k:Nat) (o:Value) (ps:List Nat) (wr:World):Prop where
 own:Ow KN wr w.heap.size E o ps
 len:ps.length=k
 each:∀ i,i < k->Ap wr (ps.getD i 0) (sat S i) o.ownBlock
 bel:Below w.heap.size w wr
theorem PI.start (w:World) (hb:Below w.heap.size w wr):PI Ap E w S 0 (.slice none 0 0) [] wr:=⟨Rw.Ow.nil _ _ _,rfl,fun i hi=>by omega,hb⟩
theorem PI.made (hb:Below w.heap.size w wr):PI Ap E w S 0 (.slice (some ⟨wr.heap.size,0,none⟩) 0 0) [] (wr.alloc (.cells #[] E)):=⟨Rw.Ow.made _ _ _ hb.size,rfl,fun i hi=>by omega,hb.alloc hb.size _⟩
theorem PI.below (G:Good Ap) (h:PI Ap E w S k o ps wr) (b:Below wr.heap.size wr w1):PI Ap E w S k o ps w1:=⟨h.own.keep b,h.len,fun i hi=>G.below (h.each i hi) b,h.bel.trans (b.mono h.bel.size)⟩
theorem PI.lt (h:PI Ap E w S k o ps wr):∀ k,o.ownBlock=some k->k < wr.heap.size:=fun k e=>(aU h.own k e).2
theorem PI.push (G:Good Ap) (h:PI Ap E w S k o ps wr) (own:Ow KN w1 w.heap.size E o' (ps ++ [g])) (gr:wr.grownBy w1 o.ownBlock) (hq:o'.ownBlock=o.ownBlock\/∃ g,o'.ownBlock=some g/\wr.heap.size<=g) (hg:Ap wr g (sat S k) o.ownBlock):PI Ap E w S (k+1) o' (ps ++ [g]) w1:=by
 have hl:∀ j,o'.ownBlock=some j->j < w1.heap.size:=fun j e=>(aU own j e).2;refine ⟨own,by rw [bj,h.len];rfl,fun i hi=>?_,h.bel.grown gr h.bel.size fun j e=>(aU h.own j e).1⟩
 by_cases e:i=k
 ·subst e
  have:(ps ++ [g]).getD i 0=g:=by rw [af,cm (by rw [h.len];exact ac _),h.len];simp
  rw [this];exact G.grow hg gr hq hl
 ·have:(ps ++ [g]).getD i 0=ps.getD i 0:=by rw [af,bV (by rw [h.len];omega),af]
  rw [this];exact G.grow (h.each i (by omega)) gr hq hl
theorem PI.congr {S':Sts} (h:PI Ap E w S k o ps wr) (e:∀ i,i < k->sat S i=sat S' i):PI Ap E w S' k o ps wr:=⟨h.own,h.len,fun i hi=>by rw [← e i hi];exact h.each i hi,h.bel⟩
end
theorem PI.stl {wr:World} {S:Sts} {o:Value} {ps:List Nat} {E:TypeId} (h:PI SAp E w S S.length o ps wr):Stl wr o S:=⟨ps,h.own.rd,h.len,fun i hi=>(h.each i hi).has⟩
theorem infoN:(prog.info? 76).map (fun i=>(i.zero,i.size,i.bytes))=some (some (.pointer none),1,8):=by kernel_rfl
end Pa
