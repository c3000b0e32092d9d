import Derived.Test.YtpkipilggkbkeaaGreatDoorMg10
import Derived.Deep.CutRange
import Derived.Test.YtpkipilggkbkeaaGreatDoorChecked
import Derived.LoopTactic
import Derived.Outline
import Derived.Deep.LoopGhost
import Derived.Deep.Draws
import Derived.Lib.Hide
import Derived.Shelf.Abstract
import Derived.Test.YtpkipilggkbkeaaGreatDoorMg1
import Derived.Test.YtpkipilggkbkeaaGreatDoorShelf
import Derived.Shelf.SlSortCmp.WholeK
import Derived.Shelf.SlSortCmp.NoneTotal
import Derived.StillTailTactics
import Derived.Test.YtpkipilggkbkeaaGreatDoorMg9
import Derived.BigQuiet
import Derived.Deep.QuietTactic
import Derived.WalkSmall
import Derived.Deep.RegionWith
import Derived.Test.YtpkipilggkbkeaaGreatDoorMg7
set_option maxRecDepth 100000
namespace Go.Proofs.YtpkipilggkbkeaaGreatDoor.Bu
open Go.RowKit Go.Maps
open Fs (Abs St Rs Rst Only Fx Lst Ent OkA addE addA new_any new_st below_new add_any AddPost at3 E3 ow_only)
open Rw (Rd Ow At Kind)
open Ro (E5 K5 okE)
open Sp (S2)
open Ck (LL lat RdL KS Hd sl zh rdl_of infoS)
open Fl (R4 K4 okL row_cell row_frozen file)
open Pa
attribute [local irreducible] Sd.wpSd wpQuiet Sg.wpSg
theorem infoQ:(Tryz.prog.info? 59).map (fun i=>(i.zero,i.size,i.bytes))=some (some (.slice none 0 0),1,24):=by kernel_rfl
theorem results_tmp5 {fn:Func} {t u x y z:Tmp} (h:fn.results=#[.tmp t,.tmp u,.tmp x,.tmp y,.tmp z]) (tmps:Array Value) (P:Program) (w:World):(results fn tmps).run P w = .ok (.tuple #[tmps.getD t undef,tmps.getD u undef,tmps.getD x undef,tmps.getD y undef,tmps.getD z undef]) w:=by
 simp [results,h]
structure Bld (B:Nat) (w':World) (vs vr vt vl vo:Value) (S:Sts) (T:LL) (V:List Bool) (O:List Osc) (n:Nat):Prop where
 st:Stl w' vs S
 rf:Rfl w' vr S
 tb:RdL w' vt T
 lv:Rd KB w' vl V
 os:OsL w' vo O
 s:S.length=n
 t:T.length=n
 v:V.length=n
 o:O.length=n
 few:n≤6
 ok:∀ i,i < n→(lat T i).length≤70
 den:∀ i,i < n→(sat S i).2=0
def BldPost (w:World) (e:Ending) (w':World):Prop:=∃ vs vr vt vl vo S T V O n,e = .returned (.tuple #[vs,vr,vt,vl,vo])∧Bld w.heap.size w' vs vr vt vl vo S T V O n∧Below w.heap.size w w'
structure OI (w:World) (L:List Cel) (k:Nat) (o1 o2 o3 o4 o5:Value) (ps rs:List Nat) (hs:List Hd) (bs:List Bool) (ts:List Hd) (S:Sts) (wr:World):Prop where
 bi:B5I w k ps rs S o1 ps o2 rs o3 hs o4 bs o5 ts wr
 l1:ps.length=k
 l2:rs.length=k
 l3:hs.length=k
 l4:bs.length=k
 l6:ts.length=k
 l5:S.length=k
 tb:∀ i,i < k→Rd K5 w (sl (hs.getD i zh)) ((cel L i).T.take 70)
 sb:∀ i,i < k→Rd K2 w (sl (ts.getD i zh)) ((cel L i).S.take 70)
 dz:∀ i:Nat,i < k→(sat S i).2=0
theorem OI.next {w wr:World} {L:List Cel} {k:Nat} {o1 o2 o3 o4 o5:Value} {ps rs:List Nat} {hs:List Hd} {bs:List Bool} {ts:List Hd} {S:Sts} {w0:World} {q1 q2 q3 q4 q5:Value} {s r:Nat} {h:Hd} {b:Bool} {h5:Hd} {A:Abs} (I:OI w L k o1 o2 o3 o4 o5 ps rs hs bs ts S w0)
 (bi:B5I w (k+1) (ps ++ [s]) (rs ++ [r]) (S ++ [(A,0)]) q1 (ps ++ [s]) q2 (rs ++ [r]) q3 (hs ++ [h]) q4 (bs ++ [b]) q5 (ts ++ [h5]) wr) (t:Rd K5 w (sl h) ((cel L k).T.take 70)) (u:Rd K2 w (sl h5) ((cel L k).S.take 70)):OI w L (k+1) q1 q2 q3 q4 q5 (ps ++ [s]) (rs ++ [r]) (hs ++ [h]) (bs ++ [b]) (ts ++ [h5]) (S ++ [(A,0)]) wr:=by
 have g:∀ (l:List Hd) x i,l.length=k→i < k+1→(l ++ [x]).getD i zh=if i < k then l.getD i zh else x:=fun l x i hl hi=>by
  rw [List.getD_eq_getElem?_getD,List.getElem?_append,hl]
  split
  ·rw [List.getD_eq_getElem?_getD]
  ·obtain rfl:i=k:=by omega
   simp
 refine ⟨bi,by simp [I.l1],by simp [I.l2],by simp [I.l3],by simp [I.l4],by simp [I.l6],by simp [I.l5],fun i hi=>?_,fun i hi=>?_,fun i hi=>?_⟩
 ·rw [g hs h i I.l3 hi]
  split
  ·rename_i hk
   exact I.tb i hk
  ·obtain rfl:i=k:=by omega
   exact t
 ·rw [g ts h5 i I.l6 hi]
  split
  ·rename_i hk
   exact I.sb i hk
  ·obtain rfl:i=k:=by omega
   exact u
 ·rw [sat_more I.l5 i hi]
  split
  ·rename_i hk
   exact I.dz i hk
  ·rfl
theorem OI.fin {w wr:World} {L:List Cel} {k:Nat} {o1 o2 o3 o4 o5:Value} {ps rs:List Nat} {hs:List Hd} {bs:List Bool} {ts:List Hd} {S:Sts} (I:OI w L k o1 o2 o3 o4 o5 ps rs hs bs ts S wr) (h6:k≤6):BldPost w (.returned (.tuple #[o1,o2,o3,o4,o5])) wr:=by
 have tl:(tbl L k).length=k:=by unfold tbl;simp
 have ol:(osl L k).length=k:=by unfold osl;simp
 refine ⟨o1,o2,o3,o4,o5,S,tbl L k,bs,osl L k,k,rfl,⟨⟨ps,I.bi.w1.rd,by rw [I.l1,I.l5],fun i hi=>?_⟩,⟨rs,I.bi.w2.rd,by rw [I.l2,I.l5],fun i hi=>?_⟩,rdl_of I.bi.w3.rd (by rw [I.l3,tl]) fun i hi=>?_,I.bi.w4.rd,osl_of I.bi.w5.rd (by rw [I.l6,ol]) fun i hi=>?_,I.l5,tl,I.l4,ol,h6,fun i hi=>?_,I.dz⟩,I.bi.bel⟩
 ·rw [I.l5] at hi
  obtain ⟨F,h,_⟩:=I.bi.st i hi;refine ⟨F,?_⟩;rw [I.dz i hi];exact h
 ·rw [I.l5] at hi
  have h:=I.bi.rf i hi;unfold Hrf;rw [I.dz i hi];exact rs_mono h nofun
 ·rw [tl] at hi
  rw [tbl_at L hi];exact (I.tb i hi).below I.bi.bel
 ·rw [ol] at hi
  rw [osl_at L hi];exact steps_rd ((I.sb i hi).below I.bi.bel)
 ·rw [tbl_at L hi]
  rw [List.length_take]
  omega
set_option maxHeartbeats 16000000 in
theorem build_any {w:World} {v:Value} {L:List Cel} (H:Cls w v L):Calls Tryz.prog 6 #[v] w (BldPost w):=by
 have FL:=Lib.hid H.file;have TB:=Lib.hid H.tab;have SB:=Lib.hid H.stp;obtain ⟨a,cap,rfl,_,hm,hA⟩:=H.rd;have HA:=Lib.hid hA;unfold maxLen at hm;clear hA H;generalize hn:L.length=n at *;have HN:=Lib.hid hn;have FIN:Hid (∀ k o1 o2 o3 o4 o5 ps rs hs bs ts S wr,OI w L k o1 o2 o3 o4 o5 ps rs hs bs ts S wr→k≤n→k≤6→BldPost w (.returned (.tuple #[o1,o2,o3,o4,o5])) wr):=fun k o1 o2 o3 o4 o5 ps rs hs bs ts S wr I _ h2=>I.fin h2;clear hn;have I0:=Lib.hid (B5I.start w)
 go_enter Tryz.func6,Tryz.ntmps6
 go_wp2
 go_loopw [12,7,8,9,10,11] (fun i o1 o2 o3 o4 o5 wr=>∃ (k:Nat) (ps rs:List Nat) (hs:List Hd) (bs:List Bool) (ts:List Hd) (S:Sts) (p1 p2 p3 p4 p5:Value),k≤n∧k≤6∧i = .int .i64 k∧p1=o1∧p2=o2∧p3=o3∧p4=o4∧p5=o5∧Hid (OI w L k o1 o2 o3 o4 o5 ps rs hs bs ts S wr)) (fun i _ _ _ _ _ _=>n - (intOf i).toNat)
 case atStart=>exact ⟨0,[],[],[],[],[],[],_,_,_,_,_,Nat.zero_le _,Nat.zero_le _,rfl,rfl,rfl,rfl,rfl,rfl,⟨by simpa using I0.out,rfl,rfl,rfl,rfl,rfl,rfl,fun i hi=>by omega,fun i hi=>by omega,fun i hi=>by omega⟩⟩
 case round =>
  obtain ⟨k,ps,rs,hs,bs,ts,S,o1,o2,o3,o4,o5,hk,hk8,rfl,rfl,rfl,rfl,rfl,rfl,I⟩:=hrel;clear I0
  by_cases hlt:k < n∧k < 6
  ·obtain ⟨hlt,h8⟩:=hlt
   obtain ⟨b,off,rfl,A1⟩:=HA.out (by omega);obtain ⟨c0,c1,c2⟩:=at_cel A1 (i:=k) (by have:=HN.out;omega);have C0:=Lib.hid c0;have C1:=Lib.hid c1;have C2:=Lib.hid c2;have C3:=Lib.hid (at_cel3 A1 (i:=k) (by have:=HN.out;omega));have FK:=Lib.hid (FL.out k hlt);have TK:=Lib.hid (TB.out k hlt);have SK:=Lib.hid (SB.out k hlt);have lb:b < w.heap.size:=World.block_lt_of_cell? _ _ c0;clear A1 c0 c1 c2 FIN;generalize hcl:cel L k=c at *;have HC:=Lib.hid hcl;clear hcl;obtain ⟨⟨fa,fn,fc⟩,⟨ta,tn,tc⟩,lv,⟨sa,sn,sc⟩,F,T,SS⟩:=c;simp only [sl] at C0 C1 C2 C3 FK TK SK;go_upto_region 5 with fail;have x0:=Sd.cell_by ((I.out.bi.bel.cell lb).trans C0.out);refine Sd.start [(false,1),(false,2),(false,3),(false,4),(false,5),(true,0),(true,6),(false,7),(false,8)] (by kernel_rfl) (by kernel_rfl) (by kernel_rfl) ?_;dsimp only [Sd.picks,List.getElem?_cons_succ,List.getElem?_cons_zero]
   repeat (refine Sd.lit ?_;quiet_step (fail);refine wpQuiet_nil ?_)
   clear x0;have Bd:=Lib.hid ((Below.refl wr.heap.size wr).drew);have I1:=Lib.hid (I.out.bi.below Bd.out);generalize hwd:wr.drew=wd at *;have hz:wd.heap.size=wr.heap.size:=by rw [← hwd];rfl
   have HZ:=Lib.hid hz;clear hwd hz;refine Sd.call (by rfl) (fun K hK=>?_);go_simp;refine (new_any _).mono ?_;rintro e w1 ⟨rfl,rfl⟩;have N1:=Lib.hid (new_st wd);have B1:=Lib.hid (below_new wd (.cells #[.map none,.int .i64 0] 91));refine hK _ _ (Sd.Cl.of (by have:=B1.out;rw [HZ.out] at this;exact Bd.out.trans this)) ?_;clear hK K;have hz1:(wd.alloc (.cells #[.map none,.int .i64 0] 91)).heap.size=wd.heap.size+1:=by simp
   have HZ1:=Lib.hid hz1;clear hz1;generalize hgs:wd.heap.size=gs at *;have HGS:=Lib.hid hgs;clear hgs;generalize (wd.alloc (.cells #[.map none,.int .i64 0] 91))=W1 at *;have BW1:=Lib.hid (I1.out.bel.trans ((show Below wd.heap.size wd W1 by rw [HGS.out];exact B1.out).mono I1.out.bel.size));have RS:=Lib.hid (rstore_any (w:=W1) (B:=w.heap.size) (FK.out.below BW1.out) BW1.out.size);unfold RstPost ptr at RS;refine Sd.call (by rfl) (fun K hK=>?_);go_simp;refine RS.out.mono ?_;rintro e w2 ⟨r,A,rfl,rs2,hr2,b2⟩
   refine hK _ _ (Sd.Cl.of (by
    have h1:=HZ.out;have h2:=HGS.out;have h3:=HZ1.out;refine Bd.out.trans ?_;rw [← h1]
    exact B1.out.trans (b2.mono (by omega)))) ?_
   clear hK K
   repeat (refine Sd.lit ?_;quiet_step (fail);refine wpQuiet_nil ?_)
   have QL:Hid (∀ x,Q5 o1 o2 o3 o4 o5 x→w.heap.size≤x∧x < wd.heap.size):=Lib.hid I1.out.low
   have J0:Hid (J4I wd (Q5 o1 o2 o3 o4 o5) gs r A 0 (fun x=>x=gs) w2):=Lib.hid ⟨by rw [List.take_zero];exact N1.out.below b2,rs_mono rs2 (fun x _ g=>by
    have h2:=HGS.out;have h3:=HZ1.out;have h4:=I1.out.bel.size
    rcases g with g | g
    ·have:=QL.out x g;omega
    ·subst g;omega),fun x hx=>by have:=HGS.out;omega,by
    have h2:=HGS.out;have h3:=HZ1.out;rw [h2]
    exact B1.out.trans (b2.mono (by omega))⟩
   clear RS N1 rs2 b2 FK Bd B1;refine Sd.done ?_;go_wp2
   go_loopw [15] (fun i wr'=>∃ (j:Nat) (G:Nat→Prop),j≤A.length∧i = .int .i64 j∧Hid (J4I wd (Q5 o1 o2 o3 o4 o5) gs r A j G wr')) (fun i _=>A.length - (intOf i).toNat)
   case atStart=>exact ⟨0,_,Nat.zero_le _,rfl,J0⟩
   case round =>
    obtain ⟨j,G,hj,rfl,J⟩:=hrel;clear J0;obtain ⟨vL,Ln,⟨row,off1,list,ok1⟩,eL⟩:=J.out.rs;obtain ⟨la,lc,rfl,_,hmL,hL⟩:=list.rd;have lenL:Ln.length=A.length:=by rw [← eL,List.length_map]
    have ROW:=Lib.hid row;have c3:=row_cell row 0;have OKA:Hid (OkA A):=Lib.hid (by rw [← eL];exact ok1);unfold maxLen at hmL;clear row ok1
    by_cases hjl:j < A.length
    ·obtain ⟨b1,of1,rfl,A2⟩:=hL (by omega)
     have LI:=Lib.hid list;obtain ⟨e,he⟩:∃ e:Ent,Ln[j]? = some e:=⟨_,List.getElem?_eq_getElem (by omega)⟩;obtain ⟨d0,d1,d2⟩:=at3 A2 he;have he':A[j]? = some (e.n,e.p,e.l):=by rw [← eL,List.getElem?_map,he];rfl
     have AN:=Lib.hid (add_next OKA.out he');have RE:=Lib.hid (list.file e (List.mem_of_getElem? he));have OE:=Lib.hid (OKA.out.ok _ (List.mem_of_getElem? he'));have NB:Hid (¬ G b1):=Lib.hid (fun g=>list.off (by omega) b1 rfl (.inl (.inr g)));have NR:Hid (¬ G r):=Lib.hid (fun g=>off1 (.inr g));clear list hL A2 he he' off1 eL;obtain ⟨en,ep,ea,ec,el⟩:=e;unfold Ent.sl at d2 RE;simp only at d0 d1 d2 RE OE AN;rw [lenL] at c3;generalize hq:A.length=q at *;generalize hel:el.length=eq at *;have D0:=Lib.hid d0;have D1:=Lib.hid d1;have D2:=Lib.hid d2;go_upto_region 9 with fail;have CC:JC r b1 (of1+j * 3) (.slice (some ⟨b1,of1,none⟩) q lc) en ep (.slice ea eq ec) wr.drew:=⟨c3,D0.out,D1.out,D2.out⟩;have x0:=Sc.cell_in (C:=JC r b1 (of1+j * 3) (.slice (some ⟨b1,of1,none⟩) q lc) en ep (.slice ea eq ec)) (a:=⟨r,0,none⟩) (fun W' h=>h.r);have x1:=Sc.cell_in (C:=JC r b1 (of1+j * 3) (.slice (some ⟨b1,of1,none⟩) q lc) en ep (.slice ea eq ec)) (a:=⟨b1,of1+j * 3,none⟩) (fun W' h=>h.n);have x2:=Sc.cell_in (C:=JC r b1 (of1+j * 3) (.slice (some ⟨b1,of1,none⟩) q lc) en ep (.slice ea eq ec)) (a:=⟨b1,of1+j * 3+1,none⟩) (fun W' h=>h.p);have x3:=Sc.cell_in (C:=JC r b1 (of1+j * 3) (.slice (some ⟨b1,of1,none⟩) q lc) en ep (.slice ea eq ec)) (a:=⟨b1,of1+j * 3+2,none⟩) (fun W' h=>h.u);have x4:=Sc.cell_in (C:=JC r b1 (of1+j * 3) (.slice (some ⟨b1,of1,none⟩) q lc) en ep (.slice ea eq ec)) (a:=⟨b1,of1+j * 3+1+1,none⟩) (fun W' h=>h.u);have ne:Nonempty (Sc.In (JC r b1 (of1+j * 3) (.slice (some ⟨b1,of1,none⟩) q lc) en ep (.slice ea eq ec))):=⟨⟨_,CC⟩⟩;have J1:=Lib.hid (J.out.below (Below.refl wr.heap.size wr).drew);have AD:=Lib.hid (add_any J1.out.st en ep (.slice ea eq ec) el RE.out OE.out);unfold file AddPost at AD;rw [AN.out.1,AN.out.2] at AD;refine Sc.start (JC r b1 (of1+j * 3) (.slice (some ⟨b1,of1,none⟩) q lc) en ep (.slice ea eq ec)) [(false,0),(false,1),(false,2),(false,3),(false,4),(false,5),(false,6),(false,7),(false,8),(false,9),(false,10),(false,11),(false,12),(false,13),(false,14),(false,15),(false,16),(true,17)] (by kernel_rfl) (by kernel_rfl) (by kernel_rfl) CC ?_;dsimp only [Sd.picks,List.getElem?_cons_succ,List.getElem?_cons_zero]
     repeat (refine Sd.lit ?_;quiet_step (fail);refine wpQuiet_nil ?_)
     clear x0 x1 x2 x3 x4 c3 D0 D1 D2 d0 d1 d2 J;generalize wr.drew=Wd at *;refine Sd.call (by rfl) (fun K hK=>?_);go_simp;refine AD.out.mono ?_;rintro e w5 ⟨rfl,st5,o5⟩;refine hK _ _ (Sc.Cl.of ⟨o5.cell CC.r NR.out,o5.cell CC.n NB.out,o5.cell CC.p NB.out,o5.cell CC.u NB.out⟩) ?_;have J5:=Lib.hid (J1.out.step st5 o5);clear hK K st5 o5 AD CC J1 ROW;refine Sd.done ?_;go_wp2
     go_roundw
     case rel=>exact ⟨j+1,_,by omega,by go_num,J5⟩
     case measure=>simp [intOf];omega
    ·obtain rfl:j=A.length:=by omega
     rw [lenL] at c3;have DN:=Lib.hid (J.out.done (fun x g=>(QL.out x g).2));have I5:=Lib.hid (I1.out.below J.out.bel);have I6:=Lib.hid (I5.out.more I.out.l1 I.out.l2 I.out.l5 DN.out.1 DN.out.2);have ct:=(I6.out.bel.cell (World.block_lt_of_cell? _ _ C1.out)).trans C1.out;have CV:=Lib.hid ((I6.out.bel.cell (World.block_lt_of_cell? _ _ C2.out)).trans C2.out);have cs:=(I6.out.bel.cell (World.block_lt_of_cell? _ _ C3.out)).trans C3.out;clear J DN I5 list ROW;have HL:=Lib.hid I.out;have TT1:Hid (Rd K5 w (.slice ta tn tc) (cel L k).T):=Lib.hid (by rw [HC.out];exact TK.out);have SS1:Hid (Rd K2 w (.slice sa sn sc) (cel L k).S):=Lib.hid (by rw [HC.out];exact SK.out);clear I I1 TK SK QL;obtain ⟨ta',tc',et,⟨g1,_⟩,g2,g3⟩:=TT1.out;injection et with e1 e2 e3;subst e1 e2 e3;obtain ⟨sa',sc',es,⟨f1,_⟩,f2,f3⟩:=SS1.out;injection es with e1 e2 e3;subst e1 e2 e3;unfold maxLen at g2 f2;have F3:=Lib.hid f3;clear f3;generalize hso:(cel L k).S.length=so at *;have HSO:=Lib.hid hso;clear hso;have G3:=Lib.hid g3;clear g3;generalize hto:(cel L k).T.length=m at *;have HTO:=Lib.hid hto;clear hto;go_upto_region 10 with fail;have x0:=Sd.cell_by ct;have x1:=Sd.cell_by cs;refine Sd.start [(false,0),(false,1),(false,2),(false,3),(false,4),(false,5),(false,6),(false,7),(false,8),(false,9),(false,10),(false,11)] (by kernel_rfl) (by kernel_rfl) (by kernel_rfl) ?_;dsimp only [Sd.picks,List.getElem?_cons_succ,List.getElem?_cons_zero]
     repeat (refine Sd.lit ?_;quiet_step (fail);refine wpQuiet_nil ?_)
     clear x0 x1 ct cs;have I6':=Lib.hid (I6.out.below ((Below.refl wr.heap.size wr).drew));have CV':=Lib.hid (((Below.refl wr.heap.size wr).drew.cell (World.block_lt_of_cell? _ _ CV.out)).trans CV.out);generalize wr.drew=wd at *;clear I6 CV;have I6:=I6';have CV:=CV';clear I6' CV';refine Sd.done ?_
     go_step
     go_step
     go_step
     go_cut [16] from 23 to 110 (fun v wx=>(∃ h:Hd,sl h=v∧Rd K5 w (sl h) ((cel L k).T.take 70))∧wd=wx)
     case first =>
      by_cases h70:70 < m
      ·obtain ⟨b',off',rfl,_⟩:=G3.out (by have:=HTO.out;omega)
       have TT:Hid (∃ h:Hd,sl h=Value.slice (some ⟨b',off',none⟩) 70 tc∧Rd K5 w (sl h) ((cel L k).T.take 70)):=Lib.hid ⟨(some ⟨b',off',none⟩,70,tc),rfl,Ck.rd_cut TT1.out rfl (k:=70) (by have:=HTO.out;omega) (by omega)⟩;clear G3 TT1;have hh:(70:Int) < m:=by omega
       go_wp2
       go_meet
       exact ⟨TT.out,rfl⟩
      ·have TT:Hid (∃ h:Hd,sl h=Value.slice ta m tc∧Rd K5 w (sl h) ((cel L k).T.take 70)):=Lib.hid ⟨(ta,m,tc),rfl,by rw [List.take_of_length_le (by have:=HTO.out;omega)];exact TT1.out⟩
       clear G3 TT1;have hh:¬ (70:Int) < m:=by omega
       go_wp2
       go_meet
       exact ⟨TT.out,rfl⟩
     case rest =>
      obtain ⟨⟨h,e1,TR⟩,e2⟩:=hcut;subst e1;subst e2;have TR':=Lib.hid TR;clear TR G3 TT1 HTO g1 g2
      go_step
      go_step
      go_cut [17] from 23 to 110 (fun v wx=>(∃ h:Hd,sl h=v∧Rd K2 w (sl h) ((cel L k).S.take 70))∧wd=wx)
      case first =>
       by_cases h70:70 < so
       ·obtain ⟨b',off',rfl,_⟩:=F3.out (by have:=HSO.out;omega)
        have TT:Hid (∃ h:Hd,sl h=Value.slice (some ⟨b',off',none⟩) 70 sc∧Rd K2 w (sl h) ((cel L k).S.take 70)):=Lib.hid ⟨(some ⟨b',off',none⟩,70,sc),rfl,cut_any SS1.out rfl (k:=70) (by have:=HSO.out;omega) (by omega)⟩;clear F3 SS1;have hh:(70:Int) < so:=by omega
        go_wp2
        go_meet
        exact ⟨TT.out,rfl⟩
       ·have TT:Hid (∃ h:Hd,sl h=Value.slice sa so sc∧Rd K2 w (sl h) ((cel L k).S.take 70)):=Lib.hid ⟨(sa,_,sc),rfl,by rw [List.take_of_length_le (by have:=HSO.out;omega)];exact SS1.out⟩
        clear F3 SS1;have hh:¬ (70:Int) < so:=by omega
        go_wp2
        go_meet
        exact ⟨TT.out,rfl⟩
      case rest =>
       obtain ⟨⟨h5,e1,TR5⟩,e2⟩:=hcut;subst e1;subst e2;have TR5':=Lib.hid TR5;clear TR5 F3 SS1 HSO;go_upto_region 15 with fail;have x0:=Sc.cell_in (C:=Only (Q5 o1 o2 o3 o4 o5) wd) (a:=⟨b,off+k * 4+2,none⟩) (fun W' h=>h.cell CV.out (fun g=>by have:=(I6.out.low _ g).1;simp only at this;omega));have ne:Nonempty (Sc.In (Only (Q5 o1 o2 o3 o4 o5) wd)):=⟨⟨_,Only.refl _ _⟩⟩;refine Sg.start (Only (Q5 o1 o2 o3 o4 o5) wd) [0,1,4,5,8,9,12,13,14,15,16,17,20,21] [(2,2),(1,3),(2,6),(1,7),(2,10),(1,11),(2,18),(1,19),(2,22),(1,23),(0,24),(0,25),(0,26),(0,27),(0,28)]
        [⟨2,89,88,.pointer (some ⟨gs,0,none⟩),39⟩,⟨6,93,92,.pointer (some ⟨r,0,none⟩),43⟩,⟨10,97,96,sl h,58⟩,⟨18,105,104,.bool lv,4⟩,⟨22,109,108,sl h5,59⟩]
        (by kernel_rfl) (by kernel_rfl) (by kernel_rfl) (by kernel_rfl) (by rfl) (by show ([89,93,97,105,109]:List Nat).Nodup;decide)
        (by intro f hf f' hf';simp only [List.mem_cons,List.not_mem_nil,or_false] at hf hf';rcases hf with rfl | rfl | rfl | rfl | rfl <;> rcases hf' with rfl | rfl | rfl | rfl | rfl <;> simp)
        (by intro f hf f' hf';simp only [List.mem_cons,List.not_mem_nil,or_false] at hf hf';rcases hf with rfl | rfl | rfl | rfl | rfl <;> rcases hf' with rfl | rfl | rfl | rfl | rfl <;> simp)
        (by
          intro f hf
          simp only [List.mem_cons,List.not_mem_nil,or_false] at hf
          rcases hf with rfl | rfl | rfl | rfl | rfl
          ·exact flOk_of _ _ _ _ _ rfl rfl rfl rfl Tryz.underlying24 infoN rfl
          ·exact flOk_of _ _ _ _ _ rfl rfl rfl rfl Tryz.underlying25 infoM rfl
          ·exact flOk_of _ _ _ _ _ rfl rfl rfl rfl Tryz.underlying26 infoS rfl
          ·exact flOk_of _ _ _ _ _ rfl rfl rfl rfl Tryz.underlying27 infoB rfl
          ·exact flOk_of _ _ _ _ _ rfl rfl rfl rfl Tryz.underlying28 infoQ rfl)
        (Only.of_below ((Below.refl _ _).drew)) (fun W' h=>h.size) (fun W' o h=>h.then ((Below.refl _ _).alloc (Nat.le_refl _) o)) ?_
       dsimp only [Sg.picksL,List.getElem?_cons_succ,List.getElem?_cons_zero]
       repeat (refine lit1 ?_;quiet_step (fail);refine wpQuiet_nil ?_)
       refine end1 ⟨fun f hf=>by simp only [List.mem_cons,List.not_mem_nil,or_false] at hf;rcases hf with rfl | rfl | rfl | rfl | rfl <;> rfl,?_⟩;dsimp only [Sg.picks,List.getElem?_cons_succ,List.getElem?_cons_zero];clear x0;have QL:=Lib.hid I6.out.low;have I10:=Lib.hid (I6.out.below ((Below.refl wd.heap.size wd).drew));clear I6;refine Sg.meet (fun g11 wm hb hc row n11 hH hL=>?_);have M11:=Lib.hid (I10.out.below hb);have R11:=Lib.hid row;clear hb hc row hH hL;go_simp;refine Sg.call (fun xs w2 hb hc=>⟨by rfl,fun K hK=>?_⟩);have P11:=Lib.hid (M11.out.below hb);have row:=(hb.block _ (lt_of_block R11.out)).trans R11.out;have oc:Only (Q5 o1 o2 o3 o4 o5) wd w2:=by obtain ⟨p,rfl⟩:=hc;exact p.ok
       clear hb hc M11 R11 I10;simp only [Sg.fill,List.foldl_cons,List.foldl_nil]
       refine wp_push_at (K:=KN) Tryz.underlying24 infoN rfl (by omega) _ _ rfl w.heap.size _ _ rfl P11.out.w1 ⟨g11,0,none⟩ gs (by rfl) (fun j u hu=>by
        match j,hu with
        | 0,hu =>
          simp [KN,ptr] at hu
          subst hu;rw [Ck.addr_zero];exact row_cell row 0
        | j+1,hu=>simp [KN] at hu) (by have:=HL.out.l1;omega) P11.out.bel.size ?_
       intro v11 w3 own gr hq
       have oc3:Only (Q5 o1 o2 o3 o4 o5) wd w3:=oc.trans (only_grown gr) fun x _ e=>.inl e;refine hK _ _ (Sc.Cl.of oc3) gr.size (fun g hg hl=>gr.block g hl fun e=>by have:=(QL.out g (.inl e.symm)).2;omega) ?_;have I11:=Lib.hid (P11.out.push1 own gr hq);clear hK K own gr hq oc oc3 row P11;refine Sg.meet (fun g12 wm hb hc row n12 hH hL=>?_);have M12:=Lib.hid (I11.out.below hb);have R12:=Lib.hid row;clear hb hc row hH hL;go_simp;refine Sg.call (fun xs w2 hb hc=>⟨by rfl,fun K hK=>?_⟩);have P12:=Lib.hid (M12.out.below hb);have row:=(hb.block _ (lt_of_block R12.out)).trans R12.out;have oc:Only (Q5 o1 o2 o3 o4 o5) wd w2:=by obtain ⟨p,rfl⟩:=hc;exact p.ok
       clear hb hc M12 R12 I11;simp only [Sg.fill,List.foldl_cons,List.foldl_nil]
       refine wp_push_at (K:=KN) Tryz.underlying25 infoM rfl (by omega) _ _ rfl w.heap.size _ _ rfl P12.out.w2 ⟨g12,0,none⟩ r (by rfl) (fun j u hu=>by
        match j,hu with
        | 0,hu =>
          simp [KN,ptr] at hu
          subst hu;rw [Ck.addr_zero];exact row_cell row 0
        | j+1,hu=>simp [KN] at hu) (by have:=HL.out.l2;omega) P12.out.bel.size ?_
       intro v12 w3 own gr hq
       have oc3:Only (Q5 o1 o2 o3 o4 o5) wd w3:=oc.trans (only_grown gr) fun x _ e=>.inr (.inl e);refine hK _ _ (Sc.Cl.of oc3) gr.size (fun g hg hl=>gr.block g hl fun e=>by have:=(QL.out g (.inr (.inl e.symm))).2;omega) ?_;have I12:=Lib.hid (P12.out.push2 own gr hq);clear hK K own gr hq oc oc3 row P12;refine Sg.meet (fun g13 wm hb hc row n13 hH hL=>?_);have M13:=Lib.hid (I12.out.below hb);have R13:=Lib.hid row;clear hb hc row hH hL;go_simp;refine Sg.call (fun xs w2 hb hc=>⟨by rfl,fun K hK=>?_⟩);have P13:=Lib.hid (M13.out.below hb);have row:=(hb.block _ (lt_of_block R13.out)).trans R13.out;have oc:Only (Q5 o1 o2 o3 o4 o5) wd w2:=by obtain ⟨p,rfl⟩:=hc;exact p.ok
       clear hb hc M13 R13 I12;simp only [Sg.fill,List.foldl_cons,List.foldl_nil]
       refine wp_push_at (K:=KS) Tryz.underlying26 infoS rfl (by omega) _ _ rfl w.heap.size _ _ rfl P13.out.w3 ⟨g13,0,none⟩ h (by rfl) (fun j u hu=>by
        match j,hu with
        | 0,hu =>
          simp [KS] at hu
          subst hu;rw [Ck.addr_zero];exact row_cell row 0
        | j+1,hu=>simp [KS] at hu) (by have:=HL.out.l3;omega) P13.out.bel.size ?_
       intro v13 w3 own gr hq
       have oc3:Only (Q5 o1 o2 o3 o4 o5) wd w3:=oc.trans (only_grown gr) fun x _ e=>.inr (.inr (.inl e));refine hK _ _ (Sc.Cl.of oc3) gr.size (fun g hg hl=>gr.block g hl fun e=>by have:=(QL.out g (.inr (.inr (.inl e.symm)))).2;omega) ?_;have I13:=Lib.hid (P13.out.push3 own gr hq);clear hK K own gr hq oc oc3 row P13;refine Sg.meet (fun g14 wm hb hc row n14 hH hL=>?_);have M14:=Lib.hid (I13.out.below hb);have R14:=Lib.hid row;clear hb hc row hH hL;go_simp;refine Sg.call (fun xs w2 hb hc=>⟨by rfl,fun K hK=>?_⟩);have P14:=Lib.hid (M14.out.below hb);have row:=(hb.block _ (lt_of_block R14.out)).trans R14.out;have oc:Only (Q5 o1 o2 o3 o4 o5) wd w2:=by obtain ⟨p,rfl⟩:=hc;exact p.ok
       clear hb hc M14 R14 I13;simp only [Sg.fill,List.foldl_cons,List.foldl_nil]
       refine wp_push_at (K:=KB) Tryz.underlying27 infoB rfl (by omega) _ _ rfl w.heap.size _ _ rfl P14.out.w4 ⟨g14,0,none⟩ lv (by rfl) (fun j u hu=>by
        match j,hu with
        | 0,hu =>
          simp [KB] at hu
          subst hu;rw [Ck.addr_zero];exact row_cell row 0
        | j+1,hu=>simp [KB] at hu) (by have:=HL.out.l4;omega) P14.out.bel.size ?_
       intro v14 w3 own gr hq
       have oc3:Only (Q5 o1 o2 o3 o4 o5) wd w3:=oc.trans (only_grown gr) fun x _ e=>.inr (.inr (.inr (.inl e)));refine hK _ _ (Sc.Cl.of oc3) gr.size (fun g hg hl=>gr.block g hl fun e=>by have:=(QL.out g (.inr (.inr (.inr (.inl e.symm))))).2;omega) ?_;have I14:=Lib.hid (P14.out.push4 own gr hq);clear hK K own gr hq oc oc3 row P14;refine Sg.meet (fun g15 wm hb hc row n15 hH hL=>?_);have M15:=Lib.hid (I14.out.below hb);have R15:=Lib.hid row;clear hb hc row hH hL;go_simp;refine Sg.call (fun xs w2 hb hc=>⟨by rfl,fun K hK=>?_⟩);have P15:=Lib.hid (M15.out.below hb);have row:=(hb.block _ (lt_of_block R15.out)).trans R15.out;have oc:Only (Q5 o1 o2 o3 o4 o5) wd w2:=by obtain ⟨p,rfl⟩:=hc;exact p.ok
       clear hb hc M15 R15 I14;simp only [Sg.fill,List.foldl_nil]
       refine wp_push_at (K:=KS) Tryz.underlying28 infoQ rfl (by omega) _ _ rfl w.heap.size _ _ rfl P15.out.w5 ⟨g15,0,none⟩ h5 (by rfl) (fun j u hu=>by
        match j,hu with
        | 0,hu =>
          simp [KS] at hu
          subst hu;rw [Ck.addr_zero];exact row_cell row 0
        | j+1,hu=>simp [KS] at hu) (by have:=HL.out.l6;omega) P15.out.bel.size ?_
       intro v15 w3 own gr hq
       have oc3:Only (Q5 o1 o2 o3 o4 o5) wd w3:=oc.trans (only_grown gr) fun x _ e=>.inr (.inr (.inr (.inr (e))));refine hK _ _ (Sc.Cl.of oc3) gr.size (fun g hg hl=>gr.block g hl fun e=>by have:=(QL.out g (.inr (.inr (.inr (.inr (e.symm)))))).2;omega) ?_;have I15:=Lib.hid (P15.out.push5 own gr hq);clear hK K own gr hq oc oc3 row P15
       repeat (refine Sg.lit (fun xs=>?_);simp only [Sg.fill,List.foldl_nil];quiet_step (fail);refine wpQuiet_nil ?_)
       refine Sg.done (fun wB hb hc=>?_);have N:=Lib.hid (HL.out.next (I15.out.below hb) TR'.out TR5'.out);clear hb hc I15 TR' TR5';go_wp2
       go_roundw
       case rel=>exact ⟨k+1,_,_,_,_,_,_,_,_,_,_,_,by omega,by omega,by go_num,rfl,rfl,rfl,rfl,rfl,N⟩
       case measure=>simp [intOf];omega
  ·have E:=Lib.hid (FIN.out k _ _ _ _ _ _ _ _ _ _ _ _ I.out hk hk8)
   by_cases q:k < n
   ·have q8:¬ k < 6:=fun h=>hlt ⟨q,h⟩
    clear hlt;go_wp2
    (try simp only [Exit.inBlock,Exit.then]);refine bodyPost_ret (results_tmp5 rfl _ _ _) rfl ?_
    exact E.out
   ·clear hlt
    go_wp2
    (try simp only [Exit.inBlock,Exit.then]);refine bodyPost_ret (results_tmp5 rfl _ _ _) rfl ?_
    exact E.out
end Go.Proofs.YtpkipilggkbkeaaGreatDoor.Bu
namespace Go.Proofs.YtpkipilggkbkeaaGreatDoor.Tk
open Go.RowKit
def prev (A:Nat→Int):Nat→Int
 | 0=>-1
 | k+1=>A k
structure GoodTo (A R:Nat→Int) (k:Nat):Prop where
 at_:∀ i,i < k→0≤A i∧A i≤4294967296
 rate:∀ i,i < k→-20000≤R i∧R i≤20000
 up:∀ i,i+1 < k→A i < A (i+1)
theorem GoodTo.zero (A R:Nat→Int):GoodTo A R 0:=⟨fun i h=>by omega,fun i h=>by omega,fun i h=>by omega⟩
theorem GoodTo.lo {A R:Nat→Int} {k:Nat} (g:GoodTo A R k) : -1≤prev A k:=by
 cases k with
 | zero=>exact Int.le_refl _
 | succ k=>have:=(g.at_ k (by omega)).1;show -1≤A k;omega
theorem GoodTo.step {A R:Nat→Int} {k:Nat} (g:GoodTo A R k) (h1:¬ A k≤prev A k) (h2:¬ 4294967296 < A k) (h3:¬ R k < -20000) (h4:¬ 20000 < R k):GoodTo A R (k+1):=by
 have l:=g.lo;refine ⟨fun i hi=>?_,fun i hi=>?_,fun i hi=>?_⟩
 ·by_cases e:i=k
  ·subst e;omega
  ·exact g.at_ i (by omega)
 ·by_cases e:i=k
  ·subst e;omega
  ·exact g.rate i (by omega)
 ·by_cases e:i+1=k
  ·subst e;have:prev A (i+1)=A i:=rfl;omega
  ·exact g.up i (by omega)
theorem GoodTo.all {A R:Nat→Int} {n:Nat} (g:GoodTo A R n) (h:n≤64):GoodP n A R:=⟨h,g.at_,g.rate,g.up⟩
theorem bad {A R:Nat→Int} {n k:Nat} (hk:k < n) (h:A k≤prev A k∨4294967296 < A k∨R k < -20000∨20000 < R k):goodB n A R=false:=by
 refine goodB_no fun g=>?_;have a:=g.at_ k hk;have r:=g.rate k hk
 rcases h with h | h | h | h
 ·cases k with
  | zero=>have:prev A 0 = -1:=rfl;omega
  | succ k=>have:=g.up k hk;have:prev A (k+1)=A k:=rfl;omega
 ·omega
 ·omega
 ·omega
theorem ret_bool {a b:Bool} (h:a=b):Ending.returned (.bool a) = .returned (.bool b):=by rw [h]
theorem ret_int {a b:Int} (h:a=b):Ending.returned (.int .i64 a) = .returned (.int .i64 b):=by rw [h]
theorem good_none (w:World) (a:Option Addr) (cap:Nat) (A R:Nat→Int):Calls Tryz.prog 59 #[.slice a 0 cap] w fun e w'=>e = .returned (.bool (goodB 0 A R))∧Below w.heap.size w w':=by
 rw [goodB_yes (⟨by omega,fun i h=>by omega,fun i h=>by omega,fun i h=>by omega⟩:GoodP 0 A R)]
 go_enter Tryz.func59,Tryz.ntmps59
 go_wp2
 go_loopw [3,11] (fun _ i wr=>i = .int .i64 0∧Below w.heap.size w wr) (fun _ _ _=>0)
 case atStart=>exact ⟨rfl,Below.refl _ _⟩
 case round =>
  obtain ⟨rfl,hb⟩:=hrel;go_wp2
  go_ret
  exact ⟨rfl,hb⟩
theorem good_long (w:World) (a:Option Addr) (n cap:Nat) (h:64 < n) (A R:Nat→Int):Calls Tryz.prog 59 #[.slice a n cap] w fun e w'=>e = .returned (.bool (goodB n A R))∧Below w.heap.size w w':=by
 rw [goodB_no (fun g:GoodP n A R=>by have:=g.len;omega)]
 go_enter Tryz.func59,Tryz.ntmps59
 go_wp2
 go_ret
 exact ⟨rfl,Below.refl _ _⟩
theorem good_some (w:World) (b off n cap:Nat) (h:n≤64) (A R:Nat→Int)
 (hc:∀ i,i < n→w.cell? ⟨b,off+i * 2,none⟩=some (.int .i64 (A i))∧w.cell? ⟨b,off+i * 2+1,none⟩=some (.int .i64 (R i))) :
 Calls Tryz.prog 59 #[.slice (some ⟨b,off,none⟩) n cap] w fun e w'=>e = .returned (.bool (goodB n A R))∧Below w.heap.size w w':=by
 have HC:=Lib.hid hc;clear hc
 go_enter Tryz.func59,Tryz.ntmps59
 go_wp2
 go_loopw [3,11] (fun a i wr=>∃ k:Nat,k≤n∧i = .int .i64 k∧a = .int .i64 (prev A k)∧GoodTo A R k∧Below w.heap.size w wr) (fun _ i _=>n - (intOf i).toNat)
 case atStart=>exact ⟨0,Nat.zero_le _,rfl,rfl,GoodTo.zero A R,Below.refl _ _⟩
 case round =>
  obtain ⟨k,hk,rfl,rfl,hg,hb⟩:=hrel
  by_cases hlt:k < n
  ·obtain ⟨c1,c2⟩:=HC.out k hlt
   have d1:=(hb.cell (World.block_lt_of_cell? _ _ c1)).trans c1;have d2:=(hb.cell (World.block_lt_of_cell? _ _ c2)).trans c2;clear c1 c2
   by_cases h1:A k≤prev A k
   ·go_wp2
    go_ret
    exact ⟨ret_bool (bad hlt (.inl h1)).symm,hb.alloc hb.size _⟩
   ·by_cases h2:4294967296 < A k
    ·go_wp2
     go_ret
     exact ⟨ret_bool (bad hlt (.inr (.inl h2))).symm,hb.alloc hb.size _⟩
    ·by_cases h3:R k < -20000
     ·go_wp2
      go_ret
      exact ⟨ret_bool (bad hlt (.inr (.inr (.inl h3)))).symm,hb.alloc hb.size _⟩
     ·by_cases h4:20000 < R k
      ·go_wp2
       go_ret
       exact ⟨ret_bool (bad hlt (.inr (.inr (.inr h4)))).symm,hb.alloc hb.size _⟩
      ·go_wp2
       go_roundw
       case rel=>exact ⟨k+1,by omega,by go_num,rfl,hg.step h1 h2 h3 h4,hb.alloc hb.size _⟩
       case measure=>simp [intOf];omega
  ·obtain rfl:k=n:=by omega
   go_wp2
   go_ret
   exact ⟨ret_bool (goodB_yes (hg.all h)).symm,hb⟩
theorem good_any (w:World) (v:Value) (n:Nat) (A R:Nat→Int) (h:Steps w v n A R):Calls Tryz.prog 59 #[v] w fun e w'=>e = .returned (.bool (goodB n A R))∧Below w.heap.size w w':=by
 rcases h with ⟨a,cap,rfl,_,rfl⟩ | ⟨b,off,cap,rfl,_,_,hc⟩
 ·exact good_none w a cap A R
 ·by_cases hn:n≤64
  ·exact good_some w b off n cap hn A R hc
  ·exact good_long w _ n cap (by omega) A R
end Go.Proofs.YtpkipilggkbkeaaGreatDoor.Tk
namespace Go.Proofs.YtpkipilggkbkeaaGreatDoor.Bu
open Go.RowKit
open Tk (GoodP goodB goodB_true goodB_no good_any)
def anyN (p:Nat→Bool) (n:Nat):Bool:=(List.range n).any p
theorem anyN_yes {p:Nat→Bool} {n k:Nat} (hk:k < n) (h:p k=true):anyN p n=true:=List.any_eq_true.2 ⟨k,List.mem_range.2 hk,h⟩
theorem anyN_no {p:Nat→Bool} {n:Nat} (h:∀ j,j < n→p j=false):anyN p n=false:=List.any_eq_false.2 fun j hj=>by rw [h j (List.mem_range.1 hj)];exact Bool.false_ne_true
def IdxPost (w:World) (b:Bool) (e:Ending) (w':World):Prop:=∃ r:Int,e = .returned (.int .i64 r)∧decide (0≤r)=b∧Below w.heap.size w w'
theorem idx_yes {w w':World} {b:Bool} {k:Nat} (h:b=true) (hb:Below w.heap.size w w'):IdxPost w b (.returned (.int .i64 k)) w':=⟨k,rfl,by rw [h];simp,hb⟩
theorem idx_no {w w':World} {b:Bool} (h:b=false) (hb:Below w.heap.size w w'):IdxPost w b (.returned (.int .i64 (-1))) w':=⟨-1,rfl,by rw [h];decide,hb⟩
set_option maxHeartbeats 1000000 in
theorem sindex_any (w:World) (v:Value) (n:Nat) (A R:Nat→Int) (S:Tk.Steps w v n A R) (g:Nat) (p:Nat→Bool) (eg:∀ args w,(callFunc g args).run Tryz.prog w = .ok (.enter g args) w)
 (hp:∀ W i,i < n→Calls Tryz.prog g #[.agg #[.int .i64 (A i),.int .i64 (R i)]] W fun e w'=>e = .returned (.bool (p i))∧Below W.heap.size W w') :
 Calls Tryz.prog 98 #[v,.func (.func g) #[] #[]] w (IdxPost w (anyN p n)):=by
 obtain ⟨a,cap,rfl,hm1,hm⟩:=steps_form S;have ST:=Lib.hid (fun hp=>(steps_at S hp).2);have HP:=Lib.hid hp;have YES:Hid (∀ k,k < n→p k=true→anyN p n=true):=Lib.hid (fun k hk h=>anyN_yes hk h);have NO:Hid ((∀ j,j < n→p j=false)→anyN p n=false):=Lib.hid (fun h=>anyN_no h);clear S hp;generalize anyN p n=q at *;unfold maxLen at hm
 go_enter Tryz.func98,Tryz.ntmps98
 go_wp2
 go_loopw [8] (fun i wr=>∃ k:Nat,k≤n∧i = .int .i64 k∧Hid (∀ j,j < k→p j=false)∧Hid (Below w.heap.size w wr)) (fun i _=>n - (intOf i).toNat)
 case atStart=>exact ⟨0,Nat.zero_le _,rfl,fun j hj=>by omega,Below.refl _ _⟩
 case round =>
  obtain ⟨k,hk,rfl,hs,hb⟩:=hrel
  by_cases hlt:k < n
  ·obtain ⟨b,off,rfl,hA⟩:=ST.out (by omega)
   obtain ⟨c1,c2⟩:=hA k hlt;have HA:=Lib.hid hA;clear hA;have d1:=(hb.out.cell (World.block_lt_of_cell? _ _ c1)).trans c1;have d2:=(hb.out.cell (World.block_lt_of_cell? _ _ c2)).trans c2;clear c1 c2;have hc:=HP.out wr k hlt
   cases hq:p k with
   | true =>
     rw [hq] at hc;have C:=Lib.hid hc;have HR:=Lib.hid (YES.out k hlt hq);clear hc hq;go_wp2_with fail;refine C.out.mono ?_;rintro e w1 ⟨rfl,b1⟩;have B1:=Lib.hid (hb.out.trans (b1.mono hb.out.size));clear b1;go_wp2
     go_ret
     exact idx_yes HR.out B1.out
   | false =>
     rw [hq] at hc;have C:=Lib.hid hc;have ST:Hid (∀ j,j < k+1→p j=false):=fun j hj=>by
      by_cases e:j=k
      ·rw [e];exact hq
      ·exact hs.out j (by omega)
     clear hc hq;go_wp2_with fail;refine C.out.mono ?_;rintro e w1 ⟨rfl,b1⟩;have B1:=Lib.hid (hb.out.trans (b1.mono hb.out.size));clear b1;go_wp2
     go_roundw
     case rel=>exact ⟨k+1,by omega,by go_num,ST,B1⟩
     case measure=>simp [intOf];omega
  ·obtain rfl:k=n:=by omega
   have HR:=Lib.hid (NO.out hs.out);go_wp2
   go_ret
   exact idx_no HR.out hb.out
theorem scontains_any (w:World) (v:Value) (n:Nat) (A R:Nat→Int) (S:Tk.Steps w v n A R) (g:Nat) (p:Nat→Bool) (eg:∀ args w,(callFunc g args).run Tryz.prog w = .ok (.enter g args) w)
 (hp:∀ W i,i < n→Calls Tryz.prog g #[.agg #[.int .i64 (A i),.int .i64 (R i)]] W fun e w'=>e = .returned (.bool (p i))∧Below W.heap.size W w') :
 Calls Tryz.prog 60 #[v,.func (.func g) #[] #[]] w fun e w'=>e = .returned (.bool (anyN p n))∧Below w.heap.size w w':=by
 have C:=Lib.hid (sindex_any w v n A R S g p eg hp);clear eg hp S;generalize anyN p n=q at *
 go_enter Tryz.func60,Tryz.ntmps60
 go_wp2_with fail;refine C.out.mono ?_;rintro e w1 ⟨r,rfl,hr,b1⟩;have HR:=Lib.hid hr;clear hr;go_wp2
 go_ret
 exact ⟨Tk.ret_bool HR.out,b1⟩
set_option maxHeartbeats 1000000 in
theorem lindex_any (w:World) (v:Value) (O:List Osc) (S:OsL w v O) (g:Nat) (lb:Array Value) (p:Nat→Bool) (eg:∀ args w,(callFunc g args).run Tryz.prog w = .ok (.enter g args) w)
 (hp:∀ W i,i < O.length→Below w.heap.size w W→∀ u,Tk.Steps W u (osc O i).n (osc O i).A (osc O i).R→Calls Tryz.prog g (#[u] ++ lb) W fun e w'=>e = .returned (.bool (p i))∧Below W.heap.size W w') :
 Calls Tryz.prog 99 #[v,.func (.func g) #[] lb] w (IdxPost w (anyN p O.length)):=by
 have S0:=Lib.hid S;obtain ⟨a,cap,rfl,hm1,hm⟩:=S.slice;have HP:=Lib.hid hp;have YES:Hid (∀ k,k < O.length→p k=true→anyN p O.length=true):=Lib.hid (fun k hk h=>anyN_yes hk h);have NO:Hid ((∀ j,j < O.length→p j=false)→anyN p O.length=false):=Lib.hid (fun h=>anyN_no h);clear S hp;generalize anyN p O.length=q at *;unfold maxLen at hm;generalize hn:O.length=n at *;have HN:=Lib.hid hn;clear hn
 go_enter Tryz.func99,Tryz.ntmps99
 go_wp2
 go_loopw [8] (fun i wr=>∃ k:Nat,k≤n∧i = .int .i64 k∧Hid (∀ j,j < k→p j=false)∧Hid (Below w.heap.size w wr)) (fun i _=>n - (intOf i).toNat)
 case atStart=>exact ⟨0,Nat.zero_le _,rfl,fun j hj=>by omega,Below.refl _ _⟩
 case round =>
  obtain ⟨k,hk,rfl,hs,hb⟩:=hrel
  by_cases hlt:k < n
  ·obtain ⟨b,off,cp,a',cap',e1,c1,_,st⟩:=S0.out.one (k:=k) (by have:=HN.out;omega)
   rw [HN.out] at e1;injection e1 with e1 _ e2;subst e1 e2;have d1:=(hb.out.cell (World.block_lt_of_cell? _ _ c1)).trans c1;have hc:=HP.out wr k hlt hb.out _ (st.below hb.out);clear c1 st;generalize (osc O k).n=m at *
   cases hq:p k with
   | true =>
     rw [hq] at hc;have C:=Lib.hid hc;have HR:=Lib.hid (YES.out k hlt hq);clear hc hq;go_wp2_with fail;refine C.out.mono ?_;rintro e w1 ⟨rfl,b1⟩;have B1:=Lib.hid (hb.out.trans (b1.mono hb.out.size));clear b1;go_wp2
     go_ret
     exact idx_yes HR.out B1.out
   | false =>
     rw [hq] at hc;have C:=Lib.hid hc;have ST:Hid (∀ j,j < k+1→p j=false):=fun j hj=>by
      by_cases e:j=k
      ·rw [e];exact hq
      ·exact hs.out j (by omega)
     clear hc hq;go_wp2_with fail;refine C.out.mono ?_;rintro e w1 ⟨rfl,b1⟩;have B1:=Lib.hid (hb.out.trans (b1.mono hb.out.size));clear b1;go_wp2
     go_roundw
     case rel=>exact ⟨k+1,by omega,by go_num,ST,B1⟩
     case measure=>simp [intOf];omega
  ·obtain rfl:k=n:=by omega
   have HR:=Lib.hid (NO.out hs.out);go_wp2
   go_ret
   exact idx_no HR.out hb.out
theorem lcontains_any (w:World) (v:Value) (O:List Osc) (S:OsL w v O) (g:Nat) (lb:Array Value) (p:Nat→Bool) (eg:∀ args w,(callFunc g args).run Tryz.prog w = .ok (.enter g args) w)
 (hp:∀ W i,i < O.length→Below w.heap.size w W→∀ u,Tk.Steps W u (osc O i).n (osc O i).A (osc O i).R→Calls Tryz.prog g (#[u] ++ lb) W fun e w'=>e = .returned (.bool (p i))∧Below W.heap.size W w') :
 Calls Tryz.prog 61 #[v,.func (.func g) #[] lb] w fun e w'=>e = .returned (.bool (anyN p O.length))∧Below w.heap.size w w':=by
 have C:=Lib.hid (lindex_any w v O S g lb p eg hp);clear eg hp S;generalize anyN p O.length=q at *
 go_enter Tryz.func61,Tryz.ntmps61
 go_wp2_with fail;refine C.out.mono ?_;rintro e w1 ⟨r,rfl,hr,b1⟩;have HR:=Lib.hid hr;clear hr;go_wp2
 go_ret
 exact ⟨Tk.ret_bool HR.out,b1⟩
def wildB (r:Int):Bool:=decide (r < -2000) || decide (2000 < r)
theorem wild_any (w:World) (a r:Int):Calls Tryz.prog 57 #[.agg #[.int .i64 a,.int .i64 r]] w fun e w'=>e = .returned (.bool (wildB r))∧Below w.heap.size w w':=by
 have HB:=Lib.hid ((Below.refl w.heap.size w).alloc (Nat.le_refl _) (.cells #[.int .i64 a,.int .i64 r] 101))
 by_cases h1:r < -2000
 ·have e:Hid (wildB r=true):=Lib.hid (by unfold wildB;rw [decide_eq_true h1];rfl)
  rw [e.out]
  go_enter Tryz.func57,Tryz.ntmps57
  go_wp2
  go_ret
  exact ⟨rfl,HB.out⟩
 ·have e:Hid (wildB r=decide (2000 < r)):=Lib.hid (by unfold wildB;rw [decide_eq_false h1];rfl)
  rw [e.out]
  go_enter Tryz.func57,Tryz.ntmps57
  go_wp2
  go_ret
  exact ⟨rfl,HB.out⟩
theorem calm_by {o:Osc} (h:goodB o.n o.A o.R=true):(!calmB o)=anyN (fun i=>wildB (o.R i)) o.n:=by
 cases c:calmB o with
 | true =>
   have g:=of_calmB c;rw [anyN_no fun j hj=>?_]
   ·rfl
   ·have:=g.bd j hj
    unfold wildB;rw [decide_eq_false (by omega),decide_eq_false (by omega)]
    rfl
 | false =>
   cases q:anyN (fun i=>wildB (o.R i)) o.n with
   | true=>rfl
   | false =>
     exfalso
     have:calmB o=true:=calmB_yes ⟨goodB_true.1 h,by omega,fun i hi=>by
      have:=List.any_eq_false.1 q i (List.mem_range.2 hi);unfold wildB at this;simp only [Bool.or_eq_true,decide_eq_true_eq,not_or] at this
      omega⟩
     rw [c] at this
     cases this
theorem calm_bad {o:Osc} (h:goodB o.n o.A o.R=false):(!calmB o)=true:=by
 rw [calmB_no fun g=>by rw [Tk.goodB_yes g.good] at h;cases h]
 rfl
set_option maxHeartbeats 1000000 in
theorem unfit_any (w:World) (B:Nat) (hc:w.cell? ⟨B,0,none⟩=some (.func (.func 57) #[] #[])) (u:Value) (o:Osc) (S:Tk.Steps w u o.n o.A o.R) :
 Calls Tryz.prog 58 #[u,.pointer (some ⟨B,0,none⟩)] w fun e w'=>e = .returned (.bool (!calmB o))∧Below w.heap.size w w':=by
 have eg:∀ args w,(callFunc 57 args).run Tryz.prog w = .ok (.enter 57 args) w:=enters_of Tryz.func57 (by kernel_rfl) rfl;have GA:=Lib.hid (good_any w u o.n o.A o.R S);have CA:=Lib.hid (fun W b=>scontains_any W u o.n o.A o.R (S.below (w':=W) b) 57 (fun i=>wildB (o.R i)) eg fun W i _=>wild_any W (o.A i) (o.R i));obtain ⟨a,cap,rfl,_⟩:=steps_form S;clear S eg;have YES:=fun h=>calm_by (o:=o) h;have NO:=fun h=>calm_bad (o:=o) h;generalize goodB o.n o.A o.R=g at *;generalize anyN (fun i=>wildB (o.R i)) o.n=q at *;generalize (!calmB o)=r at *
 cases g with
 | true =>
   have E:=Lib.hid (YES rfl);clear YES NO
   go_enter Tryz.func58,Tryz.ntmps58
   go_wp2_with fail;refine GA.out.mono ?_;rintro e w1 ⟨rfl,b1⟩;have c1:=(b1.cell (World.block_lt_of_cell? _ _ hc)).trans hc;have C1:=Lib.hid (CA.out w1 b1);have B1:=Lib.hid b1;clear b1 CA GA hc;go_wp2_with fail;refine C1.out.mono ?_;rintro e w2 ⟨rfl,b2⟩;have B2:=Lib.hid (B1.out.trans (b2.mono B1.out.size));clear b2;go_wp2
   go_ret
   exact ⟨Tk.ret_bool E.out.symm,B2.out⟩
 | false =>
   have E:=Lib.hid (NO rfl);clear YES NO
   go_enter Tryz.func58,Tryz.ntmps58
   go_wp2_with fail;refine GA.out.mono ?_;rintro e w1 ⟨rfl,b1⟩;have B1:=Lib.hid b1;clear b1 CA GA hc;go_wp2
   go_ret
   exact ⟨Tk.ret_bool E.out.symm,B1.out⟩
theorem calmLB_by (O:List Osc):(!anyN (fun i=>!calmB (osc O i)) O.length)=calmLB O:=by
 cases c:calmLB O with
 | true =>
   rw [anyN_no fun j hj=>?_]
   ·rfl
   ·rw [calmB_yes (of_calmLB c _ (osc_mem hj))];rfl
 | false =>
   obtain ⟨o,ho,hc⟩:=List.all_eq_false.1 c;obtain ⟨i,hi,rfl⟩:=List.getElem_of_mem ho;have e:osc O (i:Int)=O[i]:=by unfold osc;rw [Int.toNat_natCast,List.getD_eq_getElem?_getD,List.getElem?_eq_getElem hi];rfl
   rw [anyN_yes (k:=i) hi (by rw [e];simpa using hc)]
   rfl
theorem cell_fn (w:World) (f:Nat) (t:TypeId):(w.alloc (.cells #[.func (.func f) #[] #[]] t)).cell? ⟨w.heap.size,0,none⟩=some (.func (.func f) #[] #[]):=by go_simp
set_option maxHeartbeats 1000000 in
theorem calm_any (w:World) (v:Value) (O:List Osc) (S:OsL w v O):Calls Tryz.prog 24 #[v] w fun e w'=>e = .returned (.bool (calmLB O))∧Below w.heap.size w w':=by
 have eg:∀ args w,(callFunc 58 args).run Tryz.prog w = .ok (.enter 58 args) w:=enters_of Tryz.func58 (by kernel_rfl) rfl;have b0:=(Below.refl w.heap.size w).alloc (Nat.le_refl _) (.cells #[.func (.func 57) #[] #[]] 125);have c0:=cell_fn w 57 125;have CA:=Lib.hid (lcontains_any _ v O (S.below b0) 58 #[.pointer (some ⟨w.heap.size,0,none⟩)] (fun i=>!calmB (osc O i)) eg fun W i _ hb u hu=>unfit_any W w.heap.size ((hb.cell (World.block_lt_of_cell? _ _ c0)).trans c0) u (osc O i) hu);have B0:=Lib.hid b0;obtain ⟨a,cap,rfl,_⟩:=S.slice;have E:=Lib.hid (calmLB_by O);clear b0 c0 eg S;generalize O.length=n at *;generalize anyN (fun i=>!calmB (osc O i)) n=q at *;have hst:∀ (W:World) (p:Addr),(store p (Value.func (Fn.func 57) #[] #[])).run Tryz.prog W=stored Tryz.prog W p (Value.func (Fn.func 57) #[] #[]) .plain:=fun W p=>run_store _ W p _ _ rfl
 go_enter Tryz.func24,Tryz.ntmps24
 go_wp2_with fail;refine CA.out.mono ?_;rintro e w1 ⟨rfl,b1⟩;have B1:=Lib.hid (B0.out.trans (b1.mono B0.out.size));clear b1 CA;go_wp2
 go_ret
 exact ⟨Tk.ret_bool E.out,B1.out⟩
end Go.Proofs.YtpkipilggkbkeaaGreatDoor.Bu
namespace Go.Proofs.YtpkipilggkbkeaaGreatDoor.Wi
open Go.Shelf Go.RowKit Go.Lib Go.Sort Go.Proofs.YtpkipilggkbkeaaGreatDoor.Sp
def enc (x:S2):List Value:=[.int .i64 x.1,.int .i64 x.2]
def cf (x y:S2):Int:=cmpI x.1 y.1
theorem lt_cf (x y:S2):ltOf cf x y=decide (x.1 < y.1):=by
 unfold ltOf cf cmpI
 by_cases h1:x.1 < y.1
 ·simp [h1]
 ·by_cases h2:y.1 < x.1 <;> simp [h1,h2]
theorem swo:SWO (ltOf cf) where
 irrefl x:=by rw [lt_cf];simp
 trans x y z h1 h2:=by rw [lt_cf] at *;simp at *;omega
 ntrans x y z h1 h2:=by rw [lt_cf] at *;simp at *;omega
set_option maxHeartbeats 400000 in
theorem clos_any (x y:S2) (W:World):Calls Tryz.prog 118 #[.agg #[.int .i64 x.1,.int .i64 x.2],.agg #[.int .i64 y.1,.int .i64 y.2]] W fun e w'=>e = .returned (.int .i64 (cf x y))∧∃ q os',w'=grow (W.drewN q) os':=by
 have hcon:=fun W'=>compare_any W' x.1 y.1;have HC:=Lib.hid hcon;clear hcon;unfold cf;generalize cmpI x.1 y.1=r at HC ⊢
 go_enter Tryz.func118,Tryz.ntmps118
 go_wp2_with (go_at_call 119;refine (HC.out _).mono ?_;rintro e w' ⟨rfl,rfl⟩)
 go_ret
 exact ⟨rfl,0,_,by rw [alloc_eq_grow,alloc_eq_grow,grow_grow];rfl⟩
theorem lays (blk off size:Nat) (w:World):CmpLays Tryz.prog 118 #[] enc 2 cf blk off size w:=fun _ _ _ _ x y=>clos_any x y _
theorem get_fr (l:List S2) (i:Nat):l.toArray[i]! = (fr l i,tp l i):=by
 by_cases h:i < l.length
 ·rw [getElem!_pos l.toArray i (by simpa using h)]
  simp [fr,tp,h]
 ·rw [getElem!_neg l.toArray i (by simpa using h)]
  simp [fr,tp,h]
  rfl
theorem holds_of {w:World} {g:Nat} {l:List S2} (h:∀ i,i < l.length→w.cell? ⟨g,i * 2,none⟩=some (.int .i64 (fr l i))∧w.cell? ⟨g,i * 2+1,none⟩=some (.int .i64 (tp l i))∧w.frozen? ⟨g,i * 2,none⟩=false∧w.frozen? ⟨g,i * 2+1,none⟩=false) :
 HoldsK enc 2 w g 0 l.toArray:=by
 intro j hj
 have hj':j < l.length * 2:=by simpa using hj
 obtain ⟨c0,c1,f0,f1⟩:=h (j / 2) (by omega);rw [get_flatK enc 2 l.toArray j (by simpa using hj'),get_fr]
 rcases (by omega:j % 2=0∨j % 2=1) with e | e
 ·have ej:0+j=j / 2 * 2:=by omega
  rw [ej,e];exact ⟨c0,f0⟩
 ·have ej:0+j=j / 2 * 2+1:=by omega
  rw [ej,e];exact ⟨c1,f1⟩
def SortedTo (W:World) (B:Nat) (v:Value) (x:List S2) (w':World):Prop :=
 ∃ x',Sp w' v x'∧x'.length=x.length∧(∀ s,s∈x'↔s∈x)∧(∀ i j,i≤j→j < x'.length→fr x' i≤fr x' j)∧Below B W w'
theorem below_world {W:World} {B g m:Nat} (hB:B≤g) (hg:g < W.heap.size) (d:Array S2) (os:Array Obj):Below B W (sortWorldK enc 2 W g 0 m d os):=by
 refine ⟨rfl,rfl,rfl,?_,fun k hk=>?_⟩
 ·show W.heap.size≤((W.heap.modify g _) ++ os).size
  simp
 ·show ((W.heap.modify g _) ++ os)[k]? = _
  rw [Array.getElem?_append_left (by simp;omega),Array.getElem?_modify,if_neg (by omega)]
theorem sorted_to {W:World} {B g cap m:Nat} {x:List S2} {d':Array S2} {os:Array Obj} (hB:B≤g) (hg:g < W.heap.size) (h1:x.length≤cap) (h2:cap≤maxLen) (hH:HoldsK enc 2 W g 0 x.toArray)
 (hp:PermIn 0 x.toArray.size x.toArray d') (hs:SortedIn (ltOf cf) 0 x.toArray.size d'):SortedTo W B (.slice (some ⟨g,0,none⟩) x.length cap) x (sortWorldK enc 2 W g 0 m d' os):=by
 obtain ⟨hsz,_,hperm⟩:=hp;have hlen:d'.toList.length=x.length:=by simpa using hsz
 have hperm':d'.toList.Perm x:=by
  have e1:d'.extract 0 x.toArray.size=d':=by rw [← hsz];simp
  have e2:x.toArray.extract 0 x.toArray.size=x.toArray:=by simp
  rw [e1,e2] at hperm
  simpa using hperm
 have hH':HoldsK enc 2 (sortWorldK enc 2 W g 0 m d' os) g 0 d':=by
  unfold sortWorldK;refine holdsK_grow _ _ _ _ _ _ _ (by show g < (putRowK enc 2 (Sort.ahead W m) g 0 d').heap.size;rw [size_putRowK];exact hg) ?_;exact holdsK_putRowK enc 2 (Sort.ahead W m) g 0 x.toArray d' hH hsz
 have hsz':d'.size=x.length:=by simpa using hsz
 have hget:∀ i,i < x.length→d'[i]! = (fr d'.toList i,tp d'.toList i):=fun i hi=>by
  have:=get_fr d'.toList i
  simpa using this
 refine ⟨d'.toList,⟨some ⟨g,0,none⟩,cap,by rw [hlen],by rw [hlen];exact h1,h2,fun _=>⟨g,0,rfl,fun i hi=>?_⟩⟩,hlen,fun s=>hperm'.mem_iff,fun i j hij hj=>?_,below_world hB hg _ _⟩
 ·rw [hlen] at hi
  have c0:=(hH'.cell (i:=i) (c:=0) (by omega) (by omega)).1;have c1:=(hH'.cell (i:=i) (c:=1) (by omega) (by omega)).1;rw [hget i hi] at c0 c1;exact ⟨c0,c1⟩
 ·rw [hlen] at hj
  rcases Nat.lt_or_ge i j with c | c
  ·have:=hs i j (by omega) c (by simpa using hj)
   rw [lt_cf,hget i (by omega),hget j hj] at this
   simp at this
   exact this
  ·rw [show i=j by omega]
   exact Int.le_refl _
theorem sort_some (W:World) (B:Nat) (v:Value) (x:List S2) (hown:Sp.Own W B 105 v x) (h0:0 < x.length) (hlen:x.length < 1099511627776) :
 Calls Tryz.prog 117 #[v,.func (.func 118) #[] #[]] W fun e w'=>e = .returned (.tuple #[])∧SortedTo W B v x w':=by
 obtain ⟨g,cap,rfl,hB,hg,h1,h2,_,hc⟩:=hown.form h0;have eg:∀ args w,(callFunc 118 args).run Tryz.prog w = .ok (.enter 118 args) w:=enters_of Tryz.func118 (by kernel_rfl) rfl;have hH:=holds_of hc;have hcon:=AnyQ.slices_SortFunc Wi.sortFunc 2 Tryz.isAgg105 Tryz.sizeOf105 enc (fun _=>rfl) (fun x v hv=>by simp [enc] at hv;rcases hv with rfl | rfl <;> rfl) cf swo 118 #[] g 0 cap x.toArray W eg (lays g 0 x.toArray.size W) hH hg (by simp;omega)
 change Calls Tryz.prog 117 _ _ _ at hcon
 refine hcon.mono ?_;rintro e w' ⟨rfl,d',n,os,hp,hs,rfl⟩;exact ⟨rfl,sorted_to hB hg h1 h2 hH hp hs⟩
theorem sort_any (W:World) (B:Nat) (v:Value) (x:List S2) (hown:Sp.Own W B 105 v x) (hlen:x.length < 1099511627776) :
 Calls Tryz.prog 117 #[v,.func (.func 118) #[] #[]] W fun e w'=>e = .returned (.tuple #[])∧SortedTo W B v x w':=by
 rcases Nat.eq_zero_or_pos x.length with z | z
 ·have hsp:=hown.sp
  obtain ⟨a,cap,rfl,_⟩:=hown.slice;have hcon:=AnyF.slices_SortFunc_none (ρ:=Wi.sortFunc_ren) Wi.sortFunc a cap (.func (.func 118) #[] #[]) W
  change Calls Tryz.prog 117 _ _ _ at hcon
  rw [z];refine hcon.mono ?_;rintro e w' ⟨rfl,rfl⟩;have e:x = []:=List.length_eq_zero_iff.1 z;subst e;exact ⟨rfl,[],hsp,rfl,fun s=>Iff.rfl,fun i j _ h=>by simp at h,Below.refl _ _⟩
 ·exact sort_some W B v x hown z hlen
end Go.Proofs.YtpkipilggkbkeaaGreatDoor.Wi
namespace Go.Proofs.YtpkipilggkbkeaaGreatDoor.Wi
open Go.RowKit Go.Proofs.YtpkipilggkbkeaaGreatDoor.Sp
def Rows (w:World) (v:Value) (ls:List (List S2)):Prop:=∃ a cap,v = .slice a ls.length cap∧ls.length≤cap∧cap≤maxLen∧(0 < ls.length→∃ b off,a=some ⟨b,off,none⟩∧∀ i,i < ls.length→∃ u,w.cell? ⟨b,off+i,none⟩=some u∧Sp w u (ls.getD i []))
def tot (ls:List (List S2)):Nat→Nat
 | 0=>0
 | k+1=>tot ls k+(ls.getD k []).length
theorem tot_mono (ls:List (List S2)) {i j:Nat} (h:i≤j):tot ls i≤tot ls j:=by
 induction j with
 | zero=>rw [show i=0 by omega];exact Nat.le_refl _
 | succ j ih =>
   by_cases e:i=j+1
   ·rw [e];exact Nat.le_refl _
   ·have:=ih (by omega)
    show tot ls i≤tot ls j+_
    omega
structure Acc (ls:List (List S2)) (k j:Nat) (x:List S2):Prop where
 ticks:∀ s∈x,s.1 < s.2
 low:∀ t,Low x t↔(∃ i,i < k∧Low (ls.getD i []) t)∨Low ((ls.getD k []).take j) t
 len:x.length≤tot ls k+j
theorem Acc.zero (ls:List (List S2)):Acc ls 0 0 []:=⟨fun s h=>by simp at h,fun t=>by
 constructor
 ·exact fun h=>absurd h low_nil
 ·rintro (⟨i,h,_⟩ | h)
  ·omega
  ·simp at h;exact h,by simp⟩
theorem Acc.push {ls:List (List S2)} {k j:Nat} {x:List S2} (h:Acc ls k j x) (hj:j < (ls.getD k []).length) (ht:fr (ls.getD k []) j < tp (ls.getD k []) j):Acc ls k (j+1) (x ++ [(fr (ls.getD k []) j,tp (ls.getD k []) j)]):=by
 refine ⟨fun s hs=>?_,fun t=>?_,by have:=h.len;simp;omega⟩
 ·rcases List.mem_append.1 hs with c | c
  ·exact h.ticks s c
  ·simp at c;subst c;exact ht
 ·rw [low_append,h.low,take_snoc hj,low_append,or_assoc]
theorem Acc.skip {ls:List (List S2)} {k j:Nat} {x:List S2} (h:Acc ls k j x) (hj:j < (ls.getD k []).length) (ht:¬ fr (ls.getD k []) j < tp (ls.getD k []) j):Acc ls k (j+1) x:=by
 refine ⟨h.ticks,fun t=>?_,by have:=h.len;omega⟩;rw [h.low,take_snoc hj,low_append,low_one]
 constructor
 ·rintro (c | c)
  ·exact .inl c
  ·exact .inr (.inl c)
 ·rintro (c | c | c)
  ·exact .inl c
  ·exact .inr c
  ·have c1:=c.1;have c2:=c.2;simp at c1 c2;omega
theorem Acc.next {ls:List (List S2)} {k:Nat} {x:List S2} (h:Acc ls k (ls.getD k []).length x):Acc ls (k+1) 0 x:=by
 refine ⟨h.ticks,fun t=>?_,by have:=h.len;show x.length≤tot ls k+_+0;omega⟩;rw [h.low,List.take_length]
 constructor
 ·rintro (⟨i,hi,c⟩ | c)
  ·exact .inl ⟨i,by omega,c⟩
  ·exact .inl ⟨k,by omega,c⟩
 ·rintro (⟨i,hi,c⟩ | c)
  ·by_cases e:i=k
   ·subst e;exact .inr c
   ·exact .inl ⟨i,by omega,c⟩
  ·simp at c;exact absurd c low_nil
structure SortOf (ls:List (List S2)) (x:List S2):Prop where
 srt:Srt x
 low:∀ t,Low x t↔∃ i,i < ls.length∧Low (ls.getD i []) t
 len:x.length≤tot ls ls.length
theorem low_mem {x y:List S2} (h:∀ s,s∈x↔s∈y) (t:Int):Low x t↔Low y t:=⟨fun ⟨s,a,b⟩=>⟨s,(h s).1 a,b⟩,fun ⟨s,a,b⟩=>⟨s,(h s).2 a,b⟩⟩
theorem SortOf.of {ls:List (List S2)} {x x':List S2} (h:Acc ls ls.length 0 x) (hl:x'.length=x.length) (hm:∀ s,s∈x'↔s∈x) (hu:∀ i j,i≤j→j < x'.length→fr x' i≤fr x' j):SortOf ls x':=by
 refine ⟨⟨fun i hi=>h.ticks _ ((hm _).1 (mem_fr hi)),hu⟩,fun t=>?_,by have:=h.len;omega⟩;rw [low_mem hm,h.low]
 constructor
 ·rintro (c | c)
  ·exact c
  ·simp at c;exact absurd c low_nil
 ·exact .inl
def Gives (w:World) (P:List S2→Prop) (e:Ending) (w':World):Prop:=∃ v x,e = .returned v∧Sp w' v x∧P x∧Below w.heap.size w w'
def SRel (w:World) (ls:List (List S2)) (v:Value) (k j:Nat) (wr:World):Prop:=∃ x,Sp.Own wr w.heap.size 105 v x∧Acc ls k j x∧Below w.heap.size w wr
set_option maxHeartbeats 1000000 in
theorem sorted_any (w:World) (v:Value) (ls:List (List S2)) (h:Rows w v ls) (hlen:tot ls ls.length < 1099511627776):Calls Tryz.prog 83 #[v] w (Gives w (SortOf ls)):=by
 obtain ⟨a,cap,rfl,h1,h2,h3⟩:=h;have H3:=Lib.hid h3;have HT:=Lib.hid hlen;clear h3 hlen;generalize hn:ls.length=n at *;have HN:=Lib.hid hn;clear hn;unfold maxLen at h2
 go_enter Tryz.func83,Tryz.ntmps83
 go_wp2
 go_loopw [3,10] (fun v i wr=>∃ k:Nat,k≤n∧i = .int .i64 k∧SRel w ls v k 0 wr) (fun _ i _=>n - (intOf i).toNat)
 case atStart=>exact ⟨0,Nat.zero_le _,rfl,[],Sp.Own.nil _ _ _,Acc.zero ls,Below.refl _ _⟩
 case round =>
  obtain ⟨k,hk,rfl,x,hown,hacc,hb⟩:=hrel;have HA:=Lib.hid hacc;clear hacc
  by_cases hlt:k < n
  ·obtain ⟨b,off,rfl,hrows⟩:=H3.out (by omega)
   obtain ⟨u,c1,hu⟩:=hrows k (by have:=HN.out;omega);have HR:=Lib.hid hrows;clear hrows;have d1:=(hb.cell (World.block_lt_of_cell? _ _ c1)).trans c1;clear c1;obtain ⟨ra,rcap,rfl,r1,r2,r3⟩:=hu;have R3:=Lib.hid r3;clear r3;generalize hm:(ls.getD k []).length=m at *;have HM:=Lib.hid hm;clear hm;unfold maxLen at r2;obtain ⟨wo,rfl⟩:∃ wo:World,wo=wr:=⟨_,rfl⟩;have hw:SRel w ls _ k 0 wo:=⟨x,hown,HA.out,hb⟩;have HW:=Lib.hid hw;clear hw hown hb;have TB:Hid (tot ls k+m≤1099511627775):=by
    have e:=tot_mono ls (show k+1≤ls.length by have:=HN.out;omega);have e2:tot ls (k+1)=tot ls k+(ls.getD k []).length:=rfl;have:=HT.out;have:=HM.out;have:=HN.out
    show tot ls k+m≤1099511627775
    subst n
    omega
   go_wp2
   go_loopw [3,16] (fun v i wr=>∃ j:Nat,j≤m∧i = .int .i64 j∧SRel w ls v k j wr) (fun _ i _=>m - (intOf i).toNat)
   case atStart=>exact ⟨0,Nat.zero_le _,rfl,HW.out⟩
   case round =>
    obtain ⟨j,hj,rfl,y,hown,hacc,hb⟩:=hrel;have hB:=hb.size;have hyl:=hacc.len;have HAY:=Lib.hid hacc;clear hacc
    by_cases hltj:j < m
    ·obtain ⟨b',off',rfl,hA⟩:=R3.out (by omega)
     obtain ⟨c1,c2⟩:=hA j (by have:=HM.out;omega);have HAt:=Lib.hid hA;clear hA;have e1:=(hb.cell (World.block_lt_of_cell? _ _ c1)).trans c1;have e2:=(hb.cell (World.block_lt_of_cell? _ _ c2)).trans c2;clear c1 c2
     by_cases ht:fr (ls.getD k []) j < tp (ls.getD k []) j
     ·have PU:=Lib.hid (HAY.out.push (by have:=HM.out;omega) ht)
      generalize fr (ls.getD k []) j=p at *;generalize tp (ls.getD k []) j=q at *;have HT:=Lib.hid ht;clear ht;go_wp2_with fail;refine (at_bool (decide_eq_true HT.out) (ticks_any _ _ _)).mono ?_;rintro e w1 ⟨rfl,b1⟩;have f1:w1.cell? ⟨wr.heap.size,0,none⟩=some (.int .i64 p):=(b1.cell (by simp)).trans (by go_simp);have f2:w1.cell? ⟨wr.heap.size,1,none⟩=some (.int .i64 q):=(b1.cell (by simp)).trans (by go_simp);have z1:=b1.size
      simp at z1
      have hown1:=(hown.alloc (.cells #[.int .i64 p,.int .i64 q] 105)).keep b1;have hb1:=(hb.alloc hB (.cells #[.int .i64 p,.int .i64 q] 105)).trans (b1.mono (B':=w.heap.size) (by simp;omega));clear hown hb b1
      go_wp2_with (at_builtin;refine push_step rfl _ _ rfl w.heap.size _ _ rfl (hown1.alloc _) _ p q rfl ?c1 ?c2 ?c3 ?c4 ?_)
      case c1=>go_simp
      case c2=>go_simp
      case c3=>have:=TB.out;omega
      case c4=>simp;omega
      intro v' w2 hown2 hb2
      have R:SRel w ls v' k (j+1) w2:=⟨_,hown2,PU.out,(hb1.alloc (by omega) _).trans hb2⟩;clear hown2 hb2 hown1 hb1 f1 f2;go_wp2
      go_roundw
      case rel=>exact ⟨j+1,by omega,by go_num,R⟩
      case measure=>simp [intOf];omega
     ·have PU:=Lib.hid (HAY.out.skip (by have:=HM.out;omega) ht)
      generalize fr (ls.getD k []) j=p at *;generalize tp (ls.getD k []) j=q at *;have HT:=Lib.hid ht;clear ht;go_wp2_with fail;refine (at_bool (decide_eq_false (show ¬ p < q by have:=HT.out;omega)) (ticks_any _ _ _)).mono ?_;rintro e w1 ⟨rfl,b1⟩;have R:SRel w ls _ k (j+1) w1:=⟨_,(hown.alloc (.cells #[.int .i64 p,.int .i64 q] 105)).keep b1,PU.out,(hb.alloc hB (.cells #[.int .i64 p,.int .i64 q] 105)).trans (b1.mono (B':=w.heap.size) (by simp;omega))⟩;clear hown hb b1;go_wp2
      go_roundw
      case rel=>exact ⟨j+1,by omega,by go_num,R⟩
      case measure=>simp [intOf];omega
    ·obtain rfl:j=m:=by omega
     have R:SRel w ls _ (k+1) 0 wr:=⟨_,hown,(by have:=HAY.out;rw [← HM.out] at this;exact this.next),hb⟩;clear hown hb;go_wp2
     go_roundw
     case rel=>exact ⟨k+1,by omega,by go_num,R⟩
     case measure=>simp [intOf];omega
  ·obtain rfl:k=n:=by omega
   have hxl:x.length < 1099511627776:=by have:=HA.out.len;have:=HT.out;omega
   have hs:=sort_any wr w.heap.size _ x hown hxl;have HS:=Lib.hid hs;clear hs;go_wp2_with fail;refine HS.out.mono ?_;rintro e w1 ⟨rfl,hst⟩;have ST:=Lib.hid hst;clear hst;go_wp2
   go_ret
   obtain ⟨x',s1,s2,s3,s4,s5⟩:=ST.out;exact ⟨_,x',rfl,s1,SortOf.of (by rw [HN.out];exact HA.out) s2 s3 s4,hb.trans s5⟩
structure JoinOf (ls:List (List S2)) (l:List S2):Prop where
 plain:Plain l
 low:∀ t,Low l t↔∃ i,i < ls.length∧Low (ls.getD i []) t
 len:l.length≤tot ls ls.length
structure JRel (w w1:World) (S:List S2) (v:Value) (k:Nat) (l:List S2) (wr:World):Prop where
 own:Sp.Own wr w1.heap.size 105 v l
 inv:JoinInv S k l
 len:l.length≤k
 bel1:Below w1.heap.size w1 wr
 bel:Below w.heap.size w w1
theorem own_low {w:World} {B B' E:Nat} {v:Value} {l:List S2} (h:Sp.Own w B E v l) (hB:B'≤B):Sp.Own w B' E v l:=by
 obtain ⟨h1,h2⟩:=h;refine ⟨h1,?_⟩
 rcases h2 with h2 | ⟨g,cap,cur,e,hg,r⟩
 ·exact .inl h2
 ·exact .inr ⟨g,cap,cur,e,by omega,r⟩
theorem snoc_of {l:List S2} {m:Nat} (h:l.length=m+1):l=l.take m ++ [(fr l m,tp l m)]:=by
 have e:=take_snoc (S:=l) (k:=m) (by omega);rw [← e,← h,List.take_length]
theorem set_last {l:List S2} {m:Nat} (h:l.length=m+1) (x:Int):l.set m (fr l m,x)=l.take m ++ [(fr l m,x)]:=by
 have e:=snoc_of h;have hm:(l.take m).length=m:=by simp;omega
 generalize fr l m=p at *;generalize tp l m=q at *;generalize l.take m=t at *;subst e;rw [List.set_append_right _ _ (by omega),hm]
 simp
theorem JRel.push {w w1 wr w2:World} {S l:List S2} {v v':Value} {k:Nat} (h:JRel w w1 S v k l wr) (hS:Srt S) (hk:k < S.length) (hl:l = []∨lastc l < fr S k) (hown:Sp.Own w2 w1.heap.size 105 v' (l ++ [(fr S k,tp S k)])) (hb:Below w1.heap.size w1 w2):JRel w w1 S v' (k+1) (l ++ [(fr S k,tp S k)]) w2:=by
 refine ⟨hown,h.inv.push hS hk fun x hx=>?_,by have:=h.len;simp;omega,hb,h.bel⟩
 rcases hl with e | e
 ·rw [e] at hx;simp at hx
 ·have:=lastc_le h.inv.plain x hx;omega
theorem JRel.grow {w w1 wr w2:World} {S l:List S2} {v:Value} {k m:Nat} (h:JRel w w1 S v k l wr) (hk:k < S.length) (hm:l.length=m+1) (hl:fr S k≤tp l m) (hown:Sp.Own w2 w1.heap.size 105 v (l.set m (fr l m,max (tp l m) (tp S k)))) (hb:Below w1.heap.size w1 w2):JRel w w1 S v (k+1) (l.set m (fr l m,max (tp l m) (tp S k))) w2:=by
 refine ⟨hown,?_,by have:=h.len;simp;omega,hb,h.bel⟩;have e:=snoc_of hm;have inv:=h.inv;rw [e] at inv;have g:=inv.grow hk hl (max (tp l m) (tp S k)) (by omega);rw [set_last hm];exact g
set_option maxHeartbeats 1000000 in
theorem join_any (w:World) (v:Value) (ls:List (List S2)) (h:Rows w v ls) (hlen:tot ls ls.length < 1099511627776):Calls Tryz.prog 41 #[v] w (Made w (JoinOf ls)):=by
 have hs:=sorted_any w v ls h hlen;have HS:=Lib.hid hs;obtain ⟨a,cap,rfl,_,_,_⟩:=h;have HT:=Lib.hid hlen;clear hs hlen;generalize hn:ls.length=n at *;have HN:=Lib.hid hn;clear hn
 go_enter Tryz.func41,Tryz.ntmps41
 go_wp2_with fail;refine HS.out.mono ?_;rintro e w1 ⟨v1,S,rfl,hSp,hSo,hb0⟩;obtain ⟨a1,cap1,rfl,r1,r2,r3⟩:=hSp;have R3:=Lib.hid r3;have SO:=Lib.hid hSo;clear r3 hSo;generalize hm:S.length=n1 at *;have HM:=Lib.hid hm;clear hm;unfold maxLen at r2;have hz0:=hb0.size;go_wp2
 go_loopw [3,10] (fun v i wr=>∃ (k:Nat) (l:List S2),k≤n1∧i = .int .i64 k∧JRel w w1 S v k l wr) (fun _ i _=>n1 - (intOf i).toNat)
 case atStart=>exact ⟨0,[],Nat.zero_le _,rfl,Sp.Own.nil _ _ _,JoinInv.zero S,by simp,Below.refl _ _,hb0⟩
 case round =>
  obtain ⟨k,l,hk,rfl,hR⟩:=hrel;have HR:=Lib.hid hR;have hb:=hR.bel1;have hB:=hb.size;have hlk:=hR.len;clear hR
  by_cases hlt:k < n1
  ·obtain ⟨b,off,rfl,hA⟩:=R3.out (by omega)
   obtain ⟨c1,c2⟩:=hA k (by have:=HM.out;omega);have HA:=Lib.hid hA;clear hA;have d1:=(hb.cell (World.block_lt_of_cell? _ _ c1)).trans c1;have d2:=(hb.cell (World.block_lt_of_cell? _ _ c2)).trans c2;clear c1 c2;have TB:Hid (l.length < 1099511627776):=by
    have:=SO.out.len;have:=HT.out;have:=HM.out;have:=HN.out
    show l.length < 1099511627776
    subst n
    omega
   rcases Nat.eq_zero_or_pos l.length with z | z
   ·have NX:=fun v' w2 (h1:Sp.Own w2 w1.heap.size 105 v' (l ++ [(fr S k,tp S k)])) (h2:Below w1.heap.size w1 w2)=>HR.out.push SO.out.srt (by have:=HM.out;omega) (.inl (List.length_eq_zero_iff.1 z)) h1 h2
    have NX:=Lib.hid NX;obtain ⟨a3,cap3,rfl,_,_⟩:=HR.out.own.slice;generalize hl:l.length=len at *;have HL:=Lib.hid hl;clear hl;subst z;generalize hp:fr S k=p at *;generalize hq:tp S k=q at *;go_wp2
    go_quiet (fail)
    have hown:=((HR.out.own.alloc (.cells #[.int .i64 p,.int .i64 q] 105)).draw nq)
    go_wp2_with (at_builtin;refine push_step rfl _ _ rfl w1.heap.size _ _ rfl (hown.alloc _) _ p q rfl ?c1 ?c2 ?c3 ?c4 ?_)
    case c1=>go_simp
    case c2=>go_simp
    case c3=>have:=HL.out;omega
    case c4=>simp;omega
    intro v' w2 hown2 hb2
    have R:=NX.out v' w2 hown2 ((below_drewN (hb.alloc hB _) nq).alloc (by simp;omega) _ |>.trans hb2);clear hown2 hb2 hown;go_wp2
    go_roundw
    case rel=>exact ⟨k+1,_,by omega,by go_num,R⟩
    case measure=>simp [intOf];omega
   ·obtain ⟨m,hm1⟩:∃ m,l.length=m+1:=⟨l.length - 1,by omega⟩
    obtain ⟨g,cap3,rfl,g1,g2,_,_,_,hcells⟩:=HR.out.own.form z;obtain ⟨e0,e1,_,f1⟩:=hcells m (by omega);clear hcells z;have hlc:lastc l=tp l m:=by rw [lastc_tp l (by omega),hm1];rfl
    by_cases hle:fr S k≤tp l m
    ·have NX:=fun w2 h1 h2=>HR.out.grow (w2:=w2) (by have:=HM.out;omega) hm1 hle h1 h2
     have NX:=Lib.hid NX;have OW:=Lib.hid HR.out.own;have ST:=Lib.hid (fun (W:World) (h:Sp.Own W w1.heap.size 105 (.slice (some ⟨g,0,none⟩) l.length cap3) l)=>h.set m (by omega) (max (tp l m) (tp S k)));generalize hl:l.length=len at *;have HL:=Lib.hid hl;clear hl;subst hm1;clear hlc;generalize hp:fr S k=p at *;generalize hq:tp S k=q at *;generalize hp':fr l m=p' at *;generalize hq':tp l m=q' at *;go_wp2
     go_quiet (fail)
     go_wp2;have x0:((wr.alloc (.cells #[.int .i64 p,.int .i64 q] 105)).drewN nq).cell? ⟨wr.heap.size,1,none⟩=some (.int .i64 q):=by go_simp
     have x1:((wr.alloc (.cells #[.int .i64 p,.int .i64 q] 105)).drewN nq).cell? ⟨g,m * 2+1,none⟩=some (.int .i64 q'):=by go_simp
     have x2:((wr.alloc (.cells #[.int .i64 p,.int .i64 q] 105)).drewN nq).frozen? ⟨g,m * 2+1,none⟩=false:=by go_simp
     generalize hwq:(wr.alloc (.cells #[.int .i64 p,.int .i64 q] 105)).drewN nq=wq at x0 x1 x2 ⊢;have HWQ:=Lib.hid hwq;clear hwq
     go_region
     have OQ:Hid (Sp.Own wq w1.heap.size 105 (.slice (some ⟨g,0,none⟩) (m+1) cap3) l):=by
      rw [← HWQ.out];exact (OW.out.alloc _).draw nq
     have BQ:Hid (Below w1.heap.size w1 wq):=by
      rw [← HWQ.out];exact below_drewN (hb.alloc hB _) nq
     have R:=NX.out _ (show Sp.Own ((wq.setCell ⟨g,m * 2+1,none⟩ (.int .i64 (max q' q))).drew) _ _ _ _ from ST.out wq OQ.out) ((BQ.out.setCell (p:=⟨g,m * 2+1,none⟩) g1 _).drew);have R':=Lib.hid R;clear R x0 x1 x2;go_wp2
     go_roundw
     case rel=>exact ⟨k+1,_,by omega,by go_num,R'.out⟩
     case measure=>simp [intOf];omega
    ·have NX:=fun v' w2 (h1:Sp.Own w2 w1.heap.size 105 v' (l ++ [(fr S k,tp S k)])) (h2:Below w1.heap.size w1 w2)=>HR.out.push SO.out.srt (by have:=HM.out;omega) (.inr (by omega)) h1 h2
     have NX:=Lib.hid NX;have OW:=Lib.hid HR.out.own;generalize hl:l.length=len at *;have HL:=Lib.hid hl;clear hl;subst hm1;clear hlc;generalize hp:fr S k=p at *;generalize hq:tp S k=q at *;generalize hq':tp l m=q' at *;go_wp2
     go_quiet (fail)
     have hown:=((OW.out.alloc (.cells #[.int .i64 p,.int .i64 q] 105)).draw nq)
     go_wp2_with (at_builtin;refine push_step rfl _ _ rfl w1.heap.size _ _ rfl (hown.alloc _) _ p q rfl ?c1 ?c2 ?c3 ?c4 ?_)
     case c1=>go_simp
     case c2=>go_simp
     case c3=>have:=HL.out;have:=TB.out;omega
     case c4=>simp;omega
     intro v' w2 hown2 hb2
     have R:=NX.out v' w2 hown2 ((below_drewN (hb.alloc hB _) nq).alloc (by simp;omega) _ |>.trans hb2);clear hown2 hb2 hown;go_wp2
     go_roundw
     case rel=>exact ⟨k+1,_,by omega,by go_num,R⟩
     case measure=>simp [intOf];omega
  ·obtain rfl:k=n1:=by omega
   have inv:=HR.out.inv;rw [← HM.out] at inv;have al:=inv.all;have J:JoinOf ls l:=⟨al.1,fun t=>(al.2 t).trans (SO.out.low t),by have:=SO.out.len;have:=HM.out;omega⟩;have JJ:=Lib.hid J;have OW:=Lib.hid (own_low HR.out.own hz0);have BB:=Lib.hid (HR.out.bel.trans (hb.mono hz0));clear inv al J;go_wp2
   go_ret
   exact ⟨_,l,rfl,OW.out,JJ.out,BB.out⟩
end Go.Proofs.YtpkipilggkbkeaaGreatDoor.Wi
namespace Go.Proofs.YtpkipilggkbkeaaGreatDoor.Wi
open Go.RowKit Go.Proofs.YtpkipilggkbkeaaGreatDoor.Sp
theorem wp_all {w:World} {o:Oper} {a:Act} {KK:Act→World→Prop} {Q:Exit→Act→World→Prop} (s x:Operand)
 (ho:o.op = .call { callee:=.builtin .append,args:=#[s,x],argTypes:=#[47,47] }) (B:Nat) (v:Value) (l:List S2) (hs:a.eval s=v) (hown:Sp.Own w B 105 v l)
 (B':Nat) (u:Value) (y:List S2) (hx:a.eval x=u) (hu:Sp.Own w B' 105 u y) (hlen:l.length+y.length < 4398046511104) (hB:B≤w.heap.size)
 (h:∀ v' w',Sp.Own w' B 105 v' (l ++ y)→Below B w w'→KK (a.put o.dst v') w'):o.wp Tryz.prog a w KK Q:=by
 obtain ⟨i0,hi,hz0,hz1,hz2⟩:=info_parts infoS;have hcells:=fun g hg j u=>World.ownsRow.cells hu (g:=g) hg j u;obtain ⟨hul,hu2⟩:=hu
 rcases hu2 with ⟨rfl,h0⟩ | ⟨g,cap,cur,rfl,_,_,_,_,_,_⟩
 ·have ey:y = []:=List.length_eq_zero_iff.1 h0
  have hrun:=run_append_owned_none (P:=Tryz.prog) (w:=w) B 47 o.type 105 i0 2 Tryz.underlying47 hi v l.length (flat l) hown;unfold Oper.wp;have hk:=h v w (by rw [ey,List.append_nil];exact hown) (Below.refl _ _)
  simp [execOp,ho,resolve,invoke,builtin,hs,hx,hrun,Result.andThen]
  exact hk
 ·refine wp_append_own _ s x 47 ho B 105 i0 (.agg #[.int .i64 0,.int .i64 0]) 2 16 Tryz.underlying47 hi hz0 hz1 hz2 rfl (by decide) v l.length (flat l) hs hown ⟨g,0,none⟩ y.length cap (flat y) hx (flat_length y) ?_ (flat_one y) ?_ ?_ hB ?_
  ·exact fun j u hj=>hcells g rfl j u hj
  ·unfold maxLen;omega
  ·omega
  ·intro v' w' h2 h3 _
   refine h v' w' ?_ ((Below.refl B w).grown h3 hB fun k hk=>(World.ownsRow.lt hown k hk).1)
   show w'.ownsRow B 105 2 v' (l ++ y).length (flat (l ++ y))
   rw [flat_append,List.length_append];exact h2
theorem all_step {w:World} {ops:Array Oper} {rest:List Oper} {o:Oper} {a:Act} {Q:Exit→Act→World→Prop} (hgd:Region.wanted o (yielded ops a.tmps)=true) (s x:Operand)
 (ho:o.op = .call { callee:=.builtin .append,args:=#[s,x],argTypes:=#[47,47] }) (B:Nat) (v:Value) (l:List S2) (hs:a.eval s=v) (hown:Sp.Own w B 105 v l)
 (B':Nat) (u:Value) (y:List S2) (hx:a.eval x=u) (hu:Sp.Own w B' 105 u y) (hlen:l.length+y.length < 4398046511104) (hB:B≤w.heap.size)
 (h:∀ v' w',Sp.Own w' B 105 v' (l ++ y)→Below B w w'→wpList Tryz.prog ops Q rest (a.put o.dst v') w'):wpList Tryz.prog ops Q (o :: rest) a w :=
 BigFrame.wpList_want hgd fun _ hK=>wp_all s x ho B v l hs hown B' u y hx hu hlen hB fun v' w' h1 h2=>hK _ _ (h v' w' h1 h2)
end Go.Proofs.YtpkipilggkbkeaaGreatDoor.Wi
namespace Go.Proofs.YtpkipilggkbkeaaGreatDoor.Bu
open Go.RowKit
open Sp (S2 fr tp Sp)
open Rw (Rd Ow At)
open Wi (Plain PlainOf Low low_nil low_append low_cons Rows tot JoinOf Near)
open Ck (Hd sl zh KS)
structure HdI (w:World) (v:Value) (hs:List Hd) (ls:List (List S2)) (Q:Int→Prop) (k:Nat) (wr:World):Prop where
 own:Ow KS wr w.heap.size 47 v hs
 el:∀ i,i < hs.length→Sp.Own wr w.heap.size 105 (sl (hs.getD i zh)) (ls.getD i [])
 ll:ls.length=hs.length
 few:∀ i,i < ls.length→(ls.getD i []).length≤4294967297
 low:∀ u,(∃ i,i < ls.length∧Low (ls.getD i []) u)↔Q u
 len:hs.length≤k
 bel:Below w.heap.size w wr
section
variable {w wr w':World} {v v':Value} {hs:List Hd} {ls:List (List S2)} {Q Q':Int→Prop} {k:Nat}
theorem HdI.start (w:World) (b:Below w.heap.size w wr) (hQ:∀ u,¬ Q u):HdI w (.slice none 0 0) [] [] Q 0 wr :=
 ⟨Ow.nil _ _ _,fun _ hi=>absurd hi (Nat.not_lt_zero _),rfl,fun _ hi=>absurd hi (Nat.not_lt_zero _),fun u=>⟨fun ⟨_,hi,_⟩=>absurd hi (Nat.not_lt_zero _),fun h=>absurd h (hQ u)⟩,Nat.le_refl _,b⟩
theorem HdI.below (h:HdI w v hs ls Q k wr) (b:Below wr.heap.size wr w'):HdI w v hs ls Q k w':=⟨h.own.keep b,fun i hi=>(h.el i hi).keep b,h.ll,h.few,h.low,h.len,h.bel.trans (b.mono h.bel.size)⟩
theorem HdI.to (h:HdI w v hs ls Q k wr) (e:∀ u,Q' u↔Q u):HdI w v hs ls Q' (k+1) wr:=⟨h.own,h.el,h.ll,h.few,fun u=>(h.low u).trans (e u).symm,Nat.le_succ_of_le h.len,h.bel⟩
theorem own_grown {B E B' E' n m:Nat} {l:List S2} {f:List Value} (h:Sp.Own wr B E v l) (h':wr.ownsRow B' E' n v' m f) (hE:E≠E') (gr:wr.grownBy w' v'.ownBlock):Sp.Own w' B E v l:=by
 obtain ⟨h1,h2⟩:=h;refine ⟨h1,?_⟩
 rcases h2 with h2 | ⟨g,cap,cur,e,hB,hh,r⟩
 ·exact .inl h2
 ·refine .inr ⟨g,cap,cur,e,hB,(gr.block g (lt_of_block hh) fun q=>?_).trans hh,r⟩
  obtain ⟨_,h'⟩:=h'
  rcases h' with ⟨rfl,_⟩ | ⟨g',cap',cur',rfl,_,hh',_⟩
  ·cases q
  ·simp only [Value.ownBlock,Option.some.injEq] at q
   subst q;rw [hh] at hh';simp only [Option.some.injEq,Obj.cells.injEq] at hh';exact hE hh'.2.1
theorem getD_snoc {α:Type} (l:List α) (x d:α) (i:Nat):(l ++ [x]).getD i d=if i < l.length then l.getD i d else if i=l.length then x else d:=by
 rw [List.getD_eq_getElem?_getD,List.getElem?_append]
 split
 ·rw [List.getD_eq_getElem?_getD]
 ·split
  ·rename_i h;subst h;simp
  ·rw [List.getElem?_eq_none (by simp;omega)];rfl
theorem HdI.push {h:Hd} {l:List S2} (I:HdI w v hs ls Q k wr) (o:Sp.Own wr w.heap.size 105 (sl h) l) (hf:l.length≤4294967297) (own:Ow KS w' w.heap.size 47 v' (hs ++ [h])) (gr:wr.grownBy w' v.ownBlock) (hQ:∀ u,Q' u↔Q u∨Low l u) :
 HdI w v' (hs ++ [h]) (ls ++ [l]) Q' (k+1) w':=by
 refine ⟨own,fun i hi=>?_,by simp [I.ll],fun i hi=>?_,fun u=>?_,by simp;exact I.len,I.bel.grown gr I.bel.size fun j e=>(World.ownsRow.lt I.own j e).1⟩
 ·rw [getD_snoc,getD_snoc,I.ll]
  simp only [List.length_append,List.length_singleton] at hi
  split
  ·rename_i q;exact own_grown (I.el i q) I.own (by decide) gr
  ·rw [if_pos (by omega),if_pos (by omega)]
   exact own_grown o I.own (by decide) gr
 ·rw [getD_snoc]
  split
  ·rename_i q;exact I.few i q
  ·split
   ·exact hf
   ·exact Nat.zero_le _
 ·rw [hQ u,← I.low u]
  constructor
  ·rintro ⟨i,hi,c⟩
   rw [getD_snoc] at c
   split at c
   ·rename_i q;exact .inl ⟨i,q,c⟩
   ·split at c
    ·exact .inr c
    ·exact absurd c low_nil
  ·rintro (⟨i,hi,c⟩ | c)
   ·exact ⟨i,by simp;omega,by rw [getD_snoc,if_pos hi];exact c⟩
   ·exact ⟨ls.length,by simp,by rw [getD_snoc,if_neg (Nat.lt_irrefl _),if_pos rfl];exact c⟩
theorem HdI.rows (I:HdI w v hs ls Q k wr):Wi.Rows wr v ls:=by
 obtain ⟨a,cap,e,h1,h2,h3⟩:=I.own.rd;rw [← I.ll] at e h1 h3;refine ⟨a,cap,e,h1.1,h2,fun hp=>?_⟩;obtain ⟨b,off,ea,hA⟩:=h3 hp;refine ⟨b,off,ea,fun i hi=>⟨_,?_,(I.el i (by rw [← I.ll];exact hi)).sp⟩⟩;have c:=hA i (by rw [← I.ll];exact hi) 0 _ rfl;simp only [KS,Nat.mul_one,Nat.add_zero] at c;exact c
theorem tot_few (ls:List (List S2)) (h:∀ i,i < ls.length→(ls.getD i []).length≤4294967297):∀ n,n≤ls.length→tot ls n≤n * 4294967297
 | 0,_=>Nat.le_refl _
 | n+1,hn=>by
   have:=tot_few ls h n (by omega);have:=h n (by omega)
   show tot ls n+_≤_
   omega
theorem HdI.tot (I:HdI w v hs ls Q k wr) (hk:k≤100):tot ls ls.length < 1099511627776:=by
 have:=tot_few ls I.few ls.length (Nat.le_refl _);have:=I.ll;have:=I.len
 omega
theorem HdI.join (I:HdI w v hs ls Q k wr) {x:List S2} (j:JoinOf ls x):Plain x∧∀ u,Low x u↔Q u:=⟨j.plain,fun u=>(j.low u).trans (I.low u)⟩
theorem HdI.slice (I:HdI w v hs ls Q k wr):∃ a cap,v = .slice a hs.length cap∧cap≤maxLen:=by
 obtain ⟨a,cap,e,_,h⟩:=I.own.slice;exact ⟨a,cap,e,h⟩
end
theorem infoP:(Tryz.prog.info? 47).map (fun i=>(i.zero,i.size,i.bytes))=some (some (.slice none 0 0),1,24):=by kernel_rfl
structure CtI (w:World) (v:Value) (l:List S2) (Q:Int→Prop) (n:Nat) (wr:World):Prop where
 own:Sp.Own wr w.heap.size 105 v l
 near:Near l
 low:∀ u,Low l u↔Q u
 len:l.length≤n * 4294967297
 bel:Below w.heap.size w wr
section
variable {w wr w':World} {v v':Value} {l x:List S2} {Q Q':Int→Prop} {n:Nat}
theorem CtI.start (w:World) (hQ:∀ u,¬ Q u):CtI w (.slice (some ⟨w.heap.size,0,none⟩) 0 0) [] Q n (w.alloc (.cells #[] 105)) :=
 ⟨Sp.Own.made _ _ _ (Nat.le_refl _),⟨fun _ hi=>absurd hi (Nat.not_lt_zero _),fun _ hi=>absurd hi (Nat.not_lt_zero _),fun _ hi=>absurd hi (Nat.not_lt_zero _),fun _ hi=>absurd hi (Nat.not_lt_zero _)⟩,fun u=>⟨fun h=>absurd h low_nil,fun h=>absurd h (hQ u)⟩,Nat.zero_le _,(Below.refl _ _).alloc (Nat.le_refl _) _⟩
theorem CtI.below (h:CtI w v l Q n wr) (b:Below wr.heap.size wr w'):CtI w v l Q n w':=⟨h.own.keep b,h.near,h.low,h.len,h.bel.trans (b.mono h.bel.size)⟩
theorem CtI.to (h:CtI w v l Q n wr) (e:∀ u,Q' u↔Q u):CtI w v l Q' (n+1) wr:=⟨h.own,h.near,fun u=>(h.low u).trans (e u).symm,Nat.le_trans h.len (Nat.mul_le_mul_right _ (Nat.le_succ n)),h.bel⟩
theorem CtI.more (h:CtI w v l Q n wr) (o:Sp.Own w' w.heap.size 105 v' (l ++ x)) (nx:Near x) (b:Below w.heap.size wr w') (hx:x.length≤4294967297) (hQ:∀ u,Q' u↔Q u∨Low x u):CtI w v' (l ++ x) Q' (n+1) w' :=
 ⟨o,near_append h.near nx,fun u=>by rw [low_append,h.low u];exact (hQ u).symm,by rw [List.length_append,Nat.succ_mul];exact Nat.add_le_add h.len hx,h.bel.trans b⟩
end
end Go.Proofs.YtpkipilggkbkeaaGreatDoor.Bu
namespace Go.Proofs.YtpkipilggkbkeaaGreatDoor.Tk
open Go.RowKit
structure Bd (A R:Nat→Int) (n k:Nat):Prop where
 f0:0≤fr A k
 f1:fr A k≤4294967296
 r0 : -20000≤rt R k
 r1:rt R k≤20000
 s0:0≤sm A R k
 s1:sm A R k≤4380866641920
theorem Bd.of {A R:Nat→Int} {n:Nat} (g:GoodP n A R) (k:Nat) (h:k≤n):0≤sm A R k∧sm A R k≤4380866641920000:=by
 have f:=fr_bd g k h;have s:=sm_bd g k h
 omega
theorem mul_rt {A R:Nat→Int} {n:Nat} (g:GoodP n A R) (k:Nat) (h:k≤n) (d:Int) (h0:0≤d) (h1:d≤4294967296):0≤d * (1000000+rt R k)∧d * (1000000+rt R k)≤4380866641920000:=by
 have b:=rt_bd g k h;have m:=mul_bd (d:=d) (c:=1000000+rt R k) h0 (by omega) (by omega)
 omega
theorem parts_none (w:World) (a:Option Addr) (cap:Nat) (t:Int) (h0:0≤t) (h1:t≤4294967296) (A R:Nat→Int):Calls Tryz.prog 139 #[.slice a 0 cap,.int .i64 t] w fun e w'=>e = .returned (.int .i64 (PP A R 0 t))∧Below w.heap.size w w':=by
 have e:PP A R 0 t=t * 1000000:=by
  rw [PP_eq (⟨Nat.le_refl _,fun i h=>by omega,fun h=>by omega⟩:AtStop A 0 t 0)]
  show 0+(t - 0) * (1000000+0)=_
  omega
 rw [e]
 go_enter Tryz.func139,Tryz.ntmps139
 go_wp2
 go_loopw [5,6,7,12] (fun s f r i wr=>i = .int .i64 0∧s = .int .i64 0∧f = .int .i64 0∧r = .int .i64 0∧Below w.heap.size w wr) (fun _ _ _ _ _=>0)
 case atStart=>exact ⟨rfl,rfl,rfl,rfl,Below.refl _ _⟩
 case round =>
  obtain ⟨rfl,rfl,rfl,rfl,hb⟩:=hrel;go_wp2
  go_ret
  exact ⟨ret_int (by omega),hb⟩
set_option maxHeartbeats 400000 in
theorem parts_some (w:World) (b off n cap:Nat) (A R:Nat→Int) (g:GoodP n A R) (t:Int) (h0:0≤t) (h1:t≤4294967296)
 (hc:∀ i,i < n→w.cell? ⟨b,off+i * 2,none⟩=some (.int .i64 (A i))∧w.cell? ⟨b,off+i * 2+1,none⟩=some (.int .i64 (R i))) :
 Calls Tryz.prog 139 #[.slice (some ⟨b,off,none⟩) n cap,.int .i64 t] w fun e w'=>e = .returned (.int .i64 (PP A R n t))∧Below w.heap.size w w':=by
 have HC:=Lib.hid hc;clear hc;have G:=Lib.hid g;clear g;have hn:n≤64:=G.out.len
 go_enter Tryz.func139,Tryz.ntmps139
 go_wp2
 go_loopw [5,6,7,12] (fun s f r i wr=>∃ k:Nat,k≤n∧i = .int .i64 k∧s = .int .i64 (sm A R k)∧f = .int .i64 (fr A k)∧r = .int .i64 (rt R k)∧Hid (∀ i,i < k→A i < t)∧Below w.heap.size w wr) (fun _ _ _ i _=>n - (intOf i).toNat)
 case atStart=>exact ⟨0,Nat.zero_le _,rfl,rfl,rfl,rfl,fun i h=>by omega,Below.refl _ _⟩
 case round =>
  obtain ⟨k,hk,rfl,rfl,rfl,rfl,hs,hb⟩:=hrel;have fb:=fr_bd G.out k hk;have rb:=rt_bd G.out k hk;have sb:=Bd.of G.out k hk
  by_cases hlt:k < n
  ·obtain ⟨c1,c2⟩:=HC.out k hlt
   have d1:=(hb.cell (World.block_lt_of_cell? _ _ c1)).trans c1;have d2:=(hb.cell (World.block_lt_of_cell? _ _ c2)).trans c2;clear c1 c2;have ab:=G.out.at_ k hlt;have fa:=fr_le G.out k hlt;have mb:=mul_rt G.out k hk (A k - fr A k) (by omega) (by omega)
   by_cases ht:t≤A k
   ·have hst:AtStop A n t k:=⟨hk,hs.out,fun _=>ht⟩
    have ft:=stop_fr h0 hst;have mc:=mul_rt G.out k hk (t - fr A k) (by omega) (by omega);have HP:=Lib.hid (PP_eq (R:=R) hst);clear hst;go_wp2
    go_ret
    exact ⟨ret_int (by rw [HP.out];rfl),hb.alloc hb.size _⟩
   ·go_wp2
    go_quiet (fail)
    go_wp2
    go_roundw
    case rel=>exact ⟨k+1,by omega,by go_num,rfl,rfl,rfl,(fun i hi=>by
     by_cases e:i=k
     ·subst e;omega
     ·exact hs.out i (by omega)),below_drewN (hb.alloc hb.size _) _⟩
    case measure=>simp [intOf];omega
  ·obtain rfl:k=n:=by omega
   have hst:AtStop A k t k:=⟨hk,hs.out,fun h=>by omega⟩;have ft:=stop_fr h0 hst;have mc:=mul_rt G.out k hk (t - fr A k) (by omega) (by omega);have HP:=Lib.hid (PP_eq (R:=R) hst);clear hst;go_wp2
   go_ret
   exact ⟨ret_int (by rw [HP.out];rfl),hb⟩
theorem parts_any (w:World) (v:Value) (n:Nat) (A R:Nat→Int) (h:Steps w v n A R) (g:GoodP n A R) (t:Int) (h0:0≤t) (h1:t≤4294967296) :
 Calls Tryz.prog 139 #[v,.int .i64 t] w fun e w'=>e = .returned (.int .i64 (PP A R n t))∧Below w.heap.size w w':=by
 rcases h with ⟨a,cap,rfl,_,rfl⟩ | ⟨b,off,cap,rfl,_,_,hc⟩
 ·exact parts_none w a cap t h0 h1 A R
 ·exact parts_some w b off n cap A R g t h0 h1 hc
theorem local_any (w:World) (v:Value) (n:Nat) (A R:Nat→Int) (h:Steps w v n A R) (g:GoodP n A R) (t:Int) :
 Calls Tryz.prog 107 #[v,.int .i64 t] w fun e w'=>e = .returned (.int .i64 (Loc A R n t))∧Below w.heap.size w w':=by
 have G:=Lib.hid g;clear g;have S:=Lib.hid h;clear h
 by_cases ht:t≤0
 ·have e:Loc A R n t=0:=by
   have c:clamp t=0:=by unfold clamp;split <;> (try split) <;> omega
   rw [Loc,c,PP_zero G.out];rfl
  have E:=Lib.hid e;clear e
  go_enter Tryz.func107,Tryz.ntmps107
  go_wp2
  go_ret
  exact ⟨ret_int E.out.symm,Below.refl _ _⟩
 ·by_cases hm:t≤4294967296
  ·have p:=parts_any w v n A R S.out G.out t (by omega) hm
   have mn:min t 4294967296=t:=Int.min_eq_left hm
   have pb:=PP_bd G.out t (by omega);have P:=Lib.hid p;clear p;have e:Loc A R n t=PP A R n t / 1000000:=by rw [Loc,clamp_id (by omega) hm]
   have E:=Lib.hid e;clear e
   go_enter Tryz.func107,Tryz.ntmps107
   go_wp2_with fail;refine P.out.mono ?_;rintro e w' ⟨rfl,hb⟩;go_wp2
   go_ret
   exact ⟨ret_int E.out.symm,hb⟩
  ·have p:=parts_any w v n A R S.out G.out 4294967296 (by omega) (by omega)
   have mn:min t 4294967296=4294967296:=by omega
   have pb:=PP_bd G.out 4294967296 (by omega);have P:=Lib.hid p;clear p;have e:Loc A R n t=PP A R n 4294967296 / 1000000:=by
    have c:clamp t=4294967296:=by unfold clamp;split <;> (try split) <;> omega
    rw [Loc,c]
   have E:=Lib.hid e;clear e
   go_enter Tryz.func107,Tryz.ntmps107
   go_wp2_with fail;refine P.out.mono ?_;rintro e w' ⟨rfl,hb⟩;go_wp2
   go_ret
   exact ⟨ret_int E.out.symm,hb⟩
end Go.Proofs.YtpkipilggkbkeaaGreatDoor.Tk
namespace Go.Proofs.YtpkipilggkbkeaaGreatDoor.Tk
open Go.RowKit
theorem three (t:Int):(t < 0∧clamp t=0)∨(0≤t∧4294967296 < t∧clamp t=4294967296)∨(0≤t∧t≤4294967296∧clamp t=t):=by
 unfold clamp;split
 ·exact .inl ⟨by omega,rfl⟩
 ·split
  ·exact .inr (.inl ⟨by omega,by omega,rfl⟩)
  ·exact .inr (.inr ⟨by omega,by omega,rfl⟩)
theorem rlocal_none_neg (w:World) (a:Option Addr) (cap:Nat) (t:Int) (ta:t < 0) (A R:Nat→Int):Calls Tryz.prog 73 #[.slice a 0 cap,.int .i64 t] w fun e w'=>e = .returned (.int .i64 (Loc A R 0 t))∧Below w.heap.size w w':=by
 have c:clamp t=0:=by unfold clamp;split <;> (try split) <;> omega
 have e:Loc A R 0 t=0:=by
  rw [Loc,c,PP_eq (⟨Nat.le_refl _,fun i h=>by omega,fun h=>by omega⟩:AtStop A 0 0 0)]
  show (0+(0 - 0) * (1000000+0)) / 1000000=_
  omega
 have E:=Lib.hid e;clear e;clear c
 go_enter Tryz.func73,Tryz.ntmps73
 go_wp2
 go_loopw [5,6,7,8] (fun s f r i wr=>i = .int .i64 0∧s = .int .i64 0∧f = .int .i64 0∧r = .int .i64 0∧Below w.heap.size w wr) (fun _ _ _ _ _=>0)
 case atStart=>exact ⟨rfl,rfl,rfl,rfl,Below.refl _ _⟩
 case round =>
  obtain ⟨rfl,rfl,rfl,rfl,hb⟩:=hrel;go_wp2
  go_ret
  exact ⟨ret_int (by rw [E.out]),hb⟩
set_option maxHeartbeats 400000 in
theorem rlocal_some_neg (w:World) (b off n cap:Nat) (A R:Nat→Int) (g:GoodP n A R) (t:Int) (ta:t < 0)
 (hc:∀ i,i < n→w.cell? ⟨b,off+i * 2,none⟩=some (.int .i64 (A i))∧w.cell? ⟨b,off+i * 2+1,none⟩=some (.int .i64 (R i))) :
 Calls Tryz.prog 73 #[.slice (some ⟨b,off,none⟩) n cap,.int .i64 t] w fun e w'=>e = .returned (.int .i64 (Loc A R n t))∧Below w.heap.size w w':=by
 have HC:=Lib.hid hc;clear hc;have G:=Lib.hid g;clear g;have hn:n≤64:=G.out.len;have e:Loc A R n t=0:=by rw [Loc,show clamp t=0 from by unfold clamp;split <;> (try split) <;> omega,PP_zero G.out];rfl
 have E:=Lib.hid e;clear e
 go_enter Tryz.func73,Tryz.ntmps73
 go_wp2
 go_loopw [5,6,7,8] (fun s f r i wr=>i = .int .i64 0∧s = .int .i64 0∧f = .int .i64 0∧r = .int .i64 0∧Below w.heap.size w wr) (fun _ _ _ _ _=>0)
 case atStart=>exact ⟨rfl,rfl,rfl,rfl,Below.refl _ _⟩
 case round =>
  obtain ⟨rfl,rfl,rfl,rfl,hb⟩:=hrel
  by_cases hlt:0 < n
  ·obtain ⟨c1,_⟩:=HC.out 0 hlt
   simp only [Nat.zero_mul,Nat.add_zero] at c1;have d1:=(hb.cell (World.block_lt_of_cell? _ _ c1)).trans c1;clear c1;have ab:=(G.out.at_ 0 hlt).1;go_wp2
   go_ret
   exact ⟨ret_int (by rw [E.out]),hb⟩
  ·obtain rfl:n=0:=by omega
   go_wp2
   go_ret
   exact ⟨ret_int (by rw [E.out]),hb⟩
theorem rlocal_none_big (w:World) (a:Option Addr) (cap:Nat) (t:Int) (tb:4294967296 < t) (A R:Nat→Int):Calls Tryz.prog 73 #[.slice a 0 cap,.int .i64 t] w fun e w'=>e = .returned (.int .i64 (Loc A R 0 t))∧Below w.heap.size w w':=by
 have c:clamp t=4294967296:=by unfold clamp;split <;> (try split) <;> omega
 have e:Loc A R 0 t=4294967296:=by
  rw [Loc,c,PP_eq (⟨Nat.le_refl _,fun i h=>by omega,fun h=>by omega⟩:AtStop A 0 4294967296 0)]
  show (0+(4294967296 - 0) * (1000000+0)) / 1000000=_
  omega
 have E:=Lib.hid e;clear e;clear c
 go_enter Tryz.func73,Tryz.ntmps73
 go_wp2
 go_loopw [5,6,7,8] (fun s f r i wr=>i = .int .i64 0∧s = .int .i64 0∧f = .int .i64 0∧r = .int .i64 0∧Below w.heap.size w wr) (fun _ _ _ _ _=>0)
 case atStart=>exact ⟨rfl,rfl,rfl,rfl,Below.refl _ _⟩
 case round =>
  obtain ⟨rfl,rfl,rfl,rfl,hb⟩:=hrel;go_wp2
  go_ret
  exact ⟨ret_int (by rw [E.out]),hb⟩
set_option maxHeartbeats 400000 in
theorem rlocal_some_big (w:World) (b off n cap:Nat) (A R:Nat→Int) (g:GoodP n A R) (t:Int) (tb:4294967296 < t)
 (hc:∀ i,i < n→w.cell? ⟨b,off+i * 2,none⟩=some (.int .i64 (A i))∧w.cell? ⟨b,off+i * 2+1,none⟩=some (.int .i64 (R i))) :
 Calls Tryz.prog 73 #[.slice (some ⟨b,off,none⟩) n cap,.int .i64 t] w fun e w'=>e = .returned (.int .i64 (Loc A R n t))∧Below w.heap.size w w':=by
 have HC:=Lib.hid hc;clear hc;have G:=Lib.hid g;clear g;have hn:n≤64:=G.out.len;have e:Loc A R n t=PP A R n 4294967296 / 1000000:=by rw [Loc,show clamp t=4294967296 from by unfold clamp;split <;> (try split) <;> omega]
 have E:=Lib.hid e;clear e;have pb:=PP_bd G.out 4294967296 (by omega)
 go_enter Tryz.func73,Tryz.ntmps73
 go_wp2
 go_loopw [5,6,7,8] (fun s f r i wr=>∃ k:Nat,k≤n∧i = .int .i64 k∧s = .int .i64 (sm A R k)∧f = .int .i64 (fr A k)∧r = .int .i64 (rt R k)∧Hid (∀ i,i < k→A i < 4294967296)∧Below w.heap.size w wr) (fun _ _ _ i _=>n - (intOf i).toNat)
 case atStart=>exact ⟨0,Nat.zero_le _,rfl,rfl,rfl,rfl,fun i h=>by omega,Below.refl _ _⟩
 case round =>
  obtain ⟨k,hk,rfl,rfl,rfl,rfl,hs,hb⟩:=hrel;have fb:=fr_bd G.out k hk;have rb:=rt_bd G.out k hk;have sb:=Bd.of G.out k hk
  by_cases hlt:k < n
  ·obtain ⟨c1,c2⟩:=HC.out k hlt
   have d1:=(hb.cell (World.block_lt_of_cell? _ _ c1)).trans c1;have d2:=(hb.cell (World.block_lt_of_cell? _ _ c2)).trans c2;clear c1 c2;have ab:=G.out.at_ k hlt;have fa:=fr_le G.out k hlt;have mb:=mul_rt G.out k hk (A k - fr A k) (by omega) (by omega)
   by_cases ht:4294967296≤A k
   ·have hst:AtStop A n 4294967296 k:=⟨hk,hs.out,fun _=>ht⟩
    have ft:=stop_fr (by omega) hst;have mc:=mul_rt G.out k hk (4294967296 - fr A k) (by omega) (by omega);have HP:=Lib.hid (PP_eq (R:=R) hst);rw [HP.out] at pb;unfold pp at pb;clear hst;go_wp2
    go_ret
    exact ⟨ret_int (by rw [E.out,HP.out];rfl),hb⟩
   ·go_wp2
    go_quiet (fail)
    go_wp2
    go_roundw
    case rel=>exact ⟨k+1,by omega,by go_num,rfl,rfl,rfl,(fun i hi=>by
     by_cases e:i=k
     ·subst e;omega
     ·exact hs.out i (by omega)),below_drewN hb _⟩
    case measure=>simp [intOf];omega
  ·obtain rfl:k=n:=by omega
   have hst:AtStop A k 4294967296 k:=⟨hk,hs.out,fun h=>by omega⟩;have ft:=stop_fr (by omega) hst;have mc:=mul_rt G.out k hk (4294967296 - fr A k) (by omega) (by omega);have HP:=Lib.hid (PP_eq (R:=R) hst);rw [HP.out] at pb;unfold pp at pb;clear hst;go_wp2
   go_ret
   exact ⟨ret_int (by rw [E.out,HP.out];rfl),hb⟩
theorem rlocal_none_mid (w:World) (a:Option Addr) (cap:Nat) (t:Int) (ta:0≤t) (tb:t≤4294967296) (A R:Nat→Int):Calls Tryz.prog 73 #[.slice a 0 cap,.int .i64 t] w fun e w'=>e = .returned (.int .i64 (Loc A R 0 t))∧Below w.heap.size w w':=by
 have c:clamp t=t:=clamp_id ta tb;have e:Loc A R 0 t=t:=by
  rw [Loc,c,PP_eq (⟨Nat.le_refl _,fun i h=>by omega,fun h=>by omega⟩:AtStop A 0 t 0)]
  show (0+(t - 0) * (1000000+0)) / 1000000=_
  omega
 have E:=Lib.hid e;clear e;clear c
 go_enter Tryz.func73,Tryz.ntmps73
 go_wp2
 go_loopw [5,6,7,8] (fun s f r i wr=>i = .int .i64 0∧s = .int .i64 0∧f = .int .i64 0∧r = .int .i64 0∧Below w.heap.size w wr) (fun _ _ _ _ _=>0)
 case atStart=>exact ⟨rfl,rfl,rfl,rfl,Below.refl _ _⟩
 case round =>
  obtain ⟨rfl,rfl,rfl,rfl,hb⟩:=hrel;go_wp2
  go_ret
  exact ⟨ret_int (by rw [E.out]),hb⟩
set_option maxHeartbeats 400000 in
theorem rlocal_some_mid (w:World) (b off n cap:Nat) (A R:Nat→Int) (g:GoodP n A R) (t:Int) (ta:0≤t) (tb:t≤4294967296)
 (hc:∀ i,i < n→w.cell? ⟨b,off+i * 2,none⟩=some (.int .i64 (A i))∧w.cell? ⟨b,off+i * 2+1,none⟩=some (.int .i64 (R i))) :
 Calls Tryz.prog 73 #[.slice (some ⟨b,off,none⟩) n cap,.int .i64 t] w fun e w'=>e = .returned (.int .i64 (Loc A R n t))∧Below w.heap.size w w':=by
 have HC:=Lib.hid hc;clear hc;have G:=Lib.hid g;clear g;have hn:n≤64:=G.out.len;have e:Loc A R n t=PP A R n t / 1000000:=by rw [Loc,show clamp t=t from clamp_id ta tb]
 have E:=Lib.hid e;clear e;have pb:=PP_bd G.out t (by omega)
 go_enter Tryz.func73,Tryz.ntmps73
 go_wp2
 go_loopw [5,6,7,8] (fun s f r i wr=>∃ k:Nat,k≤n∧i = .int .i64 k∧s = .int .i64 (sm A R k)∧f = .int .i64 (fr A k)∧r = .int .i64 (rt R k)∧Hid (∀ i,i < k→A i < t)∧Below w.heap.size w wr) (fun _ _ _ i _=>n - (intOf i).toNat)
 case atStart=>exact ⟨0,Nat.zero_le _,rfl,rfl,rfl,rfl,fun i h=>by omega,Below.refl _ _⟩
 case round =>
  obtain ⟨k,hk,rfl,rfl,rfl,rfl,hs,hb⟩:=hrel;have fb:=fr_bd G.out k hk;have rb:=rt_bd G.out k hk;have sb:=Bd.of G.out k hk
  by_cases hlt:k < n
  ·obtain ⟨c1,c2⟩:=HC.out k hlt
   have d1:=(hb.cell (World.block_lt_of_cell? _ _ c1)).trans c1;have d2:=(hb.cell (World.block_lt_of_cell? _ _ c2)).trans c2;clear c1 c2;have ab:=G.out.at_ k hlt;have fa:=fr_le G.out k hlt;have mb:=mul_rt G.out k hk (A k - fr A k) (by omega) (by omega)
   by_cases ht:t≤A k
   ·have hst:AtStop A n t k:=⟨hk,hs.out,fun _=>ht⟩
    have ft:=stop_fr (by omega) hst;have mc:=mul_rt G.out k hk (t - fr A k) (by omega) (by omega);have HP:=Lib.hid (PP_eq (R:=R) hst);rw [HP.out] at pb;unfold pp at pb;clear hst;go_wp2
    go_ret
    exact ⟨ret_int (by rw [E.out,HP.out];rfl),hb⟩
   ·go_wp2
    go_quiet (fail)
    go_wp2
    go_roundw
    case rel=>exact ⟨k+1,by omega,by go_num,rfl,rfl,rfl,(fun i hi=>by
     by_cases e:i=k
     ·subst e;omega
     ·exact hs.out i (by omega)),below_drewN hb _⟩
    case measure=>simp [intOf];omega
  ·obtain rfl:k=n:=by omega
   have hst:AtStop A k t k:=⟨hk,hs.out,fun h=>by omega⟩;have ft:=stop_fr (by omega) hst;have mc:=mul_rt G.out k hk (t - fr A k) (by omega) (by omega);have HP:=Lib.hid (PP_eq (R:=R) hst);rw [HP.out] at pb;unfold pp at pb;clear hst;go_wp2
   go_ret
   exact ⟨ret_int (by rw [E.out,HP.out];rfl),hb⟩
theorem rlocal_any (w:World) (v:Value) (n:Nat) (A R:Nat→Int) (h:Steps w v n A R) (g:GoodP n A R) (t:Int) :
 Calls Tryz.prog 73 #[v,.int .i64 t] w fun e w'=>e = .returned (.int .i64 (Loc A R n t))∧Below w.heap.size w w':=by
 rcases h with ⟨b,cap,rfl,_,rfl⟩ | ⟨b,off,cap,rfl,_,_,hc⟩
 ·rcases three t with ⟨a,_⟩ | ⟨a,c,_⟩ | ⟨a,c,_⟩
  ·exact rlocal_none_neg w b cap t a A R
  ·exact rlocal_none_big w b cap t c A R
  ·exact rlocal_none_mid w b cap t a c A R
 ·rcases three t with ⟨a,_⟩ | ⟨a,c,_⟩ | ⟨a,c,_⟩
  ·exact rlocal_some_neg w b off n cap A R g t a hc
  ·exact rlocal_some_big w b off n cap A R g t c hc
  ·exact rlocal_some_mid w b off n cap A R g t a c hc
end Go.Proofs.YtpkipilggkbkeaaGreatDoor.Tk
namespace Go.Proofs.YtpkipilggkbkeaaGreatDoor.Tk
open Go.RowKit
theorem Steps.drew {w:World} {v:Value} {n:Nat} {A R:Nat→Int} (h:Steps w v n A R):Steps w.drew v n A R:=h.below (Below.refl _ _).drew
theorem clos_any (w:World) (bl bn:Nat) (v:Value) (n:Nat) (A R:Nat→Int) (m t:Int) (S:Steps w v n A R) (g:GoodP n A R)
 (hl:w.cell? ⟨bl,0,none⟩=some v) (hn:w.cell? ⟨bn,0,none⟩=some (.int .i64 m)) :
 Calls Tryz.prog 106 (#[.int .i64 t] ++ #[.pointer (some ⟨bl,0,none⟩),.pointer (some ⟨bn,0,none⟩)]) w fun e w'=>e = .returned (.bool (decide (m≤Loc A R n t)))∧Below w.heap.size w w':=by
 have LC:Hid (∀ W,Below w.heap.size w W→Calls Tryz.prog 107 #[v,.int .i64 t] W fun e w'=>e = .returned (.int .i64 (Loc A R n t))∧Below W.heap.size W w'):=fun W hW=>local_any W v n A R (S.below hW) g t;have hlt:=World.block_lt_of_cell? _ _ hn;clear S g
 go_enter Tryz.func106,Tryz.ntmps106
 go_wp2_with fail
 go_region_with (go_at_call 107;refine (LC.out _ ?_).mono ?_;exact (Below.refl _ _).drew;rintro e w1 ⟨rfl,hb⟩;have hn1:=(hb.cell hlt).trans hn)
 all_goals go_wp2
 all_goals go_ret
 all_goals exact ⟨rfl,(Below.refl _ _).drew.trans hb⟩
theorem mid_lo {A R:Nat→Int} {n:Nat} {m lo hi:Int} (g:GoodP n A R) (h:¬ m≤Loc A R n ((lo+hi) / 2)):∀ t,0≤t→t < (lo+hi) / 2+1→Loc A R n t < m:=fun t _ h1=>by
 have:=Loc_mono g (show t≤(lo+hi) / 2 by omega)
 omega
set_option maxHeartbeats 400000 in
theorem search_any (w:World) (bl bn:Nat) (v:Value) (n:Nat) (A R:Nat→Int) (m:Int) (S:Steps w v n A R) (g:GoodP n A R)
 (hl:w.cell? ⟨bl,0,none⟩=some v) (hn:w.cell? ⟨bn,0,none⟩=some (.int .i64 m)) :
 Calls Tryz.prog 51 #[.int .i64 4294967296,.func (.func 106) #[] #[.pointer (some ⟨bl,0,none⟩),.pointer (some ⟨bn,0,none⟩)]] w fun e w'=>e = .returned (.int .i64 (Glo A R n m))∧Below w.heap.size w w':=by
 have CC:Hid (∀ W t,Below w.heap.size w W→Calls Tryz.prog 106 (#[.int .i64 t] ++ #[.pointer (some ⟨bl,0,none⟩),.pointer (some ⟨bn,0,none⟩)]) W fun e w'=>e = .returned (.bool (decide (m≤Loc A R n t)))∧Below w.heap.size W w'):=fun W t hW =>
  (clos_any W bl bn v n A R m t (S.below hW) g ((hW.cell (World.block_lt_of_cell? _ _ hl)).trans hl) ((hW.cell (World.block_lt_of_cell? _ _ hn)).trans hn)).mono fun e w' ⟨h1,h2⟩=>⟨h1,h2.mono hW.size⟩
 have G:=Lib.hid g;clear S g hl hn
 go_enter Tryz.func51,Tryz.ntmps51
 go_wp2
 go_loopw [5,6] (fun i j wr=>∃ lo hi:Int,0≤lo∧lo≤hi∧hi≤4294967296∧i = .int .i64 lo∧j = .int .i64 hi∧Hid (∀ t,0≤t→t < lo→Loc A R n t < m)∧Hid (hi < 4294967296→m≤Loc A R n hi)∧Below w.heap.size w wr) (fun i j _=>(intOf j - intOf i).toNat)
 case atStart=>exact ⟨0,4294967296,by omega,by omega,by omega,rfl,rfl,fun t a b=>by omega,fun h=>by omega,Below.refl _ _⟩
 case round =>
  obtain ⟨lo,hi,h0,h1,h2,rfl,rfl,il,ih,hb⟩:=hrel
  by_cases hlt:lo < hi
  ·by_cases hm:m≤Loc A R n ((lo+hi) / 2)
   ·have HM:=Lib.hid hm
    have hd:decide (m≤Loc A R n ((lo+hi) / 2))=true:=decide_eq_true hm;have c:=CC.out wr ((lo+hi) / 2) hb;rw [hd] at c;have C:=Lib.hid c;clear c hd hm;go_wp2_with fail;refine C.out.mono ?_;rintro e w1 ⟨rfl,hb1⟩;go_wp2
    go_roundw
    case rel=>exact ⟨lo,(lo+hi) / 2,h0,by omega,by omega,rfl,rfl,il,fun _=>HM.out,hb.trans hb1⟩
    case measure=>simp [intOf];omega
   ·have HM:=Lib.hid hm
    have hd:decide (m≤Loc A R n ((lo+hi) / 2))=false:=decide_eq_false hm;have c:=CC.out wr ((lo+hi) / 2) hb;rw [hd] at c;have C:=Lib.hid c;clear c hd hm;go_wp2_with fail;refine C.out.mono ?_;rintro e w1 ⟨rfl,hb1⟩;go_wp2
    go_roundw
    case rel=>exact ⟨(lo+hi) / 2+1,hi,by omega,by omega,by omega,rfl,rfl,mid_lo G.out (by have:=HM.out;omega),ih,hb.trans hb1⟩
    case measure=>simp [intOf];omega
  ·obtain rfl:lo=hi:=by omega
   go_wp2
   go_ret
   exact ⟨ret_int (Glo_eq (IsG.of_meet h0 h2 il ih)).symm,hb⟩
theorem Steps.slice {w:World} {v:Value} {n:Nat} {A R:Nat→Int} (S:Steps w v n A R):∃ a l cap,v = .slice a l cap:=by
 rcases S with ⟨a,cap,rfl,_⟩ | ⟨b,off,cap,rfl,_⟩
 ·exact ⟨_,_,_,rfl⟩
 ·exact ⟨_,_,_,rfl⟩
set_option maxHeartbeats 400000 in
theorem global_any (w:World) (v:Value) (n:Nat) (A R:Nat→Int) (m:Int) (S:Steps w v n A R) (g:GoodP n A R) :
 Calls Tryz.prog 65 #[v,.int .i64 m] w fun e w'=>e = .returned (.int .i64 (Glo A R n m))∧Below w.heap.size w w':=by
 obtain ⟨a,l,cap,rfl⟩:=S.slice;have hb:Below w.heap.size w ((w.alloc (.cells #[.slice a l cap] 59)).alloc (.cells #[.int .i64 m] 3)):=((Below.refl _ _).alloc (Nat.le_refl _) _).alloc (by simp) _;have c:=search_any ((w.alloc (.cells #[.slice a l cap] 59)).alloc (.cells #[.int .i64 m] 3)) w.heap.size (w.heap.size+1) (.slice a l cap) n A R m (S.below hb) g (by go_simp) (by go_simp);have C:=Lib.hid c;have HB:=Lib.hid hb;clear c hb S g;have hmf:∀ (fn:Fn) (first cap:Array Value) (w:World),(Instr.makeFunc fn first cap).run Tryz.prog w = .ok (.func fn first cap) w:=fun _ _ _ _=>rfl
 go_enter Tryz.func65,Tryz.ntmps65
 go_wp2_with fail;refine C.out.mono ?_;rintro e w1 ⟨rfl,hb1⟩;go_wp2
 go_ret
 exact ⟨rfl,HB.out.trans (hb1.mono (by simp;omega))⟩
theorem mid_lo' {A R:Nat→Int} {n:Nat} {m lo hi:Int} (g:GoodP n A R) (h:¬ m≤Loc A R n (lo+(hi - lo) / 2)):∀ t,0≤t→t < lo+(hi - lo) / 2+1→Loc A R n t < m:=fun t _ h1=>by
 have:=Loc_mono g (show t≤lo+(hi - lo) / 2 by omega)
 omega
set_option maxHeartbeats 400000 in
theorem rglobal_any (w:World) (v:Value) (n:Nat) (A R:Nat→Int) (m:Int) (S:Steps w v n A R) (g:GoodP n A R) :
 Calls Tryz.prog 32 #[v,.int .i64 m] w fun e w'=>e = .returned (.int .i64 (Glo A R n m))∧Below w.heap.size w w':=by
 have CC:Hid (∀ W t,Below w.heap.size w W→Calls Tryz.prog 73 #[v,.int .i64 t] W fun e w'=>e = .returned (.int .i64 (Loc A R n t))∧Below w.heap.size W w'):=fun W t hW =>
  (rlocal_any W v n A R (S.below hW) g t).mono fun e w' ⟨h1,h2⟩=>⟨h1,h2.mono hW.size⟩
 have G:=Lib.hid g;clear S g
 go_enter Tryz.func32,Tryz.ntmps32
 go_wp2
 go_loopw [5,6] (fun i j wr=>∃ lo hi:Int,0≤lo∧lo≤hi∧hi≤4294967296∧i = .int .i64 lo∧j = .int .i64 hi∧Hid (∀ t,0≤t→t < lo→Loc A R n t < m)∧Hid (hi < 4294967296→m≤Loc A R n hi)∧Below w.heap.size w wr) (fun i j _=>(intOf j - intOf i).toNat)
 case atStart=>exact ⟨0,4294967296,by omega,by omega,by omega,rfl,rfl,fun t a b=>by omega,fun h=>by omega,Below.refl _ _⟩
 case round =>
  obtain ⟨lo,hi,h0,h1,h2,rfl,rfl,il,ih,hb⟩:=hrel
  by_cases hlt:lo < hi
  ·have c:=CC.out wr (lo+(hi - lo) / 2) hb
   have C:=Lib.hid c;clear c
   by_cases hm:m≤Loc A R n (lo+(hi - lo) / 2)
   ·go_wp2_with fail
    refine C.out.mono ?_;rintro e w1 ⟨rfl,hb1⟩;go_wp2
    go_roundw
    case rel=>exact ⟨lo,lo+(hi - lo) / 2,h0,by omega,by omega,rfl,rfl,il,fun _=>hm,hb.trans hb1⟩
    case measure=>simp [intOf];omega
   ·have HM:=Lib.hid hm
    go_wp2_with fail;refine C.out.mono ?_;rintro e w1 ⟨rfl,hb1⟩;go_wp2
    go_roundw
    case rel=>exact ⟨lo+(hi - lo) / 2+1,hi,by omega,by omega,by omega,rfl,rfl,mid_lo' G.out (by have:=HM.out;omega),ih,hb.trans hb1⟩
    case measure=>simp [intOf];omega
  ·obtain rfl:lo=hi:=by omega
   go_wp2
   go_ret
   exact ⟨ret_int (Glo_eq (IsG.of_meet h0 h2 il ih)).symm,hb⟩
end Go.Proofs.YtpkipilggkbkeaaGreatDoor.Tk
namespace Go.Proofs.YtpkipilggkbkeaaGreatDoor.Se
open Go.RowKit Go.Proofs.YtpkipilggkbkeaaGreatDoor.Tk
set_option maxHeartbeats 400000 in
theorem during_any (w:World) (v:Value) (n:Nat) (A R:Nat→Int) (S:Tk.Steps w v n A R) (g:GoodP n A R) (m d:Int) (m0:0≤m) (m1:m≤4294967296) (d0:0≤d) (d1:d≤4294967296) :
 Calls Tryz.prog 93 #[v,.int .i64 m,.int .i64 d] w fun e w'=>e = .returned (.agg #[.int .i64 (Glo A R n m),.int .i64 (Glo A R n (m+d))])∧Below w.heap.size w w':=by
 have hb0:Below w.heap.size w (w.alloc (.cells #[.int .i64 0,.int .i64 0] 105)):=(Below.refl _ _).alloc (Nat.le_refl _) _;have S0:=Lib.hid (S.below hb0);have G:=Lib.hid g;have HB:=Lib.hid hb0;clear S g hb0
 go_enter Tryz.func93,Tryz.ntmps93
 go_wp2_with fail;refine (global_any _ _ _ _ _ _ S0.out G.out).mono ?_;rintro e w1 ⟨rfl,b1⟩;have S1:=Lib.hid (S0.out.below b1);have c0:w1.cell? ⟨w.heap.size,0,none⟩=some (.int .i64 0):=(b1.cell (by simp)).trans (by go_simp);have c1:w1.cell? ⟨w.heap.size,1,none⟩=some (.int .i64 0):=(b1.cell (by simp)).trans (by go_simp);have f0:w1.frozen? ⟨w.heap.size,0,none⟩=false:=(b1.frozen (by simp)).trans (by go_simp);have f1:w1.frozen? ⟨w.heap.size,1,none⟩=false:=(b1.frozen (by simp)).trans (by go_simp);have z1:=b1.size
 simp at z1
 have B1:=Lib.hid (HB.out.trans (b1.mono (B':=w.heap.size) (by simp)));clear b1;have F0:=Lib.hid f0;have F1:=Lib.hid f1;have C0:=Lib.hid c0;have C1:=Lib.hid c1;clear c0 c1 f0 f1;go_wp2_with fail;refine (global_any _ _ _ _ _ _ S1.out G.out).mono ?_;rintro e w2 ⟨rfl,b2⟩;have c0:w2.cell? ⟨w.heap.size,0,none⟩=some (.int .i64 0):=(b2.cell (by show w.heap.size < w1.heap.size;omega)).trans C0.out;have c1:w2.cell? ⟨w.heap.size,1,none⟩=some (.int .i64 0):=(b2.cell (by show w.heap.size < w1.heap.size;omega)).trans C1.out;have f0:w2.frozen? ⟨w.heap.size,0,none⟩=false:=(b2.frozen (by show w.heap.size < w1.heap.size;omega)).trans F0.out;have f1:w2.frozen? ⟨w.heap.size,1,none⟩=false:=(b2.frozen (by show w.heap.size < w1.heap.size;omega)).trans F1.out;have z2:=b2.size;have B2:=Lib.hid (B1.out.trans (b2.mono (B':=w.heap.size) (by omega)));clear b2;go_wp2;refine bodyPost_ret (v:=.agg #[.int .i64 (Glo A R n m),.int .i64 (Glo A R n (m+d))]) (by simp [results,Tryz.results93,go_sem,c0,c1]) rfl ⟨rfl,?_⟩;exact (B2.out.setCell (by simp) _).setCell (by simp) _
end Go.Proofs.YtpkipilggkbkeaaGreatDoor.Se
namespace Go.Proofs.YtpkipilggkbkeaaGreatDoor.Ua
open Go.RowKit
theorem run_index_arr (F:Nat→Bool) (k:Nat) (h:k < 11) (w:World):(Instr.index 114 (.agg (arr F)) (.int .i64 k)).run Tryz.prog w = .ok (.bool (F k)) w:=by
 have hg:=arr_get F k h;have hk:¬ 11≤k:=by omega
 simp [Instr.index,asIntOf,run_underlying Tryz.underlying114,go_sem,part,hg,hk]
end Go.Proofs.YtpkipilggkbkeaaGreatDoor.Ua
namespace Go.Proofs.YtpkipilggkbkeaaGreatDoor.Wi
open Go.RowKit Go.Proofs.YtpkipilggkbkeaaGreatDoor.Sp
theorem idx_low (t:Int) (l:List S2):decide (0≤idx (inB t) l)=lowB l t:=by
 rcases idx_cases (inB t) l with ⟨i,hi,hp,_,e⟩ | ⟨hn,e⟩
 ·rw [e]
  have:lowB l t=true:=lowB_iff.2 (low_iff.2 ⟨i,hi,by simpa [inB] using hp⟩);rw [this];simp
 ·rw [e]
  have:lowB l t=false:=lowB_false.2 fun h=>by
   obtain ⟨i,hi,h1,h2⟩:=low_iff.1 h;have:=hn i hi
   simp [inB,h1] at this
   omega
  rw [this];simp
def PredS (g:Nat) (lb:Array Value) (p:S2→Bool) (w:World):Prop :=
 ∀ (W:World) (a b:Int),Below w.heap.size w W→Calls Tryz.prog g (#[.agg #[.int .i64 a,.int .i64 b]] ++ lb) W fun e w'=>e = .returned (.bool (p (a,b)))∧Below w.heap.size w w'
set_option maxHeartbeats 1000000 in
theorem index_any (w:World) (v:Value) (l:List S2) (g:Nat) (lb:Array Value) (p:S2→Bool) (eg:∀ args w,(callFunc g args).run Tryz.prog w = .ok (.enter g args) w) (h:Sp w v l) (hp:PredS g lb p w) :
 Calls Tryz.prog 94 #[v,.func (.func g) #[] lb] w fun e w'=>e = .returned (.int .i64 (idx p l))∧Below w.heap.size w w':=by
 obtain ⟨a,cap,rfl,h1,h2,h3⟩:=h;have H3:=Lib.hid h3;have HP:=Lib.hid hp;have hhit:∀ i,i < l.length→p (fr l i,tp l i)=true→(∀ j,j < i→p (fr l j,tp l j)=false)→idx p l=i:=fun i=>idx_hit;have hmiss:(∀ j,j < l.length→p (fr l j,tp l j)=false)→idx p l = -1:=idx_miss;have HH:=Lib.hid hhit;have HM:=Lib.hid hmiss;clear h3 hp hhit hmiss;generalize hr:idx p l=r at *;clear hr;generalize hn:l.length=n at *;have HN:=Lib.hid hn;clear hn;unfold maxLen at h2
 go_enter Tryz.func94,Tryz.ntmps94
 go_wp2
 go_loopw [8] (fun i wr=>∃ k:Nat,k≤n∧i = .int .i64 k∧Hid (∀ j,j < k→p (fr l j,tp l j)=false)∧Hid (Below w.heap.size w wr)) (fun i _=>n - (intOf i).toNat)
 case atStart=>exact ⟨0,Nat.zero_le _,rfl,fun j hj=>by omega,Below.refl _ _⟩
 case round =>
  obtain ⟨k,hk,rfl,hs,hb⟩:=hrel
  by_cases hlt:k < n
  ·obtain ⟨b,off,rfl,hA⟩:=H3.out (by omega)
   obtain ⟨c1,c2⟩:=hA k (by have:=HN.out;omega);have HA:=Lib.hid hA;clear hA;have d1:=(hb.out.cell (World.block_lt_of_cell? _ _ c1)).trans c1;have d2:=(hb.out.cell (World.block_lt_of_cell? _ _ c2)).trans c2;clear c1 c2;have hc:=HP.out wr (fr l k) (tp l k) hb.out
   cases hq:p (fr l k,tp l k) with
   | true =>
     rw [hq] at hc;have C:=Lib.hid hc;have HR:=Lib.hid (HH.out k hlt hq hs.out);clear hc hq;go_wp2_with fail;refine C.out.mono ?_;rintro e w1 ⟨rfl,b1⟩;go_wp2
     go_ret
     exact ⟨ret_int HR.out.symm,b1⟩
   | false =>
     rw [hq] at hc;have C:=Lib.hid hc;have ST:Hid (∀ j,j < k+1→p (fr l j,tp l j)=false):=fun j hj=>by
      by_cases e:j=k
      ·rw [e];exact hq
      ·exact hs.out j (by omega)
     clear hc hq;go_wp2_with fail;refine C.out.mono ?_;rintro e w1 ⟨rfl,b1⟩;have B1:=Lib.hid b1;clear b1;go_wp2
     go_roundw
     case rel=>exact ⟨k+1,by omega,by go_num,ST,B1⟩
     case measure=>simp [intOf];omega
  ·obtain rfl:k=n:=by omega
   have HR:=Lib.hid (HM.out hs.out);go_wp2
   go_ret
   exact ⟨ret_int HR.out.symm,hb.out⟩
theorem contains_any (w:World) (v:Value) (l:List S2) (g:Nat) (lb:Array Value) (p:S2→Bool) (eg:∀ args w,(callFunc g args).run Tryz.prog w = .ok (.enter g args) w) (h:Sp w v l) (hp:PredS g lb p w) :
 Calls Tryz.prog 48 #[v,.func (.func g) #[] lb] w fun e w'=>e = .returned (.bool (decide (0≤idx p l)))∧Below w.heap.size w w':=by
 have C:=Lib.hid (index_any w v l g lb p eg h hp);clear eg h hp;generalize idx p l=r at *
 go_enter Tryz.func48,Tryz.ntmps48
 go_wp2_with fail;refine C.out.mono ?_;rintro e w1 ⟨rfl,b1⟩;go_wp2
 go_ret
 exact ⟨rfl,b1⟩
theorem hclos_any (w:World) (B:Nat) (t:Int) (hc:w.cell? ⟨B,0,none⟩=some (.int .i64 t)):PredS 49 #[.pointer (some ⟨B,0,none⟩)] (inB t) w:=fun W a b hb=>by
 have hlt:=World.block_lt_of_cell? _ _ hc;have d:=(hb.cell hlt).trans hc;have hz:=hb.size;have hBW:B < W.heap.size:=Nat.lt_of_lt_of_le hlt hz;clear hc hlt
 show Calls Tryz.prog 49 #[.agg #[.int .i64 a,.int .i64 b],.pointer (some ⟨B,0,none⟩)] W _
 by_cases h1:a≤t
 ·by_cases h2:t < b
  ·have e:inB t (a,b)=true:=by simp [inB,h1,h2]
   rw [e];clear e;have HB:=Lib.hid (hb.alloc hz (.cells #[.int .i64 a,.int .i64 b] 105));clear hb
   go_enter Tryz.func49,Tryz.ntmps49
   go_wp2
   go_ret
   exact ⟨rfl,HB.out⟩
  ·have e:inB t (a,b)=false:=by simp [inB,h2]
   rw [e];clear e;have HB:=Lib.hid (hb.alloc hz (.cells #[.int .i64 a,.int .i64 b] 105));clear hb
   go_enter Tryz.func49,Tryz.ntmps49
   go_wp2
   go_ret
   exact ⟨rfl,HB.out⟩
 ·have e:inB t (a,b)=false:=by simp [inB,h1]
  rw [e];clear e;have HB:=Lib.hid (hb.alloc hz (.cells #[.int .i64 a,.int .i64 b] 105));clear hb
  go_enter Tryz.func49,Tryz.ntmps49
  go_wp2
  go_ret
  exact ⟨rfl,HB.out⟩
theorem high_any (w:World) (v:Value) (l:List S2) (h:Sp w v l) (t:Int):Calls Tryz.prog 19 #[v,.int .i64 t] w fun e w'=>e = .returned (.bool (!lowB l t))∧Below w.heap.size w w':=by
 have eg:∀ args w,(callFunc 49 args).run Tryz.prog w = .ok (.enter 49 args) w:=enters_of Tryz.func49 (by kernel_rfl) rfl;have hb:Below w.heap.size w (w.alloc (.cells #[.int .i64 t] 3)):=(Below.refl _ _).alloc (Nat.le_refl _) _;have c:=contains_any (w.alloc (.cells #[.int .i64 t] 3)) v l 49 #[.pointer (some ⟨w.heap.size,0,none⟩)] (inB t) eg (h.below hb) (hclos_any _ _ _ (by go_simp));rw [idx_low] at c;have C:=Lib.hid c;have HB:=Lib.hid hb;obtain ⟨a,cap,rfl,_⟩:=h.slice;clear c hb h eg;have hmf:∀ (fn:Fn) (first cap:Array Value) (w:World),(Instr.makeFunc fn first cap).run Tryz.prog w = .ok (.func fn first cap) w:=fun _ _ _ _=>rfl;generalize lowB l t=r at *
 go_enter Tryz.func19,Tryz.ntmps19
 go_wp2_with fail;refine C.out.mono ?_;rintro e w1 ⟨rfl,b1⟩;go_wp2
 go_ret
 exact ⟨rfl,HB.out.trans (b1.mono (by simp))⟩
end Go.Proofs.YtpkipilggkbkeaaGreatDoor.Wi
