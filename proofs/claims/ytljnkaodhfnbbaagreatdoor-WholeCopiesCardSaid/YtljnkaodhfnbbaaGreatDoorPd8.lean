import Derived.Test.YtljnkaodhfnbbaaGreatDoorPd4
import Derived.Test.YtljnkaodhfnbbaaGreatDoorPd5
import Derived.Test.YtljnkaodhfnbbaaGreatDoorPd7
import Derived.Deep.CutRange
import Derived.Test.YtljnkaodhfnbbaaGreatDoorPd1
import Derived.Test.YtljnkaodhfnbbaaGreatDoorChecked
import Derived.Test.YtljnkaodhfnbbaaGreatDoorPd2
import Derived.Deep.Cut
import Derived.Test.YtljnkaodhfnbbaaGreatDoorPd6
set_option maxRecDepth 100000
namespace Go.Proofs.YtljnkaodhfnbbaaGreatDoor.Pa
open Go.RowKit Go.Maps
open Rw (Rd Ow At)
open Ro (E5 z5 K5 ent)
open Ck (sto5 sto5_row sto5_below RowE)
open Fl (row_cell row_frozen)
theorem cut_any {α:Type} {K:Rw.Kind α} {w:World} {v:Value} {l:List α} {a:Option Addr} {n cap k:Nat} (R:Rd K w v l) (e:v = .slice a n cap) (hk:k≤l.length) (h0:0 < k):Rd K w (.slice a k cap) (l.take k):=by
 obtain ⟨a',cap',e',⟨h1,h2⟩,h3,h4⟩:=R;rw [e] at e';injection e' with e1 e2 e3;subst e1 e3;have hl:(l.take k).length=k:=by rw [List.length_take];omega
 refine ⟨a,cap,by rw [hl],⟨by rw [hl];omega,h2⟩,h3,fun _=>?_⟩;obtain ⟨b,off,rfl,hA⟩:=h4 (by omega);refine ⟨b,off,rfl,fun i hi j u hu=>?_⟩;rw [hl] at hi;refine hA i (by omega) j u ?_;rw [← hu,List.getD,List.getD,List.getElem?_take,if_pos hi]
end Go.Proofs.YtljnkaodhfnbbaaGreatDoor.Pa
namespace Go.Proofs.YtljnkaodhfnbbaaGreatDoor.Wp
open Go.RowKit Go.Maps
open Fs (Abs St Rs Rst Only Fx Lst Ent OkA addE addA new_any new_st below_new add_any AddPost at3 E3 ow_only)
open Rw (Rd Ow At Kind)
open Ro (E5 K5 okE)
open Sp (S2)
open Ck (LL lat RdL KS Hd sl zh rdl_of infoS)
open Fl (R4 K4 okL row_cell row_frozen file)
open Bu (Osc OsL osc ofS steps_rd osl osl_at osl_of)
open Pa hiding Q4 B4I Bld BldPost OI OI.next OI.fin
attribute [local irreducible] Sd.wpSd wpQuiet Sg.wpSg
theorem infoQ:(Tryz.prog.info? 103).map (fun i=>(i.zero,i.size,i.bytes))=some (some (.slice none 0 0),1,24):=by kernel_rfl
structure Bld (w':World) (vs vt vl vo:Value) (S:Sts) (T:LL) (V:List Bool) (O:List Osc) (n:Nat):Prop where
 st:Stl w' vs S
 tb:RdL w' vt T
 lv:Rd KB w' vl V
 os:OsL w' vo O
 s:S.length=n
 t:T.length=n
 v:V.length=n
 o:O.length=n
 few:n≤6
 ok:∀ i,i < n→(lat T i).length≤70
 den:∀ i,i < n→(sat S i).2=0
def BldPost (w:World) (e:Ending) (w':World):Prop:=∃ vs vt vl vo S T V O n,e = .returned (.tuple #[vs,vt,vl,vo])∧Bld w' vs vt vl vo S T V O n∧Below w.heap.size w w'
structure OI (w:World) (L:List Cel) (k:Nat) (o1 o2 o3 o4:Value) (ps:List Nat) (hs:List Hd) (bs:List Bool) (ts:List Hd) (S:Sts) (wr:World):Prop where
 bi:B4I w k ps S o1 ps o2 hs o3 bs o4 ts wr
 l1:ps.length=k
 l3:hs.length=k
 l4:bs.length=k
 l6:ts.length=k
 l5:S.length=k
 tb:∀ i,i < k→Rd K5 w (sl (hs.getD i zh)) ((cel L i).T.take 70)
 sb:∀ i,i < k→Rd K2 w (sl (ts.getD i zh)) ((cel L i).S.take 70)
 dz:∀ i:Nat,i < k→(sat S i).2=0
theorem OI.next {w wr:World} {L:List Cel} {k:Nat} {o1 o2 o3 o4:Value} {ps:List Nat} {hs:List Hd} {bs:List Bool} {ts:List Hd} {S:Sts} {w0:World} {q1 q2 q3 q4:Value} {s:Nat} {h:Hd} {b:Bool} {h5:Hd} {A:Abs} (I:OI w L k o1 o2 o3 o4 ps hs bs ts S w0)
 (bi:B4I w (k+1) (ps ++ [s]) (S ++ [(A,0)]) q1 (ps ++ [s]) q2 (hs ++ [h]) q3 (bs ++ [b]) q4 (ts ++ [h5]) wr) (t:Rd K5 w (sl h) ((cel L k).T.take 70)) (u:Rd K2 w (sl h5) ((cel L k).S.take 70)):OI w L (k+1) q1 q2 q3 q4 (ps ++ [s]) (hs ++ [h]) (bs ++ [b]) (ts ++ [h5]) (S ++ [(A,0)]) wr:=by
 have g:∀ (l:List Hd) x i,l.length=k→i < k+1→(l ++ [x]).getD i zh=if i < k then l.getD i zh else x:=fun l x i hl hi=>by
  rw [List.getD_eq_getElem?_getD,List.getElem?_append,hl]
  split
  ·rw [List.getD_eq_getElem?_getD]
  ·obtain rfl:i=k:=by omega
   simp
 refine ⟨bi,by simp [I.l1],by simp [I.l3],by simp [I.l4],by simp [I.l6],by simp [I.l5],fun i hi=>?_,fun i hi=>?_,fun i hi=>?_⟩
 ·rw [g hs h i I.l3 hi]
  split
  ·rename_i hk
   exact I.tb i hk
  ·obtain rfl:i=k:=by omega
   exact t
 ·rw [g ts h5 i I.l6 hi]
  split
  ·rename_i hk
   exact I.sb i hk
  ·obtain rfl:i=k:=by omega
   exact u
 ·rw [sat_more I.l5 i hi]
  split
  ·rename_i hk
   exact I.dz i hk
  ·rfl
theorem OI.fin {w wr:World} {L:List Cel} {k:Nat} {o1 o2 o3 o4:Value} {ps:List Nat} {hs:List Hd} {bs:List Bool} {ts:List Hd} {S:Sts} (I:OI w L k o1 o2 o3 o4 ps hs bs ts S wr) (h6:k≤6):BldPost w (.returned (.tuple #[o1,o2,o3,o4])) wr:=by
 have tl:(tbl L k).length=k:=by unfold tbl;simp
 have ol:(osl L k).length=k:=by unfold osl;simp
 refine ⟨o1,o2,o3,o4,S,tbl L k,bs,osl L k,k,rfl,⟨⟨ps,I.bi.w1.rd,by rw [I.l1,I.l5],fun i hi=>?_⟩,rdl_of I.bi.w2.rd (by rw [I.l3,tl]) fun i hi=>?_,I.bi.w3.rd,osl_of I.bi.w4.rd (by rw [I.l6,ol]) fun i hi=>?_,I.l5,tl,I.l4,ol,h6,fun i hi=>?_,I.dz⟩,I.bi.bel⟩
 ·rw [I.l5] at hi
  obtain ⟨F,h,_⟩:=I.bi.st i hi;refine ⟨F,?_⟩;rw [I.dz i hi];exact h
 ·rw [tl] at hi
  rw [tbl_at L hi];exact (I.tb i hi).below I.bi.bel
 ·rw [ol] at hi
  rw [osl_at L hi];exact steps_rd ((I.sb i hi).below I.bi.bel)
 ·rw [tbl_at L hi]
  rw [List.length_take]
  omega
set_option maxHeartbeats 16000000 in
theorem build_any {w:World} {v:Value} {L:List Cel} (H:Cls w v L):Calls Tryz.prog 29 #[v] w (BldPost w):=by
 have FL:=Lib.hid H.file;have TB:=Lib.hid H.tab;have SB:=Lib.hid H.stp;obtain ⟨a,cap,rfl,_,hm,hA⟩:=H.rd;have HA:=Lib.hid hA;unfold maxLen at hm;clear hA H;generalize hn:L.length=n at *;have HN:=Lib.hid hn;have FIN:Hid (∀ k o1 o2 o3 o4 ps hs bs ts S wr,OI w L k o1 o2 o3 o4 ps hs bs ts S wr→k≤n→k≤6→BldPost w (.returned (.tuple #[o1,o2,o3,o4])) wr):=fun k o1 o2 o3 o4 ps hs bs ts S wr I _ h2=>I.fin h2;clear hn;have I0:=Lib.hid (B4I.start w)
 go_enter Tryz.func29,Tryz.ntmps29
 go_wp2
 go_loopw [10,6,7,8,9] (fun i o1 o2 o3 o4 wr=>∃ (k:Nat) (ps:List Nat) (hs:List Hd) (bs:List Bool) (ts:List Hd) (S:Sts) (p1 p2 p3 p4:Value),k≤n∧k≤6∧i = .int .i64 k∧p1=o1∧p2=o2∧p3=o3∧p4=o4∧Hid (OI w L k o1 o2 o3 o4 ps hs bs ts S wr)) (fun i _ _ _ _ _=>n - (intOf i).toNat)
 case atStart=>exact ⟨0,[],[],[],[],[],_,_,_,_,Nat.zero_le _,Nat.zero_le _,rfl,rfl,rfl,rfl,rfl,⟨by simpa using I0.out,rfl,rfl,rfl,rfl,rfl,fun i hi=>by omega,fun i hi=>by omega,fun i hi=>by omega⟩⟩
 case round =>
  obtain ⟨k,ps,hs,bs,ts,S,o1,o2,o3,o4,hk,hk8,rfl,rfl,rfl,rfl,rfl,I⟩:=hrel;clear I0
  by_cases hlt:k < n∧k < 6
  ·obtain ⟨hlt,h8⟩:=hlt
   obtain ⟨b,off,rfl,A1⟩:=HA.out (by omega);obtain ⟨c0,c1,c2⟩:=at_cel A1 (i:=k) (by have:=HN.out;omega);have C0:=Lib.hid c0;have C1:=Lib.hid c1;have C2:=Lib.hid c2;have C3:=Lib.hid (at_cel3 A1 (i:=k) (by have:=HN.out;omega));have FK:=Lib.hid (FL.out k hlt);have TK:=Lib.hid (TB.out k hlt);have SK:=Lib.hid (SB.out k hlt);have lb:b < w.heap.size:=World.block_lt_of_cell? _ _ c0;clear A1 c0 c1 c2 FIN;generalize hcl:cel L k=c at *;have HC:=Lib.hid hcl;clear hcl;obtain ⟨⟨fa,fn,fc⟩,⟨ta,tn,tc⟩,lv,⟨sa,sn,sc⟩,F,T,SS⟩:=c;simp only [sl] at C0 C1 C2 C3 FK TK SK;go_upto_region 5 with fail;have x0:=Sd.cell_by ((I.out.bi.bel.cell lb).trans C0.out);refine Sd.start [(false,1),(false,2),(false,3),(false,4),(false,5),(true,0),(true,6),(false,7),(false,8)] (by kernel_rfl) (by kernel_rfl) (by kernel_rfl) ?_;dsimp only [Sd.picks,List.getElem?_cons_succ,List.getElem?_cons_zero]
   repeat (refine Sd.lit ?_;quiet_step (fail);refine wpQuiet_nil ?_)
   clear x0;have Bd:=Lib.hid ((Below.refl wr.heap.size wr).drew);have I1:=Lib.hid (I.out.bi.below Bd.out);generalize hwd:wr.drew=wd at *;have hz:wd.heap.size=wr.heap.size:=by rw [← hwd];rfl
   have HZ:=Lib.hid hz;clear hwd hz;refine Sd.call (by rfl) (fun K hK=>?_);go_simp;refine (new_any _).mono ?_;rintro e w1 ⟨rfl,rfl⟩;have N1:=Lib.hid (new_st wd);have B1:=Lib.hid (below_new wd (.cells #[.map none,.int .i64 0] 178));refine hK _ _ (Sd.Cl.of (by have:=B1.out;rw [HZ.out] at this;exact Bd.out.trans this)) ?_;clear hK K;have hz1:(wd.alloc (.cells #[.map none,.int .i64 0] 178)).heap.size=wd.heap.size+1:=by simp
   have HZ1:=Lib.hid hz1;clear hz1;generalize hgs:wd.heap.size=gs at *;have HGS:=Lib.hid hgs;clear hgs;generalize (wd.alloc (.cells #[.map none,.int .i64 0] 178))=W1 at *;have BW1:=Lib.hid (I1.out.bel.trans ((show Below wd.heap.size wd W1 by rw [HGS.out];exact B1.out).mono I1.out.bel.size));have RS:=Lib.hid (rstore_any (w:=W1) (B:=w.heap.size) (FK.out.below BW1.out) BW1.out.size);unfold RstPost ptr at RS;refine Sd.call (by rfl) (fun K hK=>?_);go_simp;refine RS.out.mono ?_;rintro e w2 ⟨r,A,rfl,rs2,hr2,b2⟩
   refine hK _ _ (Sd.Cl.of (by
    have h1:=HZ.out;have h2:=HGS.out;have h3:=HZ1.out;refine Bd.out.trans ?_;rw [← h1]
    exact B1.out.trans (b2.mono (by omega)))) ?_
   clear hK K
   repeat (refine Sd.lit ?_;quiet_step (fail);refine wpQuiet_nil ?_)
   have QL:Hid (∀ x,Q4 o1 o2 o3 o4 x→w.heap.size≤x∧x < wd.heap.size):=Lib.hid I1.out.low
   have J0:Hid (J4I wd (Q4 o1 o2 o3 o4) gs r A 0 (fun x=>x=gs) w2):=Lib.hid ⟨by rw [List.take_zero];exact N1.out.below b2,rs_mono rs2 (fun x _ g=>by
    have h2:=HGS.out;have h3:=HZ1.out;have h4:=I1.out.bel.size
    rcases g with g | g
    ·have:=QL.out x g;omega
    ·subst g;omega),fun x hx=>by have:=HGS.out;omega,by
    have h2:=HGS.out;have h3:=HZ1.out;rw [h2]
    exact B1.out.trans (b2.mono (by omega))⟩
   clear RS N1 rs2 b2 FK Bd B1;refine Sd.done ?_;go_wp2
   go_loopw [13] (fun i wr'=>∃ (j:Nat) (G:Nat→Prop),j≤A.length∧i = .int .i64 j∧Hid (J4I wd (Q4 o1 o2 o3 o4) gs r A j G wr')) (fun i _=>A.length - (intOf i).toNat)
   case atStart=>exact ⟨0,_,Nat.zero_le _,rfl,J0⟩
   case round =>
    obtain ⟨j,G,hj,rfl,J⟩:=hrel;clear J0;obtain ⟨vL,Ln,⟨row,off1,list,ok1⟩,eL⟩:=J.out.rs;obtain ⟨la,lc,rfl,_,hmL,hL⟩:=list.rd;have lenL:Ln.length=A.length:=by rw [← eL,List.length_map]
    have ROW:=Lib.hid row;have c3:=row_cell row 0;have OKA:Hid (OkA A):=Lib.hid (by rw [← eL];exact ok1);unfold maxLen at hmL;clear row ok1
    by_cases hjl:j < A.length
    ·obtain ⟨b1,of1,rfl,A2⟩:=hL (by omega)
     have LI:=Lib.hid list;obtain ⟨e,he⟩:∃ e:Ent,Ln[j]? = some e:=⟨_,List.getElem?_eq_getElem (by omega)⟩;obtain ⟨d0,d1,d2⟩:=at3 A2 he;have he':A[j]? = some (e.n,e.p,e.l):=by rw [← eL,List.getElem?_map,he];rfl
     have AN:=Lib.hid (add_next OKA.out he');have RE:=Lib.hid (list.file e (List.mem_of_getElem? he));have OE:=Lib.hid (OKA.out.ok _ (List.mem_of_getElem? he'));have NB:Hid (¬ G b1):=Lib.hid (fun g=>list.off (by omega) b1 rfl (.inl (.inr g)));have NR:Hid (¬ G r):=Lib.hid (fun g=>off1 (.inr g));clear list hL A2 he he' off1 eL;obtain ⟨en,ep,ea,ec,el⟩:=e;unfold Ent.sl at d2 RE;simp only at d0 d1 d2 RE OE AN;rw [lenL] at c3;generalize hq:A.length=q at *;generalize hel:el.length=eq at *;have D0:=Lib.hid d0;have D1:=Lib.hid d1;have D2:=Lib.hid d2;go_upto_region 9 with fail;have CC:JC r b1 (of1+j * 3) (.slice (some ⟨b1,of1,none⟩) q lc) en ep (.slice ea eq ec) wr.drew:=⟨c3,D0.out,D1.out,D2.out⟩;have x0:=Sc.cell_in (C:=JC r b1 (of1+j * 3) (.slice (some ⟨b1,of1,none⟩) q lc) en ep (.slice ea eq ec)) (a:=⟨r,0,none⟩) (fun W' h=>h.r);have x1:=Sc.cell_in (C:=JC r b1 (of1+j * 3) (.slice (some ⟨b1,of1,none⟩) q lc) en ep (.slice ea eq ec)) (a:=⟨b1,of1+j * 3,none⟩) (fun W' h=>h.n);have x2:=Sc.cell_in (C:=JC r b1 (of1+j * 3) (.slice (some ⟨b1,of1,none⟩) q lc) en ep (.slice ea eq ec)) (a:=⟨b1,of1+j * 3+1,none⟩) (fun W' h=>h.p);have x3:=Sc.cell_in (C:=JC r b1 (of1+j * 3) (.slice (some ⟨b1,of1,none⟩) q lc) en ep (.slice ea eq ec)) (a:=⟨b1,of1+j * 3+2,none⟩) (fun W' h=>h.u);have x4:=Sc.cell_in (C:=JC r b1 (of1+j * 3) (.slice (some ⟨b1,of1,none⟩) q lc) en ep (.slice ea eq ec)) (a:=⟨b1,of1+j * 3+1+1,none⟩) (fun W' h=>h.u);have ne:Nonempty (Sc.In (JC r b1 (of1+j * 3) (.slice (some ⟨b1,of1,none⟩) q lc) en ep (.slice ea eq ec))):=⟨⟨_,CC⟩⟩;have J1:=Lib.hid (J.out.below (Below.refl wr.heap.size wr).drew);have AD:=Lib.hid (add_any J1.out.st en ep (.slice ea eq ec) el RE.out OE.out);unfold file AddPost at AD;rw [AN.out.1,AN.out.2] at AD;refine Sc.start (JC r b1 (of1+j * 3) (.slice (some ⟨b1,of1,none⟩) q lc) en ep (.slice ea eq ec)) [(false,0),(false,1),(false,2),(false,3),(false,4),(false,5),(false,6),(false,7),(false,8),(false,9),(false,10),(false,11),(false,12),(false,13),(false,14),(false,15),(false,16),(true,17)] (by kernel_rfl) (by kernel_rfl) (by kernel_rfl) CC ?_;dsimp only [Sd.picks,List.getElem?_cons_succ,List.getElem?_cons_zero]
     repeat (refine Sd.lit ?_;quiet_step (fail);refine wpQuiet_nil ?_)
     clear x0 x1 x2 x3 x4 c3 D0 D1 D2 d0 d1 d2 J;generalize wr.drew=Wd at *;refine Sd.call (by rfl) (fun K hK=>?_);go_simp;refine AD.out.mono ?_;rintro e w5 ⟨rfl,st5,o5⟩;refine hK _ _ (Sc.Cl.of ⟨o5.cell CC.r NR.out,o5.cell CC.n NB.out,o5.cell CC.p NB.out,o5.cell CC.u NB.out⟩) ?_;have J5:=Lib.hid (J1.out.step st5 o5);clear hK K st5 o5 AD CC J1 ROW;refine Sd.done ?_;go_wp2
     go_roundw
     case rel=>exact ⟨j+1,_,by omega,by go_num,J5⟩
     case measure=>simp [intOf];omega
    ·obtain rfl:j=A.length:=by omega
     rw [lenL] at c3;have DN:=Lib.hid (J.out.done (fun x g=>(QL.out x g).2));have I5:=Lib.hid (I1.out.below J.out.bel);have I6:=Lib.hid (I5.out.more I.out.l1 I.out.l5 DN.out.1);have ct:=(I6.out.bel.cell (World.block_lt_of_cell? _ _ C1.out)).trans C1.out;have CV:=Lib.hid ((I6.out.bel.cell (World.block_lt_of_cell? _ _ C2.out)).trans C2.out);have cs:=(I6.out.bel.cell (World.block_lt_of_cell? _ _ C3.out)).trans C3.out;clear J DN I5 list ROW;have HL:=Lib.hid I.out;have TT1:Hid (Rd K5 w (.slice ta tn tc) (cel L k).T):=Lib.hid (by rw [HC.out];exact TK.out);have SS1:Hid (Rd K2 w (.slice sa sn sc) (cel L k).S):=Lib.hid (by rw [HC.out];exact SK.out);clear I I1 TK SK QL;obtain ⟨ta',tc',et,⟨g1,_⟩,g2,g3⟩:=TT1.out;injection et with e1 e2 e3;subst e1 e2 e3;obtain ⟨sa',sc',es,⟨f1,_⟩,f2,f3⟩:=SS1.out;injection es with e1 e2 e3;subst e1 e2 e3;unfold maxLen at g2 f2;have F3:=Lib.hid f3;clear f3;generalize hso:(cel L k).S.length=so at *;have HSO:=Lib.hid hso;clear hso;have G3:=Lib.hid g3;clear g3;generalize hto:(cel L k).T.length=m at *;have HTO:=Lib.hid hto;clear hto;go_upto_region 10 with fail;have x0:=Sd.cell_by ct;have x1:=Sd.cell_by cs;refine Sd.start [(false,0),(false,1),(false,2),(false,3),(false,4),(false,5),(false,6),(false,7),(false,8),(false,9),(false,10),(false,11)] (by kernel_rfl) (by kernel_rfl) (by kernel_rfl) ?_;dsimp only [Sd.picks,List.getElem?_cons_succ,List.getElem?_cons_zero]
     repeat (refine Sd.lit ?_;quiet_step (fail);refine wpQuiet_nil ?_)
     clear x0 x1 ct cs;have I6':=Lib.hid (I6.out.below ((Below.refl wr.heap.size wr).drew));have CV':=Lib.hid (((Below.refl wr.heap.size wr).drew.cell (World.block_lt_of_cell? _ _ CV.out)).trans CV.out);generalize wr.drew=wd at *;clear I6 CV;have I6:=I6';have CV:=CV';clear I6' CV';refine Sd.done ?_
     go_step
     go_step
     go_step
     go_cut [14] from 20 to 103 (fun v wx=>(∃ h:Hd,sl h=v∧Rd K5 w (sl h) ((cel L k).T.take 70))∧wd=wx)
     case first =>
      by_cases h70:70 < m
      ·obtain ⟨b',off',rfl,_⟩:=G3.out (by have:=HTO.out;omega)
       have TT:Hid (∃ h:Hd,sl h=Value.slice (some ⟨b',off',none⟩) 70 tc∧Rd K5 w (sl h) ((cel L k).T.take 70)):=Lib.hid ⟨(some ⟨b',off',none⟩,70,tc),rfl,Ck.rd_cut TT1.out rfl (k:=70) (by have:=HTO.out;omega) (by omega)⟩;clear G3 TT1;have hh:(70:Int) < m:=by omega
       go_wp2
       go_meet
       exact ⟨TT.out,rfl⟩
      ·have TT:Hid (∃ h:Hd,sl h=Value.slice ta m tc∧Rd K5 w (sl h) ((cel L k).T.take 70)):=Lib.hid ⟨(ta,m,tc),rfl,by rw [List.take_of_length_le (by have:=HTO.out;omega)];exact TT1.out⟩
       clear G3 TT1;have hh:¬ (70:Int) < m:=by omega
       go_wp2
       go_meet
       exact ⟨TT.out,rfl⟩
     case rest =>
      obtain ⟨⟨h,e1,TR⟩,e2⟩:=hcut;subst e1;subst e2;have TR':=Lib.hid TR;clear TR G3 TT1 HTO g1 g2
      go_step
      go_step
      go_cut [15] from 20 to 103 (fun v wx=>(∃ h:Hd,sl h=v∧Rd K2 w (sl h) ((cel L k).S.take 70))∧wd=wx)
      case first =>
       by_cases h70:70 < so
       ·obtain ⟨b',off',rfl,_⟩:=F3.out (by have:=HSO.out;omega)
        have TT:Hid (∃ h:Hd,sl h=Value.slice (some ⟨b',off',none⟩) 70 sc∧Rd K2 w (sl h) ((cel L k).S.take 70)):=Lib.hid ⟨(some ⟨b',off',none⟩,70,sc),rfl,cut_any SS1.out rfl (k:=70) (by have:=HSO.out;omega) (by omega)⟩;clear F3 SS1;have hh:(70:Int) < so:=by omega
        go_wp2
        go_meet
        exact ⟨TT.out,rfl⟩
       ·have TT:Hid (∃ h:Hd,sl h=Value.slice sa so sc∧Rd K2 w (sl h) ((cel L k).S.take 70)):=Lib.hid ⟨(sa,_,sc),rfl,by rw [List.take_of_length_le (by have:=HSO.out;omega)];exact SS1.out⟩
        clear F3 SS1;have hh:¬ (70:Int) < so:=by omega
        go_wp2
        go_meet
        exact ⟨TT.out,rfl⟩
      case rest =>
       obtain ⟨⟨h5,e1,TR5⟩,e2⟩:=hcut;subst e1;subst e2;have TR5':=Lib.hid TR5;clear TR5 F3 SS1 HSO;go_upto_region 15 with fail;have x0:=Sc.cell_in (C:=Only (Q4 o1 o2 o3 o4) wd) (a:=⟨b,off+k * 4+2,none⟩) (fun W' h=>h.cell CV.out (fun g=>by have:=(I6.out.low _ g).1;simp only at this;omega));have ne:Nonempty (Sc.In (Only (Q4 o1 o2 o3 o4) wd)):=⟨⟨_,Only.refl _ _⟩⟩;refine Sg.start (Only (Q4 o1 o2 o3 o4) wd) [0,1,4,5,8,9,10,11,12,13,16,17] [(2,2),(1,3),(2,6),(1,7),(2,14),(1,15),(2,18),(1,19),(0,20),(0,21),(0,22),(0,23)]
        [⟨2,86,85,.pointer (some ⟨gs,0,none⟩),89,#[.pointer (some ⟨gs,0,none⟩)],1⟩,⟨6,90,89,sl h,85,#[sl h],1⟩,⟨14,98,97,.bool lv,4,#[.bool lv],1⟩,⟨18,102,101,sl h5,103,#[sl h5],1⟩]
        (by kernel_rfl) (by kernel_rfl) (by kernel_rfl) (by kernel_rfl) (by rfl) (by show ([86,90,98,102]:List Nat).Nodup;decide)
        (by intro f hf f' hf';simp only [List.mem_cons,List.not_mem_nil,or_false] at hf hf';rcases hf with rfl | rfl | rfl | rfl <;> rcases hf' with rfl | rfl | rfl | rfl <;> simp)
        (by intro f hf f' hf';simp only [List.mem_cons,List.not_mem_nil,or_false] at hf hf';rcases hf with rfl | rfl | rfl | rfl <;> rcases hf' with rfl | rfl | rfl | rfl <;> simp)
        (by
          intro f hf
          simp only [List.mem_cons,List.not_mem_nil,or_false] at hf
          rcases hf with rfl | rfl | rfl | rfl
          ·exact flOk_of _ _ _ _ _ rfl rfl rfl rfl Tryz.underlying78 infoN rfl
          ·exact flOk_of _ _ _ _ _ rfl rfl rfl rfl Tryz.underlying79 infoS rfl
          ·exact flOk_of _ _ _ _ _ rfl rfl rfl rfl Tryz.underlying35 infoB rfl
          ·exact flOk_of _ _ _ _ _ rfl rfl rfl rfl Tryz.underlying80 infoQ rfl)
        (Only.of_below ((Below.refl _ _).drew)) (fun W' h=>h.size) (fun W' o h=>h.then ((Below.refl _ _).alloc (Nat.le_refl _) o)) ?_
       dsimp only [Sg.picksL,List.getElem?_cons_succ,List.getElem?_cons_zero]
       repeat (refine lit1 ?_;quiet_step (fail);refine wpQuiet_nil ?_)
       refine end1 ⟨fun f hf=>by simp only [List.mem_cons,List.not_mem_nil,or_false] at hf;rcases hf with rfl | rfl | rfl | rfl <;> rfl,?_⟩;dsimp only [Sg.picks,List.getElem?_cons_succ,List.getElem?_cons_zero];clear x0;have QL:=Lib.hid I6.out.low;have I10:=Lib.hid (I6.out.below ((Below.refl wd.heap.size wd).drew));clear I6;refine Sg.meet (fun g11 wm hb hc row n11 hH hL=>?_);have M11:=Lib.hid (I10.out.below hb);have R11:=Lib.hid row;clear hb hc row hH hL;go_simp;refine Sg.call (fun xs w2 hb hc=>⟨by rfl,fun K hK=>?_⟩);have P11:=Lib.hid (M11.out.below hb);have row:=(hb.block _ (lt_of_block R11.out)).trans R11.out;have oc:Only (Q4 o1 o2 o3 o4) wd w2:=by obtain ⟨p,rfl⟩:=hc;exact p.ok
       clear hb hc M11 R11 I10;simp only [Sg.fill,List.foldl_cons,List.foldl_nil]
       refine wp_push_at (K:=KN) Tryz.underlying78 infoN rfl (by omega) _ _ rfl w.heap.size _ _ rfl P11.out.w1 ⟨g11,0,none⟩ gs (by rfl) (fun j u hu=>by
        match j,hu with
        | 0,hu =>
          simp [KN,ptr] at hu
          subst hu;rw [Ck.addr_zero];exact row_cell row 0
        | j+1,hu=>simp [KN] at hu) (by have:=HL.out.l1;omega) P11.out.bel.size ?_
       intro v11 w3 own gr hq
       have oc3:Only (Q4 o1 o2 o3 o4) wd w3:=oc.trans (only_grown gr) fun x _ e=>.inl e;refine hK _ _ (Sc.Cl.of oc3) gr.size (fun g hg hl=>gr.block g hl fun e=>by have:=(QL.out g (.inl e.symm)).2;omega) ?_;have I11:=Lib.hid (P11.out.push1 own gr hq);clear hK K own gr hq oc oc3 row P11;refine Sg.meet (fun g13 wm hb hc row n13 hH hL=>?_);have M13:=Lib.hid (I11.out.below hb);have R13:=Lib.hid row;clear hb hc row hH hL;go_simp;refine Sg.call (fun xs w2 hb hc=>⟨by rfl,fun K hK=>?_⟩);have P13:=Lib.hid (M13.out.below hb);have row:=(hb.block _ (lt_of_block R13.out)).trans R13.out;have oc:Only (Q4 o1 o2 o3 o4) wd w2:=by obtain ⟨p,rfl⟩:=hc;exact p.ok
       clear hb hc M13 R13 I11;simp only [Sg.fill,List.foldl_cons,List.foldl_nil]
       refine wp_push_at (K:=KS) Tryz.underlying79 infoS rfl (by omega) _ _ rfl w.heap.size _ _ rfl P13.out.w2 ⟨g13,0,none⟩ h (by rfl) (fun j u hu=>by
        match j,hu with
        | 0,hu =>
          simp [KS] at hu
          subst hu;rw [Ck.addr_zero];exact row_cell row 0
        | j+1,hu=>simp [KS] at hu) (by have:=HL.out.l3;omega) P13.out.bel.size ?_
       intro v13 w3 own gr hq
       have oc3:Only (Q4 o1 o2 o3 o4) wd w3:=oc.trans (only_grown gr) fun x _ e=>.inr (.inl e);refine hK _ _ (Sc.Cl.of oc3) gr.size (fun g hg hl=>gr.block g hl fun e=>by have:=(QL.out g (.inr (.inl e.symm))).2;omega) ?_;have I13:=Lib.hid (P13.out.push2 own gr hq);clear hK K own gr hq oc oc3 row P13;refine Sg.meet (fun g14 wm hb hc row n14 hH hL=>?_);have M14:=Lib.hid (I13.out.below hb);have R14:=Lib.hid row;clear hb hc row hH hL;go_simp;refine Sg.call (fun xs w2 hb hc=>⟨by rfl,fun K hK=>?_⟩);have P14:=Lib.hid (M14.out.below hb);have row:=(hb.block _ (lt_of_block R14.out)).trans R14.out;have oc:Only (Q4 o1 o2 o3 o4) wd w2:=by obtain ⟨p,rfl⟩:=hc;exact p.ok
       clear hb hc M14 R14 I13;simp only [Sg.fill,List.foldl_cons,List.foldl_nil]
       refine wp_push_at (K:=KB) Tryz.underlying35 infoB rfl (by omega) _ _ rfl w.heap.size _ _ rfl P14.out.w3 ⟨g14,0,none⟩ lv (by rfl) (fun j u hu=>by
        match j,hu with
        | 0,hu =>
          simp [KB] at hu
          subst hu;rw [Ck.addr_zero];exact row_cell row 0
        | j+1,hu=>simp [KB] at hu) (by have:=HL.out.l4;omega) P14.out.bel.size ?_
       intro v14 w3 own gr hq
       have oc3:Only (Q4 o1 o2 o3 o4) wd w3:=oc.trans (only_grown gr) fun x _ e=>.inr (.inr (.inl e));refine hK _ _ (Sc.Cl.of oc3) gr.size (fun g hg hl=>gr.block g hl fun e=>by have:=(QL.out g (.inr (.inr (.inl e.symm)))).2;omega) ?_;have I14:=Lib.hid (P14.out.push3 own gr hq);clear hK K own gr hq oc oc3 row P14;refine Sg.meet (fun g15 wm hb hc row n15 hH hL=>?_);have M15:=Lib.hid (I14.out.below hb);have R15:=Lib.hid row;clear hb hc row hH hL;go_simp;refine Sg.call (fun xs w2 hb hc=>⟨by rfl,fun K hK=>?_⟩);have P15:=Lib.hid (M15.out.below hb);have row:=(hb.block _ (lt_of_block R15.out)).trans R15.out;have oc:Only (Q4 o1 o2 o3 o4) wd w2:=by obtain ⟨p,rfl⟩:=hc;exact p.ok
       clear hb hc M15 R15 I14;simp only [Sg.fill,List.foldl_nil]
       refine wp_push_at (K:=KS) Tryz.underlying80 infoQ rfl (by omega) _ _ rfl w.heap.size _ _ rfl P15.out.w4 ⟨g15,0,none⟩ h5 (by rfl) (fun j u hu=>by
        match j,hu with
        | 0,hu =>
          simp [KS] at hu
          subst hu;rw [Ck.addr_zero];exact row_cell row 0
        | j+1,hu=>simp [KS] at hu) (by have:=HL.out.l6;omega) P15.out.bel.size ?_
       intro v15 w3 own gr hq
       have oc3:Only (Q4 o1 o2 o3 o4) wd w3:=oc.trans (only_grown gr) fun x _ e=>.inr (.inr (.inr e));refine hK _ _ (Sc.Cl.of oc3) gr.size (fun g hg hl=>gr.block g hl fun e=>by have:=(QL.out g (.inr (.inr (.inr e.symm)))).2;omega) ?_;have I15:=Lib.hid (P15.out.push4 own gr hq);clear hK K own gr hq oc oc3 row P15
       repeat (refine Sg.lit (fun xs=>?_);simp only [Sg.fill,List.foldl_nil];quiet_step (fail);refine wpQuiet_nil ?_)
       refine Sg.done (fun wB hb hc=>?_);have N:=Lib.hid (HL.out.next (I15.out.below hb) TR'.out TR5'.out);clear hb hc I15 TR' TR5';go_wp2
       go_roundw
       case rel=>exact ⟨k+1,_,_,_,_,_,_,_,_,_,by omega,by omega,by go_num,rfl,rfl,rfl,rfl,N⟩
       case measure=>simp [intOf];omega
  ·have E:=Lib.hid (FIN.out k _ _ _ _ _ _ _ _ _ _ I.out hk hk8)
   by_cases q:k < n
   ·have q8:¬ k < 6:=fun h=>hlt ⟨q,h⟩
    clear hlt;go_wp2
    (try simp only [Exit.inBlock,Exit.then]);refine bodyPost_ret (results_tmp4 rfl _ _ _) rfl ?_
    exact E.out
   ·clear hlt
    go_wp2
    (try simp only [Exit.inBlock,Exit.then]);refine bodyPost_ret (results_tmp4 rfl _ _ _) rfl ?_
    exact E.out
end Go.Proofs.YtljnkaodhfnbbaaGreatDoor.Wp
namespace Go.Proofs.YtljnkaodhfnbbaaGreatDoor.Pa
open Go.RowKit
open Fl (R4 z4 rat goodF okR okL newR)
open Fs (Fil Abs key Srt OkA gB gV sB sA dA dE dD dV look_some look_none look_at put_set)
open Ro (E5 z5 okE eat mayP eat_get)
open Ck (LL lat sN sE tE gaN pg who_hit t_gap)
open Ua (bit frm te tp tb upd turn par)
theorem look_put {A:Abs} (h:Srt key A) {c e:Fil} {n:Int} (hc:Fs.look key c.1 A=some e):Fs.look key n (Fs.put key c A)=if n=c.1 then some c else Fs.look key n A:=by
 have hs:=Fs.srt_put (κ:=key) (c:=c) h
 by_cases hn:n=c.1
 ·subst hn
  rw [if_pos rfl];exact look_at (κ:=key) hs ((Fs.mem_put (κ:=key)).2 (.inl rfl))
 ·rw [if_neg hn]
  rcases e2:Fs.look key n A with _ | d
  ·rw [look_none (κ:=key)] at e2 ⊢
   intro x hx
   rcases (Fs.mem_put (κ:=key)).1 hx with rfl | ⟨hx,_⟩
   ·exact fun g=>hn g.symm
   ·exact e2 x hx
  ·obtain ⟨hm,hk⟩:=look_some (κ:=key) e2
   have hd:d.1=n:=hk;have hm2:d∈Fs.put key c A:=(Fs.mem_put (κ:=key)).2 (.inr ⟨hm,fun g=>hn (hd.symm.trans g)⟩);have:=look_at (κ:=key) hs hm2;rw [show key d=n from hk] at this;exact this
theorem gV_do {A:Abs} (hA:OkA A) {o f r n j:Int} {x:R4} (h:¬ (f=n∧r=j)):gV (dA A o f r x) n j=gV A n j:=by
 unfold dA
 split
 ·rfl
 ·rename_i e he
  split
  ·rename_i h0
   unfold gV;rw [look_put (c:=(f,e.2.1,e.2.2.set r.toNat (newR e.2.2 o r x))) hA.srt he]
   by_cases hn:n=f
   ·subst hn
    rw [if_pos rfl,he];simp only [List.length_set];have hr:0≤r:=by
     unfold dE at h0
     split at h0
     ·rw [he] at h0
      exact (Fl.doE_of h0).2.2.1
     ·omega
    split
    ·rename_i hj
     unfold rat;rw [List.getD_eq_getElem?_getD,List.getD_eq_getElem?_getD,List.getElem?_set_ne (by omega)]
    ·rfl
   ·rw [if_neg hn]
  ·rfl
theorem gB_do {A:Abs} (hA:OkA A) {o f r n j:Int} {x:R4} : gB (dA A o f r x) n j=gB A n j:=by
 unfold dA
 split
 ·rfl
 ·rename_i e he
  split
  ·unfold gB
   rw [look_put (c:=(f,e.2.1,e.2.2.set r.toNat (newR e.2.2 o r x))) hA.srt he]
   by_cases hn:n=f
   ·subst hn
    rw [if_pos rfl,he];simp only [List.length_set]
   ·rw [if_neg hn]
  ·rfl
theorem gV_ex {n j:Int} : ∀ (t:List E5) {s:Abs×Int},OkA s.1→(∀ x∈t,¬ (x.1=3∧x.2.2.1=n∧x.2.2.2.1=j))→gV (t.foldl ex1 s).1 n j=gV s.1 n j
 | [],_,_,_=>rfl
 | x :: r,s,hs,h=>by
   have h0:=h x (List.mem_cons_self ..);have hr:∀ y∈r,¬ (y.1=3∧y.2.2.1=n∧y.2.2.2.1=j):=fun y hy=>h y (List.mem_cons_of_mem _ hy);rw [List.foldl_cons]
   by_cases h3:x.1=3
   ·have e:ex1 s x=(dA s.1 2 x.2.2.1 x.2.2.2.1 z4,dD s.1 2 x.2.2.1 x.2.2.2.1 s.2):=by unfold ex1;rw [if_pos h3]
    rw [e,gV_ex r (hs.do Fl.okR_z) hr];exact gV_do hs fun g=>h0 ⟨h3,g⟩
   ·have e:ex1 s x=s:=by unfold ex1;rw [if_neg h3]
    rw [e];exact gV_ex r hs hr
theorem okA_rec {h:Hr} (hh:okH h) {t:List E5} {V:Int→Int→Bool} (hV:∀ n,V n 0=true→grp t n 0 = []) {A:Abs} (hA:OkA A):OkA (recV h t V A):=by
 refine ⟨(Fs.map_srt (κ:=key) (κ':=key) (f:=recF h t V) (fun _=>rfl)).2 hA.srt,fun e he=>?_,fun e he=>?_,fun e he=>?_⟩
 all_goals
  obtain ⟨c,hc,rfl⟩:=List.mem_map.1 he
 ·exact hA.nm c hc
 ·obtain ⟨g1,g2,g3,g4,g5⟩:=hA.good c hc
  refine ⟨g1,g2,by rw [recF_len];exact g3,by rw [recF_len];exact g4,?_⟩;rw [recF_len];have:=recF_rat (h:=h) (t:=t) (V:=V) c (k:=0) (by omega);rw [show ((0:Nat):Int)=0 from rfl] at this;rw [this]
  split
  ·rename_i hv
   rw [hV _ hv,newV_nil];exact g5
  ·exact g5
 ·intro r hr
  obtain ⟨k,hk⟩:=List.getElem?_of_mem hr;rw [recF_get] at hk
  rcases e:c.2.2[k]? with _ | v
  ·rw [e] at hk;cases hk
  ·rw [e] at hk
   simp only [Option.map_some,Option.some.injEq] at hk;have hv:okR v:=hA.ok c hc v (List.mem_of_getElem? e);rw [← hk]
   split
   ·exact newV_ok hh _ hv
   ·exact hv
theorem gV_ap {h:Hr} (hh:okH h) {t:List E5} (ok:∀ x∈t,okE x) {A:Abs} {d:Int} (hA:OkA A) {n j:Int} (hg:gB A n j=true) (hx:∀ x∈t,¬ (x.1=3∧x.2.2.1=n∧x.2.2.2.1=j)):gV (apS h t (A,d)).1 n j=newV h (grp t n j) (gV A n j):=by
 unfold apS;have h0:∀ n,(fun _ _=>true:Int→Int→Bool) n 0=true→grp t n 0 = []:=fun n _=>List.filter_eq_nil_iff.2 fun x hx2 g=>by
  have k:=ok x hx2;unfold mt at g;have g:=of_decide_eq_true g;unfold okE Ro.place at k
  omega
 rw [gV_ex t (s:=(recA h t A,d)) (okA_rec hh h0 hA) hx]
 show gV (recV h t (fun _ _=>true) A) n j=_
 rw [rec_gV n j hg,if_pos rfl]
section
end
def at_ (n j:Int) (y:E5):Bool:=decide (y.2.2.1=n∧y.2.2.2.1=j)
section
variable {h:Hr} {t:List E5} {n j c:Int} {v:R4} {k:Nat}
theorem mt_at (y:E5):mt n j y=(decide (y.1=2) && at_ n j y):=by unfold mt at_;rw [← Bool.decide_and]
end
end Go.Proofs.YtljnkaodhfnbbaaGreatDoor.Pa
namespace Go.Proofs.YtljnkaodhfnbbaaGreatDoor.Wp
open Fl (R4 z4 okR okL)
open Fs (Abs Fil OkA key gB gV dA)
open Ro (E5 okE eat)
open Pa
theorem gB_ex {n j:Int} : ∀ (t:List E5) {s:Abs×Int},OkA s.1→gB (t.foldl ex1 s).1 n j=gB s.1 n j
 | [],_,_=>rfl
 | x :: r,s,hs=>by
   rw [List.foldl_cons]
   by_cases h3:x.1=3
   ·have e:ex1 s x=(dA s.1 2 x.2.2.1 x.2.2.2.1 z4,Fs.dD s.1 2 x.2.2.1 x.2.2.2.1 s.2):=by unfold ex1;rw [if_pos h3]
    rw [e,gB_ex r (hs.do Fl.okR_z)];exact gB_do hs
   ·have e:ex1 s x=s:=by unfold ex1;rw [if_neg h3]
    rw [e];exact gB_ex r hs
theorem no0 {t:List E5} (ok:∀ x∈t,okE x):∀ n,(fun _ _=>true:Int→Int→Bool) n 0=true→grp t n 0 = []:=fun n _=>List.filter_eq_nil_iff.2 fun x hx2 g=>by
 have k:=ok x hx2;unfold Pa.mt at g;have g:=of_decide_eq_true g;unfold okE Ro.place at k
 omega
theorem gB_ap {h:Hr} (hh:okH h) {t:List E5} (ok:∀ x∈t,okE x) {A:Abs} {d:Int} (hA:OkA A) (n j:Int):gB (apS h t (A,d)).1 n j=gB A n j:=by
 unfold apS;rw [gB_ex t (s:=(recA h t A,d)) (okA_rec hh (no0 ok) hA)];exact rec_gB n j
def cst (h:Hr) (n j:Int) (v:R4) (y:E5):R4:=if Pa.mt n j y=true then rs v y.2.2.2.2 ((h y.2.1).getD 0) else v
def cV (h:Hr) (t:List E5) (n j:Int) (v:R4) (k:Nat):R4:=(t.take k).foldl (cst h n j) v
def cl1 (h:Hr) (n j:Int) (y:E5):Bool:=Pa.mt n j y && !(h y.2.1).isSome
def cr1 (n j:Int) (y:E5):Bool:=at_ n j y && decide (y.1=3)
def cL (h:Hr) (t:List E5) (n j:Int) (k:Nat):Bool:=(t.take k).any (cl1 h n j)
def cR (t:List E5) (n j:Int) (k:Nat):Bool:=(t.take k).any (cr1 n j)
section
variable {h:Hr} {t:List E5} {n j:Int} {v:R4} {k:Nat}
theorem cV_zero:cV h t n j v 0=v:=rfl
theorem cL_zero:cL h t n j 0=false:=by simp [cL]
theorem cR_zero:cR t n j 0=false:=by simp [cR]
theorem cV_next (hk:k < t.length):cV h t n j v (k+1)=cst h n j (cV h t n j v k) (eat t k):=by unfold cV;rw [take_eat hk,List.foldl_append];rfl
theorem cL_next (hk:k < t.length):cL h t n j (k+1)=(cL h t n j k || cl1 h n j (eat t k)):=by unfold cL;rw [take_eat hk,List.any_append];simp
theorem cR_next (hk:k < t.length):cR t n j (k+1)=(cR t n j k || cr1 n j (eat t k)):=by unfold cR;rw [take_eat hk,List.any_append];simp
theorem cst_fold:∀ (l:List E5) (v:R4),l.foldl (cst h n j) v=mix h (grp l n j) v
 | [],_=>rfl
 | y :: r,v=>by
   rw [List.foldl_cons];unfold grp
   by_cases e:Pa.mt n j y=true
   ·rw [List.filter_cons_of_pos e,mix_cons,cst,if_pos e]
    exact cst_fold r _
   ·rw [List.filter_cons_of_neg e,cst,if_neg e]
    exact cst_fold r _
theorem c_end (hh:okH h) (ok:∀ x∈t,okE x) {A:Abs} {d:Int} (hA:OkA A) (hg:gB A n j=true) (hr:cR t n j t.length=false) :
 gV (apS h t (A,d)).1 n j=if cL h t n j t.length=true then gV A n j else cV h t n j (gV A n j) t.length:=by
 unfold cR at hr;rw [List.take_length,List.any_eq_false] at hr;have hx:∀ x∈t,¬ (x.1=3∧x.2.2.1=n∧x.2.2.2.1=j):=fun x hx ⟨g1,g2,g3⟩=>hr x hx (by simp [cr1,at_,g1,g2,g3]);rw [gV_ap hh ok hA hg hx];unfold cL cV newV;rw [List.take_length,cst_fold]
 by_cases e:t.any (cl1 h n j)=true
 ·rw [if_pos e,if_neg]
  intro q
  obtain ⟨y,hy,g⟩:=List.any_eq_true.1 e;unfold cl1 at g;rw [Bool.and_eq_true] at g;unfold allH grp at q;rw [List.all_eq_true] at q;have:=q y (List.mem_filter.2 ⟨hy,g.1⟩);rw [this] at g;exact absurd g.2 (by decide)
 ·rw [if_neg e,if_pos]
  unfold allH grp;rw [List.all_eq_true]
  intro y hy
  obtain ⟨hy1,hy2⟩:=List.mem_filter.1 hy
  rcases q:(h y.2.1).isSome with _ | _
  ·refine absurd (List.any_eq_true.2 ⟨y,hy1,?_⟩) e
   unfold cl1;rw [hy2,q]
   rfl
  ·rfl
end
end Go.Proofs.YtljnkaodhfnbbaaGreatDoor.Wp
namespace Go.Proofs.YtljnkaodhfnbbaaGreatDoor.Re
open Go.RowKit
open Rw (Rd Ow At)
open Fl (R4 z4 rec4 K4 okR okL okR_at hdr rat goodF)
def KI:Rw.Kind Int:=Rw.int .i64
theorem infoI:(Tryz.prog.info? 3).map (fun i=>(i.zero,i.size,i.bytes))=some (some (.int .i64 0),1,8):=by kernel_rfl
theorem addr_zero (a:Addr):a.add 0=a:=by cases a;simp [Addr.add]
def iat (l:List Int) (i:Nat):Int:=l.getD i 0
theorem at1 {w:World} {b off:Nat} {l:List Int} (h:At KI w b off l) (i:Nat) (hi:i < l.length):w.cell? ⟨b,off+i,none⟩=some (.int .i64 (iat l i)):=by
 have c:=h i hi 0 _ rfl;simp only [KI,Rw.int,Nat.mul_one,Nat.add_zero] at c;exact c
theorem iat_get {l:List Int} {i:Nat} (h:i < l.length):l[i]? = some (iat l i):=by
 unfold iat;rw [List.getD_eq_getElem?_getD,List.getElem?_eq_getElem h]
 rfl
theorem ints_same {l l':List Int} (hl:l.length=l'.length) (h:∀ i,i < l.length→iat l i=iat l' i):l=l':=by
 refine List.ext_getElem hl fun i h1 h2=>?_;have:=h i h1
 simpa [iat,List.getD,List.getElem?_eq_getElem h1,List.getElem?_eq_getElem h2] using this
def okI (x:Int):Prop:=0≤x∧x≤5
instance (x:Int):Decidable (okI x):=by unfold okI;infer_instance
def seqP (l:List Int):Prop:=(0 < l.length∧l.length≤64)∧∀ i,i < l.length→okI (iat l i)
instance (l:List Int):Decidable (seqP l):=by unfold seqP;infer_instance
def seqB (l:List Int):Bool:=decide (seqP l)
theorem seq_no {l:List Int} {k:Nat} (hk:k < l.length) (h:¬ okI (iat l k)):false=seqB l:=(decide_eq_false (fun g=>h (g.2 k hk))).symm
theorem seq_long {l:List Int} (h:¬ (0 < l.length∧l.length≤64)):false=seqB l:=(decide_eq_false (fun g=>h g.1)).symm
theorem seq_yes {l:List Int} (h:0 < l.length∧l.length≤64) (g:∀ i,i < l.length→okI (iat l i)):true=seqB l:=(decide_eq_true ⟨h,g⟩).symm
def putI (x:Int):R4:=(x,0,0,0)
def fileL (l:List Int):List R4:=hdr 3 (l.length:Int) :: l.map putI
def fL (l:List Int):List R4:=if seqP l then fileL l else []
def fP (l:List Int):Int:=if seqP l then 3 else 0
def fN (l:List Int):Int:=if seqP l then 0 else 1
def takL (l:List R4):List Int:=(l.drop 1).map (·.1)
def isS (p:Int) (l:List R4):Prop:=goodF p l∧seqP (takL l)∧p=3∧l=fileL (takL l)
instance (p:Int) (l:List R4):Decidable (isS p l):=by unfold isS;infer_instance
def sL (p:Int) (l:List R4):List Int:=if isS p l then takL l else []
def sN (p:Int) (l:List R4):Int:=if isS p l then 0 else 2
theorem file_len (l:List Int):(fileL l).length=l.length+1:=by simp [fileL]
theorem tak_len (l:List R4):(takL l).length=l.length - 1:=by simp [takL]
theorem tak_file (l:List Int):takL (fileL l)=l:=by
 have e:(fun x=>(putI x).1)=(id:Int→Int):=rfl;simp only [takL,fileL,List.drop_succ_cons,List.drop_zero,List.map_map,Function.comp_def,e,List.map_id]
theorem file_good {l:List Int} (h:seqP l):goodF 3 (fileL l):=by
 have hl:=file_len l;have:=h.1;refine ⟨by omega,by omega,by omega,by omega,?_⟩;have e:((fileL l).length:Int) - 1=(l.length:Int):=by omega
 rw [e]
 rfl
theorem file_is {l:List Int} (h:seqP l):isS 3 (fileL l):=⟨file_good h,by rw [tak_file];exact h,rfl,by rw [tak_file]⟩
theorem seq_file {l:List Int} (h:seqP l):sL 3 (fileL l)=l∧sN 3 (fileL l)=0:=by
 unfold sL sN;rw [if_pos (file_is h),if_pos (file_is h),tak_file];exact ⟨rfl,rfl⟩
theorem okI_R {x:Int} (h:okI x):okR (putI x):=by
 obtain ⟨a,b⟩:=h;unfold okR putI;simp only
 omega
theorem seq_each {l:List Int} (h:seqP l):∀ x∈l,okI x:=fun x hx=>by
 obtain ⟨i,hi,e⟩:=List.getElem_of_mem hx;have g:=h.2 i hi;have e':iat l i=x:=by
  have:=iat_get hi;rw [List.getElem?_eq_getElem hi,e] at this;exact (Option.some.inj this).symm
 rw [e'] at g;exact g
theorem ok_file {l:List Int} (h:seqP l):okL (fileL l):=by
 intro r hr
 rcases List.mem_cons.1 hr with rfl | hr
 ·have:=h.1
  have hb:∀ n:Fin 65,okR (hdr 3 (n.val:Int)):=by unfold okR;decide +kernel
  have e:=hb ⟨l.length,by omega⟩
  simpa using e
 ·obtain ⟨x,hx,rfl⟩:=List.mem_map.1 hr
  exact okI_R (seq_each h x hx)
theorem tak_at {l:List R4} {i:Nat} (h:i+1 < l.length):iat (takL l) i=(rat l (i+1)).1:=by
 have e:(takL l)[i]? = some (rat l (i+1)).1:=by
  unfold takL rat;rw [List.getElem?_map,List.getElem?_drop,Nat.add_comm 1 i,List.getD_eq_getElem?_getD,List.getElem?_eq_getElem h]
  rfl
 unfold iat;rw [List.getD_eq_getElem?_getD,e]
 rfl
theorem s_no {p:Int} {l:List R4} (h:¬ isS p l):sL p l = []∧sN p l=2:=⟨if_neg h,if_neg h⟩
theorem s_yes {p:Int} {l:List R4} (h:isS p l):sL p l=takL l∧sN p l=0:=⟨if_pos h,if_pos h⟩
theorem tak_next {l:List R4} {k:Nat} (h:k+1 < l.length):(takL l).take k ++ [(rat l (k+1)).1]=(takL l).take (k+1):=by
 rw [List.take_add_one,iat_get (by rw [tak_len];omega),tak_at h]
 rfl
def part (h:R4) (l:List Int) (k:Nat):List R4:=h :: ((l.take k).map putI ++ List.replicate (l.length - k) z4)
theorem part_len (h:R4) (l:List Int) (k:Nat) (hk:k≤l.length):(part h l k).length=l.length+1:=by
 simp [part,List.length_take]
 omega
theorem part_start (h:R4) (l:List Int):part h l 0=h :: List.replicate l.length z4:=by simp [part]
theorem take_next {l:List Int} {k:Nat} (hk:k < l.length):l.take (k+1)=l.take k ++ [iat l k]:=by
 rw [List.take_add_one,iat_get hk]
 rfl
theorem part_set (h:R4) {l:List Int} {k:Nat} (hk:k < l.length):(part h l k).set (1+k) (putI (iat l k))=part h l (k+1):=by
 have e1:(l.take k).length=k:=by rw [List.length_take];omega
 unfold part;rw [Nat.add_comm 1 k,List.set_cons_succ,List.set_append_right _ _ (by rw [List.length_map,e1];omega),List.length_map,e1,Nat.sub_self,take_next hk];rw [show l.length - k=(l.length - (k+1))+1 by omega,List.replicate_succ]
 simp
theorem part_end (h:R4) (l:List Int):part h l l.length=h :: l.map putI:=by
 unfold part;rw [List.take_length,Nat.sub_self]
 simp
theorem own_next {l:List Int} {k:Nat} (h:R4) (hk:k < l.length):(h :: (l.take k).map putI) ++ [putI (iat l k)]=h :: (l.take (k+1)).map putI:=by
 rw [take_next hk]
 simp
def nxP (l:List Int) (t:Int):Prop:=seqP l∧0≤t∧t < l.length
instance (l:List Int) (t:Int):Decidable (nxP l t):=by unfold nxP;infer_instance
def nR (l:List Int) (t:Int):Int:=if nxP l t then iat l t.toNat else 0
def nT (l:List Int) (t:Int):Int:=if nxP l t then (if t+1=l.length then 0 else t+1) else 0
def nE (l:List Int) (t:Int):Int:=if nxP l t then 0 else 1
def NextPost (w:World) (l:List Int) (t:Int) (e:Ending) (w':World):Prop:=e = .returned (.tuple #[.int .i64 (nR l t),.int .i64 (nT l t),.int .i64 (nE l t)])∧Below w.heap.size w w'
theorem next_no {w:World} {l:List Int} {t:Int} (h:¬ nxP l t) (w':World) (hb:Below w.heap.size w w'):NextPost w l t (.returned (.tuple #[.int .i64 0,.int .i64 0,.int .i64 1])) w':=⟨by unfold nR nT nE;rw [if_neg h,if_neg h,if_neg h],hb⟩
theorem next_last {w:World} {l:List Int} {k:Nat} (h:nxP l k) (h1:k+1=l.length) (w':World) (hb:Below w.heap.size w w'):NextPost w l k (.returned (.tuple #[.int .i64 (iat l k),.int .i64 0,.int .i64 0])) w':=⟨by unfold nR nT nE;rw [if_pos h,if_pos h,if_pos h,if_pos (by omega)];rfl,hb⟩
theorem next_more {w:World} {l:List Int} {k:Nat} (h:nxP l k) (h1:k+1≠l.length) (w':World) (hb:Below w.heap.size w w'):NextPost w l k (.returned (.tuple #[.int .i64 (iat l k),.int .i64 ((k:Int)+1),.int .i64 0])) w':=⟨by unfold nR nT nE;rw [if_pos h,if_pos h,if_pos h,if_neg (by omega)];rfl,hb⟩
def SeqPost (w:World) (p:Int) (l:List R4) (e:Ending) (w':World):Prop:=∃ u,e = .returned (.tuple #[u,.int .i64 (sN p l)])∧Rd KI w' u (sL p l)∧Below w.heap.size w w'
def FilePost (w:World) (l:List Int) (e:Ending) (w':World):Prop:=∃ u,e = .returned (.tuple #[Fl.file (fP l) u,.int .i64 (fN l)])∧Rd K4 w' u (fL l)∧Below w.heap.size w w'
theorem file_no {w:World} {l:List Int} (h:¬ seqP l) (w':World) (hb:Below w.heap.size w w'):FilePost w l (.returned (.tuple #[Fl.file 0 (.slice none 0 0),.int .i64 1])) w' :=
 ⟨_,by unfold fP fN;rw [if_neg h,if_neg h],by unfold fL;rw [if_neg h];exact Rw.Rd.nil _,hb⟩
theorem file_yes {w:World} {l:List Int} (h:seqP l) (u:Value) (w':World) (hr:Rd K4 w' u (fileL l)) (hb:Below w.heap.size w w'):FilePost w l (.returned (.tuple #[Fl.file 3 u,.int .i64 0])) w' :=
 ⟨u,by unfold fP fN;rw [if_pos h,if_pos h],by unfold fL;rw [if_pos h];exact hr,hb⟩
theorem sq_no {w:World} {p:Int} {l:List R4} (h:¬ isS p l) (w':World) (hb:Below w.heap.size w w'):SeqPost w p l (.returned (.tuple #[.slice none 0 0,.int .i64 2])) w' :=
 ⟨_,by rw [(s_no h).2],by rw [(s_no h).1];exact Rw.Rd.nil _,hb⟩
theorem sq_yes {w:World} {p:Int} {l:List R4} (h:isS p l) (u:Value) (w':World) (hr:Rd KI w' u (takL l)) (hb:Below w.heap.size w w'):SeqPost w p l (.returned (.tuple #[u,.int .i64 0])) w' :=
 ⟨u,by rw [(s_yes h).2],by rw [(s_yes h).1];exact hr,hb⟩
end Go.Proofs.YtljnkaodhfnbbaaGreatDoor.Re
namespace Go.Proofs.YtljnkaodhfnbbaaGreatDoor.Wt
structure A where
 r0:Int
 q0:Int
 r1:Int
 q1:Int
def new:A:=⟨1,0,2,0⟩
def t1 (a:A):A:=if a.r0≠1∧a.r1≠1∧((a.r0=2∧4≤a.q0)∨(a.r0=3∧8≤a.q0)) then { a with r0:=1 } else a
def t2 (a:A):A:=if a.r0≠1∧a.r1≠1∧((a.r1=2∧4≤a.q1)∨(a.r1=3∧9≤a.q1)) then { a with r1:=1 } else a
def tk (a:A):A:=t2 (t1 a)
def hdN (r:Int):Int:=if r=3 then 2 else r
def op (a:A):Int:=if a.r0=1 then 0 else if a.r1=1 then 1 else -1
def hd (a:A):A:=if a.r0=1 then ⟨1,0,hdN a.r1,0⟩ else if a.r1=1 then ⟨hdN a.r0,0,1,0⟩ else ⟨a.r0,a.q0+1,a.r1,a.q1+1⟩
def opn (a:A):Int:=op (tk a)
def rnd (a:A):A:=hd (tk a)
def rl (a:A) (n:Int):Int:=if n=0 then a.r0 else if n=1 then a.r1 else 0
def crE (a:A) (n:Int):Int:=if n=0 then (if a.r0=4 then 10 else 0) else if n=1 then (if a.r1=4 then 10 else 0) else 1
def crA (a:A) (n:Int):A:=if n=0 then { a with r0:=4 } else if n=1 then { a with r1:=4 } else a
def rsE (a:A) (n:Int):Int:=if n=0 then (if a.r0=4 then 0 else 10) else if n=1 then (if a.r1=4 then 0 else 10) else 1
def rsA (a:A) (n:Int):A:=if n=0 then (if a.r0=4 then { a with r0:=3,q0:=0 } else a) else if n=1 then (if a.r1=4 then { a with r1:=3,q1:=0 } else a) else a
structure Ok (a:A):Prop where
 b0:1≤a.r0∧a.r0≤4
 b1:1≤a.r1∧a.r1≤4
 one:¬ (a.r0=1∧a.r1=1)
 p0:0≤a.q0
 p1:0≤a.q1
theorem ok_new:Ok new:=⟨by decide,by decide,by decide,by decide,by decide⟩
section
variable {a:A} (h:Ok a)
include h
theorem Ok.t1:Ok (t1 a):=by
 obtain ⟨h1,h2,h3,h4,h5⟩:=h;unfold Wt.t1
 split
 ·rename_i g
  exact ⟨by simp,h2,fun q=>g.2.1 q.2,h4,h5⟩
 ·exact ⟨h1,h2,h3,h4,h5⟩
theorem Ok.t2:Ok (t2 a):=by
 obtain ⟨h1,h2,h3,h4,h5⟩:=h;unfold Wt.t2
 split
 ·rename_i g
  exact ⟨h1,by simp,fun q=>g.1 q.1,h4,h5⟩
 ·exact ⟨h1,h2,h3,h4,h5⟩
theorem Ok.tk:Ok (tk a):=h.t1.t2
theorem Ok.hd:Ok (hd a):=by
 obtain ⟨h1,h2,h3,h4,h5⟩:=h;unfold Wt.hd hdN
 split
 ·refine ⟨by simp,?_,?_,by simp,by simp⟩ <;> simp only <;> split <;> omega
 ·split
  ·refine ⟨?_,by simp,?_,by simp,by simp⟩ <;> simp only <;> split <;> omega
  ·exact ⟨h1,h2,h3,by simp only;omega,by simp only;omega⟩
theorem Ok.rnd:Ok (rnd a):=h.tk.hd
theorem Ok.cr (n:Int):Ok (crA a n):=by
 obtain ⟨h1,h2,h3,h4,h5⟩:=h;unfold crA
 split
 ·exact ⟨by simp,h2,by simp,h4,h5⟩
 ·split
  ·exact ⟨h1,by simp,by simp,h4,h5⟩
  ·exact ⟨h1,h2,h3,h4,h5⟩
theorem Ok.rs (n:Int):Ok (rsA a n):=by
 obtain ⟨h1,h2,h3,h4,h5⟩:=h;unfold rsA
 split
 ·split
  ·exact ⟨by simp,h2,by simp,by simp,h5⟩
  ·exact ⟨h1,h2,h3,h4,h5⟩
 ·split
  ·split
   ·exact ⟨h1,by simp,by simp,h4,by simp⟩
   ·exact ⟨h1,h2,h3,h4,h5⟩
  ·exact ⟨h1,h2,h3,h4,h5⟩
end
def d0 (a:A):Prop:=(a.r0=2∧4≤a.q0)∨(a.r0=3∧8≤a.q0)
def d1 (a:A):Prop:=(a.r1=2∧4≤a.q1)∨(a.r1=3∧9≤a.q1)
theorem opn_parts (a:A):(opn a=0∧(a.r0=1∨(a.r0≠1∧a.r1≠1∧d0 a))∧(rnd a).r0=1)∨(opn a=1∧a.r0≠1∧(a.r1=1∨(a.r1≠1∧¬ d0 a∧d1 a))∧(rnd a).r1=1)∨(opn a = -1∧a.r0≠1∧a.r1≠1∧¬ d0 a∧¬ d1 a∧rnd a=⟨a.r0,a.q0+1,a.r1,a.q1+1⟩):=by
 obtain ⟨r0,q0,r1,q1⟩:=a;unfold opn rnd tk t1 t2 op hd d0 d1
 by_cases e0:r0=1
 ·exact .inl (by simp [e0])
 ·by_cases e1:r1=1
  ·exact .inr (.inl (by simp [e0,e1]))
  ·by_cases g0:(r0=2∧4≤q0)∨(r0=3∧8≤q0)
   ·exact .inl (by simp [e0,e1,g0])
   ·by_cases g1:(r1=2∧4≤q1)∨(r1=3∧9≤q1)
    ·exact .inr (.inl (by simp [e0,e1,g0,g1]))
    ·exact .inr (.inr (by simp [e0,e1,g0,g1]))
section
end
end Go.Proofs.YtljnkaodhfnbbaaGreatDoor.Wt
namespace Go.Proofs.YtljnkaodhfnbbaaGreatDoor.Cu
open Fl (R4 z4 okR okL goodF)
open Fs (Fil Abs OkA key look_none dE dV dA dD sB sA addE addA)
open Pa (Sts S2 sat vat rdE rdL rdS rdS_len rdS_at apS hr hr_ok okA_rec ex1 exU dD_le exU_d exU_end okH)
open Ro (E5 okE tabL tabN tab_may may_len eat)
open Ck (LL lat tE)
open Re (iat sL sN seqP takL isS)
def fB (A:Abs) (n:Int):Bool:=(Fs.look key n A).isSome
def fP (A:Abs) (n:Int):Int:=match Fs.look key n A with | none=>0 | some e=>e.2.1
def fR (A:Abs) (n:Int):List R4:=match Fs.look key n A with | none=>[] | some e=>e.2.2
theorem fR_ok {A:Abs} (h:OkA A) (n:Int):okL (fR A n):=by
 unfold fR
 split
 ·exact nofun
 ·rename_i e he
  exact (h.find he).2.2.1
def sqL (A:Abs):List Int:=sL (fP A 40) (fR A 40)
def sqB (A:Abs):Bool:=fB A 40 && decide (sN (fP A 40) (fR A 40)=0)
theorem sqL_seq {A:Abs} (h:sqB A=true):seqP (sqL A):=by
 unfold sqB at h;rw [Bool.and_eq_true,decide_eq_true_eq] at h;obtain ⟨_,h⟩:=h;unfold sqL sL;unfold sN at h
 split
 ·rename_i g
  exact g.2.1
 ·rename_i g
  rw [if_neg g] at h
  omega
structure Cs where
 S:Sts
 V:List Bool
 P:Wt.A
 pl:Nat
 Q:List S2
def tbs (S:Sts) (n:Int):LL:=S.map fun x=>tabL (fP x.1 (32+n)) (fR x.1 (32+n))
theorem tbs_len (S:Sts) (n:Int):(tbs S n).length=S.length:=List.length_map _
theorem tbs_at (S:Sts) (n:Int) {i:Nat} (hi:i < S.length):lat (tbs S n) i=tabL (fP (sat S i).1 (32+n)) (fR (sat S i).1 (32+n)):=by
 unfold lat tbs sat;rw [List.getD_eq_getElem?_getD,List.getElem?_map,List.getElem?_eq_getElem hi,Int.toNat_natCast,List.getD_eq_getElem?_getD,List.getElem?_eq_getElem hi]
 rfl
theorem tbs_mem {S:Sts} {n:Int} {t:List E5} (h:t∈tbs S n):t.length≤16∧∀ x∈t,okE x:=by
 obtain ⟨x,_,rfl⟩:=List.mem_map.1 h;have m:=tab_may (fP x.1 (32+n)) (fR x.1 (32+n));refine ⟨may_len m,fun y hy=>?_⟩;obtain ⟨i,hi⟩:=List.getElem?_of_mem hy;have hl:=(List.getElem?_eq_some_iff.1 hi).1;have:=(m i hl).1;rw [Ro.eat_get hl] at hi;injection hi with hi;rw [← hi];exact this
def at0 (c:Cs) (l:List Int):Nat:=if l.length≤c.pl then 0 else c.pl
def at1 (c:Cs) (l:List Int):Nat:=if at0 c l+1=l.length then 0 else at0 c l+1
def own (c:Cs):Abs:=(sat c.S (Wt.opn c.P)).1
def rT (c:Cs):LL:=tbs c.S (iat (sqL (own c)) (at0 c (sqL (own c))))
def rE (c:Cs):Int:=if Wt.opn c.P < 0 then 0 else if sqB (own c)=true then rdE c.S (rT c) c.V else 2
def rC (c:Cs):Cs :=
 if Wt.opn c.P < 0 then { c with P:=Wt.rnd c.P,Q:=[] }
 else if sqB (own c)=true then { S:=if rdE c.S (rT c) c.V=0 then rdL c.S (rT c) c.V c.Q else c.S,V:=c.V,P:=Wt.rnd c.P,pl:=at1 c (sqL (own c)),Q:=[] }
 else { c with P:=Wt.rnd c.P,Q:=[] }
structure Ac where
 k:Int
 n:Int
 f:Int
 r:Int
 v:R4
 s:Int
 m:Int
 t:Int
def no (c:Cs) (n:Int):Prop:=n < 0∨(c.S.length:Int)≤n
instance (c:Cs) (n:Int):Decidable (no c n):=by unfold no;infer_instance
def actE (x:Ac) (c:Cs):Int :=
 if x.k=1 then rE c
 else if x.k=3 then (if c.Q.length=32 then 11 else 0)
 else if x.k < 2∨6 < x.k∨no c x.n then 1
 else if x.k=2 then (if vat c.V x.n=true then (if sB (sat c.S x.n).1 x.f x.r=true then 0 else 3) else 10)
 else if x.k=4 then (if vat c.V x.n=true then 0 else 10)
 else if x.k=5 then (if vat c.V x.n=true then 10 else 0)
 else if x.t < -2000∨2000 < x.t then 1 else 0
def setS (S:Sts) (n:Int) (x:Abs×Int):Sts:=S.set n.toNat x
def actC (x:Ac) (c:Cs):Cs :=
 if x.k=1 then rC c
 else if actE x c≠0 then c
 else if x.k=3 then { c with Q:=c.Q ++ [(x.s,x.m)] }
 else if x.k=2 then { c with S:=setS c.S x.n (sA (sat c.S x.n).1 x.f x.r x.v,(sat c.S x.n).2) }
 else if x.k=4 then { c with V:=c.V.set x.n.toNat false,P:=Wt.crA c.P x.n }
 else if x.k=5 then { c with V:=c.V.set x.n.toNat true,P:=Wt.rsA c.P x.n }
 else c
structure OkC (c:Cs) (t:Nat):Prop where
 len:2≤c.S.length∧c.S.length≤32
 lv:c.V.length=c.S.length
 st:∀ i,i < c.S.length→OkA (sat c.S i).1∧0≤(sat c.S i).2∧(sat c.S i).2≤100 * t
 pr:Wt.Ok c.P
 pl:c.pl≤64
 few:c.Q.length≤32
theorem sat_set {S:Sts} {n:Int} {x:Abs×Int} (h0:0≤n) (h1:n < S.length) (i:Nat):sat (setS S n x) i=if (i:Int)=n then x else sat S i:=by
 unfold sat setS;rw [Int.toNat_natCast,List.getD_eq_getElem?_getD,List.getD_eq_getElem?_getD,List.getElem?_set]
 by_cases e:(i:Int)=n
 ·subst e
  rw [Int.toNat_natCast,if_pos rfl,if_pos (by omega),if_pos rfl]
  rfl
 ·rw [if_neg (by omega),if_neg e]
theorem okA_ex {t:List E5} : ∀ {s:Abs×Int},OkA s.1→OkA (t.foldl ex1 s).1:=by
 induction t with
 | nil=>exact id
 | cons x r ih =>
   intro s h
   rw [List.foldl_cons]
   apply ih
   unfold ex1
   split
   ·exact h.do Fl.okR_z
   ·exact h
theorem okA_ap {h:Pa.Hr} (hh:okH h) {t:List E5} (ok:∀ x∈t,okE x) {s:Abs×Int} (hA:OkA s.1):OkA (apS h t s).1:=by
 have h0:∀ n,(fun _ _=>true:Int→Int→Bool) n 0=true→Pa.grp t n 0 = []:=fun n _=>List.filter_eq_nil_iff.2 fun x hx2 g=>by
  have k:=ok x hx2;unfold Pa.mt at g;have g:=of_decide_eq_true g;unfold okE Ro.place at k
  omega
 exact okA_ex (okA_rec hh h0 hA)
section
variable {c:Cs} {t:Nat} (h:OkC c t)
include h
theorem OkC.next:OkC c (t+1):=⟨h.len,h.lv,fun i hi=>by have:=h.st i hi;exact ⟨this.1,this.2.1,by omega⟩,h.pr,h.pl,h.few⟩
theorem OkC.setS {n:Int} {x:Abs×Int} (h0:0≤n) (h1:n < c.S.length) (hx:OkA x.1∧0≤x.2∧x.2≤100 * (t+1:Nat)):OkC { c with S:=Cu.setS c.S n x } (t+1):=by
 have hl:(Cu.setS c.S n x).length=c.S.length:=List.length_set;refine ⟨by rw [hl];exact h.len,h.lv.trans hl.symm,fun i hi=>?_,h.pr,h.pl,h.few⟩;rw [hl] at hi
 show OkA (sat (Cu.setS c.S n x) i).1∧_
 rw [sat_set h0 h1]
 split
 ·exact hx
 ·have:=h.st i hi;exact ⟨this.1,this.2.1,by omega⟩
theorem OkC.round:OkC (rC c) (t+1):=by
 have n:=h.next;unfold rC
 split
 ·exact ⟨n.len,n.lv,n.st,h.pr.rnd,n.pl,by simp⟩
 ·split
  ·rename_i hs
   have sq:=sqL_seq hs;have hl:(if rdE c.S (rT c) c.V=0 then rdL c.S (rT c) c.V c.Q else c.S).length=c.S.length:=by
    split
    ·rename_i e
     have er:rdL c.S (rT c) c.V c.Q=rdS c.S (rT c) c.V (hr c.S (rT c) c.V c.Q):=if_pos e;rw [er,rdS_len]
    ·rfl
   refine ⟨by rw [hl];exact h.len,h.lv.trans hl.symm,fun i hi=>?_,h.pr.rnd,?_,by simp⟩
   ·rw [hl] at hi
    show OkA (sat (if rdE c.S (rT c) c.V=0 then rdL c.S (rT c) c.V c.Q else c.S) i).1∧0≤(sat (if rdE c.S (rT c) c.V=0 then rdL c.S (rT c) c.V c.Q else c.S) i).2∧(sat (if rdE c.S (rT c) c.V=0 then rdL c.S (rT c) c.V c.Q else c.S) i).2≤_
    have hi':=h.st i hi
    split
    ·rename_i e
     have er:rdL c.S (rT c) c.V c.Q=rdS c.S (rT c) c.V (hr c.S (rT c) c.V c.Q):=if_pos e;rw [er,rdS_at _ _ _ _ hi]
     split
     ·have hm:lat (rT c) i∈rT c:=by
       have hl2:i < (rT c).length:=by unfold rT;rw [tbs_len];exact hi
       unfold lat;rw [List.getD_eq_getElem?_getD,List.getElem?_eq_getElem hl2];exact List.getElem_mem hl2
      obtain ⟨m1,m2⟩:=tbs_mem (S:=c.S) (n:=iat (sqL (own c)) (at0 c (sqL (own c)))) hm;have hd:=exU_d (t:=lat (rT c) i) ((Pa.recA (hr c.S (rT c) c.V c.Q) (lat (rT c) i) (sat c.S i).1),(sat c.S i).2) (lat (rT c) i).length;rw [exU_end] at hd;simp only at hd;exact ⟨okA_ap (hr_ok _ _ _ _) m2 hi'.1,by omega,by omega⟩
     ·exact ⟨hi'.1,hi'.2.1,by omega⟩
    ·exact ⟨hi'.1,hi'.2.1,by omega⟩
   ·show at1 c (sqL (own c))≤64
    unfold at1 at0;have:=sq.1;have:=h.pl
    split <;> split <;> omega
  ·exact ⟨n.len,n.lv,n.st,h.pr.rnd,n.pl,by simp⟩
theorem OkC.act (x:Ac) (hx:okR x.v):OkC (actC x c) (t+1):=by
 have n:=h.next;unfold actC
 by_cases h1:x.k=1
 ·rw [if_pos h1];exact h.round
 ·rw [if_neg h1]
  by_cases he:actE x c≠0
  ·rw [if_pos he];exact n
  ·rw [if_neg he]
   have he:=Classical.not_not.1 he;unfold actE at he;rw [if_neg h1] at he
   by_cases h3:x.k=3
   ·rw [if_pos h3]
    rw [if_pos h3] at he;refine ⟨n.len,n.lv,n.st,n.pr,n.pl,?_⟩
    show (c.Q ++ [(x.s,x.m)]).length≤32
    have:=h.few;rw [List.length_append]
    split at he
    ·omega
    ·simp only [List.length_cons,List.length_nil];omega
   ·rw [if_neg h3]
    rw [if_neg h3] at he
    by_cases hn:x.k < 2∨6 < x.k∨no c x.n
    ·rw [if_pos hn] at he;omega
    ·have hin:0≤x.n∧x.n < c.S.length:=by
      have:¬ no c x.n:=fun g=>hn (.inr (.inr g));unfold no at this
      omega
     by_cases h2:x.k=2
     ·rw [if_pos h2]
      have hs:=h.st x.n.toNat (by omega);rw [Int.toNat_of_nonneg hin.1] at hs;exact h.setS hin.1 hin.2 ⟨hs.1.set hx,hs.2.1,by simp only;omega⟩
     ·rw [if_neg h2]
      by_cases h4:x.k=4
      ·rw [if_pos h4]
       exact ⟨n.len,by show (c.V.set _ _).length=_;rw [List.length_set];exact h.lv,n.st,h.pr.cr x.n,n.pl,n.few⟩
      ·rw [if_neg h4]
       by_cases h5:x.k=5
       ·rw [if_pos h5]
        exact ⟨n.len,by show (c.V.set _ _).length=_;rw [List.length_set];exact h.lv,n.st,h.pr.rs x.n,n.pl,n.few⟩
       ·rw [if_neg h5];exact n
end
theorem vat_set {V:List Bool} {n:Int} {b:Bool} (h0:0≤n) (h1:n < V.length) (i:Int) (hi:0≤i):vat (V.set n.toNat b) i=if i=n then b else vat V i:=by
 unfold vat;rw [List.getD_eq_getElem?_getD,List.getD_eq_getElem?_getD,List.getElem?_set]
 by_cases e:i=n
 ·subst e
  rw [if_pos rfl,if_pos (by omega),if_pos rfl]
  rfl
 ·rw [if_neg (by omega),if_neg e]
abbrev Pl:=List Fil×Int
def plat (L:List Pl) (i:Nat):Pl:=L.getD i ([],0)
def gdF (F:List Fil):Prop:=Fs.Srt key F∧∀ e∈F,(0≤e.1∧e.1≤63)∧goodF e.2.1 e.2.2
def gdP (p:Pl):Prop:=gdF p.1∧-2000≤p.2∧p.2≤2000
def agree (L:List Pl):Prop:=sqB (plat L 0).1=true∧fB (plat L 1).1 40=true∧fP (plat L 0).1 40=fP (plat L 1).1 40∧fR (plat L 0).1 40=fR (plat L 1).1 40
open Classical in
noncomputable def newE (L:List Pl):Int:=if L.length < 2∨32 < L.length then 1 else if ∀ p∈L,gdP p then (if agree L then 0 else 10) else 2
def newC (L:List Pl):Cs:=⟨L.map fun p=>(p.1,0),L.map fun _=>true,Wt.new,0,[]⟩
theorem new_sat {L:List Pl} {i:Nat} (hi:i < L.length):sat (newC L).S i=((plat L i).1,0):=by
 unfold sat newC plat;rw [Int.toNat_natCast,List.getD_eq_getElem?_getD,List.getElem?_map,List.getElem?_eq_getElem hi,List.getD_eq_getElem?_getD,List.getElem?_eq_getElem hi]
 rfl
theorem new_vat {L:List Pl} {i:Nat} (hi:i < L.length):vat (newC L).V i=true:=by
 unfold vat newC;rw [Int.toNat_natCast,List.getD_eq_getElem?_getD,List.getElem?_map,List.getElem?_eq_getElem hi]
 rfl
theorem new_ok {L:List Pl} (h:newE L=0) (ok:∀ p∈L,∀ e∈p.1,okL e.2.2):OkC (newC L) 0:=by
 unfold newE at h
 split at h
 ·omega
 ·rename_i hl
  split at h
  ·rename_i hg
   have hll:(newC L).S.length=L.length:=List.length_map _;refine ⟨by rw [hll];omega,by show (L.map _).length=(L.map _).length;rw [List.length_map,List.length_map],fun i hi=>?_,Wt.ok_new,by show 0≤64;omega,by show 0≤32;omega⟩;have hi':i < L.length:=by
    have:(newC L).S.length=L.length:=List.length_map _
    omega
   have hm:plat L i∈L:=by
    unfold plat;rw [List.getD_eq_getElem?_getD,List.getElem?_eq_getElem hi'];exact List.getElem_mem hi'
   obtain ⟨⟨g1,g2⟩,_⟩:=hg _ hm;rw [new_sat hi'];exact ⟨⟨g1,fun e he=>(g2 e he).1,fun e he=>(g2 e he).2,ok (plat L i) hm⟩,Int.le_refl _,by omega⟩
  ·omega
def actA (x:Ac):Array Value:=#[.int .i64 x.k,.int .i64 x.n,.int .i64 x.f,.int .i64 x.r,.int .u8 x.v.1,.int .u8 x.v.2.1,.int .u8 x.v.2.2.1,.int .u8 x.v.2.2.2,.int .i64 x.s,.int .i64 x.m,.int .i64 x.t]
def actV (x:Ac):Value:=.agg (actA x)
end Go.Proofs.YtljnkaodhfnbbaaGreatDoor.Cu
namespace Go.Proofs.YtljnkaodhfnbbaaGreatDoor.Cu
open Go.RowKit Go.Maps
open Fs (Abs St Only Fx)
open Rw (Rd Ow At)
open Pa (Sts sat KN only_grown Stl Has)
section
variable {E:TypeId} {w wr w1:World} {S:Sts} {k:Nat} {o o':Value} {ps:List Nat} {Fs:Nat→Nat→Prop} {g:Nat} {F5:Nat→Prop}
structure PJ (E:TypeId) (w:World) (S:Sts) (k:Nat) (o:Value) (ps:List Nat) (Fs:Nat→Nat→Prop) (wr:World):Prop where
 own:Ow KN wr w.heap.size E o ps
 len:ps.length=k
 each:∀ i,i < k→St wr (ps.getD i 0) (Fs i) (sat S i).1 (sat S i).2
 lo:∀ i,i < k→∀ j,Fs i j→w.heap.size≤j∧o.ownBlock≠some j
 dis:∀ i m,i < k→m < k→i≠m→∀ j,Fs i j→¬ Fs m j
 bel:Below w.heap.size w wr
structure PK (E:TypeId) (w:World) (S:Sts) (k:Nat) (o:Value) (ps:List Nat) (Fs:Nat→Nat→Prop) (g:Nat) (F5:Nat→Prop) (wr:World):Prop where
 old:PJ E w S k o ps Fs wr
 new:St wr g F5 (sat S k).1 (sat S k).2
 nlo:∀ j,F5 j→w.heap.size≤j∧o.ownBlock≠some j
 ndis:∀ i,i < k→∀ j,F5 j→¬ Fs i j
theorem PJ.start (hb:Below w.heap.size w wr):PJ E w S 0 (.slice none 0 0) [] Fs wr:=⟨Rw.Ow.nil _ _ _,rfl,fun i hi=>by omega,fun i hi=>by omega,fun i m hi=>by omega,hb⟩
theorem PJ.below (h:PJ E w S k o ps Fs wr) (b:Below wr.heap.size wr w1):PJ E w S k o ps Fs w1:=⟨h.own.keep b,h.len,fun i hi=>(h.each i hi).below b,h.lo,h.dis,h.bel.trans (b.mono h.bel.size)⟩
theorem PJ.list_lt (h:PJ E w S k o ps Fs wr):∀ k,o.ownBlock=some k→k < wr.heap.size:=fun k e=>(World.ownsRow.lt h.own k e).2
theorem PJ.pend (h:PJ E w S k o ps Fs wr) (b:Below wr.heap.size wr w1) (st:St w1 g F5 (sat S k).1 (sat S k).2) (lo5:∀ j,F5 j→wr.heap.size≤j):PK E w S k o ps Fs g F5 w1 :=
 ⟨h.below b,st,fun j hj=>⟨Nat.le_trans h.bel.size (lo5 j hj),fun e=>by have:=h.list_lt j e;have:=lo5 j hj;omega⟩,fun i hi j hj q=>by have:=(h.each i hi).low j q;have:=lo5 j hj;omega⟩
theorem PK.below (h:PK E w S k o ps Fs g F5 wr) (b:Below wr.heap.size wr w1):PK E w S k o ps Fs g F5 w1:=⟨h.old.below b,h.new.below b,h.nlo,h.ndis⟩
def fsN (Fs:Nat→Nat→Prop) (k:Nat) (F5:Nat→Prop) (i:Nat):Nat→Prop:=if i=k then F5 else Fs i
theorem PK.push (h:PK E w S k o ps Fs g F5 wr) (own:Ow KN w1 w.heap.size E o' (ps ++ [g])) (gr:wr.grownBy w1 o.ownBlock) (hq:o'.ownBlock=o.ownBlock∨∃ g,o'.ownBlock=some g∧wr.heap.size≤g):PJ E w S (k+1) o' (ps ++ [g]) (fsN Fs k F5) w1:=by
 have oq:=only_grown gr;have len:=h.old.len;have at_old:∀ i,i < k→(ps ++ [g]).getD i 0=ps.getD i 0:=fun i hi=>by rw [List.getD_eq_getElem?_getD,List.getElem?_append_left (by rw [len];exact hi),List.getD_eq_getElem?_getD]
 have at_new:(ps ++ [g]).getD k 0=g:=by rw [List.getD_eq_getElem?_getD,List.getElem?_append_right (by rw [len];exact Nat.le_refl _),len];simp
 have f_old:∀ i,i < k→fsN Fs k F5 i=Fs i:=fun i hi=>if_neg (by omega);have f_new:fsN Fs k F5 k=F5:=if_pos rfl;have off:∀ (F:Nat→Prop) j,F j→(∀ j,F j→j < wr.heap.size)→o.ownBlock≠some j→o'.ownBlock≠some j:=fun F j hj hl hn e=>by
  rcases hq with q | ⟨x,q,hx⟩
  ·exact hn (by rw [← q];exact e)
  ·rw [q] at e
   injection e with e;have:=hl j hj
   omega
 refine ⟨own,by rw [List.length_append,len];rfl,fun i hi=>?_,fun i hi=>?_,fun i m hi hm hne=>?_,h.old.bel.grown gr h.old.bel.size fun j e=>(World.ownsRow.lt h.old.own j e).1⟩
 ·by_cases e:i=k
  ·subst e
   rw [at_new,f_new];exact h.new.only (fun j hj e=>(h.nlo j hj).2 e) oq
  ·rw [at_old i (by omega),f_old i (by omega)]
   exact (h.old.each i (by omega)).only (fun j hj e=>(h.old.lo i (by omega) j hj).2 e) oq
 ·by_cases e:i=k
  ·subst e
   rw [f_new];exact fun j hj=>⟨(h.nlo j hj).1,off F5 j hj h.new.low (h.nlo j hj).2⟩
  ·rw [f_old i (by omega)]
   exact fun j hj=>⟨(h.old.lo i (by omega) j hj).1,off _ j hj (h.old.each i (by omega)).low (h.old.lo i (by omega) j hj).2⟩
 ·by_cases e:i=k
  ·subst e
   rw [f_new,f_old m (by omega)];exact fun j hj=>h.ndis m (by omega) j hj
  ·by_cases e2:m=k
   ·subst e2
    rw [f_new,f_old i (by omega)];exact fun j hj q=>h.ndis i (by omega) j q hj
   ·rw [f_old i (by omega),f_old m (by omega)]
    exact h.old.dis i m (by omega) (by omega) hne
theorem PJ.low {w0:World} (h:PJ E w S k o ps Fs wr) (hz:w0.heap.size≤w.heap.size) (b:Below w0.heap.size w0 wr):PJ E w0 S k o ps Fs wr:=⟨h.own.low hz,h.len,h.each,fun i hi j hj=>⟨Nat.le_trans hz (h.lo i hi j hj).1,(h.lo i hi j hj).2⟩,h.dis,b⟩
theorem PJ.stl (h:PJ E w S S.length o ps Fs wr):Stl wr o S:=⟨ps,h.own.rd,h.len,fun i hi=>⟨_,h.each i hi⟩⟩
end
def BrP (w:World) (E:Int) (S':Sts) (e:Ending) (w':World):Prop:=∃ v ps Fs,e = .returned (.tuple #[v,.int .i64 E])∧(E=0→PJ 89 w S' S'.length v ps Fs w')∧(E≠0→v = .slice none 0 0)∧Below w.heap.size w w'
end Go.Proofs.YtljnkaodhfnbbaaGreatDoor.Cu
namespace Go.Proofs.YtljnkaodhfnbbaaGreatDoor.Wt
open Go.RowKit
open Fl (ret_bool at_bool row_cell row_frozen)
open Fs (Only)
attribute [local irreducible] Sd.wpSd wpQuiet
section
end
theorem only_set (r k:Nat) (w:World) (u:Value):Only (fun b=>b=r) w (w.setCell ⟨r,k,none⟩ u):=Only.set (fun b=>b=r) w (a:=⟨r,k,none⟩) rfl u
theorem only_two {r:Nat} {w w1 w2:World} (h:Only (fun b=>b=r) w w1) (g:Only (fun b=>b=r) w1 w2):Only (fun b=>b=r) w w2:=h.trans g fun _ _ q=>q
end Go.Proofs.YtljnkaodhfnbbaaGreatDoor.Wt
namespace Go.Proofs.YtljnkaodhfnbbaaGreatDoor.Wt
open Go.RowKit
open Fl (ret_bool at_bool row_cell row_frozen)
open Fs (Only)
attribute [local irreducible] Sd.wpSd wpQuiet
def rowM (r0 z0 r1 z1:Int):Array Value:=#[.int .i64 r0,.int .i64 z0,.int .i64 r1,.int .i64 z1]
def RowM (w:World) (s:Nat) (r0 z0 r1 z1:Int):Prop:=w.heap[s]? = some (.cells (rowM r0 z0 r1 z1) 212 (0,0))
theorem RowM.only {w w':World} {s:Nat} {r0 z0 r1 z1:Int} {G:Nat→Prop} (h:RowM w s r0 z0 r1 z1) (o:Only G w w') (hn:¬ G s):RowM w' s r0 z0 r1 z1:=(o.block s (lt_of_block h) hn).trans h
section
variable {w:World} {s:Nat} {r0 z0 r1 z1:Int} (h:RowM w s r0 z0 r1 z1)
include h
theorem RowM.below {w':World} (b:Below w.heap.size w w'):RowM w' s r0 z0 r1 z1:=h.only (G:=fun _=>False) (Only.of_below b) (fun g=>g)
theorem RowM.set0 (x:Int):RowM (w.setCell ⟨s,0,none⟩ (.int .i64 x)) s x z0 r1 z1:=Rw.heap_setCell_same h _
theorem RowM.set1 (x:Int):RowM (w.setCell ⟨s,1,none⟩ (.int .i64 x)) s r0 x r1 z1:=Rw.heap_setCell_same h _
theorem RowM.set2 (x:Int):RowM (w.setCell ⟨s,2,none⟩ (.int .i64 x)) s r0 z0 x z1:=Rw.heap_setCell_same h _
theorem RowM.set3 (x:Int):RowM (w.setCell ⟨s,3,none⟩ (.int .i64 x)) s r0 z0 r1 x:=Rw.heap_setCell_same h _
end
structure Vm (a:A) (z0 z1:Int) (t:Nat):Prop where
 b0:0≤z0∧z0≤t
 b1:0≤z1∧z1≤t
 e0:a.r0=2∨a.r0=3→a.q0=z0
 e1:a.r1=2∨a.r1=3→a.q1=z1
def Pr (w:World) (s:Nat) (a:A) (t:Nat):Prop:=∃ z0 z1,RowM w s a.r0 z0 a.r1 z1∧Vm a z0 z1 t
theorem Pr.only {w w':World} {s t:Nat} {a:A} {G:Nat→Prop} (h:Pr w s a t) (o:Only G w w') (hn:¬ G s):Pr w' s a t:=by
 obtain ⟨z0,z1,hr,hv⟩:=h;exact ⟨z0,z1,hr.only o hn,hv⟩
theorem Pr.lt {w:World} {s t:Nat} {a:A} (h:Pr w s a t):s < w.heap.size:=by obtain ⟨_,_,hr,_⟩:=h;exact lt_of_block hr
def CnewPost (w:World) (e:Ending) (w':World):Prop:=∃ s,e = .returned (.pointer (some ⟨s,0,none⟩))∧Pr w' s new 0∧w.heap.size≤s∧Below w.heap.size w w'
def CdeedPost (w:World) (s:Nat) (x:Int) (a:A) (t:Nat) (e:Ending) (w':World):Prop:=e = .returned (.int .i64 x)∧Pr w' s a t∧Only (fun b=>b=s) w w'
theorem new_any (w:World):Calls Tryz.prog 50 #[] w (CnewPost w):=by
 have E:Hid (CnewPost w (.returned (.pointer (some ⟨w.heap.size,0,none⟩))) (w.alloc (.cells #[.int .i64 1,.int .i64 0,.int .i64 2,.int .i64 0] 212))):=Lib.hid ⟨_,rfl,⟨0,0,heap_alloc_new w _,⟨by decide,by decide,fun _=>rfl,fun _=>rfl⟩⟩,Nat.le_refl _,(Below.refl _ _).alloc (Nat.le_refl _) _⟩
 go_enter Tryz.func50,Tryz.ntmps50
 go_wp2
 go_ret
 exact E.out
def hs (n:Int):Bool:=decide (0≤n) && decide (n < 2)
theorem has_any (w:World) (s:Nat) (n:Int):Calls Tryz.prog 131 #[.pointer (some ⟨s,0,none⟩),.int .i64 n] w fun e w'=>e = .returned (.bool (hs n))∧Below w.heap.size w w':=by
 have E:Hid (hs n=(decide (0≤n) && decide (n < 2))):=Lib.hid rfl;generalize hs n=b at *
 by_cases h0:0≤n
 ·by_cases h2:n < 2
  ·obtain rfl:b=true:=by rw [E.out];simp [h0,h2]
   clear E
   go_enter Tryz.func131,Tryz.ntmps131
   go_wp2
   go_ret
   exact ⟨rfl,Below.refl _ _⟩
  ·obtain rfl:b=false:=by rw [E.out];simp [h2]
   clear E
   go_enter Tryz.func131,Tryz.ntmps131
   go_wp2
   go_ret
   exact ⟨rfl,Below.refl _ _⟩
 ·obtain rfl:b=false:=by rw [E.out];simp [h0]
  clear E
  go_enter Tryz.func131,Tryz.ntmps131
  go_wp2
  go_ret
  exact ⟨rfl,Below.refl _ _⟩
theorem hs_no {n:Int} (h0:n≠0) (h1:n≠1):hs n=false:=by
 unfold hs
 by_cases a:0≤n
 ·have:¬ n < 2:=by omega
  simp [this]
 ·simp [a]
set_option maxHeartbeats 1000000 in
theorem crash0 {w:World} {s t:Nat} {a:A} (P:Pr w s a t):Calls Tryz.prog 121 #[.pointer (some ⟨s,0,none⟩),.int .i64 0] w (CdeedPost w s (crE a 0) (crA a 0) t):=by
 obtain ⟨z0,z1,hr,hv⟩:=P;have H:=Lib.hid (has_any w s 0);rw [show hs 0=true from rfl] at H;have e1:crE a 0=if a.r0=4 then 10 else 0:=rfl;have e2:crA a 0 = { a with r0:=4 }:=rfl
 by_cases q:a.r0=4
 ·have E:Hid (∀ w',Below w.heap.size w w'→CdeedPost w s (crE a 0) (crA a 0) t (.returned (.int .i64 10)) w'):=Lib.hid fun w' b=>⟨by rw [e1,if_pos q],by rw [e2];exact ⟨z0,z1,by have:=hr.below b;rw [q] at this;exact this,⟨hv.b0,hv.b1,(fun g=>absurd g (by show ¬ ((4:Int)=2∨(4:Int)=3);decide)),hv.e1⟩⟩,Only.of_below b⟩
  have R:=Lib.hid hr;rw [q] at R;clear hr hv e1 e2;generalize crE a 0=x at *;generalize crA a 0=a' at *
  go_enter Tryz.func121,Tryz.ntmps121
  go_wp2_with fail;refine H.out.mono ?_;rintro e w1 ⟨rfl,b1⟩;have c0:w1.cell? ⟨s,0,none⟩=some (.int .i64 4):=row_cell (R.out.below b1) 0;have F:=Lib.hid (E.out w1 b1);clear R H E b1 q;go_wp2
  go_ret
  exact F.out
 ·have E:Hid (∀ w',Below w.heap.size w w'→CdeedPost w s (crE a 0) (crA a 0) t (.returned (.int .i64 0)) ((w'.setCell ⟨s,0,none⟩ (.int .i64 4)).setCell ⟨s,1,none⟩ (.int .i64 0))):=Lib.hid fun w' b=>⟨by rw [e1,if_neg q],by rw [e2];exact ⟨0,z1,((hr.below b).set0 4).set1 0,⟨⟨by decide,by omega⟩,hv.b1,(fun g=>absurd g (by show ¬ ((4:Int)=2∨(4:Int)=3);decide)),hv.e1⟩⟩,((Only.of_below b).trans (only_set s 0 _ _) (fun _ _ q=>q)).trans (only_set s 1 _ _) (fun _ _ q=>q)⟩
  have R:=Lib.hid hr;clear hr hv e1 e2;generalize crE a 0=x' at *;generalize crA a 0=a' at *;generalize a.r0=x0 at *;generalize a.r1=x1 at *
  go_enter Tryz.func121,Tryz.ntmps121
  go_wp2_with fail;refine H.out.mono ?_;rintro e w1 ⟨rfl,b1⟩;have c0:w1.cell? ⟨s,0,none⟩=some (.int .i64 x0):=row_cell (R.out.below b1) 0;have f0:=row_frozen (R.out.below b1) 0;have f1:=row_frozen (R.out.below b1) 1;have c1:w1.cell? ⟨s,1,none⟩=some (.int .i64 z0):=row_cell (R.out.below b1) 1;have F:=Lib.hid (E.out w1 b1);clear R H E b1;go_wp2
  go_ret
  exact F.out
set_option maxHeartbeats 1000000 in
theorem crash1 {w:World} {s t:Nat} {a:A} (P:Pr w s a t):Calls Tryz.prog 121 #[.pointer (some ⟨s,0,none⟩),.int .i64 1] w (CdeedPost w s (crE a 1) (crA a 1) t):=by
 obtain ⟨z0,z1,hr,hv⟩:=P;have H:=Lib.hid (has_any w s 1);rw [show hs 1=true from rfl] at H;have e1:crE a 1=if a.r1=4 then 10 else 0:=rfl;have e2:crA a 1 = { a with r1:=4 }:=rfl
 by_cases q:a.r1=4
 ·have E:Hid (∀ w',Below w.heap.size w w'→CdeedPost w s (crE a 1) (crA a 1) t (.returned (.int .i64 10)) w'):=Lib.hid fun w' b=>⟨by rw [e1,if_pos q],by rw [e2];exact ⟨z0,z1,by have:=hr.below b;rw [q] at this;exact this,⟨hv.b0,hv.b1,hv.e0,(fun g=>absurd g (by show ¬ ((4:Int)=2∨(4:Int)=3);decide))⟩⟩,Only.of_below b⟩
  have R:=Lib.hid hr;rw [q] at R;clear hr hv e1 e2;generalize crE a 1=x at *;generalize crA a 1=a' at *
  go_enter Tryz.func121,Tryz.ntmps121
  go_wp2_with fail;refine H.out.mono ?_;rintro e w1 ⟨rfl,b1⟩;have c0:w1.cell? ⟨s,2,none⟩=some (.int .i64 4):=row_cell (R.out.below b1) 2;have F:=Lib.hid (E.out w1 b1);clear R H E b1 q;go_wp2
  go_ret
  exact F.out
 ·have E:Hid (∀ w',Below w.heap.size w w'→CdeedPost w s (crE a 1) (crA a 1) t (.returned (.int .i64 0)) ((w'.setCell ⟨s,2,none⟩ (.int .i64 4)).setCell ⟨s,3,none⟩ (.int .i64 0))):=Lib.hid fun w' b=>⟨by rw [e1,if_neg q],by rw [e2];exact ⟨z0,0,((hr.below b).set2 4).set3 0,⟨hv.b0,⟨by decide,by omega⟩,hv.e0,(fun g=>absurd g (by show ¬ ((4:Int)=2∨(4:Int)=3);decide))⟩⟩,((Only.of_below b).trans (only_set s 2 _ _) (fun _ _ q=>q)).trans (only_set s 3 _ _) (fun _ _ q=>q)⟩
  have R:=Lib.hid hr;clear hr hv e1 e2;generalize crE a 1=x' at *;generalize crA a 1=a' at *;generalize a.r0=x0 at *;generalize a.r1=x1 at *
  go_enter Tryz.func121,Tryz.ntmps121
  go_wp2_with fail;refine H.out.mono ?_;rintro e w1 ⟨rfl,b1⟩;have c0:w1.cell? ⟨s,2,none⟩=some (.int .i64 x1):=row_cell (R.out.below b1) 2;have f0:=row_frozen (R.out.below b1) 2;have f1:=row_frozen (R.out.below b1) 3;have c1:w1.cell? ⟨s,3,none⟩=some (.int .i64 z1):=row_cell (R.out.below b1) 3;have F:=Lib.hid (E.out w1 b1);clear R H E b1;go_wp2
  go_ret
  exact F.out
theorem crash_any {w:World} {s t:Nat} {a:A} (P:Pr w s a t) (n:Int):Calls Tryz.prog 121 #[.pointer (some ⟨s,0,none⟩),.int .i64 n] w (CdeedPost w s (crE a n) (crA a n) t):=by
 by_cases h0:n=0
 ·subst h0;exact crash0 P
 ·by_cases h1:n=1
  ·subst h1;exact crash1 P
  ·have E:Hid (∀ w',Below w.heap.size w w'→CdeedPost w s (crE a n) (crA a n) t (.returned (.int .i64 1)) w'):=Lib.hid fun w' b=>⟨by unfold crE;rw [if_neg h0,if_neg h1],by unfold crA;rw [if_neg h0,if_neg h1];exact P.only (G:=fun _=>False) (Only.of_below b) (fun g=>g),Only.of_below b⟩
   have H:=Lib.hid (has_any w s n);rw [hs_no h0 h1] at H;clear P h0 h1
   go_enter Tryz.func121,Tryz.ntmps121
   go_wp2_with fail;refine H.out.mono ?_;rintro e w1 ⟨rfl,b1⟩;have F:=Lib.hid (E.out w1 b1);clear H E b1;go_wp2
   go_ret
   exact F.out
set_option maxHeartbeats 1000000 in
theorem restart0 {w:World} {s t:Nat} {a:A} (P:Pr w s a t):Calls Tryz.prog 122 #[.pointer (some ⟨s,0,none⟩),.int .i64 0] w (CdeedPost w s (rsE a 0) (rsA a 0) t):=by
 obtain ⟨z0,z1,hr,hv⟩:=P;have H:=Lib.hid (has_any w s 0);rw [show hs 0=true from rfl] at H;have e1:rsE a 0=if a.r0=4 then 0 else 10:=rfl;have e2:rsA a 0=if a.r0=4 then { a with r0:=3,q0:=0 } else a:=rfl
 by_cases q:a.r0=4
 ·have E:Hid (∀ w',Below w.heap.size w w'→CdeedPost w s (rsE a 0) (rsA a 0) t (.returned (.int .i64 0)) ((w'.setCell ⟨s,0,none⟩ (.int .i64 3)).setCell ⟨s,1,none⟩ (.int .i64 0))):=Lib.hid fun w' b=>⟨by rw [e1,if_pos q],by rw [e2,if_pos q];exact ⟨0,z1,((hr.below b).set0 3).set1 0,⟨⟨by decide,by omega⟩,hv.b1,(fun _=>rfl),hv.e1⟩⟩,((Only.of_below b).trans (only_set s 0 _ _) (fun _ _ q=>q)).trans (only_set s 1 _ _) (fun _ _ q=>q)⟩
  have R:=Lib.hid hr;rw [q] at R;clear hr hv e1 e2;generalize rsE a 0=x at *;generalize rsA a 0=a' at *
  go_enter Tryz.func122,Tryz.ntmps122
  go_wp2_with fail;refine H.out.mono ?_;rintro e w1 ⟨rfl,b1⟩;have c0:w1.cell? ⟨s,0,none⟩=some (.int .i64 4):=row_cell (R.out.below b1) 0;have f0:=row_frozen (R.out.below b1) 0;have f1:=row_frozen (R.out.below b1) 1;have c1:w1.cell? ⟨s,1,none⟩=some (.int .i64 z0):=row_cell (R.out.below b1) 1;have F:=Lib.hid (E.out w1 b1);clear R H E b1 q;go_wp2
  go_ret
  exact F.out
 ·have E:Hid (∀ w',Below w.heap.size w w'→CdeedPost w s (rsE a 0) (rsA a 0) t (.returned (.int .i64 10)) w'):=Lib.hid fun w' b=>⟨by rw [e1,if_neg q],by rw [e2,if_neg q];exact ⟨z0,z1,hr.below b,hv⟩,Only.of_below b⟩
  have R:=Lib.hid hr;have q4:(a.r0 != 4)=true:=bne_iff_ne.2 q;clear hr hv e1 e2 q;generalize rsE a 0=x' at *;generalize rsA a 0=a' at *;generalize a.r0=x0 at *;generalize a.r1=x1 at *
  go_enter Tryz.func122,Tryz.ntmps122
  go_wp2_with fail;refine H.out.mono ?_;rintro e w1 ⟨rfl,b1⟩;have c0:w1.cell? ⟨s,0,none⟩=some (.int .i64 x0):=row_cell (R.out.below b1) 0;have F:=Lib.hid (E.out w1 b1);clear R H E b1;go_wp2
  go_ret
  exact F.out
set_option maxHeartbeats 1000000 in
theorem restart1 {w:World} {s t:Nat} {a:A} (P:Pr w s a t):Calls Tryz.prog 122 #[.pointer (some ⟨s,0,none⟩),.int .i64 1] w (CdeedPost w s (rsE a 1) (rsA a 1) t):=by
 obtain ⟨z0,z1,hr,hv⟩:=P;have H:=Lib.hid (has_any w s 1);rw [show hs 1=true from rfl] at H;have e1:rsE a 1=if a.r1=4 then 0 else 10:=rfl;have e2:rsA a 1=if a.r1=4 then { a with r1:=3,q1:=0 } else a:=rfl
 by_cases q:a.r1=4
 ·have E:Hid (∀ w',Below w.heap.size w w'→CdeedPost w s (rsE a 1) (rsA a 1) t (.returned (.int .i64 0)) ((w'.setCell ⟨s,2,none⟩ (.int .i64 3)).setCell ⟨s,3,none⟩ (.int .i64 0))):=Lib.hid fun w' b=>⟨by rw [e1,if_pos q],by rw [e2,if_pos q];exact ⟨z0,0,((hr.below b).set2 3).set3 0,⟨hv.b0,⟨by decide,by omega⟩,hv.e0,(fun _=>rfl)⟩⟩,((Only.of_below b).trans (only_set s 2 _ _) (fun _ _ q=>q)).trans (only_set s 3 _ _) (fun _ _ q=>q)⟩
  have R:=Lib.hid hr;rw [q] at R;clear hr hv e1 e2;generalize rsE a 1=x at *;generalize rsA a 1=a' at *
  go_enter Tryz.func122,Tryz.ntmps122
  go_wp2_with fail;refine H.out.mono ?_;rintro e w1 ⟨rfl,b1⟩;have c0:w1.cell? ⟨s,2,none⟩=some (.int .i64 4):=row_cell (R.out.below b1) 2;have f0:=row_frozen (R.out.below b1) 2;have f1:=row_frozen (R.out.below b1) 3;have c1:w1.cell? ⟨s,3,none⟩=some (.int .i64 z1):=row_cell (R.out.below b1) 3;have F:=Lib.hid (E.out w1 b1);clear R H E b1 q;go_wp2
  go_ret
  exact F.out
 ·have E:Hid (∀ w',Below w.heap.size w w'→CdeedPost w s (rsE a 1) (rsA a 1) t (.returned (.int .i64 10)) w'):=Lib.hid fun w' b=>⟨by rw [e1,if_neg q],by rw [e2,if_neg q];exact ⟨z0,z1,hr.below b,hv⟩,Only.of_below b⟩
  have R:=Lib.hid hr;have q4:(a.r1 != 4)=true:=bne_iff_ne.2 q;clear hr hv e1 e2 q;generalize rsE a 1=x' at *;generalize rsA a 1=a' at *;generalize a.r0=x0 at *;generalize a.r1=x1 at *
  go_enter Tryz.func122,Tryz.ntmps122
  go_wp2_with fail;refine H.out.mono ?_;rintro e w1 ⟨rfl,b1⟩;have c0:w1.cell? ⟨s,2,none⟩=some (.int .i64 x1):=row_cell (R.out.below b1) 2;have F:=Lib.hid (E.out w1 b1);clear R H E b1;go_wp2
  go_ret
  exact F.out
theorem restart_any {w:World} {s t:Nat} {a:A} (P:Pr w s a t) (n:Int):Calls Tryz.prog 122 #[.pointer (some ⟨s,0,none⟩),.int .i64 n] w (CdeedPost w s (rsE a n) (rsA a n) t):=by
 by_cases h0:n=0
 ·subst h0;exact restart0 P
 ·by_cases h1:n=1
  ·subst h1;exact restart1 P
  ·have E:Hid (∀ w',Below w.heap.size w w'→CdeedPost w s (rsE a n) (rsA a n) t (.returned (.int .i64 1)) w'):=Lib.hid fun w' b=>⟨by unfold rsE;rw [if_neg h0,if_neg h1],by unfold rsA;rw [if_neg h0,if_neg h1];exact P.only (G:=fun _=>False) (Only.of_below b) (fun g=>g),Only.of_below b⟩
   have H:=Lib.hid (has_any w s n);rw [hs_no h0 h1] at H;clear P h0 h1
   go_enter Tryz.func122,Tryz.ntmps122
   go_wp2_with fail;refine H.out.mono ?_;rintro e w1 ⟨rfl,b1⟩;have F:=Lib.hid (E.out w1 b1);clear H E b1;go_wp2
   go_ret
   exact F.out
theorem role_at {w:World} {s:Nat} {x:Int} (k:Nat) (hk:k < 2) (c:∀ w',Below w.heap.size w w'→w'.cell? ⟨s,2 * k,none⟩=some (.int .i64 x)):Calls Tryz.prog 71 #[.pointer (some ⟨s,0,none⟩),.int .i64 (k:Int)] w fun e w'=>e = .returned (.int .i64 x)∧Below w.heap.size w w':=by
 have H:=Lib.hid (has_any w s k)
 rcases (by omega:k=0∨k=1) with rfl | rfl
 ·rw [show hs ((0:Nat):Int)=true from rfl] at H
  go_enter Tryz.func71,Tryz.ntmps71
  go_wp2_with fail;refine H.out.mono ?_;rintro e w1 ⟨rfl,b1⟩;have c0:w1.cell? ⟨s,0,none⟩=_:=c w1 b1;have B1:=Lib.hid b1;clear H b1 c;go_wp2
  go_ret
  exact ⟨rfl,B1.out⟩
 ·rw [show hs ((1:Nat):Int)=true from rfl] at H
  go_enter Tryz.func71,Tryz.ntmps71
  go_wp2_with fail;refine H.out.mono ?_;rintro e w1 ⟨rfl,b1⟩;have c0:w1.cell? ⟨s,2,none⟩=_:=c w1 b1;have B1:=Lib.hid b1;clear H b1 c;go_wp2
  go_ret
  exact ⟨rfl,B1.out⟩
theorem role_any {w:World} {s t:Nat} {a:A} (P:Pr w s a t) (n:Int):Calls Tryz.prog 71 #[.pointer (some ⟨s,0,none⟩),.int .i64 n] w fun e w'=>e = .returned (.int .i64 (rl a n))∧Below w.heap.size w w':=by
 obtain ⟨z0,z1,hr,hv⟩:=P
 by_cases h0:n=0
 ·subst h0
  exact role_at 0 (by decide) fun w' b=>row_cell (hr.below b) 0
 ·by_cases h1:n=1
  ·subst h1
   exact role_at 1 (by decide) fun w' b=>row_cell (hr.below b) 2
  ·have H:=Lib.hid (has_any w s n)
   rw [hs_no h0 h1] at H;have E:Hid (rl a n=0):=Lib.hid (by unfold rl;rw [if_neg h0,if_neg h1]);clear hr hv h0 h1;generalize rl a n=x at *;obtain rfl:=E.out;clear E
   go_enter Tryz.func71,Tryz.ntmps71
   go_wp2_with fail;refine H.out.mono ?_;rintro e w1 ⟨rfl,b1⟩;have B1:=Lib.hid b1;clear H b1;go_wp2
   go_ret
   exact ⟨rfl,B1.out⟩
def du (r z n:Int):Bool:=(decide (r=2) && decide (4≤z)) || (decide (r=3) && decide (8+n≤z))
theorem due_any (w:World) (r z n:Int) (hn:0≤n∧n≤1):Calls Tryz.prog 200 #[.agg #[.int .i64 r,.int .i64 z],.int .i64 n] w fun e w'=>e = .returned (.bool (du r z n))∧Below w.heap.size w w':=by
 have E:Hid (du r z n=((decide (r=2) && decide (4≤z)) || (decide (r=3) && decide (8+n≤z)))):=Lib.hid rfl;have w8:IntKind.i64.wrap (8+n)=8+n:=IntWalk.i64_in _ (by omega);have B:Hid (Below w.heap.size w (w.alloc (.cells #[.int .i64 r,.int .i64 z] 209))):=Lib.hid ((Below.refl _ _).alloc (Nat.le_refl _) _);generalize du r z n=b at *
 by_cases h2:r=2
 ·subst h2
  obtain rfl:b=decide (4≤z):=by rw [E.out];simp
  clear E
  go_enter Tryz.func200,Tryz.ntmps200
  go_wp2
  go_ret
  exact ⟨rfl,B.out⟩
 ·by_cases h3:r=3
  ·subst h3
   obtain rfl:b=decide (8+n≤z):=by rw [E.out];simp
   clear E h2
   go_enter Tryz.func200,Tryz.ntmps200
   go_wp2
   go_ret
   exact ⟨rfl,B.out⟩
  ·obtain rfl:b=false:=by rw [E.out];simp [h2,h3]
   have q2:(r == 2)=false:=beq_eq_false_iff_ne.2 h2;have q3:(r == 3)=false:=beq_eq_false_iff_ne.2 h3;clear E h2 h3
   go_enter Tryz.func200,Tryz.ntmps200
   go_wp2
   go_ret
   exact ⟨rfl,B.out⟩
end Go.Proofs.YtljnkaodhfnbbaaGreatDoor.Wt
namespace Go.Proofs.YtljnkaodhfnbbaaGreatDoor.Cu
open Go.RowKit Go.Maps
open Rw (Rd Ow At)
open Fl (R4 K4 okL okR row_cell row_frozen)
open Fs (Abs St OkA Only Fx ow_only)
open Pa (Sts S2 sat vat KN KB K2 ptr)
structure Nd where
 s:Nat
 live:Bool
 rate:Int
def ndD:Nd:=⟨0,false,0⟩
def KD:Rw.Kind Nd:=⟨fun x=>[ptr x.s,.bool x.live,.int .i64 x.rate],3,by decide,fun _=>rfl,fun _ u h=>by simp [ptr] at h;rcases h with rfl | rfl | rfl <;> rfl,ndD⟩
def nda (L:List Nd) (i:Nat):Nd:=L.getD i ndD
theorem infoD:(Tryz.prog.info? 139).map (fun i=>(i.zero,i.size,i.bytes))=some (some (.agg #[.pointer none,.bool false,.int .i64 0]),3,24):=by kernel_rfl
theorem atD {w:World} {b off:Nat} {L:List Nd} (h:At KD w b off L) {i:Nat} (hi:i < L.length):w.cell? ⟨b,off+i * 3,none⟩=some (ptr (nda L i).s)∧w.cell? ⟨b,off+i * 3+1,none⟩=some (.bool (nda L i).live)∧w.cell? ⟨b,off+i * 3+2,none⟩=some (.int .i64 (nda L i).rate) :=
 ⟨h i hi 0 _ rfl,h i hi 1 _ rfl,h i hi 2 _ rfl⟩
theorem nda_set {L:List Nd} {i:Nat} (hi:i < L.length) (x:Nd) (j:Nat):nda (L.set i x) j=if j=i then x else nda L j:=by
 unfold nda;rw [List.getD_eq_getElem?_getD,List.getD_eq_getElem?_getD,List.getElem?_set]
 by_cases e:j=i
 ·subst e;rw [if_pos rfl,if_pos rfl,if_pos hi];rfl
 ·rw [if_neg (by omega),if_neg e]
structure Cl (w:World) (s:Nat) (F:Nat→Prop) (c:Cs) (t:Nat) (vn:Value) (L:List Nd) (p:Nat) (vq:Value) (Fs:Nat→Nat→Prop):Prop where
 row:w.heap[s]? = some (.cells #[vn,ptr p,.int .i64 c.pl,vq] 137 (0,0))
 no:Ow KD w 0 139 vn L
 len:L.length=c.S.length
 st:∀ i,i < L.length→St w (nda L i).s (Fs i) (sat c.S i).1 (sat c.S i).2
 lv:∀ i:Nat,i < L.length→(nda L i).live=vat c.V i
 rt:∀ i,i < L.length→-2000≤(nda L i).rate∧(nda L i).rate≤2000
 pr:Wt.Pr w p c.P t
 sp:Ow K2 w 0 155 vq c.Q
 fs:F s
 fp:F p
 fv:∀ k,vn.ownBlock=some k∨vq.ownBlock=some k→F k
 ff:∀ i,i < L.length→∀ k,Fs i k→F k
 dis:∀ i j,i < L.length→j < L.length→i≠j→∀ k,Fs i k→¬ Fs j k
 off:∀ i,i < L.length→∀ k,Fs i k→k≠s∧k≠p∧vn.ownBlock≠some k∧vq.ownBlock≠some k
 low:∀ k,F k→k < w.heap.size
def ClE (w:World) (s:Nat) (F:Nat→Prop) (c:Cs) (t:Nat):Prop:=∃ vn L p vq Fs,Cl w s F c t vn L p vq Fs
section
variable {s t p:Nat} {F G:Nat→Prop} {c:Cs} {vn vq:Value} {L:List Nd} {Fs:Nat→Nat→Prop} {w w':World}
theorem Cl.slt (h:Cl w s F c t vn L p vq Fs):s < w.heap.size:=lt_of_block h.row
theorem pr_row {a:Wt.A} (h:Wt.Pr w p a t):∃ cs,w.heap[p]? = some (.cells cs 212 (0,0)):=by obtain ⟨_,_,h,_⟩:=h;exact ⟨_,h⟩
theorem Cl.sp_ne (h:Cl w s F c t vn L p vq Fs):s≠p:=fun e=>by
 obtain ⟨cs,hp⟩:=pr_row h.pr;have:=h.row;rw [e,hp] at this;injection this with this;injection this with _ h2 _;exact absurd h2 (by decide)
theorem Cl.vs (h:Cl w s F c t vn L p vq Fs):vn.ownBlock≠some s∧vq.ownBlock≠some s:=⟨h.no.apart h.row (by decide),h.sp.apart h.row (by decide)⟩
theorem Cl.vp (h:Cl w s F c t vn L p vq Fs):vn.ownBlock≠some p∧vq.ownBlock≠some p:=by
 obtain ⟨cs,hp⟩:=pr_row h.pr;exact ⟨h.no.apart hp (by decide),h.sp.apart hp (by decide)⟩
theorem Cl.vv (h:Cl w s F c t vn L p vq Fs):∀ k,vn.ownBlock=some k→vq.ownBlock≠some k:=fun k hk=>by
 obtain ⟨_,g⟩:=h.no
 rcases g with ⟨rfl,_⟩ | ⟨b,cap,cur,rfl,_,hh,_⟩
 ·simp [Value.ownBlock] at hk
 ·simp only [Value.ownBlock,Option.some.injEq] at hk
  subst hk;exact h.sp.apart hh (by decide)
theorem Cl.only (h:Cl w s F c t vn L p vq Fs) (hn:∀ k,F k→¬ G k) (o:Only G w w'):Cl w' s F c t vn L p vq Fs :=
 ⟨(o.block s h.slt (hn s h.fs)).trans h.row,ow_only h.no (fun k e=>hn k (h.fv k (.inl e))) o,h.len,fun i hi=>(h.st i hi).only (fun k g=>hn k (h.ff i hi k g)) o,h.lv,h.rt,h.pr.only o (hn p h.fp),ow_only h.sp (fun k e=>hn k (h.fv k (.inr e))) o,h.fs,h.fp,h.fv,h.ff,h.dis,h.off,fun k g=>Nat.lt_of_lt_of_le (h.low k g) o.size⟩
theorem Cl.below (h:Cl w s F c t vn L p vq Fs) (b:Below w.heap.size w w'):Cl w' s F c t vn L p vq Fs:=h.only (G:=fun _=>False) (fun _ _ g=>g) (Only.of_below b)
theorem Cl.wide (h:Cl w s F c t vn L p vq Fs) (hF:∀ k,F k→G k) (hl:∀ k,G k→k < w.heap.size):Cl w s G c t vn L p vq Fs :=
 ⟨h.row,h.no,h.len,h.st,h.lv,h.rt,h.pr,h.sp,hF s h.fs,hF p h.fp,fun k g=>hF k (h.fv k g),fun i hi k g=>hF k (h.ff i hi k g),h.dis,h.off,hl⟩
theorem Cl.fx (w0:World) (h:Cl w s F c t vn L p vq Fs):Cl w s (Fx F w0 w) c t vn L p vq Fs:=h.wide (fun k g=>.inl g) fun k g=>by
 rcases g with g | g
 ·exact h.low k g
 ·exact g.2
theorem Cl.cells (h:Cl w s F c t vn L p vq Fs):w.cell? ⟨s,0,none⟩=some vn∧w.cell? ⟨s,1,none⟩=some (ptr p)∧w.cell? ⟨s,2,none⟩=some (.int .i64 c.pl)∧w.cell? ⟨s,3,none⟩=some vq:=⟨row_cell h.row 0,row_cell h.row 1,row_cell h.row 2,row_cell h.row 3⟩
theorem Cl.frz (h:Cl w s F c t vn L p vq Fs) (k:Nat):w.frozen? ⟨s,k,none⟩=false:=row_frozen h.row k
theorem Cl.pair (h:Cl w s F c t vn L p vq Fs) {P:Wt.A} {t':Nat} (o:Only (fun k=>k=p) w w') (hp:Wt.Pr w' p P t'):Cl w' s F { c with P:=P } t' vn L p vq Fs :=
 ⟨(o.block s h.slt h.sp_ne).trans h.row,ow_only h.no (fun k e g=>h.vp.1 (by rw [e,g])) o,h.len,fun i hi=>(h.st i hi).only (fun k g e=>(h.off i hi k g).2.1 e) o,h.lv,h.rt,hp,ow_only h.sp (fun k e g=>h.vp.2 (by rw [e,g])) o,h.fs,h.fp,h.fv,h.ff,h.dis,h.off,fun k g=>Nat.lt_of_lt_of_le (h.low k g) o.size⟩
theorem pr_late {a:Wt.A} (h:Wt.Pr w p a t):Wt.Pr w p a (t+1):=by
 obtain ⟨z0,z1,hr,hv⟩:=h;exact ⟨z0,z1,hr,⟨by have:=hv.b0;omega,by have:=hv.b1;omega,hv.e0,hv.e1⟩⟩
theorem Cl.late (h:Cl w s F c t vn L p vq Fs):Cl w s F c (t+1) vn L p vq Fs:=⟨h.row,h.no,h.len,h.st,h.lv,h.rt,pr_late h.pr,h.sp,h.fs,h.fp,h.fv,h.ff,h.dis,h.off,h.low⟩
theorem Cl.place (h:Cl w s F c t vn L p vq Fs) (n:Nat):Cl (w.setCell ⟨s,2,none⟩ (.int .i64 n)) s F { c with pl:=n } t vn L p vq Fs:=by
 have o:Only (fun k=>k=s) w (w.setCell ⟨s,2,none⟩ (.int .i64 n)):=Only.set (fun k=>k=s) w (a:=⟨s,2,none⟩) rfl _;have rw_:(w.setCell ⟨s,2,none⟩ (.int .i64 n)).heap[s]? = some (.cells #[vn,ptr p,.int .i64 n,vq] 137 (0,0)):=Rw.heap_setCell_same (j:=2) h.row _;exact ⟨rw_,ow_only h.no (fun k e g=>h.vs.1 (by rw [e,g])) o,h.len,fun i hi=>(h.st i hi).only (fun k g e=>(h.off i hi k g).1 e) o,h.lv,h.rt,h.pr.only o (fun e=>h.sp_ne e.symm),ow_only h.sp (fun k e g=>h.vs.2 (by rw [e,g])) o,h.fs,h.fp,h.fv,h.ff,h.dis,h.off,fun k g=>Nat.lt_of_lt_of_le (h.low k g) o.size⟩
theorem Cl.spoils (h:Cl w s F c t vn L p vq Fs) {v:Value} {Q:List S2} (hq:Ow K2 w 0 155 v Q) (hF:∀ k,v.ownBlock=some k→F k) (hn:∀ i,i < L.length→∀ k,Fs i k→v.ownBlock≠some k):Cl (w.setCell ⟨s,3,none⟩ v) s F { c with Q:=Q } t vn L p v Fs:=by
 have o:Only (fun k=>k=s) w (w.setCell ⟨s,3,none⟩ v):=Only.set (fun k=>k=s) w (a:=⟨s,3,none⟩) rfl _;have rw_:(w.setCell ⟨s,3,none⟩ v).heap[s]? = some (.cells #[vn,ptr p,.int .i64 c.pl,v] 137 (0,0)):=Rw.heap_setCell_same (j:=3) h.row _;refine ⟨rw_,ow_only h.no (fun k e g=>h.vs.1 (by rw [e,g])) o,h.len,fun i hi=>(h.st i hi).only (fun k g e=>(h.off i hi k g).1 e) o,h.lv,h.rt,h.pr.only o (fun e=>h.sp_ne e.symm),ow_only hq (fun k e g=>hq.apart h.row (by decide) (by rw [e,g])) o,h.fs,h.fp,fun k g=>?_,h.ff,h.dis,fun i hi k g=>?_,fun k g=>Nat.lt_of_lt_of_le (h.low k g) o.size⟩
 ·rcases g with g | g
  ·exact h.fv k (.inl g)
  ·exact hF k g
 ·have:=h.off i hi k g
  exact ⟨this.1,this.2.1,this.2.2.1,hn i hi k g⟩
theorem Cl.store (h:Cl w s F c t vn L p vq Fs) {i:Nat} (hi:i < L.length) {x:Abs×Int} (hs:St w' (nda L i).s (Fx (Fs i) w w') x.1 x.2) (o:Only (Fs i) w w'):Cl w' s (Fx F w w') { c with S:=setS c.S i x } t vn L p vq (fun j=>if j=i then Fx (Fs i) w w' else Fs j):=by
 have of:=h.off i hi;have hz:=o.size;have lt:∀ j,j < L.length→∀ k,Fs j k→k < w.heap.size:=fun j hj=>(h.st j hj).low;have vl:∀ k,vn.ownBlock=some k∨vq.ownBlock=some k→k < w.heap.size:=fun k g=>h.low k (h.fv k g);refine ⟨(o.block s h.slt fun g=>(of s g).1 rfl).trans h.row,ow_only h.no (fun k e g=>(of k g).2.2.1 e) o,by show L.length=(setS c.S i x).length;rw [h.len];exact List.length_set.symm,fun j hj=>?_,h.lv,h.rt,h.pr.only o (fun g=>(of p g).2.1 rfl),ow_only h.sp (fun k e g=>(of k g).2.2.2 e) o,.inl h.fs,.inl h.fp,fun k g=>.inl (h.fv k g),fun j hj k g=>?_,fun a b ha hb hab k g=>?_,fun j hj k g=>?_,Fx.low h.low hz⟩
 ·show St w' _ _ (sat (setS c.S i x) j).1 (sat (setS c.S i x) j).2
  rw [sat_set (by omega) (by have:=h.len;omega)]
  by_cases e:j=i
  ·subst e
   rw [if_pos rfl,if_pos rfl];exact hs
  ·rw [if_neg e,if_neg (by omega)]
   exact (h.st j hj).only (fun k g q=>h.dis j i hj hi e k g q) o
 ·by_cases e:j=i
  ·rw [if_pos e] at g
   rcases g with g | g
   ·exact .inl (h.ff i hi k g)
   ·exact .inr g
  ·rw [if_neg e] at g
   exact .inl (h.ff j hj k g)
 ·by_cases ea:a=i
  ·rw [if_pos ea] at g
   rw [if_neg (fun q=>hab (ea.trans q.symm))]
   rcases g with g | g
   ·exact h.dis i b hi hb (fun q=>hab (ea.trans q)) k g
   ·intro q;have:=lt b hb k q;omega
  ·rw [if_neg ea] at g
   by_cases eb:b=i
   ·rw [if_pos eb]
    rintro (q | q)
    ·exact h.dis a i ha hi ea k g q
    ·have:=lt a ha k g;omega
   ·rw [if_neg eb]
    exact h.dis a b ha hb hab k g
 ·by_cases e:j=i
  ·rw [if_pos e] at g
   rcases g with g | g
   ·exact of k g
   ·have a1:=h.slt
    have a2:=h.pr.lt;exact ⟨by omega,by omega,fun q=>by have:=vl k (.inl q);omega,fun q=>by have:=vl k (.inr q);omega⟩
  ·rw [if_neg e] at g
   exact h.off j hj k g
theorem Cl.node (h:Cl w s F c t vn L p vq Fs) {g:Nat} (hg:vn.ownBlock=some g) {L':List Nd} {V:List Bool} (o:Only (fun k=>k=g) w w') (hno:Ow KD w' 0 139 vn L') (hl:L'.length=L.length) (hs:∀ i,i < L.length→(nda L' i).s=(nda L i).s) (hv:∀ i:Nat,i < L.length→(nda L' i).live=vat V i) (hr:∀ i,i < L.length→-2000≤(nda L' i).rate∧(nda L' i).rate≤2000):Cl w' s F { c with V:=V } t vn L' p vq Fs:=by
 refine ⟨(o.block s h.slt fun e=>h.vs.1 (by rw [hg,e])).trans h.row,hno,hl.trans h.len,fun i hi=>?_,fun i hi=>hv i (by omega),fun i hi=>hr i (by omega),h.pr.only o (fun e=>h.vp.1 (by rw [hg,e])),ow_only h.sp (fun k e q=>h.vv g hg (by rw [e,q])) o,h.fs,h.fp,h.fv,fun i hi=>h.ff i (by omega),fun i j hi hj=>h.dis i j (by omega) (by omega),fun i hi=>h.off i (by omega),fun k q=>Nat.lt_of_lt_of_le (h.low k q) o.size⟩;rw [hs i (by omega)];exact (h.st i (by omega)).only (fun k q e=>(h.off i (by omega) k q).2.2.1 (by rw [hg,e])) o
end
def DoC (w:World) (s:Nat) (F:Nat→Prop) (c:Cs) (t:Nat) (x:Int) (e:Ending) (w':World):Prop:=e = .returned (.int .i64 x)∧ClE w' s (Fx F w w') c t∧Only F w w'
section
variable {s t:Nat} {F:Nat→Prop} {c:Cs} {w w1 w':World}
theorem DoC.late {x:Int} {e:Ending} (h:DoC w s F c t x e w'):DoC w s F c (t+1) x e w':=by
 obtain ⟨h1,⟨vn,L,p,vq,Fs,h2⟩,h3⟩:=h;exact ⟨h1,⟨vn,L,p,vq,Fs,h2.late⟩,h3⟩
theorem DoC.preO {x:Int} {e:Ending} (h:DoC w1 s F c t x e w') (o:Only F w w1) (low:∀ k,F k→k < w.heap.size):DoC w s F c t x e w':=by
 obtain ⟨h1,⟨vn,L,p,vq,Fs,h2⟩,h3⟩:=h;have z1:=o.size;have z2:=h3.size;refine ⟨h1,⟨vn,L,p,vq,Fs,h2.wide (fun k g=>?_) (fun k g=>?_)⟩,o.trans h3 fun _ _ g=>g⟩
 ·rcases g with g | g
  ·exact .inl g
  ·exact .inr ⟨by omega,g.2⟩
 ·rcases g with g | g
  ·have:=low k g;omega
  ·exact g.2
theorem DoC.pre {x:Int} {e:Ending} (h:DoC w1 s F c t x e w') (b:Below w.heap.size w w1) (low:∀ k,F k→k < w.heap.size):DoC w s F c t x e w':=h.preO (Only.of_below b) low
end
end Go.Proofs.YtljnkaodhfnbbaaGreatDoor.Cu
namespace Go.Proofs.YtljnkaodhfnbbaaGreatDoor.Cu
open Go.RowKit Go.Maps
open Rw (Rd Ow At)
open Fl (R4 K4 okL okR row_cell row_frozen)
open Fs (Abs St OkA Only Fx ow_only FilesPost files_any)
open Pa (Sts S2 sat vat KN KB K2 ptr)
attribute [local irreducible] Sd.wpSd wpQuiet
section
variable {s t p:Nat} {F G:Nat→Prop} {c:Cs} {vn vq:Value} {L:List Nd} {Fs:Nat→Nat→Prop} {w w':World}
theorem Cl.one (h:Cl w s F c t vn L p vq Fs) {i:Nat} (hi:i < c.S.length):∃ g cap,vn = .slice (some ⟨g,0,none⟩) c.S.length cap∧c.S.length≤cap∧cap≤maxLen∧w.cell? ⟨g,i * 3,none⟩=some (ptr (nda L i).s)∧w.cell? ⟨g,i * 3+1,none⟩=some (.bool (vat c.V i))∧w.cell? ⟨g,i * 3+2,none⟩=some (.int .i64 (nda L i).rate)∧∀ k,w.frozen? ⟨g,k,none⟩=false:=by
 have hl:=h.len;obtain ⟨g,cap,e,_,_,h1,h2,fz,hA⟩:=h.no.form (by omega);have q:=atD hA (i:=i) (by omega);rw [Nat.zero_add,h.lv i (by omega)] at q;rw [hl] at e h1;exact ⟨g,cap,e,h1,h2,q.1,q.2.1,q.2.2,fz⟩
theorem Cl.nod {g cap:Nat} (h:Cl w s F c t (.slice (some ⟨g,0,none⟩) c.S.length cap) L p vq Fs) {i:Nat} (hi:i < c.S.length):w.cell? ⟨g,i * 3,none⟩=some (ptr (nda L i).s)∧w.cell? ⟨g,i * 3+1,none⟩=some (.bool (nda L i).live)∧w.cell? ⟨g,i * 3+2,none⟩=some (.int .i64 (nda L i).rate):=by
 have hl:=h.len;obtain ⟨g',cap',e,_,_,h1,h2,fz,hA⟩:=h.no.form (by omega);injection e with e1 _ _;injection e1 with e1;injection e1 with e1 _ _;subst e1;have q:=atD hA (i:=i) (by omega);rw [Nat.zero_add] at q;exact q
theorem Cl.slice (h:Cl w s F c t vn L p vq Fs):∃ a cap,vn = .slice a c.S.length cap∧c.S.length≤cap∧cap≤maxLen:=by
 obtain ⟨a,cap,e,h1,h2⟩:=h.no.slice;rw [h.len] at e h1;exact ⟨a,cap,e,h1,h2⟩
theorem Cl.sto (h:Cl w s F c t vn L p vq Fs) {i:Nat} (hi:i < c.S.length):St w (nda L i).s (Fs i) (sat c.S i).1 (sat c.S i).2:=h.st i (by rw [h.len];exact hi)
theorem chas_in (h:Cl w s F c t vn L p vq Fs) {n:Nat} (hn:n < c.S.length):Calls Tryz.prog 61 #[ptr s,.int .i64 n] w fun e w'=>e = .returned (.bool true)∧Below w.heap.size w w':=by
 obtain ⟨a,cap,rfl,_,_⟩:=h.slice;have d0:=h.cells.1;clear h;generalize c.S.length=ln at *;have p1:decide ((0:Int)≤(n:Int))=true:=decide_eq_true (by omega);have p2:decide ((n:Int) < (ln:Int))=true:=decide_eq_true (by omega);unfold ptr
 go_enter Tryz.func61,Tryz.ntmps61
 go_wp2
 go_ret
 exact ⟨rfl,Below.refl _ _⟩
theorem chas_out (h:Cl w s F c t vn L p vq Fs) {n:Int} (hn:no c n):Calls Tryz.prog 61 #[ptr s,.int .i64 n] w fun e w'=>e = .returned (.bool false)∧Below w.heap.size w w':=by
 obtain ⟨a,cap,rfl,_,_⟩:=h.slice;have d0:=h.cells.1;clear h;unfold no at hn;generalize c.S.length=ln at *;unfold ptr
 by_cases h0:0≤n
 ·have p2:decide (n < (ln:Int))=false:=decide_eq_false (by omega)
  clear hn
  go_enter Tryz.func61,Tryz.ntmps61
  go_wp2
  go_ret
  exact ⟨rfl,Below.refl _ _⟩
 ·have p1:decide (0≤n)=false:=decide_eq_false h0
  clear hn
  go_enter Tryz.func61,Tryz.ntmps61
  go_wp2
  go_ret
  exact ⟨rfl,Below.refl _ _⟩
theorem crole_any (h:Cl w s F c t vn L p vq Fs) (n:Int):Calls Tryz.prog 23 #[ptr s,.int .i64 n] w fun e w'=>e = .returned (.int .i64 (Wt.rl c.P n))∧Below w.heap.size w w':=by
 have d1:=h.cells.2.1;have C1:=Lib.hid (Wt.role_any h.pr n);clear h;generalize Wt.rl c.P n=r at *;unfold ptr at *
 go_enter Tryz.func23,Tryz.ntmps23
 go_wp2_with fail;refine C1.out.mono ?_;rintro e w1 ⟨rfl,b1⟩;go_wp2
 go_ret
 exact ⟨rfl,b1⟩
theorem cfiles_in (h:Cl w s F c t vn L p vq Fs) {n:Nat} (hn:n < c.S.length):Calls Tryz.prog 21 #[ptr s,.int .i64 n] w (FilesPost w (sat c.S n).1):=by
 have C1:=Lib.hid (chas_in h hn);have H:=Lib.hid h;obtain ⟨g,cap,rfl,_,hm,_⟩:=h.one hn;clear h;unfold ptr at *
 go_enter Tryz.func21,Tryz.ntmps21
 go_wp2_with fail;refine C1.out.mono ?_;rintro e w1 ⟨rfl,b1⟩;obtain ⟨g',cap',e',_,_,d1,_⟩:=(H.out.below b1).one hn;injection e' with e1 _ e3;injection e1 with e1;injection e1 with e1 _ _;subst e1 e3;have d0:=(H.out.below b1).cells.1;have B1:=Lib.hid b1;have C2:=Lib.hid (files_any ((H.out.below b1).sto hn));have p5:decide (c.S.length≤n)=false:=decide_eq_false (by omega);unfold FilesPost at C2;unfold ptr at *;clear H C1 b1;generalize c.S.length=ln at *;generalize (sat c.S n).1=A at *;generalize (nda L n).s=q at *;go_wp2_with fail;refine C2.out.mono ?_;rintro e w2 ⟨v,rfl,hv,b2⟩;have E:Hid (FilesPost w A (.returned v) w2):=Lib.hid ⟨v,rfl,fun F hF=>hv F fun k hk=>Nat.lt_of_lt_of_le (hF k hk) B1.out.size,B1.out.trans (b2.mono B1.out.size)⟩;clear hv b2 C2 B1;go_wp2
 go_ret
 exact E.out
end
end Go.Proofs.YtljnkaodhfnbbaaGreatDoor.Cu
namespace Go.Proofs.YtljnkaodhfnbbaaGreatDoor.Cu
open Pa (vat)
def Syn (c:Cs):Prop:=(vat c.V 0=true↔c.P.r0≠4)∧(vat c.V 1=true↔c.P.r1≠4)
theorem t1_4 (a:Wt.A):((Wt.t1 a).r0=4↔a.r0=4)∧(Wt.t1 a).r1=a.r1:=by
 unfold Wt.t1
 split
 ·rename_i g
  refine ⟨?_,rfl⟩
  show (1:Int)=4↔_
  omega
 ·exact ⟨Iff.rfl,rfl⟩
theorem t2_4 (a:Wt.A):((Wt.t2 a).r1=4↔a.r1=4)∧(Wt.t2 a).r0=a.r0:=by
 unfold Wt.t2
 split
 ·rename_i g
  refine ⟨?_,rfl⟩
  show (1:Int)=4↔_
  omega
 ·exact ⟨Iff.rfl,rfl⟩
theorem hdN_4 (r:Int):Wt.hdN r=4↔r=4:=by
 unfold Wt.hdN
 split <;> omega
theorem hd_4 (a:Wt.A):((Wt.hd a).r0=4↔a.r0=4)∧((Wt.hd a).r1=4↔a.r1=4):=by
 unfold Wt.hd
 split
 ·rename_i g
  refine ⟨?_,hdN_4 _⟩
  show (1:Int)=4↔_
  omega
 ·split
  ·rename_i g
   refine ⟨hdN_4 _,?_⟩
   show (1:Int)=4↔_
   omega
  ·exact ⟨Iff.rfl,Iff.rfl⟩
theorem rnd_4 (a:Wt.A):((Wt.rnd a).r0=4↔a.r0=4)∧((Wt.rnd a).r1=4↔a.r1=4):=by
 unfold Wt.rnd Wt.tk;have h1:=hd_4 (Wt.t2 (Wt.t1 a));have h2:=t2_4 (Wt.t1 a);have h3:=t1_4 a;rw [h1.1,h1.2,h2.1,h2.2,h3.1,h3.2];exact ⟨Iff.rfl,Iff.rfl⟩
theorem Syn.rnd {c:Cs} (h:Syn c):(vat c.V 0=true↔(Wt.rnd c.P).r0≠4)∧(vat c.V 1=true↔(Wt.rnd c.P).r1≠4):=by
 have q:=rnd_4 c.P;refine ⟨h.1.trans ?_,h.2.trans ?_⟩
 ·rw [Ne,Ne,q.1]
 ·rw [Ne,Ne,q.2]
theorem Syn.round {c:Cs} (h:Syn c):Syn (rC c):=by
 have q:=h.rnd;unfold rC
 split
 ·exact q
 ·split
  ·exact q
  ·exact q
theorem syn_new (L:List Pl) (h:2≤L.length):Syn (newC L):=by
 refine ⟨?_,?_⟩
 ·have:=new_vat (L:=L) (i:=0) (by omega)
  rw [show vat (newC L).V 0=true from this]
  show true=true↔(1:Int)≠4
  simp
 ·have:=new_vat (L:=L) (i:=1) (by omega)
  rw [show vat (newC L).V 1=true from this]
  show true=true↔(2:Int)≠4
  simp
theorem Syn.act {c:Cs} {t:Nat} (h:Syn c) (ok:OkC c t) (x:Ac):Syn (actC x c):=by
 unfold actC
 by_cases h1:x.k=1
 ·rw [if_pos h1];exact h.round
 ·rw [if_neg h1]
  by_cases he:actE x c≠0
  ·rw [if_pos he];exact h
  ·rw [if_neg he]
   have he:=Classical.not_not.1 he;unfold actE at he;rw [if_neg h1] at he
   by_cases h3:x.k=3
   ·rw [if_pos h3];exact h
   ·rw [if_neg h3]
    rw [if_neg h3] at he
    by_cases hn:x.k < 2∨6 < x.k∨no c x.n
    ·rw [if_pos hn] at he;omega
    ·rw [if_neg hn] at he
     have hin:0≤x.n∧x.n < c.S.length:=by
      have:¬ no c x.n:=fun g=>hn (.inr (.inr g));unfold no at this
      omega
     have hv:=ok.lv
     by_cases h2:x.k=2
     ·rw [if_pos h2];exact h
     ·rw [if_neg h2]
      by_cases h4:x.k=4
      ·rw [if_pos h4]
       have v0:vat (c.V.set x.n.toNat false) 0=_:=vat_set hin.1 (by omega) 0 (by omega);have v1:vat (c.V.set x.n.toNat false) 1=_:=vat_set hin.1 (by omega) 1 (by omega);refine ⟨?_,?_⟩
       ·show vat (c.V.set x.n.toNat false) 0=true↔(Wt.crA c.P x.n).r0≠4
        rw [v0];unfold Wt.crA
        by_cases e:x.n=0
        ·rw [if_pos e.symm,if_pos e];simp
        ·rw [if_neg (fun g=>e g.symm),if_neg e]
         split <;> exact h.1
       ·show vat (c.V.set x.n.toNat false) 1=true↔(Wt.crA c.P x.n).r1≠4
        rw [v1];unfold Wt.crA
        by_cases e:x.n=0
        ·rw [if_neg (by omega),if_pos e];exact h.2
        ·rw [if_neg e]
         by_cases e1:x.n=1
         ·rw [if_pos e1.symm,if_pos e1];simp
         ·rw [if_neg (fun g=>e1 g.symm),if_neg e1];exact h.2
      ·rw [if_neg h4]
       rw [if_neg h2,if_neg h4] at he
       by_cases h5:x.k=5
       ·rw [if_pos h5]
        rw [if_pos h5] at he;have hvn:vat c.V x.n=false:=by
         cases hb:vat c.V x.n with
         | false=>rfl
         | true=>rw [hb,if_pos rfl] at he;omega
        have v0:vat (c.V.set x.n.toNat true) 0=_:=vat_set hin.1 (by omega) 0 (by omega);have v1:vat (c.V.set x.n.toNat true) 1=_:=vat_set hin.1 (by omega) 1 (by omega);refine ⟨?_,?_⟩
        ·show vat (c.V.set x.n.toNat true) 0=true↔(Wt.rsA c.P x.n).r0≠4
         rw [v0];unfold Wt.rsA
         by_cases e:x.n=0
         ·rw [if_pos e.symm,if_pos e]
          have r4:c.P.r0=4:=Classical.not_not.1 fun g=>by have:=h.1.2 g;rw [e] at hvn;rw [hvn] at this;cases this
          rw [if_pos r4];simp
         ·rw [if_neg (fun g=>e g.symm),if_neg e]
          split
          ·split <;> exact h.1
          ·exact h.1
        ·show vat (c.V.set x.n.toNat true) 1=true↔(Wt.rsA c.P x.n).r1≠4
         rw [v1];unfold Wt.rsA
         by_cases e:x.n=0
         ·rw [if_neg (by omega),if_pos e]
          split <;> exact h.2
         ·rw [if_neg e]
          by_cases e1:x.n=1
          ·rw [if_pos e1.symm,if_pos e1]
           have r4:c.P.r1=4:=Classical.not_not.1 fun g=>by have:=h.2.2 g;rw [e1] at hvn;rw [hvn] at this;cases this
           rw [if_pos r4];simp
          ·rw [if_neg (fun g=>e1 g.symm),if_neg e1];exact h.2
       ·rw [if_neg h5];exact h
end Go.Proofs.YtljnkaodhfnbbaaGreatDoor.Cu
namespace Go.Proofs.YtljnkaodhfnbbaaGreatDoor.Cu
open Go.RowKit Go.Maps
open Rw (Rd Ow At)
open Fl (R4 K4 okL okR row_cell row_frozen)
open Fs (Abs St OkA Only Fx ow_only)
open Pa (Sts S2 sat vat KN KB K2 ptr)
attribute [local irreducible] Sd.wpSd wpQuiet
section
variable {s t p:Nat} {F G:Nat→Prop} {c:Cs} {vn vq:Value} {L:List Nd} {Fs:Nat→Nat→Prop} {w w':World}
theorem ow_node {g n cap i:Nat} (h:Ow KD w 0 139 (.slice (some ⟨g,0,none⟩) n cap) L) (hn:L.length=n) (hi:i < n) (j:Nat) (hj:j < 3) (u:Value) (x:Nd) (hx:KD.enc x=(KD.enc (nda L i)).set j u):Ow KD (w.setCell ⟨g,i * 3+j,none⟩ u) 0 139 (.slice (some ⟨g,0,none⟩) n cap) (L.set i x):=by
 subst hn;exact Rw.Ow.set h i j hi hj u x hx
theorem Cl.setLive {g cap n:Nat} (h:Cl w s F c t (.slice (some ⟨g,0,none⟩) n cap) L p vq Fs) (hn:c.S.length=n) (hv:c.V.length=n) {i:Nat} (hi:i < n) (b:Bool):Cl (w.setCell ⟨g,i * 3+1,none⟩ (.bool b)) s F { c with V:=c.V.set i b } t (.slice (some ⟨g,0,none⟩) n cap) (L.set i { nda L i with live:=b }) p vq Fs∧Only F w (w.setCell ⟨g,i * 3+1,none⟩ (.bool b)):=by
 have hl:=h.len.trans hn;have o:Only (fun k=>k=g) w (w.setCell ⟨g,i * 3+1,none⟩ (.bool b)):=Only.set (fun k=>k=g) w (a:=⟨g,i * 3+1,none⟩) rfl _;refine ⟨h.node (g:=g) rfl o (ow_node h.no hl hi 1 (by decide) (.bool b) { nda L i with live:=b } rfl) List.length_set (fun j hj=>?_) (fun j hj=>?_) (fun j hj=>?_),o.mono fun k _ e=>by rw [e];exact h.fv g (.inl rfl)⟩
 ·rw [nda_set (by omega)]
  split
  ·rename_i e;rw [e]
  ·rfl
 ·rw [nda_set (by omega)]
  have q:vat (c.V.set i b) j=if (j:Int)=(i:Int) then b else vat c.V j:=by
   have:=vat_set (V:=c.V) (n:=(i:Int)) (b:=b) (by omega) (by omega) j (by omega);rw [Int.toNat_natCast] at this;exact this
  rw [q]
  by_cases e:j=i
  ·rw [if_pos e,if_pos (by omega)]
  ·rw [if_neg e,if_neg (by omega)]
   exact h.lv j hj
 ·rw [nda_set (by omega)]
  split
  ·exact h.rt i (by omega)
  ·exact h.rt j hj
theorem Cl.setRate {g cap n:Nat} (h:Cl w s F c t (.slice (some ⟨g,0,none⟩) n cap) L p vq Fs) (hn:c.S.length=n) {i:Nat} (hi:i < n) {x:Int} (hx : -2000≤x∧x≤2000):Cl (w.setCell ⟨g,i * 3+2,none⟩ (.int .i64 x)) s F c t (.slice (some ⟨g,0,none⟩) n cap) (L.set i { nda L i with rate:=x }) p vq Fs∧Only F w (w.setCell ⟨g,i * 3+2,none⟩ (.int .i64 x)):=by
 have hl:=h.len.trans hn;have o:Only (fun k=>k=g) w (w.setCell ⟨g,i * 3+2,none⟩ (.int .i64 x)):=Only.set (fun k=>k=g) w (a:=⟨g,i * 3+2,none⟩) rfl _;refine ⟨h.node (g:=g) (V:=c.V) rfl o (ow_node h.no hl hi 2 (by decide) (.int .i64 x) { nda L i with rate:=x } rfl) List.length_set (fun j hj=>?_) (fun j hj=>?_) (fun j hj=>?_),o.mono fun k _ e=>by rw [e];exact h.fv g (.inl rfl)⟩
 ·rw [nda_set (by omega)]
  split
  ·rename_i e;rw [e]
  ·rfl
 ·rw [nda_set (by omega)]
  split
  ·rename_i e;rw [e];exact h.lv i (by omega)
  ·exact h.lv j hj
 ·rw [nda_set (by omega)]
  split
  ·exact hx
  ·exact h.rt j hj
theorem crA_far {a:Wt.A} {n:Int} (h:2≤n):Wt.crA a n=a:=by unfold Wt.crA;rw [if_neg (by omega),if_neg (by omega)]
theorem rsA_far {a:Wt.A} {n:Int} (h:2≤n):Wt.rsA a n=a:=by unfold Wt.rsA;rw [if_neg (by omega),if_neg (by omega)]
theorem Syn.cr0 (h:Syn c) {n:Nat} (hn:n < 2) (hv:vat c.V n=true):Wt.crE c.P n=0:=by
 unfold Wt.crE
 rcases (by omega:n=0∨n=1) with rfl | rfl
 ·rw [if_pos (by rfl),if_neg (h.1.1 hv)]
 ·rw [if_neg (by decide),if_pos (by rfl),if_neg (h.2.1 hv)]
theorem Syn.rs0 (h:Syn c) {n:Nat} (hn:n < 2) (hv:vat c.V n=false):Wt.rsE c.P n=0:=by
 unfold Wt.rsE
 rcases (by omega:n=0∨n=1) with rfl | rfl
 ·have r4:c.P.r0=4:=Classical.not_not.1 fun g=>by have:=h.1.2 g;rw [show vat c.V 0=false from hv] at this;cases this
  rw [if_pos (by rfl),if_pos r4]
 ·have r4:c.P.r1=4:=Classical.not_not.1 fun g=>by have:=h.2.2 g;rw [show vat c.V 1=false from hv] at this;cases this
  rw [if_neg (by decide),if_pos (by rfl),if_pos r4]
theorem doc_below (h:Cl w s F c t vn L p vq Fs) (b:Below w.heap.size w w') (x:Int):DoC w s F c t x (.returned (.int .i64 x)) w' :=
 ⟨rfl,⟨vn,L,p,vq,Fs,(h.below b).fx w⟩,Only.of_below b⟩
theorem doc_of {c':Cs} {vn' vq':Value} {L':List Nd} {p':Nat} {Fs':Nat→Nat→Prop} {t':Nat} (h:Cl w' s F c' t' vn' L' p' vq' Fs') (o:Only F w w') (x:Int):DoC w s F c' t' x (.returned (.int .i64 x)) w' :=
 ⟨rfl,⟨vn',L',p',vq',Fs',h.fx w⟩,o⟩
set_option maxHeartbeats 1000000 in
theorem ccrash_any (h:Cl w s F c t vn L p vq Fs) (ok:OkC c t) (sy:Syn c) {n:Nat} (hn:n < c.S.length) (hv:vat c.V n=true):Calls Tryz.prog 63 #[ptr s,.int .i64 n] w (DoC w s F { c with V:=c.V.set n false,P:=Wt.crA c.P n } t 0):=by
 obtain ⟨g,cap,rfl,hc,hm,_,y1,_,fz⟩:=h.one hn;have d0:=h.cells.1;have H:=Lib.hid (h.setLive rfl ok.lv hn false);have H0:=Lib.hid h;have CR:=Lib.hid (fun (w1:World) (P:Wt.Pr w1 p c.P t)=>Wt.crash_any P n);have E0:=Lib.hid (fun h2=>sy.cr0 (n:=n) h2 hv);have EF:=Lib.hid (fun h2=>crA_far (a:=c.P) (n:=(n:Int)) h2);have fy:=fz (n * 3+1);rw [hv] at y1;have p5:decide (c.S.length≤n)=false:=decide_eq_false (by omega);clear h ok sy hv fz;generalize c.S.length=ln at *;unfold ptr at *
 by_cases h2:n < 2
 ·have k1:=H.out.1.cells.2.1
  have CC:=Lib.hid (CR.out _ H.out.1.pr);unfold Wt.CdeedPost at CC;rw [E0.out h2] at CC;unfold ptr at k1;have p6:decide ((n:Int) < 2)=true:=decide_eq_true (by omega);clear CR E0 EF
  go_enter Tryz.func63,Tryz.ntmps63
  go_wp2_with fail;refine CC.out.mono ?_;rintro e w2 ⟨rfl,pr2,o2⟩;have E:=Lib.hid (doc_of (w:=w) (H.out.1.pair o2 pr2) (H.out.2.trans o2 fun k _ e=>by rw [e];exact H.out.1.fp) 0);clear pr2 o2 H CC;go_wp2
  go_ret
  exact E.out
 ·have E:=Lib.hid (doc_of (w:=w) H.out.1 H.out.2 0)
  rw [← EF.out (by omega)] at E;have p6:decide ((n:Int) < 2)=false:=decide_eq_false (by omega);clear CR E0 EF H
  go_enter Tryz.func63,Tryz.ntmps63
  go_wp2
  go_ret
  exact E.out
theorem ccrash_no (h:Cl w s F c t vn L p vq Fs) {n:Nat} (hn:n < c.S.length) (hv:vat c.V n=false):Calls Tryz.prog 63 #[ptr s,.int .i64 n] w (DoC w s F c t 10):=by
 obtain ⟨g,cap,rfl,_,hm,_,y1,_⟩:=h.one hn;have d0:=h.cells.1;have E:=Lib.hid (doc_below h (Below.refl _ _) 10);rw [hv] at y1;have p5:decide (c.S.length≤n)=false:=decide_eq_false (by omega);clear h hv;generalize c.S.length=ln at *;unfold ptr at *
 go_enter Tryz.func63,Tryz.ntmps63
 go_wp2
 go_ret
 exact E.out
set_option maxHeartbeats 1000000 in
theorem crestart_any (h:Cl w s F c t vn L p vq Fs) (ok:OkC c t) (sy:Syn c) {n:Nat} (hn:n < c.S.length) (hv:vat c.V n=false):Calls Tryz.prog 64 #[ptr s,.int .i64 n] w (DoC w s F { c with V:=c.V.set n true,P:=Wt.rsA c.P n } t 0):=by
 obtain ⟨g,cap,rfl,hc,hm,_,y1,_,fz⟩:=h.one hn;have d0:=h.cells.1;have H:=Lib.hid (h.setLive rfl ok.lv hn true);have H0:=Lib.hid h;have CR:=Lib.hid (fun (w1:World) (P:Wt.Pr w1 p c.P t)=>Wt.restart_any P n);have E0:=Lib.hid (fun h2=>sy.rs0 (n:=n) h2 hv);have EF:=Lib.hid (fun h2=>rsA_far (a:=c.P) (n:=(n:Int)) h2);have fy:=fz (n * 3+1);rw [hv] at y1;have p5:decide (c.S.length≤n)=false:=decide_eq_false (by omega);clear h ok sy hv fz;generalize c.S.length=ln at *;unfold ptr at *
 by_cases h2:n < 2
 ·have k1:=H.out.1.cells.2.1
  have CC:=Lib.hid (CR.out _ H.out.1.pr);unfold Wt.CdeedPost at CC;rw [E0.out h2] at CC;unfold ptr at k1;have p6:decide ((n:Int) < 2)=true:=decide_eq_true (by omega);clear CR E0 EF
  go_enter Tryz.func64,Tryz.ntmps64
  go_wp2_with fail;refine CC.out.mono ?_;rintro e w2 ⟨rfl,pr2,o2⟩;have E:=Lib.hid (doc_of (w:=w) (H.out.1.pair o2 pr2) (H.out.2.trans o2 fun k _ e=>by rw [e];exact H.out.1.fp) 0);clear pr2 o2 H CC;go_wp2
  go_ret
  exact E.out
 ·have E:=Lib.hid (doc_of (w:=w) H.out.1 H.out.2 0)
  rw [← EF.out (by omega)] at E;have p6:decide ((n:Int) < 2)=false:=decide_eq_false (by omega);clear CR E0 EF H
  go_enter Tryz.func64,Tryz.ntmps64
  go_wp2
  go_ret
  exact E.out
theorem crestart_no (h:Cl w s F c t vn L p vq Fs) {n:Nat} (hn:n < c.S.length) (hv:vat c.V n=true):Calls Tryz.prog 64 #[ptr s,.int .i64 n] w (DoC w s F c t 10):=by
 obtain ⟨g,cap,rfl,_,hm,_,y1,_⟩:=h.one hn;have d0:=h.cells.1;have E:=Lib.hid (doc_below h (Below.refl _ _) 10);rw [hv] at y1;have p5:decide (c.S.length≤n)=false:=decide_eq_false (by omega);clear h hv;generalize c.S.length=ln at *;unfold ptr at *
 go_enter Tryz.func64,Tryz.ntmps64
 go_wp2
 go_ret
 exact E.out
def cal (x:Int):Bool:=decide (-2000≤x) && decide (x≤2000)
theorem ciscalm_any (w:World) (x:Int):Calls Tryz.prog 110 #[.int .i64 x] w fun e w'=>e = .returned (.bool (cal x))∧w=w':=by
 have E:Hid (cal x=(decide (-2000≤x) && decide (x≤2000))):=Lib.hid rfl;generalize cal x=b at *
 by_cases h0 : -2000≤x
 ·by_cases h2:x≤2000
  ·obtain rfl:b=true:=by rw [E.out];simp [h0,h2]
   clear E
   go_enter Tryz.func110,Tryz.ntmps110
   go_wp2
   go_ret
   exact ⟨rfl,rfl⟩
  ·obtain rfl:b=false:=by rw [E.out];simp [h2]
   have q:decide (x≤2000)=false:=decide_eq_false h2;clear E
   go_enter Tryz.func110,Tryz.ntmps110
   go_wp2
   go_ret
   exact ⟨rfl,rfl⟩
 ·obtain rfl:b=false:=by rw [E.out];simp [h0]
  have q:decide (-2000≤x)=false:=decide_eq_false h0;clear E
  go_enter Tryz.func110,Tryz.ntmps110
  go_wp2
  go_ret
  exact ⟨rfl,rfl⟩
theorem cal_of {x:Int} : cal x=true↔-2000≤x∧x≤2000:=by unfold cal;simp
theorem cdrift_yes (w:World) (g o:Nat) (x:Int) (u:Value) (hu:w.cell? ⟨g,o+2,none⟩=some u) (hf:w.frozen? ⟨g,o+2,none⟩=false) (hx:cal x=true):Calls Tryz.prog 65 #[.pointer (some ⟨g,o,none⟩),.int .i64 x] w fun e w'=>e = .returned (.int .i64 0)∧w'=w.setCell ⟨g,o+2,none⟩ (.int .i64 x):=by
 have C:=Lib.hid (ciscalm_any w x);rw [hx] at C;clear hx
 go_enter Tryz.func65,Tryz.ntmps65
 go_wp2_with fail;refine C.out.mono ?_;rintro e w1 ⟨rfl,rfl⟩;go_wp2
 go_ret
 exact ⟨rfl,rfl⟩
theorem cdrift_no (w:World) (g o:Nat) (x:Int) (hx:cal x=false):Calls Tryz.prog 65 #[.pointer (some ⟨g,o,none⟩),.int .i64 x] w fun e w'=>e = .returned (.int .i64 1)∧w=w':=by
 have C:=Lib.hid (ciscalm_any w x);rw [hx] at C;clear hx
 go_enter Tryz.func65,Tryz.ntmps65
 go_wp2_with fail;refine C.out.mono ?_;rintro e w1 ⟨rfl,rfl⟩;go_wp2
 go_ret
 exact ⟨rfl,rfl⟩
end
end Go.Proofs.YtljnkaodhfnbbaaGreatDoor.Cu
namespace Go.Proofs.YtljnkaodhfnbbaaGreatDoor.Cu
open Go.RowKit
open Rw (Rd Ow At Kind)
open Fl (R4 z4 okR okL goodF)
open Fs (Ent Fil Abs OkA key look_none addE addA Srt put_new ins_at)
open Pa (Fls eatF entD)
open Ck (Hd sl zh)
structure PlD where
 files:Hd
 rate:Int
 F:List Ent
def plD:PlD:=⟨zh,0,[]⟩
def KP:Kind PlD:=⟨fun c=>[sl c.files,.int .i64 c.rate],2,by decide,fun _=>rfl,fun _ u h=>by simp [sl] at h;rcases h with rfl | rfl <;> rfl,plD⟩
def pld (L:List PlD) (i:Nat):PlD:=L.getD i plD
structure Pls (w:World) (v:Value) (L:List PlD) (B:Nat):Prop where
 rd:Rd KP w v L
 file:∀ i,i < L.length→Fls w (sl (pld L i).files) (pld L i).F B
theorem Pls.below {w w':World} {v:Value} {L:List PlD} {B:Nat} (h:Pls w v L B) (b:Below w.heap.size w w'):Pls w' v L B:=⟨h.rd.below b,fun i hi=>(h.file i hi).below b⟩
def PlD.abs (c:PlD):Pl:=(c.F.map Ent.abs,c.rate)
def pls (L:List PlD):List Pl:=L.map PlD.abs
theorem pls_len (L:List PlD):(pls L).length=L.length:=List.length_map _
theorem pls_at {L:List PlD} {i:Nat} (h:i < L.length):plat (pls L) i=(pld L i).abs:=by
 unfold plat pls pld;rw [List.getD_eq_getElem?_getD,List.getElem?_map,List.getElem?_eq_getElem h,List.getD_eq_getElem?_getD,List.getElem?_eq_getElem h]
 rfl
theorem at_pl {w:World} {b off:Nat} {L:List PlD} (h:At KP w b off L) {i:Nat} (hi:i < L.length):w.cell? ⟨b,off+i * 2,none⟩=some (sl (pld L i).files)∧w.cell? ⟨b,off+i * 2+1,none⟩=some (.int .i64 (pld L i).rate):=⟨h i hi 0 _ rfl,h i hi 1 _ rfl⟩
def Inn (A:Abs) (k:Nat):Prop:=Srt key (A.take k)∧∀ e∈A.take k,(0≤e.1∧e.1≤63)∧goodF e.2.1 e.2.2
theorem inn_zero (A:Abs):Inn A 0:=⟨List.Pairwise.nil,nofun⟩
theorem inn_end {A:Abs} (h:Inn A A.length):gdF A:=by
 unfold Inn at h;rw [List.take_length] at h;exact h
theorem inn_step {A:Abs} {k:Nat} {n p:Int} {l:List R4} (h:Inn A k) (hk:A[k]? = some (n,p,l)) (ord:∀ c,0 < k→A[k - 1]? = some c→key c < n) :
 (addE (A.take k) n p l=0∧addA (A.take k) n p l=A.take (k+1)∧Inn A (k+1))∨(addE (A.take k) n p l≠0∧¬ gdF A):=by
 have hkl:=(List.getElem?_eq_some_iff.1 hk).1;have hm:(n,p,l)∈A:=List.mem_of_getElem? hk;have lt:∀ x∈A.take k,key x < n:=fun x hx=>by
  obtain ⟨i,hi⟩:=List.mem_iff_getElem?.1 hx;have hil:=(List.getElem?_eq_some_iff.1 hi).1;rw [List.length_take] at hil;have h1:A[k - 1]? = some A[k - 1]:=List.getElem?_eq_getElem (by omega);have o:=ord _ (by omega) h1;rw [List.getElem?_take,if_pos (by omega)] at hi
  by_cases e:i=k - 1
  ·subst e
   rw [h1] at hi;injection hi with hi;rw [← hi];exact o
  ·have q:=List.pairwise_iff_getElem.1 h.1 i (k - 1) (by rw [List.length_take];omega) (by rw [List.length_take];omega) (by omega)
   rw [List.getElem_take,List.getElem_take] at q;rw [List.getElem?_eq_getElem (by omega)] at hi;injection hi with hi;rw [hi] at q
   omega
 have hn:Fs.look key n (A.take k)=none:=look_none.2 fun x hx=>by have:=lt x hx;omega
 have tk:A.take (k+1)=A.take k ++ [(n,p,l)]:=by rw [List.take_add_one,hk];rfl
 by_cases g1:0≤n∧n≤63
 ·by_cases g2:goodF p l
  ·have e0:addE (A.take k) n p l=0:=by
    unfold addE;rw [if_pos g1,if_pos g2,hn]
    rfl
   refine .inl ⟨e0,?_,?_,?_⟩
   ·unfold addA
    rw [if_pos e0,put_new (c:=(n,p,l)) hn,ins_at (k:=(A.take k).length) (fun x hx=>lt x (List.mem_of_mem_take hx)) (fun x hx=>by rw [List.getElem?_eq_none (Nat.le_refl _)] at hx;cases hx),List.take_length,List.drop_length,tk]
   ·rw [tk]
    refine List.pairwise_append.2 ⟨h.1,List.pairwise_singleton _ _,fun x hx y hy=>?_⟩;rw [List.mem_singleton] at hy;subst hy;exact lt x hx
   ·rw [tk]
    intro e he
    rcases List.mem_append.1 he with he | he
    ·exact h.2 e he
    ·rw [List.mem_singleton] at he
     subst he;exact ⟨g1,g2⟩
  ·refine .inr ⟨?_,fun g=>g2 (g.2 _ hm).2⟩
   unfold addE;rw [if_pos g1,if_neg g2]
   decide
 ·refine .inr ⟨?_,fun g=>g1 (g.2 _ hm).1⟩
  unfold addE;rw [if_neg g1]
  decide
theorem inn_no {A:Abs} {k:Nat} {c d:Fil} (h0:0 < k) (hk:A[k]? = some c) (h1:A[k - 1]? = some d) (hle:key c≤key d):¬ gdF A:=fun g=>by
 have a:=(List.getElem?_eq_some_iff.1 hk);have b:=(List.getElem?_eq_some_iff.1 h1);obtain ⟨a1,rfl⟩:=a;obtain ⟨b1,rfl⟩:=b;have q:=List.pairwise_iff_getElem.1 g.1 (k - 1) k b1 a1 (by omega)
 omega
def Gds (L:List Pl) (i:Nat):Prop:=∀ j,j < i→gdP (plat L j)
theorem gds_zero (L:List Pl):Gds L 0:=fun j hj=>by omega
theorem gds_next {L:List Pl} {i:Nat} (h:Gds L i) (g:gdP (plat L i)):Gds L (i+1):=fun j hj=>by
 by_cases e:j=i
 ·rw [e];exact g
 ·exact h j (by omega)
theorem gds_all {L:List Pl} (h:Gds L L.length):∀ p∈L,gdP p:=fun p hp=>by
 obtain ⟨i,hi,rfl⟩:=List.getElem_of_mem hp;have:=h i hi;unfold plat at this;rw [List.getD_eq_getElem?_getD,List.getElem?_eq_getElem hi] at this;exact this
theorem new_short {L:List Pl} (h:L.length < 2∨32 < L.length):newE L=1:=by unfold newE;rw [if_pos h]
theorem new_bad {L:List Pl} (h:¬ (L.length < 2∨32 < L.length)) {i:Nat} (hi:i < L.length) (g:¬ gdP (plat L i)):newE L=2:=by
 unfold newE;rw [if_neg h,if_neg]
 intro a
 refine g (a _ ?_);unfold plat;rw [List.getD_eq_getElem?_getD,List.getElem?_eq_getElem hi];exact List.getElem_mem hi
theorem new_end {L:List Pl} (h:¬ (L.length < 2∨32 < L.length)) (g:∀ p∈L,gdP p):(agree L→newE L=0)∧(¬ agree L→newE L=10):=by
 unfold newE;rw [if_neg h,if_pos g];exact ⟨fun a=>if_pos a,fun a=>if_neg a⟩
theorem newC_next {L:List Pl} {i:Nat} (h:i < L.length):(newC (L.take (i+1))).S=(newC (L.take i)).S ++ [((plat L i).1,0)]∧(newC (L.take (i+1))).V=(newC (L.take i)).V ++ [true]:=by
 have tk:L.take (i+1)=L.take i ++ [plat L i]:=by
  rw [List.take_add_one];unfold plat;rw [List.getD_eq_getElem?_getD,List.getElem?_eq_getElem h]
  rfl
 unfold newC;rw [tk]
 simp
end Go.Proofs.YtljnkaodhfnbbaaGreatDoor.Cu
