import Derived.Test.YtfcgnpchbcmdeaaGreatZpbg
import Derived.Test.YtfcgnpchbcmdeaaGreatZpbk
import Derived.Test.YtfcgnpchbcmdeaaGreatZpbh
import Derived.Test.YtfcgnpchbcmdeaaGreatZpbn
namespace Go.Proofs.YtfcgnpchbcmdeaaGreat
set_option linter.unusedSimpArgs false
set_option maxRecDepth 100000
set_option maxHeartbeats 8000000
open Go.RowKit
def bdI(e:ES):List Int:=if e.wd=true then[] else e.bs
def bdS(e:ES):List ByteArray:=if e.wd=true then e.ww else[]
structure Zn0(w w':World)(vb vw:Value)(e:ES):Prop where
 nb:Ze w' w.heap.size vb (bdI e)
 nw:ZS w' w.heap.size vw (bdS e)
 low:Below w.heap.size w w'
def ZoU(w:World)(e:ES)(x:Ending)(w':World):Prop:=∃vb vw,x=.returned (.tuple #[vb,vw])/\Zn0 w w' vb vw e
theorem ZgV(db f:Nat)(vK vB vX:Value)(kvs bvs:List (Value×Value))(X:List XS)(D:QX)(w:World)(h:Zas w db vK vB vX kvs bvs X D)(hf:f<D.ks.length)(hb1:(D.ks.getD f ZN).e.bs.length<=1000)(hw1:(D.ks.getD f ZN).e.ww.length<=1000):Calls Tryz.prog 53 #[.pointer (some ⟨db,0,none⟩),.int .i64 (f:Nat)] w fun e w'=>ZoU w (D.ks.getD f ZN).e e w':=by
 obtain⟨qk,cK,ab,cb,aw,cw,hvK,hqkl,k0,k1,k2,k3,hI,hS⟩:=h.kn.at hf;subst hvK;have d0:w.cell? ⟨db,0,none⟩=some (.slice (some ⟨qk,0,none⟩) D.ks.length cK):=cell_of_row _ _ 0 _ 168 (0,0) h.ds.blk;have hdl:db<w.heap.size:=(Qb h.ds.blk).1;have HI:Hid (Ze w 0 (.slice ab (D.ks.getD f ZN).e.bs.length cb) (D.ks.getD f ZN).e.bs):=hI;have HS:Hid (ZS w 0 (.slice aw (D.ks.getD f ZN).e.ww.length cw) (D.ks.getD f ZN).e.ww):=hS;have bf1:(0:Int)<=(f:Int):=(by omega);have bf2:(f:Int)<(D.ks.length:Int):=(by omega);clear h hI hS;generalize D.ks.length=nk at *;generalize (D.ks.getD f ZN).d=dd at *;generalize (D.ks.getD f ZN).e=es at *;generalize hnb:es.bs.length=nb at *;generalize hnw:es.ww.length=nw at *;have HN:Hid (es.bs.length=nb/\es.ww.length=nw):=⟨hnb,hnw⟩;clear hnb hnw
 cases hwd:es.wd
 ·rw[hwd] at k0;have HB:Hid (bdI es=es.bs/\bdS es=[]):=(by show _/\_;unfold bdI bdS;rw[hwd];exact⟨rfl,rfl⟩);clear hwd;go_enter Tryz.func53,Tryz.ntmps53;go_upto_region 4 with fail;generalize hW1:w.alloc (.cells #[.bool false,.slice ab nb cb,.slice aw nw cw,.int .i64 (dd:Nat)] 172)=w1;have hB1:Below w.heap.size w w1:=(by rw[<- hW1];exact(Below.refl _ _).alloc (Qa _) _);have hX1:w1.heap[w.heap.size]? =some (.cells #[.bool false,.slice ab nb cb,.slice aw nw cw,.int .i64 (dd:Nat)] 172 (0,0)):=(by rw[<- hW1];exact heap_alloc_new _ _);have hwl:w.heap.size<w1.heap.size:=(Qb hX1).1;have x1:w1.cell? ⟨w.heap.size,1,none⟩=some (.slice ab nb cb):=cell_of_row _ _ 1 _ 172 (0,0) hX1;have HB1:Hid (Below w.heap.size w w1):=hB1;clear hW1 hX1 k0 k1 k2 k3 d0
  have hrow:w1.ownsRow 0 3 1 (.slice ab nb cb) nb (es.bs.map (Value.int .i64)):=(by have h1:=(Za.of_below (S:=fun _=>False) hB1).row HI.out (fun _ _=>id);rw[HN.out.1] at h1;exact h1);have HROW:Hid (w1.ownsRow 0 3 1 (.slice ab nb cb) nb (es.bs.map (Value.int .i64))):=hrow;clear hB1 hrow
  by_cases h0:nb=0
  ·subst h0
   rcases ab with _|ad
   ·go_wp2;go_ret2
    have eL:es.bs=[]:=List.length_eq_zero_iff.1 HN.out.1;have hnew:(w1.alloc (.cells #[] 3)).heap[w1.heap.size]? =some (.cells #[] 3 (0,0)):=heap_alloc_new _ _;have hrw:(w1.alloc (.cells #[] 3)).ownsRow w.heap.size 3 1 (.slice (some ⟨w1.heap.size,0,none⟩) 0 0) 0 []:=⟨rfl,.inr ⟨w1.heap.size,0,#[],rfl,by omega,hnew,Qa _,by decide,rfl,rfl⟩⟩;refine⟨_,_,rfl,?_,?_,HB1.out.alloc (by omega) _⟩;rw[HB.out.1,eL];exact hrw;rw[HB.out.2];exact ZS.nil _ _
   go_wp2;go_ret2
   have eL:es.bs=[]:=List.length_eq_zero_iff.1 HN.out.1;have hnew:(w1.alloc (.cells #[] 3)).heap[w1.heap.size]? =some (.cells #[] 3 (0,0)):=heap_alloc_new _ _;have hrw:(w1.alloc (.cells #[] 3)).ownsRow w.heap.size 3 1 (.slice (some ⟨w1.heap.size,0,none⟩) 0 0) 0 []:=⟨rfl,.inr ⟨w1.heap.size,0,#[],rfl,by omega,hnew,Qa _,by decide,rfl,rfl⟩⟩;refine⟨_,_,rfl,?_,?_,HB1.out.alloc (by omega) _⟩;rw[HB.out.1,eL];exact hrw;rw[HB.out.2];exact ZS.nil _ _
  have hq:∃q,ab=some ⟨q,0,none⟩:=by
   rcases HROW.out.2 with⟨e,h1⟩|⟨g,cap,cur,e,_⟩
   exact absurd h1 h0;injection e with e1;exact⟨g,e1⟩
  obtain⟨q,rfl⟩:=hq;obtain⟨i0,hinf,hz0,hz1,hz2⟩:=info_parts Zms
  have hql:q<w1.heap.size:=by
   rcases HROW.out.2 with⟨e,_⟩|⟨g,cap,cur,e,_,hh,_⟩
   ·cases e
   injection e with e1;injection e1 with e1;injection e1 with e1 _;rw[e1];exact(Qb hh).1
  have HNEW:Hid ((w1.alloc (.cells #[] 3)).ownsRow w.heap.size 3 1 (.slice (some ⟨w1.heap.size,0,none⟩) 0 0) 0 []):=⟨rfl,.inr ⟨w1.heap.size,0,#[],rfl,by omega,heap_alloc_new _ _,Qa _,by decide,rfl,rfl⟩⟩;have HLEN:Hid ((es.bs.map (Value.int .i64)).length=nb*1):=by show _=_;rw[List.length_map,HN.out.1,Nat.mul_one]
  have HCEL:Hid (∀j u,(es.bs.map (Value.int .i64))[j]? =some u->(w1.alloc (.cells #[] 3)).cell? ((⟨q,0,none⟩:Addr).add j)=some u):=fun j u hu=>by have hj:j<nb*1:=(by rw[<- HLEN.out];exact(List.getElem?_eq_some_iff.1 hu).1);have hadd:(⟨q,0,none⟩:Addr).add j=⟨q,j,none⟩:=(by unfold Addr.add;split<;>simp_all);rw[hadd];rw[((Below.refl w1.heap.size w1).alloc (Qa _) (.cells #[] 3)).cell (p:=⟨q,j,none⟩) hql];rw[World.ownsRow.cellAt HROW.out j hj];exact hu
  have H1C:Hid (∀u∈es.bs.map (Value.int .i64),u.oneCell'=true):=fun u hu=>by obtain⟨y,_,rfl⟩:=List.mem_map.1 hu;rfl
  go_wp2_with (at_builtin;refine Zd rfl (.tmp 22) (.tmp 25) 25 rfl w.heap.size 3 i0 (.int .i64 0) 1 8 Tryz.underlying25 hinf hz0 hz1 hz2 rfl (by decide) _ 0 [] rfl HNEW.out ⟨q,0,none⟩ nb cb (es.bs.map (Value.int .i64)) rfl HLEN.out HCEL.out H1C.out (by omega) (by unfold maxLen;omega) (by omega) (by simp;omega) ?_)
  intro v4 w4 H4;obtain⟨r4,g4,d4,_,q4,p4,hv4⟩:=H4.out;have HFIN:Hid (w4.ownsRow w.heap.size 3 1 v4 nb (es.bs.map (Value.int .i64))/\Below w.heap.size w w4):=(by refine⟨r4,?_⟩;exact(HB1.out.alloc (by omega) _).grown g4 (by simp;omega) (by intro b hb;simp[Value.ownBlock] at hb;omega));subst hv4;clear H4 r4 g4 d4 HROW HNEW HCEL;go_wp2;go_ret2
  have hr:=HFIN.out.1;refine⟨_,_,rfl,?_,?_,HFIN.out.2⟩;rw[HB.out.1];unfold Ze;rw[HN.out.1];exact(by simpa using hr);rw[HB.out.2];exact ZS.nil _ _
 rw[hwd] at k0;have HB:Hid (bdI es=[]/\bdS es=es.ww):=(by show _/\_;unfold bdI bdS;rw[hwd];exact⟨rfl,rfl⟩);clear hwd;go_enter Tryz.func53,Tryz.ntmps53;go_upto_region 3 with fail;generalize hW1:w.alloc (.cells #[.bool true,.slice ab nb cb,.slice aw nw cw,.int .i64 (dd:Nat)] 172)=w1;have hB1:Below w.heap.size w w1:=(by rw[<- hW1];exact(Below.refl _ _).alloc (Qa _) _);have hX1:w1.heap[w.heap.size]? =some (.cells #[.bool true,.slice ab nb cb,.slice aw nw cw,.int .i64 (dd:Nat)] 172 (0,0)):=(by rw[<- hW1];exact heap_alloc_new _ _);have hwl:w.heap.size<w1.heap.size:=(Qb hX1).1;have x1:w1.cell? ⟨w.heap.size,2,none⟩=some (.slice aw nw cw):=cell_of_row _ _ 2 _ 172 (0,0) hX1;have HB1:Hid (Below w.heap.size w w1):=hB1;clear hW1 hX1 k0 k1 k2 k3 d0
 have hrow:w1.ownsRow 0 9 1 (.slice aw nw cw) nw (es.ww.map Value.string):=(by have h1:=(Za.of_below (S:=fun _=>False) hB1).row HS.out (fun _ _=>id);rw[HN.out.2] at h1;exact h1);have HROW:Hid (w1.ownsRow 0 9 1 (.slice aw nw cw) nw (es.ww.map Value.string)):=hrow;clear hB1 hrow
 by_cases h0:nw=0
 ·subst h0
  rcases aw with _|ad
  ·go_wp2;go_ret2
   have eL:es.ww=[]:=List.length_eq_zero_iff.1 HN.out.2;have hnew:(w1.alloc (.cells #[] 9)).heap[w1.heap.size]? =some (.cells #[] 9 (0,0)):=heap_alloc_new _ _;have hrw:(w1.alloc (.cells #[] 9)).ownsRow w.heap.size 9 1 (.slice (some ⟨w1.heap.size,0,none⟩) 0 0) 0 []:=⟨rfl,.inr ⟨w1.heap.size,0,#[],rfl,by omega,hnew,Qa _,by decide,rfl,rfl⟩⟩;refine⟨_,_,rfl,?_,?_,HB1.out.alloc (by omega) _⟩;rw[HB.out.1];exact World.ownsRow_nil _ _ 3 1;rw[HB.out.2,eL];exact hrw
  go_wp2;go_ret2
  have eL:es.ww=[]:=List.length_eq_zero_iff.1 HN.out.2;have hnew:(w1.alloc (.cells #[] 9)).heap[w1.heap.size]? =some (.cells #[] 9 (0,0)):=heap_alloc_new _ _;have hrw:(w1.alloc (.cells #[] 9)).ownsRow w.heap.size 9 1 (.slice (some ⟨w1.heap.size,0,none⟩) 0 0) 0 []:=⟨rfl,.inr ⟨w1.heap.size,0,#[],rfl,by omega,hnew,Qa _,by decide,rfl,rfl⟩⟩;refine⟨_,_,rfl,?_,?_,HB1.out.alloc (by omega) _⟩;rw[HB.out.1];exact World.ownsRow_nil _ _ 3 1;rw[HB.out.2,eL];exact hrw
 have hq:∃q,aw=some ⟨q,0,none⟩:=by
  rcases HROW.out.2 with⟨e,h1⟩|⟨g,cap,cur,e,_⟩
  exact absurd h1 h0;injection e with e1;exact⟨g,e1⟩
 obtain⟨q,rfl⟩:=hq;obtain⟨i0,hinf,hz0,hz1,hz2⟩:=info_parts Zji
 have hql:q<w1.heap.size:=by
  rcases HROW.out.2 with⟨e,_⟩|⟨g,cap,cur,e,_,hh,_⟩
  ·cases e
  injection e with e1;injection e1 with e1;injection e1 with e1 _;rw[e1];exact(Qb hh).1
 have HNEW:Hid ((w1.alloc (.cells #[] 9)).ownsRow w.heap.size 9 1 (.slice (some ⟨w1.heap.size,0,none⟩) 0 0) 0 []):=⟨rfl,.inr ⟨w1.heap.size,0,#[],rfl,by omega,heap_alloc_new _ _,Qa _,by decide,rfl,rfl⟩⟩;have HLEN:Hid ((es.ww.map Value.string).length=nw*1):=by show _=_;rw[List.length_map,HN.out.2,Nat.mul_one]
 have HCEL:Hid (∀j u,(es.ww.map Value.string)[j]? =some u->(w1.alloc (.cells #[] 9)).cell? ((⟨q,0,none⟩:Addr).add j)=some u):=fun j u hu=>by have hj:j<nw*1:=(by rw[<- HLEN.out];exact(List.getElem?_eq_some_iff.1 hu).1);have hadd:(⟨q,0,none⟩:Addr).add j=⟨q,j,none⟩:=(by unfold Addr.add;split<;>simp_all);rw[hadd];rw[((Below.refl w1.heap.size w1).alloc (Qa _) (.cells #[] 9)).cell (p:=⟨q,j,none⟩) hql];rw[World.ownsRow.cellAt HROW.out j hj];exact hu
 have H1C:Hid (∀u∈es.ww.map Value.string,u.oneCell'=true):=fun u hu=>by obtain⟨y,_,rfl⟩:=List.mem_map.1 hu;rfl
 go_wp2_with (at_builtin;refine Zd rfl (.tmp 17) (.tmp 20) 47 rfl w.heap.size 9 i0 (.string ⟨#[]⟩) 1 16 Tryz.underlying47 hinf hz0 hz1 hz2 rfl (by decide) _ 0 [] rfl HNEW.out ⟨q,0,none⟩ nw cw (es.ww.map Value.string) rfl HLEN.out HCEL.out H1C.out (by omega) (by unfold maxLen;omega) (by omega) (by simp;omega) ?_)
 intro v4 w4 H4;obtain⟨r4,g4,d4,_,q4,p4,hv4⟩:=H4.out;have HFIN:Hid (w4.ownsRow w.heap.size 9 1 v4 nw (es.ww.map Value.string)/\Below w.heap.size w w4):=(by refine⟨r4,?_⟩;exact(HB1.out.alloc (by omega) _).grown g4 (by simp;omega) (by intro b hb;simp[Value.ownBlock] at hb;omega));subst hv4;clear H4 r4 g4 d4 HROW HNEW HCEL;go_wp2;go_ret2
 have hr:=HFIN.out.1;refine⟨_,_,rfl,?_,?_,HFIN.out.2⟩;rw[HB.out.1];exact World.ownsRow_nil _ _ 3 1;rw[HB.out.2];unfold ZS;rw[HN.out.2];exact(by simpa using hr)
def ZnZ(w:World)(e:ES)(x:Ending)(w':World):Prop:=∃vb vw,x=.returned (.tuple #[vb,vw,.int .i64 0])/\Zn0 w w' vb vw e
theorem ZhV(gb db f:Nat)(D:QX)(w:World)(h:YU w gb db D)(hk:D.ks.length<=1000)(hf:f<D.ks.length)(hb1:(D.ks.getD f ZN).e.bs.length<=1000)(hw1:(D.ks.getD f ZN).e.ww.length<=1000):Calls Tryz.prog 27 #[.pointer (some ⟨gb,0,none⟩),.int .i64 (f:Nat)] w fun e w'=>ZnZ w (D.ks.getD f ZN).e e w':=by
 have g0:w.cell? ⟨gb,0,none⟩=some (.pointer (some ⟨db,0,none⟩)):=cell_of_row _ _ 0 _ 110 (0,0) h.gp;have HHF:Calls Tryz.prog 52 #[.pointer (some ⟨gb,0,none⟩),.int .i64 (f:Nat)] w fun e w'=>e=.returned (.bool true)/\w'=w:=(by have h1:=ZbQ gb db D (f:Int) w h hk;have h2:decide (0<=(f:Int)/\(f:Int)<=(D.ks.length:Int)-1)=true:=(by simp;omega);rw[h2] at h1;exact h1);obtain⟨vK,vB,vX,kvs,bvs,X,hX⟩:=h.md;have HB:=ZgV db f vK vB vX kvs bvs X D w hX hf hb1 hw1;clear h hX hk hf hb1 hw1;generalize (D.ks.getD f ZN).e=es at *;go_enter Tryz.func27,Tryz.ntmps27;go_wp2_with fail
 refine HHF.mono ?_;rintro e w3 ⟨rfl,hw3⟩;obtain rfl:=hw3.symm;go_wp2_with fail
 refine HB.mono ?_;rintro e w4 ⟨vb,vw,rfl,h4⟩;have H4:Hid (Zn0 w w4 vb vw es):=h4;clear h4;go_wp2;go_ret3
 exact⟨_,_,rfl,H4.out⟩
theorem Zog:ZlY lwF:=by
 intro va wa n vcap wcap k1 k2 ct bins L ws w hv hw hL hn hz hwd c1 c2 l1 l2 hb1 hb2;have HC:Hid (∀W:World,Below w.heap.size w W->Calls Tryz.prog 211 #[.slice va n vcap,.slice wa n wcap,.int .i64 ct,.int .i64 bins] W fun e w'=>∃v,e=.returned v/\Zcg w' W.heap.size v (lwF L ws ct bins)/\Below W.heap.size W w'):=fun W hW=>Zfc va wa n vcap wcap ct bins L ws W ((Za.of_below (S:=fun _=>False) hW).row hv (fun _ _=>id)) (hw.below hW) hL hn hz hwd hb1 hb2;have e1:(w.alloc (.cells #[.bool false,.slice none 0 0,.slice none 0 0] 170)).cell? ⟨k1,0,none⟩=some (.int .i64 ct):=(((Below.refl _ _).alloc (Qa _) _).cell (p:=⟨k1,0,none⟩) l1).trans c1
 have e2:(w.alloc (.cells #[.bool false,.slice none 0 0,.slice none 0 0] 170)).cell? ⟨k2,0,none⟩=some (.int .i64 bins):=(((Below.refl _ _).alloc (Qa _) _).cell (p:=⟨k2,0,none⟩) l2).trans c2;have HWD:Hid ((lwF L ws ct bins).wd=true/\(lwF L ws ct bins).bs=[]):=⟨rfl,rfl⟩;clear hv hw hL hn hz hwd hb1 hb2;go_enter Tryz.func210,Tryz.ntmps210;go_wp2_with fail
 refine(HC.out _ ((Below.refl _ _).alloc (Qa _) _)).mono ?_;rintro e w2 ⟨v,rfl,⟨vb,vw,hv,hEb,hE⟩,hb⟩;rw[HWD.out.1] at hv;rw[HWD.out.2] at hEb;obtain⟨ab,cb,rfl⟩:=hEb.shape;obtain⟨av,cv,hav⟩:=hE.shapeW;subst hav;subst hv;have hblk:w2.heap[w.heap.size]? =some (.cells #[.bool false,.slice none 0 0,.slice none 0 0] 170 (0,0)):=(hb.block _ (by simp)).trans (heap_alloc_new _ _);have d0:w2.cell? ⟨w.heap.size,0,none⟩=some (.bool false):=cell_of_row _ _ 0 _ 170 (0,0) hblk;have d1:w2.cell? ⟨w.heap.size,1,none⟩=some (.slice none 0 0):=cell_of_row _ _ 1 _ 170 (0,0) hblk;have d2:w2.cell? ⟨w.heap.size,2,none⟩=some (.slice none 0 0):=cell_of_row _ _ 2 _ 170 (0,0) hblk;have f0:w2.frozen? ⟨w.heap.size,0,none⟩=false:=frozen_of_row _ _ 0 _ 170 hblk;have f1:w2.frozen? ⟨w.heap.size,1,none⟩=false:=frozen_of_row _ _ 1 _ 170 hblk
 have f2:w2.frozen? ⟨w.heap.size,2,none⟩=false:=frozen_of_row _ _ 2 _ 170 hblk;have HB:Hid (Below w.heap.size w w2):=((Below.refl _ _).alloc (Qa _) _).trans (hb.mono (by simp));have HE:Hid (ZS w2 w.heap.size (.slice av (lwF L ws ct bins).ww.length cv) (lwF L ws ct bins).ww/\Ze w2 w.heap.size (.slice ab ([]:List Int).length cb) []):=⟨hE.monoW (by simp),hEb.mono (by simp)⟩;have HK:Hid (w2.heap[w.heap.size]? =some (.cells #[.bool false,.slice none 0 0,.slice none 0 0] 170 (0,0))):=hblk;clear hb hE hEb hblk HC c1 c2 l1 l2 e1 e2;generalize hnw:(lwF L ws ct bins).ww.length=nw at *;have HNW:Hid ((lwF L ws ct bins).ww.length=nw):=hnw;clear hnw;go_wp2;refine bodyPost_ret (v:=.agg #[.bool true,.slice ab 0 cb,.slice av nw cv]) (by simp[results,Tryz.results210,go_sem, *]) rfl ?_
 refine⟨_,rfl,⟨.slice ab 0 cb,.slice av nw cv,rfl,?_,?_⟩,((HB.out.setCell (Qa _) _).setCell (Qa _) _).setCell (Qa _) _⟩;exact Zl (Zl (Zl HE.out.2 HK.out (by decide)) (by exact heap_setCell_same _ _ _ _ _ _ HK.out) (by decide)) (by exact heap_setCell_same _ _ _ _ _ _ (heap_setCell_same _ _ _ _ _ _ HK.out)) (by decide);exact Zl (Zl (Zl HE.out.1 HK.out (by decide)) (by exact heap_setCell_same _ _ _ _ _ _ HK.out) (by decide)) (by exact heap_setCell_same _ _ _ _ _ _ (heap_setCell_same _ _ _ _ _ _ HK.out)) (by decide)
theorem Zmy:ZlX lwF:=by refine⟨Zog,fun L ws ct bins hL hb1 hb2=>?_⟩;have hl:(lwF L ws ct bins).ww.length<=16:=(by show((((ZaF (L.zip ws) ct).mergeSort fun x y=>decide (leW x y)).take bins.toNat).map WS.wd).length<=16;rw[List.length_map,List.length_take];omega);refine⟨⟨List.Pairwise.nil,by simp[lwF],by omega⟩,rfl,?_⟩;show ZaK true 0 (lwF L ws ct bins).ww.length<=16;simp only[ZaK,if_true];exact hl
theorem ZdP{m:Nat}{wd:Nat->Bool}{sc ct:Nat->Int}{bins:Int}{size:Nat}{l:List Int}{s:RS}(hsc:∀i,i<m+1->wd i=false->0<=sc i/\sc i<=3)(hb:2<=bins)(hb2:bins<=16)(hs:2<=size)(hs2:size<=32)(h:Zf (m+1) wd sc RS.start l 0=.ok s):ZaM lwF m wd ct bins size s:=ZhL (fun _=>Zmy) hsc hb hb2 hs hs2 h
structure ZiS where
 wt:Int
 ms:List Bool
 ns:List Int
 ss:List ByteArray
def Zah(x:Int):Bool:=decide (Zq x 3=0/\Zq (x.tdiv 3) 4=0)
def xR(l:List Int)(at_ i:Nat):Int:=l.getD (at_+1+i) 0
def txR(cs l:List Int)(at_ i:Nat):ByteArray:=if Zah (xR l at_ i)=true then⟨#[]⟩ else fdT (QK cs i) (Q5 cs i) ((xR l at_ i).tdiv 3)
def wtR(l:List Int)(at_:Nat):Int:=1+((Zq (l.getD at_ 0) 9:Nat):Int)
def YF(cs l:List Int)(at_:Nat)(s:ByteArray):Nat->ByteArray
 |0=>s
 |i+1=>(YF cs l at_ s i++⟨#[44]⟩)++txR cs l at_ i
def Za7(cs l:List Int)(at_ k:Nat):ZiS:=⟨wtR l at_,(List.range k).map fun i=>Zah (xR l at_ i),(List.range k).map fun i=>fdV (QK cs i) (Q5 cs i) ((xR l at_ i).tdiv 3),(List.range k).map fun i=>fdS (QK cs i) ((xR l at_ i).tdiv 3)⟩
def Qm(cs l:List Int):Nat->ByteArray
 |0=>⟨#[]⟩
 |r+1=>YF cs l (r*(Yr cs+2)) (Qm cs l r++Y8 (wtR l (r*(Yr cs+2)))) (Yr cs+1)++⟨#[10]⟩
def Zcx(cs l:List Int)(r:Nat):List ZiS:=(List.range r).map fun j=>Za7 cs l (j*(Yr cs+2)) (Yr cs+1)
theorem ZjG(cs l:List Int)(r:Nat):Zcx cs l (r+1)=Zcx cs l r++[Za7 cs l (r*(Yr cs+2)) (Yr cs+1)]:=by simp[Zcx,List.range_succ]
theorem Zlw(cs l:List Int)(at_ k:Nat):Za7 cs l at_ (k+1)=⟨wtR l at_,(Za7 cs l at_ k).ms++[Zah (xR l at_ k)],(Za7 cs l at_ k).ns++[fdV (QK cs k) (Q5 cs k) ((xR l at_ k).tdiv 3)],(Za7 cs l at_ k).ss++[fdS (QK cs k) ((xR l at_ k).tdiv 3)]⟩:=by simp[Za7,List.range_succ]
def QN(cs l:List Int):Nat:=min 150 (l.length/(Yr cs+2))
theorem ZjZ(p:Nat):(ZiI p).size<=6:=by
 unfold ZiI
 by_cases h:p<6
 ·rcases(show p=0∨p=1∨p=2∨p=3∨p=4∨p=5 by omega) with rfl|rfl|rfl|rfl|rfl|rfl<;>decide
 rw[Qc,List.getElem?_eq_none (by simp;omega)];decide
theorem ZnU(n:Int): -30<=kN n/\kN n<=30:=by have:=Yf n (show 0<61 by omega);unfold kN;omega
theorem Zmi(wd:Bool)(sc n:Int):(fdT wd sc n).size<=6:=by have hk:=ZnU n;have hd:=Zb3 (z:=kN n) (by omega) (by omega);unfold fdT;split;exact ZjZ _;split;rw[ByteArray.size_append];have e:(⟨#[46,53]⟩:ByteArray).size=2:=rfl;omega;omega
theorem ZiF(cs l:List Int)(at_ i:Nat):(txR cs l at_ i).size<=6:=by unfold txR;split;decide;exact Zmi _ _ _
theorem Zbl(cs l:List Int)(at_:Nat)(s:ByteArray):∀k,(YF cs l at_ s k).size<=s.size+7*k
 |0=>by simp[YF]
 |k+1=>by have h1:=Zbl cs l at_ s k;have h2:=ZiF cs l at_ k;have e:(⟨#[44]⟩:ByteArray).size=1:=rfl;simp only[YF,ByteArray.size_append];omega
theorem Zj1(l:List Int)(at_:Nat):1<=wtR l at_/\wtR l at_<=9:=by have:=Yf (l.getD at_ 0) (show 0<9 by omega);unfold wtR;omega
theorem ZcL(cs l:List Int):∀r,(Qm cs l r).size<=40*r
 |0=>by simp[Qm];decide
 |r+1=>by have h1:=ZcL cs l r;have hm:=(ZhK cs).2.2.2.2.2;have hw:=Zj1 l (r*(Yr cs+2));have h2:=Zb3 (z:=wtR l (r*(Yr cs+2))) (by omega) (by omega);have h3:=Zbl cs l (r*(Yr cs+2)) (Qm cs l r++Y8 (wtR l (r*(Yr cs+2)))) (Yr cs+1);have e:(⟨#[10]⟩:ByteArray).size=1:=rfl;simp only[Qm,ByteArray.size_append] at *;omega
structure ZeD where
 r:ZiS
 vm:Value
 vn:Value
 vs:Value
def Zl7(p:ZeD):List Value:=[.int .i64 p.r.wt,p.vm,p.vn,p.vs]
def Za5:List ZeD->List Value
 |[]=>[]
 |p::L=>Zl7 p++Za5 L
theorem ZfU(A B:List ZeD):Za5 (A++B)=Za5 A++Za5 B:=by
 induction A with
 |nil=>rfl
 |cons x A ih=>simp[Za5,ih]
structure Zav(w:World)(base:Nat)(v:Value)(L:List ZeD):Prop where
 row:w.ownsRow base 103 4 v L.length (Za5 L)
 each:∀p∈L,Z3 w base p.vm p.r.ms/\Ze w base p.vn p.r.ns/\ZS w base p.vs p.r.ss
theorem Zav.nil(w:World)(base:Nat):Zav w base (.slice none 0 0) []:=⟨World.ownsRow_nil _ _ _ _,by simp⟩
theorem Zav.below{w w':World}{base:Nat}{v:Value}{L:List ZeD}(h:Zav w base v L)(hb:Below w.heap.size w w'):Zav w' base v L:=by have t:=Za.of_below (S:=fun _=>False) hb;exact⟨t.row h.row (fun _ _=>id),fun p hp=>⟨t.row (h.each p hp).1 (fun _ _=>id),t.row (h.each p hp).2.1 (fun _ _=>id),t.row (h.each p hp).2.2 (fun _ _=>id)⟩⟩
theorem Zav.shape{w:World}{base:Nat}{v:Value}{L:List ZeD}(h:Zav w base v L):∃a c,v=.slice a L.length c:=by
 rcases h.row.2 with⟨rfl,h0⟩|⟨g,cap,cur,rfl,_⟩
 exact⟨none,0,by rw[h0]⟩;exact⟨_,cap,rfl⟩
theorem Zav.more{w w':World}{base:Nat}{v v':Value}{L:List ZeD}{p:ZeD}(h:Zav w base v L)(hp:Z3 w base p.vm p.r.ms/\Ze w base p.vn p.r.ns/\ZS w base p.vs p.r.ss)(g:w.grownBy w' v.ownBlock)(r:w'.ownsRow base 103 4 v' (L.length+1) (Za5 L++Zl7 p)):Zav w' base v' (L++[p]):=by
 have t:Za (fun q=>v.ownBlock=some q) w w':=(Za.refl _ w).grown g (fun k hk _=>hk)
 have nt:∀{b2 e size m:Nat} {u:Value} {xs:List Value},w.ownsRow b2 e size u m xs->e≠103->∀q,u.ownBlock=some q->¬v.ownBlock=some q:=fun hr hne q hq e=>by obtain⟨cur,hc⟩:=Zg hr hq;exact Zs h.row e hc (Ne.symm hne) rfl
 refine⟨?_,fun q hq=>?_⟩
 ·rw[ZfU,Qe]
  simpa [Za5] using r
 have hq2:Z3 w base q.vm q.r.ms/\Ze w base q.vn q.r.ns/\ZS w base q.vs q.r.ss:=by
  rcases List.mem_append.1 hq with e|e
  exact h.each q e;simp only[List.mem_singleton] at e;rw[e];exact hp
 exact⟨t.row hq2.1 (nt hq2.1 (by decide)),t.row hq2.2.1 (nt hq2.2.1 (by decide)),t.row hq2.2.2 (nt hq2.2.2 (by decide))⟩
def ZlZ(w:World)(base:Nat)(v:Value)(Rs:List ZiS):Prop:=∃L,L.map ZeD.r=Rs/\Zav w base v L
structure ZaZ(w:World)(b:Nat)(vm vn vs:Value)(R:ZiS):Prop where
 blk:w.heap[b]? =some (.cells #[.int .i64 R.wt,vm,vn,vs] 103 (0,0))
 om:Z3 w b vm R.ms
 on:Ze w b vn R.ns
 os:ZS w b vs R.ss
theorem Znl:(Tryz.prog.info? 103).map (fun i=>(i.zero,i.size,i.bytes))=some (some (.agg #[.int .i64 0,.slice none 0 0,.slice none 0 0,.slice none 0 0]),4,80):=by kernel_rfl
section
variable {w w4:World} {b:Nat} {vm vn vs v4:Value} {R:ZiS}
theorem ZaZ.putM{x:Bool}(h:ZaZ w b vm vn vs R)(g:w.grownBy w4 vm.ownBlock)(r:Z3 w4 b v4 (R.ms++[x])):ZaZ (w4.setCell ⟨b,1,none⟩ v4) b v4 vn vs ⟨R.wt,R.ms++[x],R.ns,R.ss⟩/\w4.heap[b]? =some (.cells #[.int .i64 R.wt,vm,vn,vs] 103 (0,0)):=by
 have t:Za (fun q=>vm.ownBlock=some q) w w4:=(Za.refl _ w).grown g (fun k hk _=>hk)
 have nt:∀{b2 e size m:Nat} {u:Value} {xs:List Value},w.ownsRow b2 e size u m xs->e≠4->∀q,u.ownBlock=some q->¬vm.ownBlock=some q:=fun hr hne q hq e=>by obtain⟨cur,hc⟩:=Zg hr hq;exact Zs h.om e hc (Ne.symm hne) rfl
 have hb4:=t.at_ h.blk (fun e=>Zs h.om e h.blk (by decide) rfl);exact⟨⟨heap_setCell_same _ b 1 _ 103 _ hb4,Zl r hb4 (by decide),Zl (t.row h.on (nt h.on (by decide))) hb4 (by decide),Zl (t.row h.os (nt h.os (by decide))) hb4 (by decide)⟩,hb4⟩
theorem ZaZ.putN{x:Int}(h:ZaZ w b vm vn vs R)(g:w.grownBy w4 vn.ownBlock)(r:Ze w4 b v4 (R.ns++[x])):ZaZ (w4.setCell ⟨b,2,none⟩ v4) b vm v4 vs ⟨R.wt,R.ms,R.ns++[x],R.ss⟩/\w4.heap[b]? =some (.cells #[.int .i64 R.wt,vm,vn,vs] 103 (0,0)):=by
 have t:Za (fun q=>vn.ownBlock=some q) w w4:=(Za.refl _ w).grown g (fun k hk _=>hk)
 have nt:∀{b2 e size m:Nat} {u:Value} {xs:List Value},w.ownsRow b2 e size u m xs->e≠3->∀q,u.ownBlock=some q->¬vn.ownBlock=some q:=fun hr hne q hq e=>by obtain⟨cur,hc⟩:=Zg hr hq;exact Zs h.on e hc (Ne.symm hne) rfl
 have hb4:=t.at_ h.blk (fun e=>Zs h.on e h.blk (by decide) rfl);exact⟨⟨heap_setCell_same _ b 2 _ 103 _ hb4,Zl (t.row h.om (nt h.om (by decide))) hb4 (by decide),Zl r hb4 (by decide),Zl (t.row h.os (nt h.os (by decide))) hb4 (by decide)⟩,hb4⟩
theorem ZaZ.putS{x:ByteArray}(h:ZaZ w b vm vn vs R)(g:w.grownBy w4 vs.ownBlock)(r:ZS w4 b v4 (R.ss++[x])):ZaZ (w4.setCell ⟨b,3,none⟩ v4) b vm vn v4 ⟨R.wt,R.ms,R.ns,R.ss++[x]⟩/\w4.heap[b]? =some (.cells #[.int .i64 R.wt,vm,vn,vs] 103 (0,0)):=by
 have t:Za (fun q=>vs.ownBlock=some q) w w4:=(Za.refl _ w).grown g (fun k hk _=>hk)
 have nt:∀{b2 e size m:Nat} {u:Value} {xs:List Value},w.ownsRow b2 e size u m xs->e≠9->∀q,u.ownBlock=some q->¬vs.ownBlock=some q:=fun hr hne q hq e=>by obtain⟨cur,hc⟩:=Zg hr hq;exact Zs h.os e hc (Ne.symm hne) rfl
 have hb4:=t.at_ h.blk (fun e=>Zs h.os e h.blk (by decide) rfl);exact⟨⟨heap_setCell_same _ b 3 _ 103 _ hb4,Zl (t.row h.om (nt h.om (by decide))) hb4 (by decide),Zl (t.row h.on (nt h.on (by decide))) hb4 (by decide),Zl r hb4 (by decide)⟩,hb4⟩
theorem ZaZ.below{w':World}(h:ZaZ w b vm vn vs R)(hb:Below w.heap.size w w'):ZaZ w' b vm vn vs R:=by have t:=Za.of_below (S:=fun _=>False) hb;exact⟨t.at_ h.blk id,t.row h.om (fun _ _=>id),t.row h.on (fun _ _=>id),t.row h.os (fun _ _=>id)⟩
end
theorem Za4(a b:ByteArray):Zb (a++b)=Zb a++Zb b:=by unfold Zb;rw[ByteArray.data_append,Array.toList_append,List.map_append]
def ZlA(wd:Bool)(u:Int):List Int->Zw->List Int->Option (Zw×List Int)
 |[],p,bs=>some (p,bs)
 | c::r,p,bs=>match Z2 wd u p bs c with
  |some (p',bs')=>ZlA wd u r p' bs'
  |none=>none
def okF(wd:Bool)(u:Int)(bytes:List Int)(miss:Bool)(num:Int)(word:List Int):Bool:=
 match ZlA wd u bytes part0 [] with
 |none=>false
 |some (p,bs)=>YV p.st&&(Z2 wd u p bs 44).isNone&&(Z2 wd u p bs 10).isNone&&decide (ZbV p=num)&&(decide (p.st=0)==miss)&&decide (bs=word)
theorem ZnH(wd:Bool){sc:Nat}(h:sc<=3):okF wd (ZA sc) [] true 0 []=true:=by rcases(show sc=0∨sc=1∨sc=2∨sc=3 by omega) with rfl|rfl|rfl|rfl<;>cases wd<;>decide
theorem ZnJ{p:Nat}(h:p<6):okF true (ZA 0) (Zb (ZiI p)) false 0 (Zb (Zm1 p))=true:=by rcases(show p=0∨p=1∨p=2∨p=3∨p=4∨p=5 by omega) with rfl|rfl|rfl|rfl|rfl|rfl<;>kernel_rfl
theorem ZnI:((List.range 4).all fun sc=>(List.range 61).all fun j=>okF false (ZA sc) (Zb (Y8 ((j:Int)-30))) false (((j:Int)-30)*ZA sc) [])=true:=by kernel_rfl
theorem Zll:((List.range 3).all fun sc=>(List.range 31).all fun j=>okF false (ZA (sc+1)) (Zb (Y8 (j:Int)++⟨#[46,53]⟩)) false ((j:Int)*ZA (sc+1)+ZA (sc+1)/2) [])=true:=by kernel_rfl
theorem Zoj{sc:Nat}{k:Int}(hs:sc<=3)(h1: -30<=k)(h2:k<=30):okF false (ZA sc) (Zb (Y8 k)) false (k*ZA sc) []=true:=by
 have h:=ZnI;rw[List.all_eq_true] at h;have h3:=h sc (by simp;omega);rw[List.all_eq_true] at h3;have h4:=h3 (k+30).toNat (by simp;omega)
 rwa [show(((k+30).toNat:Nat):Int)-30=k by omega] at h4
theorem ZnG{sc:Nat}{k:Int}(hs0:0<sc)(hs:sc<=3)(h1:0<=k)(h2:k<=30):okF false (ZA sc) (Zb (Y8 k++⟨#[46,53]⟩)) false (k*ZA sc+ZA sc/2) []=true:=by
 have h:=Zll;rw[List.all_eq_true] at h;have h3:=h (sc-1) (by simp;omega);rw[List.all_eq_true,show sc-1+1=sc by omega] at h3;have h4:=h3 k.toNat (by simp;omega)
 rwa [show((k.toNat:Nat):Int)=k by omega] at h4
def Zjw(cs l:List Int)(at_ i:Nat):Int:=if Zah (xR l at_ i)=true then 0 else fdV (QK cs i) (Q5 cs i) ((xR l at_ i).tdiv 3)
def Zj0(cs l:List Int)(at_ i:Nat):ByteArray:=if Zah (xR l at_ i)=true then⟨#[]⟩ else fdS (QK cs i) ((xR l at_ i).tdiv 3)
theorem ZiA(b:ByteArray):strOfNums (Zb b)=b:=by
 cases b with
 | mk d=>
  unfold strOfNums Zb;congr 1;apply Array.ext';simp[List.map_map,Function.comp_def]
theorem Zik(cs l:List Int)(at_ i:Nat):okF (QK cs i) (ZA (Q5 cs i).toNat) (Zb (txR cs l at_ i)) (Zah (xR l at_ i)) (Zjw cs l at_ i) (Zb (Zj0 cs l at_ i))=true:=by
 have hp4:=Yf (Z7 cs (4+i)) (show 0<4 by omega);have hC:0<=Q5 cs i/\Q5 cs i<=3:=(by unfold Q5;split<;>omega);unfold txR Zjw Zj0
 cases hg:Zah (xR l at_ i) with
 | true=>
  simp only[if_true];exact ZnH (QK cs i) (sc:=(Q5 cs i).toNat) (by omega)
 | false=>
  simp only[Bool.false_eq_true,if_false];generalize (xR l at_ i).tdiv 3=x
  cases hw:QK cs i with
  | true=>
   have hc0:Q5 cs i=0:=(by unfold Q5;rw[hw];rfl);rw[hc0];unfold fdT fdV fdS;simp only[if_true];exact ZnJ (Yf x (by omega))
  | false=>
   have hk:=ZnU x;unfold fdT fdV fdS;simp only[Bool.false_eq_true,if_false]
   cases hh:ZdU (Q5 cs i) x with
   | true=>
    unfold ZdU at hh;rw[decide_eq_true_eq] at hh;simp only[if_true];have:=ZnG (sc:=(Q5 cs i).toNat) (k:=kN x) (by omega) (by omega) hh.2.2 (by omega);exact this
   | false=>
    simp only[Bool.false_eq_true,if_false];exact Zoj (sc:=(Q5 cs i).toNat) (by omega) hk.1 hk.2
section
variable {n:Nat} {wd:Nat->Bool} {sc:Nat->Int}
theorem Zfq(s:RS)(hfl:s.fl=true)(hws:s.ws.length≠200):∀(l:List Int) (p:Zw) (bs:List Int) (k:Nat) {p':Zw} {bs':List Int},ZlA (wd s.row.length) (ZA (sc s.row.length).toNat) l p bs=some (p',bs')->Zf n wd sc {s with p:=p,bs:=bs} l k=.ok {s with p:=p',bs:=bs'}
 |[],p,bs,k,p',bs',h=>by unfold ZlA at h;injection h with h;injection h with h1 h2;subst h1 h2;rfl
 | c ::r,p,bs,k,p',bs',h=>by
  unfold ZlA at h
  cases hs:Z2 (wd s.row.length) (ZA (sc s.row.length).toNat) p bs c with
  |none=>rw[hs] at h;cases h
  | some q=>
   obtain⟨p1,bs1⟩:=q;rw[hs] at h;have e:Yp n wd sc {s with p:=p,bs:=bs} c=.ok {s with p:=p1,bs:=bs1}:=(by unfold Yp;rw[if_neg hws,if_neg (by simp[hfl])];simp only[hs]);unfold Zf;rw[e];exact Zfq s hfl hws r p1 bs1 (k+1) h
theorem Zdj{s:RS}(hfl:s.fl=true)(hws:s.ws.length≠200)(hp:s.p=part0)(hbs:s.bs=[]){bytes:List Int}{miss:Bool}{num:Int}{word:ByteArray}(hok:okF (wd s.row.length) (ZA (sc s.row.length).toNat) bytes miss num (Zb word)=true)(k:Nat):Zf n wd sc s (bytes++[QP s.row.length n]) k=.ok (Y6 n s (s.row++[⟨miss,num,word⟩])):=by
 unfold okF at hok
 cases hr:ZlA (wd s.row.length) (ZA (sc s.row.length).toNat) bytes part0 [] with
 |none=>rw[hr] at hok;cases hok
 | some q=>
  obtain⟨p,bs⟩:=q;rw[hr] at hok;simp only[Bool.and_eq_true,decide_eq_true_eq,beq_iff_eq,Option.isNone_iff_eq_none] at hok;obtain⟨⟨⟨⟨⟨h1,h2⟩,h3⟩,h4⟩,h5⟩,h6⟩:=hok;have h0:=Zfq (n:=n) (wd:=wd) (sc:=sc) s hfl hws bytes part0 [] k hr;rw[show({s with p:=part0,bs:=[]}:RS)=s by rw[<- hp,<- hbs]] at h0;rw[ZZ,h0];simp only[Zf];have hn:Z2 (wd s.row.length) (ZA (sc s.row.length).toNat) p bs (QP s.row.length n)=none:=by unfold QP;split;exact h3;exact h2
  have e:Yp n wd sc {s with p:=p,bs:=bs} (QP s.row.length n)=.ok (Y6 n s (s.row++[⟨miss,num,word⟩])):=(by unfold Yp;rw[if_neg hws,if_neg (by simp[hfl])];simp only[hn];rw[if_pos (by first|exact⟨rfl,h1⟩|exact⟨trivial,h1⟩)];have ev:Y0 p bs=⟨miss,num,word⟩:=(by unfold Y0;rw[h4,h5,h6,ZiA]);rw[ev];rfl);rw[e]
end
def Zcm(cs l:List Int)(at_ i:Nat):VS:=⟨Zah (xR l at_ i),Zjw cs l at_ i,Zj0 cs l at_ i⟩
def hB(cs l:List Int)(at_:Nat):Nat->List Int
 |0=>[]
 |k+1=>hB cs l at_ k++(Zb (txR cs l at_ k)++[44])
theorem Zcs(cs l:List Int)(at_:Nat)(s:ByteArray):∀k,Zb (YF cs l at_ s k)++[44]=Zb s++(44::hB cs l at_ k)
 |0=>by simp[YF,hB]
 |k+1=>by have ih:=Zcs cs l at_ s k;have e:Zb (⟨#[44]⟩:ByteArray)=[44]:=rfl;simp only[YF,Za4,e];rw[List.append_assoc,List.append_assoc,<- List.append_assoc (Zb (YF cs l at_ s k)),ih];simp[hB]
theorem Ziy(cs l:List Int)(at_:Nat)(S:RS)(hfl:S.fl=true)(hws:S.ws.length≠200)(hrow:S.row=[])(hp:S.p=part0)(hbs:S.bs=[])(q:Nat):∀k,k<=Yr cs->Zf (Yr cs+1) (QK cs) (Q5 cs) S (hB cs l at_ k) q=.ok {S with row:=(List.range k).map (Zcm cs l at_)}
 |0,_=>by simp only[hB,Zf,List.range_zero,List.map_nil];rw[<- hrow]
 | k+1,hk=>by
  have ih:=Ziy cs l at_ S hfl hws hrow hp hbs q k (by omega);simp only[hB];rw[ZZ,ih];simp only;have hl:((List.range k).map (Zcm cs l at_)).length=k:=(by simp);have hs:QP k (Yr cs+1)=44:=(by unfold QP;rw[if_neg (by omega)]);have h:=Zdj (n:=Yr cs+1) (wd:=QK cs) (sc:=Q5 cs) (s:={S with row:=(List.range k).map (Zcm cs l at_)}) hfl hws hp hbs (bytes:=Zb (txR cs l at_ k)) (miss:=Zah (xR l at_ k)) (num:=Zjw cs l at_ k) (word:=Zj0 cs l at_ k) (by rw[show({S with row:=(List.range k).map (Zcm cs l at_)}:RS).row.length=k from hl];exact Zik cs l at_ k) (q+(hB cs l at_ k).length);rw[show({S with row:=(List.range k).map (Zcm cs l at_)}:RS).row.length=k from hl,hs] at h;rw[h];unfold Y6;rw[if_neg (by simp;omega)]
  have er:(List.range k).map (Zcm cs l at_)++[⟨Zah (xR l at_ k),Zjw cs l at_ k,Zj0 cs l at_ k⟩]=(List.range (k+1)).map (Zcm cs l at_):=(by rw[List.range_succ,List.map_append];rfl);rw[er,hp,hbs]
def stR(cs l:List Int):Nat->RS
 |0=>RS.start
 |r+1=>Y6 (Yr cs+1) {stR cs l r with wt:=wtR l (r*(Yr cs+2)),fl:=true} ((List.range (Yr cs+1)).map (Zcm cs l (r*(Yr cs+2))))
structure ZoX(cs l:List Int)(r:Nat)(s:RS):Prop where
 ws:s.ws=(List.range r).map fun j=>wtR l (j*(Yr cs+2))
 col:∀i,i<Yr cs+1->s.cols i=(List.range r).map fun j=>Zcm cs l (j*(Yr cs+2)) i
 wt:s.wt=0
 fl:s.fl=false
 row:s.row=[]
 p:s.p=part0
 bs:s.bs=[]
theorem ZjN(cs l:List Int):∀r,ZoX cs l r (stR cs l r)
 |0=>⟨rfl,fun _ _=>rfl,rfl,rfl,rfl,rfl,rfl⟩
 |r+1=>by have ih:=ZjN cs l r;unfold stR Y6;rw[if_pos (by simp)];refine⟨?_,fun i hi=>?_,rfl,rfl,rfl,rfl,rfl⟩;show(stR cs l r).ws++_=_;rw[ih.ws,List.range_succ,List.map_append];rfl;show(if i<Yr cs+1 then(stR cs l r).cols i++_ else(stR cs l r).cols i)=_;rw[if_pos hi,ih.col i hi,show List.range (r+1)=List.range r++[r] from List.range_succ,List.map_append];congr 1;simp[List.getD,hi]
theorem Zf6{n:Nat}{wd:Nat->Bool}{sc:Nat->Int}{s:RS}{z:Int}(h1:1<=z)(h2:z<=9)(hfl:s.fl=false)(hws:s.ws.length≠200)(hwt:s.wt=0)(k:Nat):Zf n wd sc s (Zb (Y8 z)++[44]) k=.ok {s with wt:=z,fl:=true}:=by
 have eb:Zb (Y8 z)=[48+z]:=by rcases(show z=1∨z=2∨z=3∨z=4∨z=5∨z=6∨z=7∨z=8∨z=9 by omega) with rfl|rfl|rfl|rfl|rfl|rfl|rfl|rfl|rfl<;>kernel_rfl
 have e1:Yp n wd sc s (48+z)=.ok {s with wt:=z}:=(by unfold Yp;rw[if_neg hws,if_pos hfl];have:Zn s.wt (48+z)=some (some z):=(by unfold Zn;rw[hwt,if_neg (by omega),if_pos (by omega)];congr 2;omega);rw[this]);have e2:Yp n wd sc {s with wt:=z} 44=.ok {s with wt:=z,fl:=true}:=(by unfold Yp;rw[if_neg hws,if_pos hfl];have:Zn z 44=some none:=(by unfold Zn;rw[if_pos ⟨rfl,by omega⟩]);rw[this]);rw[eb];simp only[List.singleton_append,Zf,e1,e2]
theorem ZkC(cs l:List Int):∀r,r<=150->Zf (Yr cs+1) (QK cs) (Q5 cs) RS.start (Zb (Qm cs l r)) 0=.ok (stR cs l r)
 |0,_=>rfl
 | r+1,hr=>by
  have ih:=ZkC cs l r (by omega);have hS:=ZjN cs l r;obtain⟨at_,hat⟩:∃at_,at_=r*(Yr cs+2):=⟨_,rfl⟩;have hw:=Zj1 l at_;have hwl:(stR cs l r).ws.length≠200:=by rw[hS.ws];simp;omega
  have eb:Zb (Qm cs l (r+1))=Zb (Qm cs l r)++((Zb (Y8 (wtR l at_))++[44])++(hB cs l at_ (Yr cs)++(Zb (txR cs l at_ (Yr cs))++[10]))):=by have e10:Zb (⟨#[10]⟩:ByteArray)=[10]:=rfl;have e44:Zb (⟨#[44]⟩:ByteArray)=[44]:=rfl;have hf:=Zcs cs l at_ (Qm cs l r++Y8 (wtR l at_)) (Yr cs);simp only[Qm,<- hat,YF,Za4,e10,e44];rw[hf,Za4];simp
  rw[eb,ZZ,ih];simp only;rw[ZZ,Zf6 hw.1 hw.2 hS.fl hwl hS.wt];simp only;rw[ZZ,Ziy cs l at_ {stR cs l r with wt:=wtR l at_,fl:=true} rfl hwl hS.row hS.p hS.bs _ (Yr cs) (Qa _)];simp only;have hl:((List.range (Yr cs)).map (Zcm cs l at_)).length=Yr cs:=(by simp);have hs:QP (Yr cs) (Yr cs+1)=10:=by unfold QP;rw[if_pos rfl]
  have h:=Zdj (n:=Yr cs+1) (wd:=QK cs) (sc:=Q5 cs) (s:={stR cs l r with wt:=wtR l at_,fl:=true,row:=(List.range (Yr cs)).map (Zcm cs l at_)}) rfl hwl hS.p hS.bs (bytes:=Zb (txR cs l at_ (Yr cs))) (miss:=Zah (xR l at_ (Yr cs))) (num:=Zjw cs l at_ (Yr cs)) (word:=Zj0 cs l at_ (Yr cs)) (by rw[show({stR cs l r with wt:=wtR l at_,fl:=true,row:=(List.range (Yr cs)).map (Zcm cs l at_)}:RS).row.length=Yr cs from hl];exact Zik cs l at_ (Yr cs)) (0+(Zb (Qm cs l r)).length+(Zb (Y8 (wtR l at_))++[44]).length+(hB cs l at_ (Yr cs)).length);rw[show({stR cs l r with wt:=wtR l at_,fl:=true,row:=(List.range (Yr cs)).map (Zcm cs l at_)}:RS).row.length=Yr cs from hl,hs] at h;rw[h]
  have er:(List.range (Yr cs)).map (Zcm cs l at_)++[⟨Zah (xR l at_ (Yr cs)),Zjw cs l at_ (Yr cs),Zj0 cs l at_ (Yr cs)⟩]=(List.range (Yr cs+1)).map (Zcm cs l at_):=(by rw[List.range_succ,List.map_append];rfl);simp only[er];show _=Except.ok (Y6 (Yr cs+1) {stR cs l r with wt:=wtR l (r*(Yr cs+2)),fl:=true} ((List.range (Yr cs+1)).map (Zcm cs l (r*(Yr cs+2)))));rw[<- hat];unfold Y6;rw[if_pos (by simp)]
theorem ZhY{w:World}{a:Option Addr}{n:Nat}{zs:List Int}(h:ZI w a n zs){i:Nat}(hi:i<n):(Lit.int .i64 (zs.getD i 0)).wf=true:=by have hl:i<zs.length:=(by rw[h.1];exact hi);rw[Qc,Qd hl];exact h.2.1 _ (Qf _)
theorem ZnS{x:Int}(h:(Lit.int .i64 x).wf=true):(Lit.int .i64 (x.tdiv 3)).wf=true/\IntKind.i64.wrap (x.tdiv 3)=x.tdiv 3:=by
 have hx: -9223372036854775808<=x/\x<=9223372036854775807:=by simp[Lit.wf,IntKind.min,IntKind.max,IntKind.bits,IntKind.signed] at h;omega
 have h2: -9000000000000000000<=x.tdiv 3/\x.tdiv 3<=9000000000000000000:=by
  rcases Int.le_total 0 x with h0|h0
  rw[Int.tdiv_eq_ediv_of_nonneg h0];omega;have e:x.tdiv 3= -((-x).tdiv 3):=(by rw[Int.neg_tdiv];omega);rw[e,Int.tdiv_eq_ediv_of_nonneg (by omega)];omega
 refine⟨?_,ZB h2.1 h2.2⟩;simp[Lit.wf,IntKind.min,IntKind.max,IntKind.bits,IntKind.signed];omega
theorem Zg8(fk fc ln lc:Nat)(la:Option Addr)(cs l:List Int)(w:World)(hF:YW w fk 0 (Yr cs+1) (QK cs) (Q5 cs) (cfT cs))(hl:ZI w la ln l)(hln:ln<=9223372036854775807):Calls Tryz.prog 24 #[.agg #[.slice (some ⟨fk,0,none⟩) (Yr cs+1) fc,.int .i64 (cfB cs:Nat),.int .i64 (cfS cs:Nat),.int .i64 (cfU cs:Nat)],.slice la ln lc] w fun e w'=>∃v,e=.returned (.tuple #[v,.string (Qm cs l (QN cs l))])/\ZlZ w' w.heap.size v (Zcx cs l (QN cs l))/\Below w.heap.size w w':=by
 have hm3:Yr cs<=3:=(ZhK cs).2.2.2.2.2;have hfl:=hF.lt (by omega)
 have HF:Hid (∀W,Below w.heap.size w W->YW W fk 0 (Yr cs+1) (QK cs) (Q5 cs) (cfT cs)):=fun W hb=>by have k:∀o,W.cell? ⟨fk,o,none⟩=w.cell? ⟨fk,o,none⟩:=fun o=>hb.cell (p:=⟨fk,o,none⟩) hfl;exact⟨hF.le,fun _=>by have:=hb.size;omega,fun i hi=>(k _).trans (hF.c0 i hi),fun i hi=>(k _).trans (hF.c1 i hi),fun i hi=>(k _).trans (hF.c2 i hi)⟩
 have HL:Hid (ZI w la ln l):=hl;have HLN:Hid (l.length=ln):=hl.1;obtain⟨n,hn⟩:∃n,n=Yr cs+1:=⟨_,rfl⟩;have HN:Hid (n=Yr cs+1):=hn;have hn4:1<=n/\n<=4:=(by omega);obtain⟨w0,hw0⟩:∃w0,w0=w.alloc (.cells #[.slice (some ⟨fk,0,none⟩) (Yr cs+1) fc,.int .i64 (cfB cs:Nat),.int .i64 (cfS cs:Nat),.int .i64 (cfU cs:Nat)] 37):=⟨_,rfl⟩;have HR0:Hid (w0.heap[w.heap.size]? =some (.cells #[.slice (some ⟨fk,0,none⟩) (Yr cs+1) fc,.int .i64 (cfB cs:Nat),.int .i64 (cfS cs:Nat),.int .i64 (cfU cs:Nat)] 37 (0,0))/\w0.heap.size=w.heap.size+1):=⟨by rw[hw0];exact heap_alloc_new w _,by rw[hw0];simp⟩;have HB0:Hid (Below w.heap.size w w0):=(by show Below _ _ _;rw[hw0];exact(Below.refl _ _).alloc (Qa _) _);clear hF hl;go_enter Tryz.func24,Tryz.ntmps24;go_wp2_with fail
 rw[<- hw0];clear hw0;obtain⟨RR,hRR⟩:∃RR,RR=QN cs l:=⟨_,rfl⟩;have HRR:Hid (RR=QN cs l/\RR<=150/\∀r,r<RR↔r<150/\(r+1)*(n+1)<=ln):=(by refine⟨hRR,by rw[hRR];unfold QN;omega,fun r=>?_⟩;rw[hRR];unfold QN;rw[HLN.out,show Yr cs+2=n+1 by omega];have:=Nat.le_div_iff_mul_le (k:=n+1) (x:=r+1) (y:=ln) (by omega);omega);clear hRR hn;go_loopw [6,7,8] (fun tov ts ta wr=>∃(r:Nat),r<=RR/\ta=.int .i64 (r*(n+1):Nat)/\ts=.string (Qm cs l r)/\Hid (ZlZ wr w0.heap.size tov (Zcx cs l r))/\Hid (Below w0.heap.size w0 wr)) (fun _ _ ta _=>RR*(n+1)-(intOf ta).toNat)
 case atStart=>exact⟨0,Qg _,by simp,rfl,⟨[],rfl,Zav.nil _ _⟩,Below.refl _ _⟩
 case round=>
  obtain⟨r,hr,rfl,rfl,HRM,HB⟩:=hrel;have hr150:=HRR.out.2.1;have HBW:Hid (Below w.heap.size w wr):=HB0.out.trans (HB.out.mono (by have:=HR0.out.2;omega));have hw0l:w.heap.size<w0.heap.size:=(by have:=HR0.out.2;omega);have hcfg:wr.heap[w.heap.size]? =some (.cells #[.slice (some ⟨fk,0,none⟩) (Yr cs+1) fc,.int .i64 (cfB cs:Nat),.int .i64 (cfS cs:Nat),.int .i64 (cfU cs:Nat)] 37 (0,0)):=(HB.out.block _ hw0l).trans HR0.out.1;have g0:wr.cell? ⟨w.heap.size,0,none⟩=some (.slice (some ⟨fk,0,none⟩) n fc):=(by rw[HN.out];exact cell_of_row _ _ 0 _ 37 (0,0) hcfg);obtain⟨LL,hLL,hRX⟩:=HRM.out;obtain⟨oa,oc,rfl⟩:=hRX.shape;have hLr:LL.length=r:=(by rw[<- List.length_map (f:=ZeD.r),hLL];simp[Zcx]);rw[hLr]
  have HRX:Hid (Zav wr w0.heap.size (.slice oa r oc) LL/\LL.map ZeD.r=Zcx cs l r/\LL.length=r):=⟨by rw[hLr] at hRX;exact hRX,hLL,hLr⟩;clear hRX hLL hLr hcfg HRM;obtain⟨at_,hat⟩:∃at_,at_=r*(n+1):=⟨_,rfl⟩;have hatl:at_<=750:=(by have:r*(n+1)<=150*5:=Nat.mul_le_mul (by omega) (by omega);omega);have HAT:Hid (at_=r*(n+1)):=hat;rw[<- hat];clear hat;have hsz:=ZcL cs l r;have q1:IntKind.i64.wrap ((at_:Int)+(n:Int))=(at_:Int)+(n:Int):=ZB (by omega) (by omega)
  by_cases hrR:r<RR
  ·have hin:=((HRR.out.2.2 r).1 hrR);have hatn:at_+n+1<=ln:=by have h1:=hin.2;rw[Nat.add_mul,Nat.one_mul] at h1;have:=HAT.out;omega
   have c1:(at_:Int)+(n:Int)<(ln:Int):=(by omega);have c2:(r:Int)<150:=by omega
   obtain⟨lb,lo,rfl,hlb,hlc⟩:∃b off,la=some ⟨b,off,none⟩/\b<w.heap.size/\∀i,i<ln->w.cell? ⟨b,off+i,none⟩=some (.int .i64 (l.getD i 0)):=by
    rcases HL.out.2.2 with e|e
    omega;exact e
   have HLC:Hid (∀W i,Below w.heap.size w W->i<ln->W.cell? ⟨lb,lo+i,none⟩=some (.int .i64 (l.getD i 0))):=fun W i hW hi=>(hW.cell (p:=⟨lb,lo+i,none⟩) hlb).trans (hlc i hi);clear hlc;have d0:=HLC.out wr at_ HBW.out (by omega);have HP9:Hid (∀W:World,Calls Tryz.prog 17 #[.int .i64 (l.getD at_ 0),.int .i64 9] W fun e w'=>e=.returned (.int .i64 (Zq (l.getD at_ 0) 9:Nat))/\w'=W):=fun W=>Yy _ 9 W (ZhY HL.out (by omega)) (by omega) (by omega);have hp9:=Yf (l.getD at_ 0) (show 0<9 by omega);have q2:IntKind.i64.wrap (1+((Zq (l.getD at_ 0) 9:Nat):Int))=wtR l at_:=(by rw[ZB (by omega) (by omega)];rfl);have hwt:=Zj1 l at_
   have HDG:Hid (∀W:World,Calls Tryz.prog 48 #[.int .i64 (wtR l at_)] W fun e w'=>e=.returned (.string (Y8 (wtR l at_)))/\Below W.heap.size W w'):=fun W=>ZeO _ (by omega) (by omega) W;have hds:=Zb3 (z:=wtR l at_) (by omega) (by omega);have b0:(0:Int)<=(at_:Int):=(by omega);have b1:(at_:Int)<(ln:Int):=(by omega);generalize Zq (l.getD at_ 0) 9=p9 at *;go_wp2_with fail
   refine(HP9.out _).mono ?_;rintro e w1 ⟨rfl,h1⟩;obtain rfl:=h1.symm;obtain⟨w2,hw2⟩:∃w2,w2=wr.alloc (.cells #[.int .i64 (wtR l at_),.slice none 0 0,.slice none 0 0,.slice none 0 0] 103):=⟨_,rfl⟩;have hb2:Below wr.heap.size wr w2:=(by rw[hw2];exact(Below.refl _ _).alloc (Qa _) _);have hr2:w2.heap[wr.heap.size]? =some (.cells #[.int .i64 (wtR l at_),.slice none 0 0,.slice none 0 0,.slice none 0 0] 103 (0,0)):=(by rw[hw2];exact heap_alloc_new wr _);have e0:w2.cell? ⟨wr.heap.size,0,none⟩=some (.int .i64 (wtR l at_)):=cell_of_row _ _ 0 _ 103 (0,0) hr2;have HU2:Hid (ZaZ w2 wr.heap.size (.slice none 0 0) (.slice none 0 0) (.slice none 0 0) (Za7 cs l at_ 0)):=⟨hr2,World.ownsRow_nil _ _ _ _,World.ownsRow_nil _ _ _ _,World.ownsRow_nil _ _ _ _⟩;have HB2:Hid (Below wr.heap.size wr w2):=hb2;go_upto_region 6 with fail
   rw[<- hw2];clear hw2 hb2 hr2 d0;go_wp2_with fail
   refine(HDG.out _).mono ?_;rintro e w3 ⟨rfl,hb3⟩;have HB3:Hid (Below wr.heap.size wr w3):=HB2.out.trans (hb3.mono HB2.out.size);have HU3:Hid (ZaZ w3 wr.heap.size (.slice none 0 0) (.slice none 0 0) (.slice none 0 0) (Za7 cs l at_ 0)):=HU2.out.below hb3;clear hb3 e0 HB2 HU2;obtain⟨s0,hs0⟩:∃s0,s0=Qm cs l r++Y8 (wtR l at_):=⟨_,rfl⟩;have HS0:Hid (s0=Qm cs l r++Y8 (wtR l at_)):=hs0;have hs0s:s0.size<=6003:=(by rw[hs0,ByteArray.size_append];omega);obtain⟨bb,hbb⟩:∃bb,bb=wr.heap.size:=⟨_,rfl⟩;generalize wr=ws at *;go_upto_region 7 with fail;rw[<- hs0,<- hbb];rw[<- hbb] at HU3;have HBB:Hid (bb=ws.heap.size):=hbb;clear hs0 hbb;go_wp2_with fail
   go_loopw [7,10] (fun ts ti wr=>∃(i:Nat) (vm vn vs:Value),i<=n/\ti=.int .i64 i/\ts=.string (YF cs l at_ s0 i)/\Hid (ZaZ wr bb vm vn vs (Za7 cs l at_ i))/\Hid (Below ws.heap.size ws wr)) (fun _ ti _=>n-(intOf ti).toNat)
   case atStart=>exact⟨0,_,_,_,Qg _,rfl,rfl,HU3.out,HB3.out⟩
   case round=>
    clear HU3 HB3;obtain⟨i,vm,vn,vs,hi,rfl,rfl,HU,HBI⟩:=hrel;have HBWI:Hid (Below w.heap.size w wr):=HBW.out.trans (HBI.out.mono HBW.out.size);have hwsl:w.heap.size<ws.heap.size:=(by have:=HB.out.size;omega);have g0i:wr.cell? ⟨w.heap.size,0,none⟩=some (.slice (some ⟨fk,0,none⟩) n fc):=(HBI.out.cell (p:=⟨w.heap.size,0,none⟩) hwsl).trans g0;have hfs:=Zbl cs l at_ s0 i
    by_cases hin2:i<n
    ·obtain⟨xi,hxi⟩:∃xi,xi=at_+1+i:=⟨_,rfl⟩;have hxl:xi<ln:=(by omega);have d1:=HLC.out wr xi HBWI.out hxl;have HX:Hid (xR l at_ i=l.getD xi 0):=(by show _=_;rw[hxi];rfl);have hwfx:=ZhY HL.out hxl;rw[<- HX.out] at d1 hwfx;have q3:IntKind.i64.wrap ((at_:Int)+1)=(at_:Int)+1:=ZB (by omega) (by omega);have q4:IntKind.i64.wrap ((at_:Int)+1+(i:Int))=(xi:Int):=(by rw[ZB (by omega) (by omega)];omega);have k0:(0:Int)<=(xi:Int):=(by omega);have k1:(xi:Int)<(ln:Int):=(by omega);have k2:(0:Int)<=(i:Int):=(by omega);have k3:(i:Int)<(n:Int):=(by omega);have hft:=HF.out wr HBWI.out;rw[<- HN.out] at hft;have t0:=hft.c0 i hin2;have t1:=hft.c1 i hin2;have t2:=hft.c2 i hin2;rw[Nat.zero_add] at t0 t1 t2;obtain⟨hw3,q5⟩:=ZnS hwfx
     have hsc:QK cs i=false->0<=Q5 cs i/\Q5 cs i<=3:=fun hw=>by have:=Zke cs i;unfold Q0 at this;rw[hw] at this;simp at this;omega
     have HFD:Hid (∀W:World,Calls Tryz.prog 49 #[.agg #[.bool (QK cs i),.int .i64 (Q5 cs i),.int .i64 (cfT cs i)],.int .i64 ((xR l at_ i).tdiv 3)] W fun e w'=>e=.returned (.tuple #[.string (fdT (QK cs i) (Q5 cs i) ((xR l at_ i).tdiv 3)),.int .i64 (fdV (QK cs i) (Q5 cs i) ((xR l at_ i).tdiv 3)),.string (fdS (QK cs i) ((xR l at_ i).tdiv 3))])/\Below W.heap.size W w'):=fun W=>ZkY _ _ _ _ hw3 hsc W;have HP3:Hid (∀W:World,Calls Tryz.prog 17 #[.int .i64 (xR l at_ i),.int .i64 3] W fun e w'=>e=.returned (.int .i64 (Zq (xR l at_ i) 3:Nat))/\w'=W):=fun W=>Yy _ 3 W hwfx (by omega) (by omega)
     have HP4:Hid (∀W:World,Calls Tryz.prog 17 #[.int .i64 ((xR l at_ i).tdiv 3),.int .i64 4] W fun e w'=>e=.returned (.int .i64 (Zq ((xR l at_ i).tdiv 3) 4:Nat))/\w'=W):=fun W=>Yy _ 4 W hw3 (by omega) (by omega);have HG:Hid (Zah (xR l at_ i)=decide (Zq (xR l at_ i) 3=0/\Zq ((xR l at_ i).tdiv 3) 4=0)):=rfl;have HTX:Hid (txR cs l at_ i=if Zah (xR l at_ i)=true then⟨#[]⟩ else fdT (QK cs i) (Q5 cs i) ((xR l at_ i).tdiv 3)):=rfl;have HRS:Hid (Za7 cs l at_ (i+1)=⟨wtR l at_,(Za7 cs l at_ i).ms++[Zah (xR l at_ i)],(Za7 cs l at_ i).ns++[fdV (QK cs i) (Q5 cs i) ((xR l at_ i).tdiv 3)],(Za7 cs l at_ i).ss++[fdS (QK cs i) ((xR l at_ i).tdiv 3)]⟩):=Zlw cs l at_ i;have HFS:Hid (YF cs l at_ s0 (i+1)=(YF cs l at_ s0 i++⟨#[44]⟩)++txR cs l at_ i):=rfl
     have htx:=ZiF cs l at_ i;clear hft hsc hwfx hw3 hxi;generalize fdV (QK cs i) (Q5 cs i) ((xR l at_ i).tdiv 3)=fV at *;generalize fdS (QK cs i) ((xR l at_ i).tdiv 3)=fS at *;generalize fdT (QK cs i) (Q5 cs i) ((xR l at_ i).tdiv 3)=fT at *;generalize txR cs l at_ i=tx at *;generalize Zah (xR l at_ i)=gn at *;generalize Zq (xR l at_ i) 3=p3 at *;generalize Zq ((xR l at_ i).tdiv 3) 4=p4 at *;generalize xR l at_ i=x at *;generalize YF cs l at_ s0 i=si at *;go_wp2_with fail
     refine(HFD.out _).mono ?_;rintro e w4 ⟨rfl,hb4⟩;have HB4:Hid (Below ws.heap.size ws w4):=HBI.out.trans (hb4.mono HBI.out.size);have HU4:Hid (ZaZ w4 bb vm vn vs (Za7 cs l at_ i)):=HU.out.below hb4;clear hb4 d1 t0 t1 t2 g0i;go_upto_region 12 with fail;go_cut [15] (fun v wx=>v=.bool gn/\wx=w4)
     case first=>
      go_wp2_with fail
      refine(HP3.out _).mono ?_;rintro e w5 ⟨rfl,h5⟩;obtain rfl:=h5.symm
      by_cases hp3:p3=0
      ·have qq:((p3:Int)==0)=true:=(by rw[hp3];rfl);have HH3:Hid (p3=0):=hp3;clear hp3;go_wp2_with fail
       refine(HP4.out _).mono ?_;rintro e w6 ⟨rfl,h6⟩;obtain rfl:=h6.symm
       by_cases hp4:p4=0
       ·have qr:((p4:Int)==0)=true:=(by rw[hp4];rfl);have HGG:Hid (gn=true):=(by show _=_;rw[HG.out];exact decide_eq_true ⟨HH3.out,hp4⟩);clear hp4;go_wp2;go_meet
        exact⟨by rw[HGG.out],rfl⟩
       have qr:((p4:Int)==0)=false:=(by rw[beq_eq_false_iff_ne];omega);have HGG:Hid (gn=false):=(by show _=_;rw[HG.out];exact decide_eq_false (fun h=>hp4 h.2));go_wp2;go_meet
       exact⟨by rw[HGG.out],rfl⟩
      have qq:((p3:Int)==0)=false:=(by rw[beq_eq_false_iff_ne];omega);have HGG:Hid (gn=false):=(by show _=_;rw[HG.out];exact decide_eq_false (fun h=>hp3 h.1));go_wp2;go_meet
      exact⟨by rw[HGG.out],rfl⟩
     case rest=>
      obtain⟨rfl,hwx⟩:=hcut;obtain rfl:=hwx.symm;clear hwx;go_upto_if 76 with fail
      go_cut [12] (fun v wx=>v=.string tx/\wx=w4)
      case first=>
       cases gn with
       | true=>
        have HGG:Hid (tx=⟨#[]⟩):=(by show _=_;rw[HTX.out];rfl);go_wp2;go_meet
        exact⟨by rw[HGG.out],rfl⟩
       | false=>
        have HGG:Hid (tx=fT):=(by show _=_;rw[HTX.out];rfl);go_wp2;go_meet
        exact⟨by rw[HGG.out],rfl⟩
      case rest=>
       obtain⟨rfl,hwx⟩:=hcut;obtain rfl:=hwx.symm;clear hwx;obtain⟨sj,hsj⟩:∃sj,sj=(si++⟨#[44]⟩)++tx:=⟨_,rfl⟩;have HSJ:Hid (sj=(si++⟨#[44]⟩)++tx):=hsj;have hsz1:(si++⟨#[44]⟩).size<=7000:=(by rw[ByteArray.size_append];have e:(⟨#[44]⟩:ByteArray).size=1:=rfl;omega);go_upto_region 16 with fail;rw[<- hsj];clear hsj hsz1;generalize hRi:Za7 cs l at_ i=Ri at *;have HRI:Hid (Za7 cs l at_ i=Ri):=hRi;have hRl:Ri.ms.length=i/\Ri.ns.length=i/\Ri.ss.length=i:=(by rw[<- hRi];simp[Za7]);have hRw:Ri.wt=wtR l at_:=(by rw[<- hRi];rfl);clear hRi;obtain⟨m1,m2,m3⟩:=hRl;obtain⟨am,cm,rfl⟩:=HU4.out.om.shape;obtain⟨an,cn2,rfl⟩:=HU4.out.on.shape;obtain⟨av,cv,rfl⟩:=HU4.out.os.shapeW;rw[m1,m2,m3] at HU4
       have HBL:Hid (bb<=w4.heap.size/\bb<w4.heap.size):=by have h1:=HB4.out.size;have h2:=(Qb HU4.out.blk).1;exact⟨by omega,h2⟩
       obtain⟨j4,jinf4,jz04,jz14,jz24⟩:=info_parts ZnT;obtain⟨j3,jinf3,jz03,jz13,jz23⟩:=info_parts Zko;obtain⟨j9,jinf9,jz09,jz19,jz29⟩:=info_parts Zji;have u1:=cell_of_row _ _ 1 _ 103 (0,0) HU4.out.blk;have HO4:Hid (w4.ownsRow bb 4 1 (.slice am i cm) i (Ri.ms.map Value.bool)):=(by have h1:=HU4.out.om;unfold Z3 at h1;rw[m1] at h1;exact h1);have hbb4:=HBL.out;have hi4:i<=4:=(by omega);go_wp2_with (at_builtin;refine Zd rfl (.tmp 82) (.tmp 84) 101 rfl bb 4 j4 (.bool false) 1 1 Tryz.underlying101 jinf4 jz04 jz14 jz24 rfl (by decide) (.slice am i cm) i (Ri.ms.map Value.bool) rfl (World.ownsRow.alloc HO4.out _) ⟨w4.heap.size,0,none⟩ 1 1 [.bool gn] rfl rfl ?_ ?_ ?_ ?_ ?_ ?_ ?_)
       exact Zr w4 #[.bool gn] 4;intro u hu;simp at hu;subst hu;rfl;decide;unfold maxLen;omega;omega;simp;omega;intro v5 w5 H5;obtain⟨r5,g5,d5,_,_⟩:=H5.out;obtain⟨y5,hy5⟩:∃y,y=w4.alloc (.cells #[.bool gn] 4):=⟨_,rfl⟩;rw[<- hy5] at g5 d5;have by5:Below w4.heap.size w4 y5:=by rw[hy5];exact(Below.refl _ _).alloc (Qa _) _
       have h5:Z3 w5 bb v5 (Ri.ms++[gn]):=(by unfold Z3;rw[Qe,m1,List.map_append];exact r5);obtain⟨a5,c5,rfl⟩:=h5.shape;obtain⟨l5,hl5⟩:∃l,l=(Ri.ms++[gn]).length:=⟨_,rfl⟩;rw[<- hl5] at r5 d5 h5 ⊢;have HL5:Hid (l5=i+1):=(by show _=_;rw[hl5,Qe,m1];rfl);clear hl5;have hUy5:=HU4.out.below by5;obtain⟨hU5,hk5⟩:=hUy5.putM g5 h5;have f5:=cell_of_row _ _ 1 _ 103 (0,0) hk5;have z5:=frozen_of_row _ _ 1 _ 103 hk5;have HU5:Hid (ZaZ (w5.setCell ⟨bb,1,none⟩ (.slice a5 l5 c5)) bb (.slice a5 l5 c5) (.slice an i cn2) (.slice av i cv) ⟨Ri.wt,Ri.ms++[gn],Ri.ns,Ri.ss⟩):=hU5
       have HBy5:Hid (Below ws.heap.size ws (w5.setCell ⟨bb,1,none⟩ (.slice a5 l5 c5))):=by have e1:Below ws.heap.size ws y5:=HB4.out.trans (by5.mono HB4.out.size);have e2:=HBB.out;exact(e1.grown g5 e1.size (fun q hq=>by have:=(World.ownsRow.lt hUy5.om q hq).1;omega)).setCell (show ws.heap.size<=bb by omega) _
       clear H5 r5 g5 d5 hy5 by5 h5 hUy5 hU5 hk5;go_upto_region 17 with fail;generalize w5.setCell ⟨bb,1,none⟩ (.slice a5 l5 c5)=w6 at *;clear f5 z5 u1 HU4 HO4;have HB6:Hid (Below ws.heap.size ws w6):=HBy5;clear HBy5;have u2:=cell_of_row _ _ 2 _ 103 (0,0) HU5.out.blk;have hb6:bb<w6.heap.size:=(Qb HU5.out.blk).1;have HOI6:Hid (Ze w6 bb (.slice an i cn2) Ri.ns):=HU5.out.on;go_wp2_with (at_builtin;refine Yh rfl (.tmp 88) (.tmp 90) rfl bb (.slice an i cn2) Ri.ns fV rfl (HOI6.out.alloc _) w6.heap.size 1 rfl ?_ ?_ ?_ ?_)
       omega;omega;intro v7 w7 H7;obtain⟨h7,g7,d7⟩:=H7.out;obtain⟨y7,hy7⟩:∃y,y=w6.alloc (.cells #[.int .i64 fV] 3):=⟨_,rfl⟩;rw[<- hy7] at g7 d7;have by7:Below w6.heap.size w6 y7:=(by rw[hy7];exact(Below.refl _ _).alloc (Qa _) _);obtain⟨a7,c7,rfl⟩:=h7.shape;obtain⟨l7,hl7⟩:∃l,l=(Ri.ns++[fV]).length:=⟨_,rfl⟩;rw[<- hl7] at d7 h7 ⊢;have HL7:Hid (l7=i+1):=(by show _=_;rw[hl7,Qe,m2];rfl);clear hl7;have hUy7:=HU5.out.below by7;obtain⟨hU7,hk7⟩:=hUy7.putN g7 h7;have f7:=cell_of_row _ _ 2 _ 103 (0,0) hk7;have z7:=frozen_of_row _ _ 2 _ 103 hk7;have HU7:Hid (ZaZ (w7.setCell ⟨bb,2,none⟩ (.slice a7 l7 c7)) bb (.slice a5 l5 c5) (.slice a7 l7 c7) (.slice av i cv) ⟨Ri.wt,Ri.ms++[gn],Ri.ns++[fV],Ri.ss⟩):=hU7
       have HBy7:Hid (Below ws.heap.size ws (w7.setCell ⟨bb,2,none⟩ (.slice a7 l7 c7))):=by have e1:Below ws.heap.size ws y7:=HB6.out.trans (by7.mono HB6.out.size);have e2:=HBB.out;exact(e1.grown g7 e1.size (fun q hq=>by have:=(World.ownsRow.lt hUy7.on q hq).1;omega)).setCell (show ws.heap.size<=bb by omega) _
       clear H7 g7 d7 hy7 by7 h7 hUy7 hU7 hk7;go_upto_region 18 with fail;generalize w7.setCell ⟨bb,2,none⟩ (.slice a7 l7 c7)=w8 at *;clear f7 z7 u2 HU5 HOI6;have HB8:Hid (Below ws.heap.size ws w8):=HBy7;clear HBy7;have u3:=cell_of_row _ _ 3 _ 103 (0,0) HU7.out.blk;have HO8:Hid (w8.ownsRow bb 9 1 (.slice av i cv) i (Ri.ss.map Value.string)):=(by have h1:=HU7.out.os;unfold ZS at h1;rw[show(⟨Ri.wt,Ri.ms++[gn],Ri.ns++[fV],Ri.ss⟩:ZiS).ss=Ri.ss from rfl,m3] at h1;exact h1);have hb8:bb<w8.heap.size:=(Qb HU7.out.blk).1
       go_wp2_with (at_builtin;refine Zd rfl (.tmp 94) (.tmp 96) 47 rfl bb 9 j9 (.string ⟨#[]⟩) 1 16 Tryz.underlying47 jinf9 jz09 jz19 jz29 rfl (by decide) (.slice av i cv) i (Ri.ss.map Value.string) rfl (World.ownsRow.alloc HO8.out _) ⟨w8.heap.size,0,none⟩ 1 1 [.string fS] rfl rfl ?_ ?_ ?_ ?_ ?_ ?_ ?_)
       rfl;unfold maxLen;omega;omega;omega;intro v9 w9 H9;obtain⟨r9,g9,d9,_,_⟩:=H9.out;obtain⟨y9,hy9⟩:∃y,y=w8.alloc (.cells #[.string fS] 9):=⟨_,rfl⟩;rw[<- hy9] at g9 d9;have by9:Below w8.heap.size w8 y9:=by rw[hy9];exact(Below.refl _ _).alloc (Qa _) _
       have h9:ZS w9 bb v9 (Ri.ss++[fS]):=(by unfold ZS;rw[Qe,m3,List.map_append];exact r9);obtain⟨a9,c9,rfl⟩:=h9.shapeW;obtain⟨l9,hl9⟩:∃l,l=(Ri.ss++[fS]).length:=⟨_,rfl⟩;rw[<- hl9] at r9 d9 h9 ⊢;have HL9:Hid (l9=i+1):=(by show _=_;rw[hl9,Qe,m3];rfl);clear hl9;have hUy9:=HU7.out.below by9;obtain⟨hU9,hk9⟩:=hUy9.putS g9 h9;have f9:=cell_of_row _ _ 3 _ 103 (0,0) hk9;have z9:=frozen_of_row _ _ 3 _ 103 hk9;have HU9:Hid (ZaZ (w9.setCell ⟨bb,3,none⟩ (.slice a9 l9 c9)) bb (.slice a5 l5 c5) (.slice a7 l7 c7) (.slice a9 l9 c9) ⟨Ri.wt,Ri.ms++[gn],Ri.ns++[fV],Ri.ss++[fS]⟩):=hU9
       have HBy9:Hid (Below ws.heap.size ws (w9.setCell ⟨bb,3,none⟩ (.slice a9 l9 c9))):=(by have e1:Below ws.heap.size ws y9:=HB8.out.trans (by9.mono HB8.out.size);have e2:=HBB.out;exact(e1.grown g9 e1.size (fun q hq=>by have:=(World.ownsRow.lt hUy9.os q hq).1;omega)).setCell (show ws.heap.size<=bb by omega) _);clear H9 r9 g9 d9 hy9 by9 h9 hUy9 hU9 hk9;have HUN:Hid (ZaZ (w9.setCell ⟨bb,3,none⟩ (.slice a9 l9 c9)) bb (.slice a5 l5 c5) (.slice a7 l7 c7) (.slice a9 l9 c9) (Za7 cs l at_ (i+1))):=by have h1:=HU9.out;rw[hRw] at h1;rw[HRS.out];exact h1
       clear HU9 HU7 HO8 u3 hRw;go_wp2;go_roundw;case rel=>exact⟨i+1,_,_,_,by omega,by go_num,by rw[HFS.out,HSJ.out],HUN.out,HBy9.out⟩
       case measure=>simp[intOf];omega
    have hin3:i=n:=(by omega);subst hin3;have ki:¬(i:Int)<(i:Int):=(by omega);obtain⟨am,cm,rfl⟩:=HU.out.om.shape;obtain⟨an,cn2,rfl⟩:=HU.out.on.shape;obtain⟨av,cv,rfl⟩:=HU.out.os.shapeW;obtain⟨Ri,hRi⟩:∃Ri,Ri=Za7 cs l at_ i:=⟨_,rfl⟩;rw[<- hRi] at HU;have HRI:Hid (Ri=Za7 cs l at_ i):=hRi;clear hRi;have HUX:Hid (ZaZ wr bb (.slice am Ri.ms.length cm) (.slice an Ri.ns.length cn2) (.slice av Ri.ss.length cv) Ri):=HU.out;generalize Ri.ms.length=lm at *;generalize Ri.ns.length=lnn at *;generalize Ri.ss.length=ls at *;have u0:=cell_of_row _ _ 0 _ 103 (0,0) HUX.out.blk;have u1:=cell_of_row _ _ 1 _ 103 (0,0) HUX.out.blk;have u2:=cell_of_row _ _ 2 _ 103 (0,0) HUX.out.blk;have u3:=cell_of_row _ _ 3 _ 103 (0,0) HUX.out.blk
    have HTN:Hid (Qm cs l (r+1)=YF cs l at_ s0 i++⟨#[10]⟩):=(by show _=_;have h1:r*(Yr cs+2)=at_:=(by rw[HAT.out,HN.out]);simp only[Qm];rw[h1,HS0.out,HN.out]);have HRN:Hid (Zcx cs l (r+1)=Zcx cs l r++[Ri]):=(by show _=_;have h1:r*(Yr cs+2)=at_:=(by rw[HAT.out,HN.out]);rw[ZjG,h1,HRI.out,HN.out]);have HRXI:Hid (Zav wr w0.heap.size (.slice oa r oc) LL):=HRX.out.1.below HBI.out;have HBZ:Hid (Below w0.heap.size w0 wr):=HB.out.trans (HBI.out.mono HB.out.size);have hbz:=HBZ.out.size;have hbb2:w0.heap.size<=bb:=(by have:=HBB.out;have:=HB.out.size;omega);have q6:IntKind.i64.wrap ((at_:Int)+1)=(at_:Int)+1:=ZB (by omega) (by omega)
    have q7:IntKind.i64.wrap ((at_:Int)+1+(i:Int))=(((r+1)*(i+1):Nat):Int):=(by rw[ZB (by omega) (by omega),Nat.add_mul,Nat.one_mul];have:=HAT.out;omega);obtain⟨j0,jinf,jz0,jz1,jz2⟩:=info_parts Znl;have HROW:Hid (wr.ownsRow w0.heap.size 103 4 (.slice oa r oc) r (Za5 LL)):=(by have h1:=HRXI.out.row;rw[HRX.out.2.2] at h1;exact h1);have hrl:r<=150:=(by omega);generalize YF cs l at_ s0 i=si at *;have e10:(⟨#[10]⟩:ByteArray).size=1:=rfl;have hsi:si.size<=7000:=(by omega);clear e10 hfs;go_upto_region 20 with fail
    go_wp2_with (at_builtin;refine Zd rfl (.tmp 101) (.tmp 103) 39 rfl w0.heap.size 103 j0 (.agg #[.int .i64 0,.slice none 0 0,.slice none 0 0,.slice none 0 0]) 4 80 Tryz.underlying39 jinf jz0 jz1 jz2 rfl (by decide) (.slice oa r oc) r (Za5 LL) rfl (World.ownsRow.alloc HROW.out _) ⟨wr.heap.size,0,none⟩ 1 1 [.int .i64 Ri.wt,.slice am lm cm,.slice an lnn cn2,.slice av ls cv] rfl rfl (Zr wr #[.int .i64 Ri.wt,.slice am lm cm,.slice an lnn cn2,.slice av ls cv] 103) (by intro u hu;simp at hu;rcases hu with rfl|rfl|rfl|rfl<;>rfl) (by decide) (by unfold maxLen;omega) (by omega) (by simp;omega) ?_)
    intro v5 w5 H5;obtain⟨r5,g5,d5,_,_⟩:=H5.out;obtain⟨y5,hy5⟩:∃y,y=wr.alloc (.cells #[.int .i64 Ri.wt,.slice am lm cm,.slice an lnn cn2,.slice av ls cv] 103):=⟨_,rfl⟩;rw[<- hy5] at g5 d5;have by5:Below wr.heap.size wr y5:=by rw[hy5];exact(Below.refl _ _).alloc (Qa _) _
    have hX5:Zav w5 w0.heap.size v5 (LL++[⟨Ri,.slice am lm cm,.slice an lnn cn2,.slice av ls cv⟩]):=(by have hUy:=HUX.out.below by5;refine(HRXI.out.below by5).more (p:=⟨Ri,.slice am lm cm,.slice an lnn cn2,.slice av ls cv⟩) ⟨hUy.om.mono hbb2,hUy.on.mono hbb2,hUy.os.monoW hbb2⟩ g5 ?_;rw[HRX.out.2.2];exact r5);have HRM5:Hid (ZlZ w5 w0.heap.size v5 (Zcx cs l (r+1))):=⟨_,by rw[List.map_append,HRX.out.2.1,HRN.out];rfl,hX5⟩;have HB5:Hid (Below w0.heap.size w0 w5):=(by have e1:Below w0.heap.size w0 y5:=HBZ.out.trans (by5.mono hbz);exact e1.grown g5 e1.size (fun q hq=>(World.ownsRow.lt HRXI.out.row q hq).1));have hb5:Below wr.heap.size wr w5->True:=fun _=>trivial
    have g05:w5.cell? ⟨w.heap.size,0,none⟩=some (.slice (some ⟨fk,0,none⟩) i fc):=by have h1:Below w0.heap.size ws w5:=(by have e1:Below w0.heap.size wr y5:=by5.mono hbz;have e2:Below w0.heap.size ws wr:=HBI.out.mono HB.out.size;exact(e2.trans e1).grown g5 (by have:=by5.size;omega) (fun q hq=>(World.ownsRow.lt HRXI.out.row q hq).1));exact(h1.cell (p:=⟨w.heap.size,0,none⟩) hw0l).trans g0
    clear H5 r5 g5 d5 hy5 by5 hX5 hb5 u0 u1 u2 u3 HUX HU HROW HRXI;go_wp2;go_roundw;case rel=>exact⟨r+1,by omega,by go_num,by rw[HTN.out],HRM5.out,HB5.out⟩
    case measure=>
     have h1:(r+1)*(i+1)<=RR*(i+1):=Nat.mul_le_mul_right _ hrR;have h2:=HAT.out;rw[Nat.add_mul,Nat.one_mul] at h1;have e:((r:Int)+1)*((i:Int)+1)=(((r+1)*(i+1):Nat):Int):=(by rw[Int.natCast_mul];rfl);simp only[intOf,Int.toNat_natCast];rw[e,Int.toNat_natCast,Nat.add_mul,Nat.one_mul];omega
  have hrr:r=RR:=(by omega);have hno:=mt (HRR.out.2.2 r).2 hrR;go_upto_region 4 with fail;go_cut [28] (fun v wx=>v=.bool false/\wx=wr)
  case first=>
   by_cases h150:r<150
   ·have hh:¬(r+1)*(n+1)<=ln:=fun h=>hno ⟨h150,h⟩;rw[Nat.add_mul,Nat.one_mul] at hh;have c1:¬(at_:Int)+(n:Int)<(ln:Int):=(by have:=HAT.out;omega);clear hh hno hrr;go_wp2;go_meet
    exact⟨rfl,rfl⟩
   have c2:¬(r:Int)<150:=(by omega);clear hno hrr
   by_cases hc:(at_:Int)+(n:Int)<(ln:Int)
   ·go_wp2;go_meet
    exact⟨rfl,rfl⟩
   go_wp2;go_meet
   exact⟨rfl,rfl⟩
  case rest=>
   obtain⟨rfl,hwx⟩:=hcut;obtain rfl:=hwx.symm;clear hwx;have HRE:Hid (r=QN cs l):=(by show _=_;rw[hrr];exact HRR.out.1);clear hrr hno;go_wp2;refine bodyPost_ret (v:=.tuple #[.slice oa r oc,.string (Qm cs l r)]) (by simp[results,Tryz.results24,go_sem]) rfl ?_;rw[<- HRE.out];refine⟨_,rfl,?_,HBW.out⟩;obtain⟨h1,h2,h3⟩:=HRX.out;refine⟨LL,h2,?_⟩;have hle:w.heap.size<=w0.heap.size:=(by omega);refine⟨?_,fun p hp=>?_⟩
   ·rcases h1.row.2 with hn0|⟨g,cap,cur,e,hg,rr⟩
    exact⟨h1.row.1,.inl hn0⟩;exact⟨h1.row.1,.inr ⟨g,cap,cur,e,by omega,rr⟩⟩
   obtain⟨k1,k2,k3⟩:=h1.each p hp;exact⟨k1.mono hle,k2.mono hle,k3.monoW hle⟩
end Go.Proofs.YtfcgnpchbcmdeaaGreat
