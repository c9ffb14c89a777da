import Derived.Test.YtfcgnpchbcmdeaaGreatZfbg
import Derived.Test.YtfcgnpchbcmdeaaGreatZfbk
import Derived.Test.YtfcgnpchbcmdeaaGreatZfbh
namespace Go.Proofs.YtfcgnpchbcmdeaaGreat
set_option linter.unusedSimpArgs false
set_option maxRecDepth 100000
set_option maxHeartbeats 16000000
open Go.RowKit
def bdI(e:ES):List Int:=if e.wd=true then[] else e.bs
def bdS(e:ES):List ByteArray:=if e.wd=true then e.ww else[]
structure ZoH(w w':World)(vb vw:Value)(e:ES):Prop where
 nb:Ze w' w.heap.size vb (bdI e)
 nw:ZR w' w.heap.size vw (bdS e)
 low:Below w.heap.size w w'
def ZpC(w:World)(e:ES)(x:Ending)(w':World):Prop:=∃vb vw,x=.returned (.tuple #[vb,vw])/\ZoH w w' vb vw e
theorem Zhn(db f:Nat)(vK vB vX:Value)(kvs bvs:List (Value×Value))(X:List XS)(D:DSS)(w:World)(h:Zbg w db vK vB vX kvs bvs X D)(hf:f<D.ks.length)(hb1:(D.ks.getD f ZK).e.bs.length<=1000)(hw1:(D.ks.getD f ZK).e.ww.length<=1000):Calls Tryz.prog 53 #[.pointer (some ⟨db,0,none⟩),.int .i64 (f:Nat)] w fun e w'=>ZpC w (D.ks.getD f ZK).e e w':=by
 obtain⟨qk,cK,ab,cb,aw,cw,hvK,hqkl,k0,k1,k2,k3,hI,hS⟩:=h.kn.at hf;subst hvK;have d0:w.cell? ⟨db,0,none⟩=some (.slice (some ⟨qk,0,none⟩) D.ks.length cK):=cell_of_row _ _ 0 _ 168 (0,0) h.ds.blk;have hdl:db<w.heap.size:=(Qb h.ds.blk).1;have HI:Hid (Ze w 0 (.slice ab (D.ks.getD f ZK).e.bs.length cb) (D.ks.getD f ZK).e.bs):=hI;have HS:Hid (ZR w 0 (.slice aw (D.ks.getD f ZK).e.ww.length cw) (D.ks.getD f ZK).e.ww):=hS;have bf1:(0:Int)<=(f:Int):=(by omega);have bf2:(f:Int)<(D.ks.length:Int):=(by omega);clear h hI hS;generalize D.ks.length=nk at *;generalize (D.ks.getD f ZK).d=dd at *;generalize (D.ks.getD f ZK).e=es at *;generalize hnb:es.bs.length=nb at *;generalize hnw:es.ww.length=nw at *;have HN:Hid (es.bs.length=nb/\es.ww.length=nw):=⟨hnb,hnw⟩;clear hnb hnw
 cases hwd:es.wd
 ·rw[hwd] at k0;have HB:Hid (bdI es=es.bs/\bdS es=[]):=(by show _/\_;unfold bdI bdS;rw[hwd];exact⟨rfl,rfl⟩);clear hwd;go_enter Tryz.func53,Tryz.ntmps53;go_upto_region 4 with fail;generalize hW1:w.alloc (.cells #[.bool false,.slice ab nb cb,.slice aw nw cw,.int .i64 (dd:Nat)] 172)=w1;have hB1:Below w.heap.size w w1:=(by rw[<- hW1];exact(Below.refl _ _).alloc (Qa _) _);have hX1:w1.heap[w.heap.size]? =some (.cells #[.bool false,.slice ab nb cb,.slice aw nw cw,.int .i64 (dd:Nat)] 172 (0,0)):=(by rw[<- hW1];exact heap_alloc_new _ _);have hwl:w.heap.size<w1.heap.size:=(Qb hX1).1;have x1:w1.cell? ⟨w.heap.size,1,none⟩=some (.slice ab nb cb):=cell_of_row _ _ 1 _ 172 (0,0) hX1;have HB1:Hid (Below w.heap.size w w1):=hB1;clear hW1 hX1 k0 k1 k2 k3 d0
  have hrow:w1.ownsRow 0 3 1 (.slice ab nb cb) nb (es.bs.map (Value.int .i64)):=(by have h1:=(Za.of_below (S:=fun _=>False) hB1).row HI.out (fun _ _=>id);rw[HN.out.1] at h1;exact h1);have HROW:Hid (w1.ownsRow 0 3 1 (.slice ab nb cb) nb (es.bs.map (Value.int .i64))):=hrow;clear hB1 hrow
  by_cases h0:nb=0
  ·subst h0
   rcases ab with _|ad
   ·go_wp2;go_ret2
    have eL:es.bs=[]:=List.length_eq_zero_iff.1 HN.out.1;have hnew:(w1.alloc (.cells #[] 3)).heap[w1.heap.size]? =some (.cells #[] 3 (0,0)):=heap_alloc_new _ _;have hrw:(w1.alloc (.cells #[] 3)).ownsRow w.heap.size 3 1 (.slice (some ⟨w1.heap.size,0,none⟩) 0 0) 0 []:=⟨rfl,.inr ⟨w1.heap.size,0,#[],rfl,by omega,hnew,Qa _,by decide,rfl,rfl⟩⟩;refine⟨_,_,rfl,?_,?_,HB1.out.alloc (by omega) _⟩;rw[HB.out.1,eL];exact hrw;rw[HB.out.2];exact ZR.nil _ _
   go_wp2;go_ret2
   have eL:es.bs=[]:=List.length_eq_zero_iff.1 HN.out.1;have hnew:(w1.alloc (.cells #[] 3)).heap[w1.heap.size]? =some (.cells #[] 3 (0,0)):=heap_alloc_new _ _;have hrw:(w1.alloc (.cells #[] 3)).ownsRow w.heap.size 3 1 (.slice (some ⟨w1.heap.size,0,none⟩) 0 0) 0 []:=⟨rfl,.inr ⟨w1.heap.size,0,#[],rfl,by omega,hnew,Qa _,by decide,rfl,rfl⟩⟩;refine⟨_,_,rfl,?_,?_,HB1.out.alloc (by omega) _⟩;rw[HB.out.1,eL];exact hrw;rw[HB.out.2];exact ZR.nil _ _
  have hq:∃q,ab=some ⟨q,0,none⟩:=by
   rcases HROW.out.2 with⟨e,h1⟩|⟨g,cap,cur,e,_⟩
   exact absurd h1 h0;injection e with e1;exact⟨g,e1⟩
  obtain⟨q,rfl⟩:=hq;obtain⟨i0,hinf,hz0,hz1,hz2⟩:=info_parts Zm4
  have hql:q<w1.heap.size:=by
   rcases HROW.out.2 with⟨e,_⟩|⟨g,cap,cur,e,_,hh,_⟩
   ·cases e
   injection e with e1;injection e1 with e1;injection e1 with e1 _;rw[e1];exact(Qb hh).1
  have HNEW:Hid ((w1.alloc (.cells #[] 3)).ownsRow w.heap.size 3 1 (.slice (some ⟨w1.heap.size,0,none⟩) 0 0) 0 []):=⟨rfl,.inr ⟨w1.heap.size,0,#[],rfl,by omega,heap_alloc_new _ _,Qa _,by decide,rfl,rfl⟩⟩;have HLEN:Hid ((es.bs.map (Value.int .i64)).length=nb*1):=by show _=_;rw[List.length_map,HN.out.1,Nat.mul_one]
  have HCEL:Hid (∀j u,(es.bs.map (Value.int .i64))[j]? =some u->(w1.alloc (.cells #[] 3)).cell? ((⟨q,0,none⟩:Addr).add j)=some u):=fun j u hu=>by have hj:j<nb*1:=(by rw[<- HLEN.out];exact(List.getElem?_eq_some_iff.1 hu).1);have hadd:(⟨q,0,none⟩:Addr).add j=⟨q,j,none⟩:=(by unfold Addr.add;split<;>simp_all);rw[hadd];rw[((Below.refl w1.heap.size w1).alloc (Qa _) (.cells #[] 3)).cell (p:=⟨q,j,none⟩) hql];rw[World.ownsRow.cellAt HROW.out j hj];exact hu
  have H1C:Hid (∀u∈es.bs.map (Value.int .i64),u.oneCell'=true):=fun u hu=>by obtain⟨y,_,rfl⟩:=List.mem_map.1 hu;rfl
  go_wp2_with (at_builtin;refine Zd rfl (.tmp 22) (.tmp 25) 25 rfl w.heap.size 3 i0 (.int .i64 0) 1 8 Tryz.underlying25 hinf hz0 hz1 hz2 rfl (by decide) _ 0 [] rfl HNEW.out ⟨q,0,none⟩ nb cb (es.bs.map (Value.int .i64)) rfl HLEN.out HCEL.out H1C.out (by omega) (by unfold maxLen;omega) (by omega) (by simp;omega) ?_)
  intro v4 w4 H4;obtain⟨r4,g4,d4,_,q4,p4,hv4⟩:=H4.out;have HFIN:Hid (w4.ownsRow w.heap.size 3 1 v4 nb (es.bs.map (Value.int .i64))/\Below w.heap.size w w4):=(by refine⟨r4,?_⟩;exact(HB1.out.alloc (by omega) _).grown g4 (by simp;omega) (by intro b hb;simp[Value.ownBlock] at hb;omega));subst hv4;clear H4 r4 g4 d4 HROW HNEW HCEL;go_wp2;go_ret2
  have hr:=HFIN.out.1;refine⟨_,_,rfl,?_,?_,HFIN.out.2⟩;rw[HB.out.1];unfold Ze;rw[HN.out.1];exact(by simpa using hr);rw[HB.out.2];exact ZR.nil _ _
 rw[hwd] at k0;have HB:Hid (bdI es=[]/\bdS es=es.ww):=(by show _/\_;unfold bdI bdS;rw[hwd];exact⟨rfl,rfl⟩);clear hwd;go_enter Tryz.func53,Tryz.ntmps53;go_upto_region 3 with fail;generalize hW1:w.alloc (.cells #[.bool true,.slice ab nb cb,.slice aw nw cw,.int .i64 (dd:Nat)] 172)=w1;have hB1:Below w.heap.size w w1:=(by rw[<- hW1];exact(Below.refl _ _).alloc (Qa _) _);have hX1:w1.heap[w.heap.size]? =some (.cells #[.bool true,.slice ab nb cb,.slice aw nw cw,.int .i64 (dd:Nat)] 172 (0,0)):=(by rw[<- hW1];exact heap_alloc_new _ _);have hwl:w.heap.size<w1.heap.size:=(Qb hX1).1;have x1:w1.cell? ⟨w.heap.size,2,none⟩=some (.slice aw nw cw):=cell_of_row _ _ 2 _ 172 (0,0) hX1;have HB1:Hid (Below w.heap.size w w1):=hB1;clear hW1 hX1 k0 k1 k2 k3 d0
 have hrow:w1.ownsRow 0 9 1 (.slice aw nw cw) nw (es.ww.map Value.string):=(by have h1:=(Za.of_below (S:=fun _=>False) hB1).row HS.out (fun _ _=>id);rw[HN.out.2] at h1;exact h1);have HROW:Hid (w1.ownsRow 0 9 1 (.slice aw nw cw) nw (es.ww.map Value.string)):=hrow;clear hB1 hrow
 by_cases h0:nw=0
 ·subst h0
  rcases aw with _|ad
  ·go_wp2;go_ret2
   have eL:es.ww=[]:=List.length_eq_zero_iff.1 HN.out.2;have hnew:(w1.alloc (.cells #[] 9)).heap[w1.heap.size]? =some (.cells #[] 9 (0,0)):=heap_alloc_new _ _;have hrw:(w1.alloc (.cells #[] 9)).ownsRow w.heap.size 9 1 (.slice (some ⟨w1.heap.size,0,none⟩) 0 0) 0 []:=⟨rfl,.inr ⟨w1.heap.size,0,#[],rfl,by omega,hnew,Qa _,by decide,rfl,rfl⟩⟩;refine⟨_,_,rfl,?_,?_,HB1.out.alloc (by omega) _⟩;rw[HB.out.1];exact World.ownsRow_nil _ _ 3 1;rw[HB.out.2,eL];exact hrw
  go_wp2;go_ret2
  have eL:es.ww=[]:=List.length_eq_zero_iff.1 HN.out.2;have hnew:(w1.alloc (.cells #[] 9)).heap[w1.heap.size]? =some (.cells #[] 9 (0,0)):=heap_alloc_new _ _;have hrw:(w1.alloc (.cells #[] 9)).ownsRow w.heap.size 9 1 (.slice (some ⟨w1.heap.size,0,none⟩) 0 0) 0 []:=⟨rfl,.inr ⟨w1.heap.size,0,#[],rfl,by omega,hnew,Qa _,by decide,rfl,rfl⟩⟩;refine⟨_,_,rfl,?_,?_,HB1.out.alloc (by omega) _⟩;rw[HB.out.1];exact World.ownsRow_nil _ _ 3 1;rw[HB.out.2,eL];exact hrw
 have hq:∃q,aw=some ⟨q,0,none⟩:=by
  rcases HROW.out.2 with⟨e,h1⟩|⟨g,cap,cur,e,_⟩
  exact absurd h1 h0;injection e with e1;exact⟨g,e1⟩
 obtain⟨q,rfl⟩:=hq;obtain⟨i0,hinf,hz0,hz1,hz2⟩:=info_parts ZjR
 have hql:q<w1.heap.size:=by
  rcases HROW.out.2 with⟨e,_⟩|⟨g,cap,cur,e,_,hh,_⟩
  ·cases e
  injection e with e1;injection e1 with e1;injection e1 with e1 _;rw[e1];exact(Qb hh).1
 have HNEW:Hid ((w1.alloc (.cells #[] 9)).ownsRow w.heap.size 9 1 (.slice (some ⟨w1.heap.size,0,none⟩) 0 0) 0 []):=⟨rfl,.inr ⟨w1.heap.size,0,#[],rfl,by omega,heap_alloc_new _ _,Qa _,by decide,rfl,rfl⟩⟩;have HLEN:Hid ((es.ww.map Value.string).length=nw*1):=by show _=_;rw[List.length_map,HN.out.2,Nat.mul_one]
 have HCEL:Hid (∀j u,(es.ww.map Value.string)[j]? =some u->(w1.alloc (.cells #[] 9)).cell? ((⟨q,0,none⟩:Addr).add j)=some u):=fun j u hu=>by have hj:j<nw*1:=(by rw[<- HLEN.out];exact(List.getElem?_eq_some_iff.1 hu).1);have hadd:(⟨q,0,none⟩:Addr).add j=⟨q,j,none⟩:=(by unfold Addr.add;split<;>simp_all);rw[hadd];rw[((Below.refl w1.heap.size w1).alloc (Qa _) (.cells #[] 9)).cell (p:=⟨q,j,none⟩) hql];rw[World.ownsRow.cellAt HROW.out j hj];exact hu
 have H1C:Hid (∀u∈es.ww.map Value.string,u.oneCell'=true):=fun u hu=>by obtain⟨y,_,rfl⟩:=List.mem_map.1 hu;rfl
 go_wp2_with (at_builtin;refine Zd rfl (.tmp 17) (.tmp 20) 47 rfl w.heap.size 9 i0 (.string ⟨#[]⟩) 1 16 Tryz.underlying47 hinf hz0 hz1 hz2 rfl (by decide) _ 0 [] rfl HNEW.out ⟨q,0,none⟩ nw cw (es.ww.map Value.string) rfl HLEN.out HCEL.out H1C.out (by omega) (by unfold maxLen;omega) (by omega) (by simp;omega) ?_)
 intro v4 w4 H4;obtain⟨r4,g4,d4,_,q4,p4,hv4⟩:=H4.out;have HFIN:Hid (w4.ownsRow w.heap.size 9 1 v4 nw (es.ww.map Value.string)/\Below w.heap.size w w4):=(by refine⟨r4,?_⟩;exact(HB1.out.alloc (by omega) _).grown g4 (by simp;omega) (by intro b hb;simp[Value.ownBlock] at hb;omega));subst hv4;clear H4 r4 g4 d4 HROW HNEW HCEL;go_wp2;go_ret2
 have hr:=HFIN.out.1;refine⟨_,_,rfl,?_,?_,HFIN.out.2⟩;rw[HB.out.1];exact World.ownsRow_nil _ _ 3 1;rw[HB.out.2];unfold ZR;rw[HN.out.2];exact(by simpa using hr)
def ZoG(w:World)(e:ES)(x:Ending)(w':World):Prop:=∃vb vw,x=.returned (.tuple #[vb,vw,.int .i64 0])/\ZoH w w' vb vw e
theorem Zis(gb db f:Nat)(D:DSS)(w:World)(h:Y1 w gb db D)(hk:D.ks.length<=1000)(hf:f<D.ks.length)(hb1:(D.ks.getD f ZK).e.bs.length<=1000)(hw1:(D.ks.getD f ZK).e.ww.length<=1000):Calls Tryz.prog 27 #[.pointer (some ⟨gb,0,none⟩),.int .i64 (f:Nat)] w fun e w'=>ZoG w (D.ks.getD f ZK).e e w':=by
 have g0:w.cell? ⟨gb,0,none⟩=some (.pointer (some ⟨db,0,none⟩)):=cell_of_row _ _ 0 _ 110 (0,0) h.gp;have HHF:Calls Tryz.prog 52 #[.pointer (some ⟨gb,0,none⟩),.int .i64 (f:Nat)] w fun e w'=>e=.returned (.bool true)/\w'=w:=(by have h1:=Zb7 gb db D (f:Int) w h hk;have h2:decide (0<=(f:Int)/\(f:Int)<=(D.ks.length:Int)-1)=true:=(by simp;omega);rw[h2] at h1;exact h1);obtain⟨vK,vB,vX,kvs,bvs,X,hX⟩:=h.md;have HB:=Zhn db f vK vB vX kvs bvs X D w hX hf hb1 hw1;clear h hX hk hf hb1 hw1;generalize (D.ks.getD f ZK).e=es at *;go_enter Tryz.func27,Tryz.ntmps27;go_wp2_with fail
 refine HHF.mono ?_;rintro e w3 ⟨rfl,hw3⟩;obtain rfl:=hw3.symm;go_wp2_with fail
 refine HB.mono ?_;rintro e w4 ⟨vb,vw,rfl,h4⟩;have H4:Hid (ZoH w w4 vb vw es):=h4;clear h4;go_wp2;go_ret3
 exact⟨_,_,rfl,H4.out⟩
theorem ZoX:ZmC lwF:=by
 intro va wa n vcap wcap k1 k2 ct bins L ws w hv hw hL hn hz hwd c1 c2 l1 l2 hb1 hb2;have HC:Hid (∀W:World,Below w.heap.size w W->Calls Tryz.prog 211 #[.slice va n vcap,.slice wa n wcap,.int .i64 ct,.int .i64 bins] W fun e w'=>∃v,e=.returned v/\ZcA w' W.heap.size v (lwF L ws ct bins)/\Below W.heap.size W w'):=fun W hW=>Zfo va wa n vcap wcap ct bins L ws W ((Za.of_below (S:=fun _=>False) hW).row hv (fun _ _=>id)) (hw.below hW) hL hn hz hwd hb1 hb2;have e1:(w.alloc (.cells #[.bool false,.slice none 0 0,.slice none 0 0] 170)).cell? ⟨k1,0,none⟩=some (.int .i64 ct):=(((Below.refl _ _).alloc (Qa _) _).cell (p:=⟨k1,0,none⟩) l1).trans c1
 have e2:(w.alloc (.cells #[.bool false,.slice none 0 0,.slice none 0 0] 170)).cell? ⟨k2,0,none⟩=some (.int .i64 bins):=(((Below.refl _ _).alloc (Qa _) _).cell (p:=⟨k2,0,none⟩) l2).trans c2;have HWD:Hid ((lwF L ws ct bins).wd=true/\(lwF L ws ct bins).bs=[]):=⟨rfl,rfl⟩;clear hv hw hL hn hz hwd hb1 hb2;go_enter Tryz.func210,Tryz.ntmps210;go_wp2_with fail
 refine(HC.out _ ((Below.refl _ _).alloc (Qa _) _)).mono ?_;rintro e w2 ⟨v,rfl,⟨vb,vw,hv,hEb,hE⟩,hb⟩;rw[HWD.out.1] at hv;rw[HWD.out.2] at hEb;obtain⟨ab,cb,rfl⟩:=hEb.shape;obtain⟨av,cv,hav⟩:=hE.shapeW;subst hav;subst hv;have hblk:w2.heap[w.heap.size]? =some (.cells #[.bool false,.slice none 0 0,.slice none 0 0] 170 (0,0)):=(hb.block _ (by simp)).trans (heap_alloc_new _ _);have d0:w2.cell? ⟨w.heap.size,0,none⟩=some (.bool false):=cell_of_row _ _ 0 _ 170 (0,0) hblk;have d1:w2.cell? ⟨w.heap.size,1,none⟩=some (.slice none 0 0):=cell_of_row _ _ 1 _ 170 (0,0) hblk;have d2:w2.cell? ⟨w.heap.size,2,none⟩=some (.slice none 0 0):=cell_of_row _ _ 2 _ 170 (0,0) hblk;have f0:w2.frozen? ⟨w.heap.size,0,none⟩=false:=frozen_of_row _ _ 0 _ 170 hblk;have f1:w2.frozen? ⟨w.heap.size,1,none⟩=false:=frozen_of_row _ _ 1 _ 170 hblk
 have f2:w2.frozen? ⟨w.heap.size,2,none⟩=false:=frozen_of_row _ _ 2 _ 170 hblk;have HB:Hid (Below w.heap.size w w2):=((Below.refl _ _).alloc (Qa _) _).trans (hb.mono (by simp));have HE:Hid (ZR w2 w.heap.size (.slice av (lwF L ws ct bins).ww.length cv) (lwF L ws ct bins).ww/\Ze w2 w.heap.size (.slice ab ([]:List Int).length cb) []):=⟨hE.monoW (by simp),hEb.mono (by simp)⟩;have HK:Hid (w2.heap[w.heap.size]? =some (.cells #[.bool false,.slice none 0 0,.slice none 0 0] 170 (0,0))):=hblk;clear hb hE hEb hblk HC c1 c2 l1 l2 e1 e2;generalize hnw:(lwF L ws ct bins).ww.length=nw at *;have HNW:Hid ((lwF L ws ct bins).ww.length=nw):=hnw;clear hnw;go_wp2;refine bodyPost_ret (v:=.agg #[.bool true,.slice ab 0 cb,.slice av nw cv]) (by simp[results,Tryz.results210,go_sem, *]) rfl ?_
 refine⟨_,rfl,⟨.slice ab 0 cb,.slice av nw cv,rfl,?_,?_⟩,((HB.out.setCell (Qa _) _).setCell (Qa _) _).setCell (Qa _) _⟩;exact Zl (Zl (Zl HE.out.2 HK.out (by decide)) (by exact heap_setCell_same _ _ _ _ _ _ HK.out) (by decide)) (by exact heap_setCell_same _ _ _ _ _ _ (heap_setCell_same _ _ _ _ _ _ HK.out)) (by decide);exact Zl (Zl (Zl HE.out.1 HK.out (by decide)) (by exact heap_setCell_same _ _ _ _ _ _ HK.out) (by decide)) (by exact heap_setCell_same _ _ _ _ _ _ (heap_setCell_same _ _ _ _ _ _ HK.out)) (by decide)
theorem Zna:ZmB lwF:=by refine⟨ZoX,fun L ws ct bins hL hb1 hb2=>?_⟩;have hl:(lwF L ws ct bins).ww.length<=16:=(by show((((Q3 (L.zip ws) ct).mergeSort fun x y=>decide (leW x y)).take bins.toNat).map WS.wd).length<=16;rw[List.length_map,List.length_take];omega);refine⟨⟨List.Pairwise.nil,by simp[lwF],by omega⟩,rfl,?_⟩;show ZaR true 0 (lwF L ws ct bins).ww.length<=16;simp only[ZaR,if_true];exact hl
theorem Zd7{m:Nat}{wd:Nat->Bool}{sc ct:Nat->Int}{bins:Int}{size:Nat}{l:List Int}{s:RS}(hsc:∀i,i<m+1->wd i=false->0<=sc i/\sc i<=3)(hb:2<=bins)(hb2:bins<=16)(hs:2<=size)(hs2:size<=32)(h:Zj (m+1) wd sc RS.start l 0=.ok s):ZaT lwF m wd ct bins size s:=Zig (fun _=>Zna) hsc hb hb2 hs hs2 h
structure Q0 where
 wt:Int
 ms:List Bool
 ns:List Int
 ss:List ByteArray
def QO(x:Int):Bool:=decide (Zs x 3=0/\Zs (x.tdiv 3) 4=0)
def xR(l:List Int)(at_ i:Nat):Int:=l.getD (at_+1+i) 0
def txR(cs l:List Int)(at_ i:Nat):ByteArray:=if QO (xR l at_ i)=true then⟨#[]⟩ else fdT (Qk cs i) (cfC cs i) ((xR l at_ i).tdiv 3)
def wtR(l:List Int)(at_:Nat):Int:=1+((Zs (l.getD at_ 0) 9:Nat):Int)
def YJ(cs l:List Int)(at_:Nat)(s:ByteArray):Nat->ByteArray
 |0=>s
 |i+1=>(YJ cs l at_ s i++⟨#[44]⟩)++txR cs l at_ i
def Qw(cs l:List Int)(at_ k:Nat):Q0:=⟨wtR l at_,(List.range k).map fun i=>QO (xR l at_ i),(List.range k).map fun i=>fdV (Qk cs i) (cfC cs i) ((xR l at_ i).tdiv 3),(List.range k).map fun i=>fdS (Qk cs i) ((xR l at_ i).tdiv 3)⟩
def Qz(cs l:List Int):Nat->ByteArray
 |0=>⟨#[]⟩
 |r+1=>YJ cs l (r*(ZG cs+2)) (Qz cs l r++Qm (wtR l (r*(ZG cs+2)))) (ZG cs+1)++⟨#[10]⟩
def YZ(cs l:List Int)(r:Nat):List Q0:=(List.range r).map fun j=>Qw cs l (j*(ZG cs+2)) (ZG cs+1)
theorem Zkf(cs l:List Int)(r:Nat):YZ cs l (r+1)=YZ cs l r++[Qw cs l (r*(ZG cs+2)) (ZG cs+1)]:=by simp[YZ,List.range_succ]
theorem Zmb(cs l:List Int)(at_ k:Nat):Qw cs l at_ (k+1)=⟨wtR l at_,(Qw cs l at_ k).ms++[QO (xR l at_ k)],(Qw cs l at_ k).ns++[fdV (Qk cs k) (cfC cs k) ((xR l at_ k).tdiv 3)],(Qw cs l at_ k).ss++[fdS (Qk cs k) ((xR l at_ k).tdiv 3)]⟩:=by simp[Qw,List.range_succ]
def ZZ(cs l:List Int):Nat:=min 150 (l.length/(ZG cs+2))
theorem Zky(p:Nat):(Zjf p).size<=6:=by
 unfold Zjf
 by_cases h:p<6
 ·rcases(show p=0∨p=1∨p=2∨p=3∨p=4∨p=5 by omega) with rfl|rfl|rfl|rfl|rfl|rfl<;>decide
 rw[Qc,List.getElem?_eq_none (by simp;omega)];decide
theorem Zoy(n:Int): -30<=kN n/\kN n<=30:=by have:=Yh n (show 0<61 by omega);unfold kN;omega
theorem ZmU(wd:Bool)(sc n:Int):(fdT wd sc n).size<=6:=by have hk:=Zoy n;have hd:=Zco (z:=kN n) (by omega) (by omega);unfold fdT;split;exact Zky _;split;rw[ByteArray.size_append];have e:(⟨#[46,53]⟩:ByteArray).size=2:=rfl;omega;omega
theorem Zjc(cs l:List Int)(at_ i:Nat):(txR cs l at_ i).size<=6:=by unfold txR;split;decide;exact ZmU _ _ _
theorem Zby(cs l:List Int)(at_:Nat)(s:ByteArray):∀k,(YJ cs l at_ s k).size<=s.size+7*k
 |0=>by simp[YJ]
 |k+1=>by have h1:=Zby cs l at_ s k;have h2:=Zjc cs l at_ k;have e:(⟨#[44]⟩:ByteArray).size=1:=rfl;simp only[YJ,ByteArray.size_append];omega
theorem ZhV(l:List Int)(at_:Nat):1<=wtR l at_/\wtR l at_<=9:=by have:=Yh (l.getD at_ 0) (show 0<9 by omega);unfold wtR;omega
theorem Zc5(cs l:List Int):∀r,(Qz cs l r).size<=40*r
 |0=>by simp[Qz];decide
 |r+1=>by have h1:=Zc5 cs l r;have hm:=(Zde cs).2.2.2.2.2;have hw:=ZhV l (r*(ZG cs+2));have h2:=Zco (z:=wtR l (r*(ZG cs+2))) (by omega) (by omega);have h3:=Zby cs l (r*(ZG cs+2)) (Qz cs l r++Qm (wtR l (r*(ZG cs+2)))) (ZG cs+1);have e:(⟨#[10]⟩:ByteArray).size=1:=rfl;simp only[Qz,ByteArray.size_append] at *;omega
structure ZdH where
 r:Q0
 vm:Value
 vn:Value
 vs:Value
def ZcX(p:ZdH):List Value:=[.int .i64 p.r.wt,p.vm,p.vn,p.vs]
def Q2:List ZdH->List Value
 |[]=>[]
 |p::L=>ZcX p++Q2 L
theorem Zga(A B:List ZdH):Q2 (A++B)=Q2 A++Q2 B:=by
 induction A with
 |nil=>rfl
 |cons x A ih=>simp[Q2,ih]
structure ZaD(w:World)(base:Nat)(v:Value)(L:List ZdH):Prop where
 row:w.ownsRow base 103 4 v L.length (Q2 L)
 each:∀p∈L,Z7 w base p.vm p.r.ms/\Ze w base p.vn p.r.ns/\ZR w base p.vs p.r.ss
theorem ZaD.nil(w:World)(base:Nat):ZaD w base (.slice none 0 0) []:=⟨World.ownsRow_nil _ _ _ _,by simp⟩
theorem ZaD.below{w w':World}{base:Nat}{v:Value}{L:List ZdH}(h:ZaD w base v L)(hb:Below w.heap.size w w'):ZaD w' base v L:=by have t:=Za.of_below (S:=fun _=>False) hb;exact⟨t.row h.row (fun _ _=>id),fun p hp=>⟨t.row (h.each p hp).1 (fun _ _=>id),t.row (h.each p hp).2.1 (fun _ _=>id),t.row (h.each p hp).2.2 (fun _ _=>id)⟩⟩
theorem ZaD.shape{w:World}{base:Nat}{v:Value}{L:List ZdH}(h:ZaD w base v L):∃a c,v=.slice a L.length c:=by
 rcases h.row.2 with⟨rfl,h0⟩|⟨g,cap,cur,rfl,_⟩
 exact⟨none,0,by rw[h0]⟩;exact⟨_,cap,rfl⟩
theorem ZaD.more{w w':World}{base:Nat}{v v':Value}{L:List ZdH}{p:ZdH}(h:ZaD w base v L)(hp:Z7 w base p.vm p.r.ms/\Ze w base p.vn p.r.ns/\ZR w base p.vs p.r.ss)(g:w.grownBy w' v.ownBlock)(r:w'.ownsRow base 103 4 v' (L.length+1) (Q2 L++ZcX p)):ZaD w' base v' (L++[p]):=by
 have t:Za (fun q=>v.ownBlock=some q) w w':=(Za.refl _ w).grown g (fun k hk _=>hk)
 have nt:∀{b2 e size m:Nat} {u:Value} {xs:List Value},w.ownsRow b2 e size u m xs->e≠103->∀q,u.ownBlock=some q->¬v.ownBlock=some q:=fun hr hne q hq e=>by obtain⟨cur,hc⟩:=Zf hr hq;exact Zv h.row e hc (Ne.symm hne) rfl
 refine⟨?_,fun q hq=>?_⟩
 ·rw[Zga,Qe]
  simpa [Q2] using r
 have hq2:Z7 w base q.vm q.r.ms/\Ze w base q.vn q.r.ns/\ZR w base q.vs q.r.ss:=by
  rcases List.mem_append.1 hq with e|e
  exact h.each q e;simp only[List.mem_singleton] at e;rw[e];exact hp
 exact⟨t.row hq2.1 (nt hq2.1 (by decide)),t.row hq2.2.1 (nt hq2.2.1 (by decide)),t.row hq2.2.2 (nt hq2.2.2 (by decide))⟩
def YB(w:World)(base:Nat)(v:Value)(Rs:List Q0):Prop:=∃L,L.map ZdH.r=Rs/\ZaD w base v L
structure Za7(w:World)(b:Nat)(vm vn vs:Value)(R:Q0):Prop where
 blk:w.heap[b]? =some (.cells #[.int .i64 R.wt,vm,vn,vs] 103 (0,0))
 om:Z7 w b vm R.ms
 on:Ze w b vn R.ns
 os:ZR w b vs R.ss
theorem ZnV:(Tryz.prog.info? 103).map (fun i=>(i.zero,i.size,i.bytes))=some (some (.agg #[.int .i64 0,.slice none 0 0,.slice none 0 0,.slice none 0 0]),4,80):=by kernel_rfl
section
variable {w w4:World} {b:Nat} {vm vn vs v4:Value} {R:Q0}
theorem Za7.putM{x:Bool}(h:Za7 w b vm vn vs R)(g:w.grownBy w4 vm.ownBlock)(r:Z7 w4 b v4 (R.ms++[x])):Za7 (w4.setCell ⟨b,1,none⟩ v4) b v4 vn vs ⟨R.wt,R.ms++[x],R.ns,R.ss⟩/\w4.heap[b]? =some (.cells #[.int .i64 R.wt,vm,vn,vs] 103 (0,0)):=by
 have t:Za (fun q=>vm.ownBlock=some q) w w4:=(Za.refl _ w).grown g (fun k hk _=>hk)
 have nt:∀{b2 e size m:Nat} {u:Value} {xs:List Value},w.ownsRow b2 e size u m xs->e≠4->∀q,u.ownBlock=some q->¬vm.ownBlock=some q:=fun hr hne q hq e=>by obtain⟨cur,hc⟩:=Zf hr hq;exact Zv h.om e hc (Ne.symm hne) rfl
 have hb4:=t.at_ h.blk (fun e=>Zv h.om e h.blk (by decide) rfl);exact⟨⟨heap_setCell_same _ b 1 _ 103 _ hb4,Zl r hb4 (by decide),Zl (t.row h.on (nt h.on (by decide))) hb4 (by decide),Zl (t.row h.os (nt h.os (by decide))) hb4 (by decide)⟩,hb4⟩
theorem Za7.putN{x:Int}(h:Za7 w b vm vn vs R)(g:w.grownBy w4 vn.ownBlock)(r:Ze w4 b v4 (R.ns++[x])):Za7 (w4.setCell ⟨b,2,none⟩ v4) b vm v4 vs ⟨R.wt,R.ms,R.ns++[x],R.ss⟩/\w4.heap[b]? =some (.cells #[.int .i64 R.wt,vm,vn,vs] 103 (0,0)):=by
 have t:Za (fun q=>vn.ownBlock=some q) w w4:=(Za.refl _ w).grown g (fun k hk _=>hk)
 have nt:∀{b2 e size m:Nat} {u:Value} {xs:List Value},w.ownsRow b2 e size u m xs->e≠3->∀q,u.ownBlock=some q->¬vn.ownBlock=some q:=fun hr hne q hq e=>by obtain⟨cur,hc⟩:=Zf hr hq;exact Zv h.on e hc (Ne.symm hne) rfl
 have hb4:=t.at_ h.blk (fun e=>Zv h.on e h.blk (by decide) rfl);exact⟨⟨heap_setCell_same _ b 2 _ 103 _ hb4,Zl (t.row h.om (nt h.om (by decide))) hb4 (by decide),Zl r hb4 (by decide),Zl (t.row h.os (nt h.os (by decide))) hb4 (by decide)⟩,hb4⟩
theorem Za7.putS{x:ByteArray}(h:Za7 w b vm vn vs R)(g:w.grownBy w4 vs.ownBlock)(r:ZR w4 b v4 (R.ss++[x])):Za7 (w4.setCell ⟨b,3,none⟩ v4) b vm vn v4 ⟨R.wt,R.ms,R.ns,R.ss++[x]⟩/\w4.heap[b]? =some (.cells #[.int .i64 R.wt,vm,vn,vs] 103 (0,0)):=by
 have t:Za (fun q=>vs.ownBlock=some q) w w4:=(Za.refl _ w).grown g (fun k hk _=>hk)
 have nt:∀{b2 e size m:Nat} {u:Value} {xs:List Value},w.ownsRow b2 e size u m xs->e≠9->∀q,u.ownBlock=some q->¬vs.ownBlock=some q:=fun hr hne q hq e=>by obtain⟨cur,hc⟩:=Zf hr hq;exact Zv h.os e hc (Ne.symm hne) rfl
 have hb4:=t.at_ h.blk (fun e=>Zv h.os e h.blk (by decide) rfl);exact⟨⟨heap_setCell_same _ b 3 _ 103 _ hb4,Zl (t.row h.om (nt h.om (by decide))) hb4 (by decide),Zl (t.row h.on (nt h.on (by decide))) hb4 (by decide),Zl r hb4 (by decide)⟩,hb4⟩
theorem Za7.below{w':World}(h:Za7 w b vm vn vs R)(hb:Below w.heap.size w w'):Za7 w' b vm vn vs R:=by have t:=Za.of_below (S:=fun _=>False) hb;exact⟨t.at_ h.blk id,t.row h.om (fun _ _=>id),t.row h.on (fun _ _=>id),t.row h.os (fun _ _=>id)⟩
end
def Qv:Q0:=⟨0,[],[],[]⟩
theorem ZjN(L:List ZdH):∀(i r:Nat),i<L.length->r<4->(Q2 L)[i*4+r]? =(ZcX (L.getD i ⟨Qv,.bool false,.bool false,.bool false⟩))[r]?:=by
 induction L with
 |nil=>intro i r hi;simp at hi
 | cons p L ih=>
  intro i r hi hr;have hl:(ZcX p).length=4:=rfl
  cases i with
  | zero=>
   show(ZcX p++Q2 L)[0*4+r]? =_;rw[List.getElem?_append_left (by rw[hl];omega)];simp
  | succ i=>
   show(ZcX p++Q2 L)[(i+1)*4+r]? =_;rw[List.getElem?_append_right (by rw[hl];omega),hl,show(i+1)*4+r-4=i*4+r by omega,ih i r (by simpa using hi) hr];simp
structure Zpc(w:World)(g i f:Nat)(R:Q0)(mg ml mc ng nl nc sg sl sc:Nat):Prop where
 gl:g<w.heap.size
 wt:w.cell? ⟨g,i*4,none⟩=some (.int .i64 R.wt)
 m:w.cell? ⟨g,i*4+1,none⟩=some (.slice (some ⟨mg,0,none⟩) ml mc)
 n:w.cell? ⟨g,i*4+2,none⟩=some (.slice (some ⟨ng,0,none⟩) nl nc)
 s:w.cell? ⟨g,i*4+3,none⟩=some (.slice (some ⟨sg,0,none⟩) sl sc)
 lm:f<ml
 ln:f<nl
 ls:f<sl
 mm:w.cell? ⟨mg,f,none⟩=some (.bool (R.ms.getD f false))
 nn:w.cell? ⟨ng,f,none⟩=some (.int .i64 (R.ns.getD f 0))
 ss:w.cell? ⟨sg,f,none⟩=some (.string (R.ss.getD f ⟨#[]⟩))
def Zjk(Rs:List Q0)(f:Nat):Prop:=∀R∈Rs,f<R.ms.length/\f<R.ns.length/\f<R.ss.length
theorem YB.at_{w:World}{base n cap f i:Nat}{a:Option Addr}{Rs:List Q0}(h:YB w base (.slice a n cap) Rs)(hn:n=Rs.length)(hf:Zjk Rs f)(hi:i<n):∃g mg ml mc ng nl nc sg sl sc,a=some ⟨g,0,none⟩/\Zpc w g i f (Rs.getD i Qv) mg ml mc ng nl nc sg sl sc:=by
 obtain⟨L,rfl,hx⟩:=h
 have hl:n=L.length:=by simpa using hn
 have hiL:i<L.length:=(by omega);have hr:=hx.row
 rcases hx.row.2 with⟨_,h0⟩|⟨g,cp,cur,e,_,hh,_⟩
 omega;simp only[Value.slice.injEq] at e;obtain⟨rfl,e2,rfl⟩:=e;obtain⟨p,hp⟩:∃p,p=L.getD i ⟨Qv,.bool false,.bool false,.bool false⟩:=⟨_,rfl⟩;have hpm:p∈L:=by rw[hp,Qc,Qd hiL];exact Qf _
 have hR:(L.map ZdH.r).getD i Qv=p.r:=by rw[hp,Qc,Qc,List.getElem?_map,Qd hiL];rfl
 have hc:∀r,r<4->w.cell? ⟨g,i*4+r,none⟩=(ZcX p)[r]?:=fun r hr4=>by rw[World.ownsRow.cellAt (by rw[hl] at hr;exact hr) (i*4+r) (by omega),ZjN L i r hiL hr4,hp]
 obtain⟨f1,f2,f3⟩:=hf p.r (List.mem_map.2 ⟨p,hpm,rfl⟩);obtain⟨o1,o2,o3⟩:=hx.each p hpm;obtain⟨a1,c1,e1⟩:=o1.shape;obtain⟨a2,c2,e2⟩:=o2.shape;obtain⟨a3,c3,e3⟩:=o3.shapeW;rw[e1] at o1;rw[e2] at o2;rw[e3] at o3;obtain⟨q1,rfl,_,_,k1⟩:=o1.atK rfl f1;obtain⟨q2,rfl,_,_,k2⟩:=o2.atK rfl f2;obtain⟨q3,rfl,_,k3⟩:=o3.atW rfl f3 ⟨#[]⟩;refine⟨g,q1,p.r.ms.length,c1,q2,p.r.ns.length,c2,q3,p.r.ss.length,c3,rfl,?_⟩;rw[hR];exact⟨(Qb hh).1,hc 0 (by omega),(hc 1 (by omega)).trans (by rw[<- e1];rfl),(hc 2 (by omega)).trans (by rw[<- e2];rfl),(hc 3 (by omega)).trans (by rw[<- e3];rfl),f1,f2,f3,k1.1,k2.1,k3⟩
theorem YB.below{w w':World}{base:Nat}{v:Value}{Rs:List Q0}(h:YB w base v Rs)(hb:Below w.heap.size w w'):YB w' base v Rs:=by obtain⟨L,e,hx⟩:=h;exact⟨L,e,hx.below hb⟩
theorem YB.shape{w:World}{base:Nat}{v:Value}{Rs:List Q0}(h:YB w base v Rs):∃a c,v=.slice a Rs.length c:=by obtain⟨L,rfl,hx⟩:=h;obtain⟨a,c,e⟩:=hx.shape;exact⟨a,c,by rw[e,List.length_map]⟩
def wtW(Rs:List Q0)(f:Nat)(s:ByteArray):Int:=(Rs.map fun R=>if R.ms.getD f false=false/\R.ss.getD f ⟨#[]⟩=s then R.wt else 0).sum
theorem ZnD(Rs:List Q0)(f:Nat)(s:ByteArray){k:Nat}(h:k<Rs.length):wtW (Rs.take (k+1)) f s=wtW (Rs.take k) f s+(if(Rs.getD k Qv).ms.getD f false=false/\(Rs.getD k Qv).ss.getD f ⟨#[]⟩=s then(Rs.getD k Qv).wt else 0):=by have e:Rs.take (k+1)=Rs.take k++[Rs.getD k Qv]:=(by rw[Qi h];simp[List.getD,h]);rw[e];simp[wtW]
theorem Zo9(Rs:List Q0)(f:Nat)(s:ByteArray)(h:∀R∈Rs,0<=R.wt/\R.wt<=99):0<=wtW Rs f s/\wtW Rs f s<=99*Rs.length:=by
 induction Rs with
 |nil=>simp[wtW]
 | cons R Rs ih=>
  have h1:=h R (by simp);have h2:=ih (fun x hx=>h x (by simp[hx]));simp only[wtW,List.map_cons,List.sum_cons,List.length_cons] at h2 ⊢;split<;>omega
theorem Zpw{z:Int}(h1: -9000000000000000000<=z)(h2:z<=9000000000000000000):IntKind.i64.wrap z=z:=by simp[IntKind.wrap,IntKind.bits,IntKind.signed];omega
theorem ZoF{x s:ByteArray}(h:¬x=s):(x.toList==s.toList)=false:=by
 rw[beq_eq_false_iff_ne,Lib.toList_data,Lib.toList_data];intro e;apply h
 cases x;cases s
 simp at e;rw[e]
theorem Zkv(a:Option Addr)(n cap f base:Nat)(Rs:List Q0)(s:ByteArray)(w:World)(h:YB w base (.slice a n cap) Rs)(hn:n=Rs.length)(hn2:n<=200)(hf:Zjk Rs f)(hw:∀R∈Rs,0<=R.wt/\R.wt<=99)(hfl:f<=1000):Calls Tryz.prog 54 #[.slice a n cap,.int .i64 (f:Nat),.string s] w fun e w'=>e=.returned (.int .i64 (wtW Rs f s))/\w'=w:=by
 have HR:Hid (YB w base (.slice a n cap) Rs):=h;have HN:Hid (n=Rs.length):=hn;have HF:Hid (Zjk Rs f):=hf;have HW:Hid (∀R∈Rs,0<=R.wt/\R.wt<=99):=hw;clear h hn hf hw;go_enter Tryz.func54,Tryz.ntmps54;go_wp2_with fail
 go_loopw [7,8] (fun tn ti wr=>∃k:Nat,k<=n/\ti=.int .i64 k/\tn=.int .i64 (wtW (Rs.take k) f s)/\wr=w) (fun _ ti _=>n-(intOf ti).toNat)
 case atStart=>exact⟨0,Qg _,rfl,rfl,rfl⟩
 case round=>
  obtain⟨k,hk,rfl,rfl,hwr⟩:=hrel;subst hwr
  by_cases hkn:k<n
  ·have bi1:(0:Int)<=(k:Int):=(by omega);have bi2:(k:Int)<(n:Int):=(by omega);have bf1:(0:Int)<=(f:Int):=(by omega);obtain⟨g,mg,ml,mc,ng,nl,nc,sg,sl,sc,rfl,hA⟩:=HR.out.at_ HN.out HF.out hkn;have HT:Hid (wtW (Rs.take (k+1)) f s=wtW (Rs.take k) f s+(if(Rs.getD k Qv).ms.getD f false=false/\(Rs.getD k Qv).ss.getD f ⟨#[]⟩=s then(Rs.getD k Qv).wt else 0)):=ZnD Rs f s (by rw[<- HN.out];exact hkn);have hin:=Zo9 (Rs.take k) f s (fun R hR=>HW.out R (List.mem_of_mem_take hR));rw[List.length_take,<- HN.out] at hin;have hRw:=HW.out (Rs.getD k Qv) (by rw[Qc,Qd (by rw[<- HN.out];exact hkn)];exact Qf _);obtain⟨_,c0,c1,_,c3,l1,_,l3,m1,_,m3⟩:=hA;have bm:(f:Int)<(ml:Int):=(by omega);have bs:(f:Int)<(sl:Int):=by omega
   generalize wtW (Rs.take k) f s=A at *;generalize Rs.getD k Qv=R at *;have q1:IntKind.i64.wrap (A+R.wt)=A+R.wt:=Zpw (by omega) (by omega)
   cases hm:R.ms.getD f false with
   | true=>
    rw[hm] at m1;have HQ:Hid (wtW (Rs.take (k+1)) f s=A):=(by have:=HT.out;rw[hm] at this;simp at this;exact this);clear HT hm;go_wp2;go_roundw;case rel=>exact⟨k+1,by omega,by go_num,by rw[HQ.out],trivial⟩
    case measure=>simp[intOf];omega
   | false=>
    rw[hm] at m1
    by_cases he:R.ss.getD f ⟨#[]⟩=s
    ·rw[he] at m3;have HQ:Hid (wtW (Rs.take (k+1)) f s=A+R.wt):=(by have:=HT.out;rw[hm,he] at this;simp at this;exact this);clear HT hm he;go_wp2;go_roundw;case rel=>exact⟨k+1,by omega,by go_num,by rw[HQ.out],trivial⟩
     case measure=>simp[intOf];omega
    have HQ:Hid (wtW (Rs.take (k+1)) f s=A):=(by have:=HT.out;rw[hm,if_neg (fun h=>he h.2)] at this;simp at this;exact this);clear HT hm;generalize R.ss.getD f ⟨#[]⟩=x at *;have he2:=ZoF he;go_wp2;go_roundw;case rel=>exact⟨k+1,by omega,by go_num,by rw[HQ.out],trivial⟩
    case measure=>simp[intOf];omega
  have hnk:¬(k:Int)<(n:Int):=(by omega);have HQ:Hid (wtW (Rs.take k) f s=wtW Rs f s):=(by show _=_;rw[List.take_of_length_le (by rw[<- HN.out];omega)]);go_wp2;go_ret;exact⟨by rw[HQ.out];rfl,rfl⟩
def Yk(Rs:List Q0)(f:Nat):Nat->List Int
 |0=>[]
 |k+1=>if(Rs.getD k Qv).ms.getD f false=false/\(Rs.getD k Qv).ns.getD f 0 ∉ Yk Rs f k then Yk Rs f k++[(Rs.getD k Qv).ns.getD f 0] else Yk Rs f k
theorem ZgY(Rs:List Q0)(f:Nat):∀k,(Yk Rs f k).length<=k
 |0=>by simp[Yk]
 |k+1=>by have:=ZgY Rs f k;simp only[Yk];split;simp;omega;omega
theorem Zek(Rs:List Q0)(f:Nat):∀k,(Yk Rs f k).Nodup
 |0=>by simp[Yk]
 |k+1=>by have ih:=Zek Rs f k;simp only[Yk];split;rename_i h;rw[List.nodup_append];refine⟨ih,List.pairwise_singleton _ _,fun a ha b hb e=>?_⟩;rw[List.mem_singleton] at hb;rw[e,hb] at ha;exact h.2 ha;exact ih
theorem ZgO(Rs:List Q0)(f:Nat)(x:Int):∀k,k<=Rs.length->(x∈Yk Rs f k↔∃j,j<k/\(Rs.getD j Qv).ms.getD f false=false/\(Rs.getD j Qv).ns.getD f 0=x)
 |0,_=>by simp[Yk]
 | k + 1,hk=>by
  have ih:=ZgO Rs f x k (by omega)
  have hs:(∃j,j<k+1/\(Rs.getD j Qv).ms.getD f false=false/\(Rs.getD j Qv).ns.getD f 0=x)↔(∃j,j<k/\(Rs.getD j Qv).ms.getD f false=false/\(Rs.getD j Qv).ns.getD f 0=x)∨((Rs.getD k Qv).ms.getD f false=false/\(Rs.getD k Qv).ns.getD f 0=x):=by
   constructor
   ·rintro⟨j,hj,h⟩
    by_cases e:j=k
    exact .inr (e ▸ h);exact .inl ⟨j,by omega,h⟩
   rintro(⟨j,hj,h⟩|h);exact⟨j,by omega,h⟩;exact⟨k,by omega,h⟩
  rw[hs,<- ih];simp only[Yk];split;rename_i h;rw[List.mem_append,List.mem_singleton];constructor;rintro(h1|h1);exact .inl h1;exact .inr ⟨h.1,h1.symm⟩;rintro(h1|h1);exact .inl h1;exact .inr h1.2.symm;rename_i h;constructor;exact .inl;rintro(h1|h1);exact h1;refine Classical.byContradiction fun hn=>h ⟨h1.1,?_⟩;rw[h1.2];exact hn
def Zhb(bz:List Int)(R:Q0)(f:Nat):Nat:=if R.ms.getD f false=true then bz.length+1 else bz.countP (fun b=>decide (b<R.ns.getD f 0))
def QW(S:List Int)(k:Nat)(v:Int):Bool:=(S.take k).all fun y=>!decide (y=v)
theorem Zej{S:List Int}{k:Nat}(h:k<S.length)(v:Int):QW S (k+1) v=(QW S k v&&!decide (S.getD k 0=v)):=by have e:S.take (k+1)=S.take k++[S.getD k 0]:=(by rw[Qi h];simp[List.getD,h]);unfold QW;rw[e];simp
theorem Zfy(S:List Int)(v:Int):QW S S.length v=decide (v ∉ S):=by
 unfold QW;rw[List.take_length]
 by_cases h:v∈S
 simp[h];simp only[h,not_false_eq_true,decide_true,List.all_eq_true,Bool.not_eq_true',decide_eq_false_iff_not];intro y hy e;exact h (e ▸ hy)
def Zak(S:List Int)(k:Nat)(v:Int):Bool:=!QW S k v
theorem Zi5{S:List Int}{k:Nat}(h:k<S.length)(v:Int):Zak S (k+1) v=(Zak S k v||decide (S.getD k 0=v)):=by unfold Zak;rw[Zej h];simp
def ZaZ(bz:List Int)(k:Nat)(v:Int):Nat:=(bz.take k).countP (fun b=>decide (b<v))
theorem ZjZ{bz:List Int}{k:Nat}(h:k<bz.length)(v:Int):ZaZ bz (k+1) v=ZaZ bz k v+(if bz.getD k 0<v then 1 else 0):=by have e:bz.take (k+1)=bz.take k++[bz.getD k 0]:=(by rw[Qi h];simp[List.getD,h]);unfold ZaZ;rw[e,List.countP_append];simp only[List.countP_singleton,decide_eq_true_eq]
theorem Zm9(bz:List Int)(k:Nat)(v:Int):ZaZ bz k v<=k:=by unfold ZaZ;exact Nat.le_trans List.countP_le_length (by rw[List.length_take];omega)
theorem ZcW{w:World}{b o:Nat}{v:Value}(h:w.cell? ⟨b,o,none⟩=some v):b<w.heap.size:=by apply Classical.byContradiction;intro hn;unfold World.cell? at h;simp[hn] at h
theorem Zfz(gb fk fm fc f n cap base bc bins size budget:Nat)(a ba:Option Addr)(Rs:List Q0)(bz:List Int)(w:World)(hR:YB w base (.slice a n cap) Rs)(hn:n=Rs.length)(hn2:n<=200)(hf:Zjk Rs f)(hfl:f<=1000)(hb:Ze w 0 (.slice ba bz.length bc) bz)(h1:bz.length<bins)(h2:∀x∈bz,x∈Yk Rs f n)(h3:bz.Pairwise (· < ·))(h4:0<(Yk Rs f n).length->(Yk Rs f n).length<=bins->bz.length=(Yk Rs f n).length-1)(hb2:bins<=16)(hL:∀W,Below w.heap.size w W->∀i,i<n->Calls Tryz.prog 44 #[.pointer (some ⟨gb,0,none⟩),.int .i64 (i:Nat),.int .i64 (f:Nat)] W fun e w'=>e=.returned (.tuple #[.int .i64 (Zhb bz (Rs.getD i Qv) f:Nat),.int .i64 0])/\Below W.heap.size W w'):Calls Tryz.prog 29 #[.pointer (some ⟨gb,0,none⟩),.slice a n cap,.agg #[.slice (some ⟨fk,0,none⟩) fm fc,.int .i64 (bins:Nat),.int .i64 (size:Nat),.int .i64 (budget:Nat)],.int .i64 (f:Nat),.slice ba bz.length bc] w fun e w'=>e=.returned (.bool true)/\Below w.heap.size w w':=by
 have HN:Hid (n=Rs.length):=hn;have HF:Hid (Zjk Rs f):=hf;obtain⟨w0,hw0⟩:∃w0,w0=w.alloc (.cells #[.slice (some ⟨fk,0,none⟩) fm fc,.int .i64 (bins:Nat),.int .i64 (size:Nat),.int .i64 (budget:Nat)] 37):=⟨_,rfl⟩;have HR0:Hid (w0.heap[w.heap.size]? =some (.cells #[.slice (some ⟨fk,0,none⟩) fm fc,.int .i64 (bins:Nat),.int .i64 (size:Nat),.int .i64 (budget:Nat)] 37 (0,0))/\w0.heap.size=w.heap.size+1):=⟨by rw[hw0];exact heap_alloc_new w _,by rw[hw0];simp⟩;have hB0:Below w.heap.size w w0:=(by rw[hw0];exact(Below.refl _ _).alloc (Qa _) _);have HBW:Hid (∀W,Below w0.heap.size w0 W->Below w.heap.size w W):=fun W hW=>hB0.trans (hW.mono (by have:=HR0.out.2;omega));have HRO:Hid (∀W,Below w0.heap.size w0 W->YB W base (.slice a n cap) Rs):=fun W hW=>hR.below (HBW.out W hW)
 have HC1:Hid (∀W,Below w0.heap.size w0 W->W.cell? ⟨w.heap.size,1,none⟩=some (.int .i64 (bins:Nat))):=fun W hW=>by have hlt:w.heap.size<w0.heap.size:=(by have:=HR0.out.2;omega);exact cell_of_row _ _ 1 _ 37 (0,0) ((hW.block _ hlt).trans HR0.out.1)
 have HLK:Hid (∀W,Below w0.heap.size w0 W->∀i,i<n->Calls Tryz.prog 44 #[.pointer (some ⟨gb,0,none⟩),.int .i64 (i:Nat),.int .i64 (f:Nat)] W fun e w'=>e=.returned (.tuple #[.int .i64 (Zhb bz (Rs.getD i Qv) f:Nat),.int .i64 0])/\Below W.heap.size W w'):=fun W hW i hi=>hL W (HBW.out W hW) i hi;obtain⟨nb,hnb⟩:∃nb,nb=bz.length:=⟨_,rfl⟩;have HNB:Hid (bz.length=nb):=hnb.symm
 have HBZ:Hid (∀W,Below w0.heap.size w0 W->Ze W 0 (.slice ba nb bc) bz):=fun W hW=>by rw[hnb];exact hb.below (HBW.out W hW)
 have H2:Hid (∀x∈bz,x∈Yk Rs f n):=h2;have H3:Hid (bz.Pairwise (· < ·)):=h3;have H4:Hid (0<(Yk Rs f n).length->(Yk Rs f n).length<=bins->nb=(Yk Rs f n).length-1):=(by rw[<- hnb] at h4;exact h4);rw[<- hnb] at h1 ⊢;clear hR hn hf hb h2 h3 h4 hL hnb hB0;have g1:¬(bins:Int)<=(nb:Int):=(by omega);have bf1:(0:Int)<=(f:Int):=(by omega);go_enter Tryz.func29,Tryz.ntmps29;go_wp2_with fail
 rw[<- hw0];clear hw0;go_loopw [11,12] (fun ts ti wr=>∃i:Nat,i<=n/\ti=.int .i64 i/\Hid (Ze wr w0.heap.size ts (Yk Rs f i))/\Hid (Below w0.heap.size w0 wr)) (fun _ ti _=>n-(intOf ti).toNat)
 case atStart=>exact⟨0,Qg _,rfl,Ze.nil _ _,Below.refl _ _⟩
 case round=>
  obtain⟨i,hi,rfl,HS,HB⟩:=hrel;obtain⟨sa,sc,rfl⟩:=HS.out.shape;have hsl:=ZgY Rs f i
  by_cases hin:i<n
  ·have bi1:(0:Int)<=(i:Int):=(by omega);have bi2:(i:Int)<(n:Int):=(by omega);obtain⟨g,mg,ml,mc,ng,nl,nc,sg,sl,sc2,rfl,hA⟩:=(HRO.out wr HB.out).at_ HN.out HF.out hin;have hC:∀W,Below wr.heap.size wr W->YB W base (.slice (some ⟨g,0,none⟩) n cap) Rs:=fun W hW=>HRO.out W (HB.out.trans (hW.mono HB.out.size));obtain⟨hg,c0,c1,c2,c3,l1,l2,l3,m1,m2,m3⟩:=hA;have hmg:=ZcW m1;have hng:=ZcW m2;have HCC:Hid (∀W,Below wr.heap.size wr W->W.cell? ⟨g,i*4+2,none⟩=some (.slice (some ⟨ng,0,none⟩) nl nc)/\W.cell? ⟨ng,f,none⟩=some (.int .i64 ((Rs.getD i Qv).ns.getD f 0))):=fun W hW=>⟨(hW.cell (p:=⟨g,i*4+2,none⟩) hg).trans c2,(hW.cell (p:=⟨ng,f,none⟩) hng).trans m2⟩;have bm:(f:Int)<(ml:Int):=(by omega);have bn:(f:Int)<(nl:Int):=by omega
   have HSD:Hid (Yk Rs f (i+1)=if(Rs.getD i Qv).ms.getD f false=false/\(Rs.getD i Qv).ns.getD f 0 ∉ Yk Rs f i then Yk Rs f i++[(Rs.getD i Qv).ns.getD f 0] else Yk Rs f i):=rfl;generalize (Rs.getD i Qv).ms.getD f false=mb at *;generalize (Rs.getD i Qv).ns.getD f 0=v at *;generalize Yk Rs f i=S at *;clear hC c0 c3 m3 l3 c2 m2;go_wp2_with fail
   obtain⟨wo,hwo⟩:∃wo,wo=wr:=⟨_,rfl⟩;subst hwo;go_loopw [13,14] (fun tf tk wr=>∃k:Nat,k<=S.length/\tk=.int .i64 k/\tf=.bool (!mb&&QW S k v)/\Hid (Below wo.heap.size wo wr)) (fun _ tk _=>S.length-(intOf tk).toNat)
   case atStart=>exact⟨0,Qg _,rfl,by simp[QW],Below.refl _ _⟩
   case round=>
    obtain⟨k,hk,rfl,rfl,HBI⟩:=hrel
    by_cases hks:k<S.length
    ·have bk1:(0:Int)<=(k:Int):=(by omega);have bk2:(k:Int)<(S.length:Int):=(by omega);obtain⟨q,rfl,_,_,y1,_⟩:=(HS.out.below HBI.out).atK rfl hks;obtain⟨e1,e2⟩:=HCC.out wr HBI.out;have HNS:Hid (QW S (k+1) v=(QW S k v&&!decide (S.getD k 0=v))):=Zej hks v;generalize S.getD k 0=y at *
     cases hfr:(!mb&&QW S k v) with
     | false=>
      have HQ:Hid ((!mb&&QW S (k+1) v)=false):=(by show _=_;rw[HNS.out,<- Bool.and_assoc,hfr];rfl);clear hfr HNS;go_upto_region 11 with fail;go_quiet (fail);go_wp2;go_roundw;case rel=>exact⟨k+1,by omega,by go_num,by rw[HQ.out],below_drewN HBI.out _⟩
      case measure=>simp[intOf];omega
     | true=>
      by_cases hy:y=v
      ·have HQ:Hid ((!mb&&QW S (k+1) v)=false):=(by show _=_;rw[HNS.out,hy];simp);clear hfr HNS;subst hy;go_upto_region 11 with fail;go_quiet (fail);go_wp2;go_roundw;case rel=>exact⟨k+1,by omega,by go_num,by rw[HQ.out],below_drewN HBI.out _⟩
       case measure=>simp[intOf];omega
      have hyb:(y==v)=false:=(by rw[beq_eq_false_iff_ne];exact hy);have HQ:Hid ((!mb&&QW S (k+1) v)=true):=(by show _=_;rw[HNS.out,<- Bool.and_assoc,hfr];simp[hy]);clear hfr HNS;go_upto_region 11 with fail;go_quiet (fail);go_wp2;go_roundw;case rel=>exact⟨k+1,by omega,by go_num,by rw[HQ.out];simp[hy],below_drewN HBI.out _⟩
      case measure=>simp[intOf];omega
    have hnk:¬(k:Int)<(S.length:Int):=(by omega);have hkk:k=S.length:=(by omega);subst hkk;rw[Zfy];have HB1:Hid (Below w0.heap.size w0 wr):=HB.out.trans (HBI.out.mono HB.out.size);have HS1:Hid (Ze wr w0.heap.size (.slice sa S.length sc) S):=HS.out.below HBI.out
    by_cases hfr:mb=false/\v ∉ S
    ·have HQ:Hid (Yk Rs f (i+1)=S++[v]):=(by show _=_;rw[HSD.out,if_pos hfr]);obtain⟨e1,e2⟩:=HCC.out wr HBI.out;have hfb:(!mb&&decide (v ∉ S))=true:=(by simp[hfr]);have hlo:S.length<=1000000000:=(by omega);rw[hfb];clear HSD hfr hfb HCC;go_wp2_with (at_builtin;refine Z5 rfl (.tmp 66) (.tmp 75) rfl w0.heap.size _ S v rfl (HS1.out.alloc _) wr.heap.size 1 rfl ?_ hlo ?_ ?_)
     have:=HB1.out.size;omega;intro v3 w3 H3;have hb4:Below w0.heap.size w0 w3:=by obtain⟨q1,q2,q3⟩:=H3.out;have hsz:=HB1.out.size;exact HB1.out.trans (((Below.refl _ _).alloc hsz _).grown q2 (by simp;omega) (fun k hk=>(HS1.out.lt k hk).1))
     have HF3:Hid (Ze w3 w0.heap.size v3 (S++[v])):=H3.out.1;clear H3;go_wp2;go_roundw;case rel=>exact⟨i+1,by omega,by go_num,by show Ze _ _ _ _;rw[HQ.out];exact HF3.out,hb4⟩
     case measure=>simp[intOf];omega
    have HQ:Hid (Yk Rs f (i+1)=S):=by show _=_;rw[HSD.out,if_neg hfr]
    have hfb:(!mb&&decide (v ∉ S))=false:=by
     cases mb
     simp at hfr ⊢;exact hfr;rfl
    rw[hfb];clear HSD hfr hfb HCC;go_wp2;go_roundw;case rel=>exact⟨i+1,by omega,by go_num,by show Ze _ _ _ _;rw[HQ.out];exact HS1.out,HB1.out⟩
    case measure=>simp[intOf];omega
  have hni:¬(i:Int)<(n:Int):=(by omega);have hii:i=n:=(by omega);subst hii;clear hin hi;generalize hSS:Yk Rs f i=S at *;have hsl2:S.length<=200:=(by omega);clear hsl hSS;go_wp2_with fail
  obtain⟨wo,hwo⟩:∃wo,wo=wr:=⟨_,rfl⟩;subst hwo;have HTB:Hid (∀W,Below wo.heap.size wo W->Below w0.heap.size w0 W):=fun W hW=>HB.out.trans (hW.mono HB.out.size);go_loopw [15] (fun tk wr=>∃k:Nat,k<=nb/\tk=.int .i64 k/\Hid (Below wo.heap.size wo wr)) (fun tk _=>nb-(intOf tk).toNat)
  case atStart=>exact⟨0,Qg _,rfl,Below.refl _ _⟩
  case round=>
   obtain⟨k,hk,rfl,HBK⟩:=hrel
   by_cases hkn:k<nb
   ·have bk1:(0:Int)<=(k:Int):=(by omega);have bk2:(k:Int)<(nb:Int):=(by omega);obtain⟨qb,rfl,hqb,_,x1,_⟩:=(HBZ.out wr (HTB.out wr HBK.out)).atK HNB.out hkn;have hmem:bz.getD k 0∈S:=H2.out _ (by rw[Qc,Qd (by rw[HNB.out];exact hkn)];exact Qf _);have HXS:Hid (Zak S S.length (bz.getD k 0)=true):=by show _=_;unfold Zak;rw[Zfy,decide_eq_false (fun h=>h hmem)];rfl
    have HUP:Hid (∀j,k=j+1->bz.getD j 0<bz.getD k 0):=fun j hj=>by have h1:=HNB.out;have:=List.pairwise_iff_getElem.1 H3.out j k (by omega) (by omega) (by omega);rw[Qc,Qc,Qd (by omega),Qd (by omega)];exact this
    have HCX:Hid (∀W,Below wr.heap.size wr W->∀j,j<nb->W.cell? ⟨qb,j,none⟩=some (.int .i64 (bz.getD j 0))):=fun W hW j hj=>by obtain⟨q2,e,_,_,y,_⟩:=(HBZ.out W (HTB.out W (HBK.out.trans (hW.mono HBK.out.size)))).atK HNB.out hj;simp only[Option.some.injEq,Addr.mk.injEq,and_true] at e;rw[e];exact y
    obtain⟨x,hx⟩:∃x,x=bz.getD k 0:=⟨_,rfl⟩;rw[<- hx] at x1 HXS;have HX:Hid (x=bz.getD k 0):=hx;clear hx hmem;go_wp2_with fail
    obtain⟨wk,hwk⟩:∃wk,wk=wr:=⟨_,rfl⟩;subst hwk;clear x1;go_loopw [16,17] (fun tt tj wr=>∃j:Nat,j<=S.length/\tj=.int .i64 j/\tt=.bool (Zak S j x)/\Hid (Below wk.heap.size wk wr)) (fun _ tj _=>S.length-(intOf tj).toNat)
    case atStart=>exact⟨0,Qg _,rfl,by simp[Zak,QW],Below.refl _ _⟩
    case round=>
     obtain⟨j,hj,rfl,rfl,HBJ⟩:=hrel;have x1:wr.cell? ⟨qb,k,none⟩=some (.int .i64 x):=by rw[HX.out];exact HCX.out wr HBJ.out k hkn
     by_cases hjs:j<S.length
     ·have bj1:(0:Int)<=(j:Int):=(by omega);have bj2:(j:Int)<(S.length:Int):=(by omega);obtain⟨q,rfl,_,_,y1,_⟩:=(HS.out.below (HBK.out.trans (HBJ.out.mono HBK.out.size))).atK rfl hjs;have HNS:Hid (Zak S (j+1) x=(Zak S j x||decide (S.getD j 0=x))):=Zi5 hjs x;generalize S.getD j 0=y at *
      cases hfr:Zak S j x with
      | true=>
       have HQ:Hid (Zak S (j+1) x=true):=(by show _=_;rw[HNS.out,hfr];rfl);clear hfr HNS;go_upto_region 21 with fail;go_quiet (fail);go_wp2;go_roundw;case rel=>exact⟨j+1,by omega,by go_num,by rw[HQ.out],below_drewN HBJ.out _⟩
       case measure=>simp[intOf];omega
      | false=>
       have HQ:Hid (Zak S (j+1) x=(y==x)):=(by show _=_;rw[HNS.out,hfr,Bool.false_or];by_cases h:y=x<;>simp[h]);clear hfr HNS;go_upto_region 21 with fail;go_quiet (fail);go_wp2;go_roundw;case rel=>exact⟨j+1,by omega,by go_num,by rw[HQ.out],below_drewN HBJ.out _⟩
       case measure=>simp[intOf];omega
     have hnj:¬(j:Int)<(S.length:Int):=(by omega);have hjj:j=S.length:=(by omega);subst hjj;rw[HXS.out]
     cases k with
     | zero=>
      go_upto_region 22 with fail;go_quiet (fail);go_wp2;go_roundw;case rel=>exact⟨1,by omega,by go_num,below_drewN (HBK.out.trans (HBJ.out.mono HBK.out.size)) _⟩
      case measure=>simp[intOf];omega
     | succ j=>
      have x0:wr.cell? ⟨qb,j,none⟩=some (.int .i64 (bz.getD j 0)):=HCX.out wr HBJ.out j (by omega);have hlt:=HUP.out j rfl;rw[<- HX.out] at hlt;have b1:(0:Int)<=(j:Int)+1-1:=(by omega);have b2:(j:Int)+1-1<(nb:Int):=(by omega);have b3:(0:Int)<(j:Int)+1:=(by omega);have b4:¬x<=bz.getD j 0:=(by omega);generalize bz.getD j 0=y at *;go_upto_region 22 with fail;go_quiet (fail);go_wp2;go_roundw;case rel=>exact⟨j+1+1,by omega,by go_num,below_drewN (HBK.out.trans (HBJ.out.mono HBK.out.size)) _⟩
      case measure=>simp[intOf];omega
   have hnk:¬(k:Int)<(nb:Int):=(by omega);have hC1:=HC1.out wr (HTB.out wr HBK.out);have HBN:Hid (Below w0.heap.size w0 wr):=HTB.out wr HBK.out;clear H2 H3
   have HGO:Hid ((¬(0:Int)<(S.length:Int))∨((0:Int)<(S.length:Int)/\(S.length:Int)<=(bins:Int)/\((nb:Int) !=(S.length:Int)-1)=false)∨((0:Int)<(S.length:Int)/\¬(S.length:Int)<=(bins:Int))):=by
    rcases Nat.eq_zero_or_pos S.length with h|h
    exact .inl (by omega)
    by_cases h5:S.length<=bins
    have h6:=H4.out h h5;refine .inr (.inl ⟨by omega,by omega,?_⟩);rw[bne_eq_false_iff_eq];omega;exact .inr (.inr ⟨by omega,by omega⟩)
   clear H4
   rcases HGO.out with r1|⟨r1,r2,r3⟩|⟨r1,r2⟩
   all_goals
    clear HGO;go_wp2_with fail
    clear HBK HTB HB HS r1 hC1;go_loopw [18] (fun ti wr=>∃j:Nat,j<=i/\ti=.int .i64 j/\Hid (Below w0.heap.size w0 wr)) (fun ti _=>i-(intOf ti).toNat)
    case atStart=>exact⟨0,Qg _,rfl,HBN.out⟩
    case round=>
     clear HBN;obtain⟨j,hj,rfl,HBN⟩:=hrel
     by_cases hjn:j<i
     ·have bj1:(0:Int)<=(j:Int):=(by omega);have bj2:(j:Int)<(i:Int):=(by omega);obtain⟨g,mg,ml,mc,ng,nl,nc,sg,sl,sc2,rfl,hA⟩:=(HRO.out wr HBN.out).at_ HN.out HF.out hjn;obtain⟨hg,c0,c1,c2,c3,l1,l2,l3,m1,m2,m3⟩:=hA;have hmg:=ZcW m1;have hng:=ZcW m2;have HCC:Hid (∀W,Below wr.heap.size wr W->W.cell? ⟨g,j*4+1,none⟩=some (.slice (some ⟨mg,0,none⟩) ml mc)/\W.cell? ⟨mg,f,none⟩=some (.bool ((Rs.getD j Qv).ms.getD f false))/\W.cell? ⟨g,j*4+2,none⟩=some (.slice (some ⟨ng,0,none⟩) nl nc)/\W.cell? ⟨ng,f,none⟩=some (.int .i64 ((Rs.getD j Qv).ns.getD f 0))):=fun W hW=>⟨(hW.cell (p:=⟨g,j*4+1,none⟩) hg).trans c1,(hW.cell (p:=⟨mg,f,none⟩) hmg).trans m1,(hW.cell (p:=⟨g,j*4+2,none⟩) hg).trans c2,(hW.cell (p:=⟨ng,f,none⟩) hng).trans m2⟩
      have HLJ:Hid (∀W,Below wr.heap.size wr W->Calls Tryz.prog 44 #[.pointer (some ⟨gb,0,none⟩),.int .i64 (j:Nat),.int .i64 (f:Nat)] W fun e w'=>e=.returned (.tuple #[.int .i64 (Zhb bz (Rs.getD j Qv) f:Nat),.int .i64 0])/\Below W.heap.size W w'):=fun W hW=>HLK.out W (HBN.out.trans (hW.mono HBN.out.size)) j hjn;have HBZ2:Hid (∀W,Below wr.heap.size wr W->Ze W 0 (.slice ba nb bc) bz):=fun W hW=>HBZ.out W (HBN.out.trans (hW.mono HBN.out.size));have HBR:Hid (Zhb bz (Rs.getD j Qv) f=if(Rs.getD j Qv).ms.getD f false=true then nb+1 else ZaZ bz nb ((Rs.getD j Qv).ns.getD f 0)):=(by show _=_;unfold Zhb ZaZ;rw[<- HNB.out,List.take_length]);have bm:(f:Int)<(ml:Int):=(by omega);have bn:(f:Int)<(nl:Int):=(by omega);generalize (Rs.getD j Qv).ms.getD f false=mb at *
      generalize (Rs.getD j Qv).ns.getD f 0=v at *;generalize Zhb bz (Rs.getD j Qv) f=R at *;clear c0 c1 c2 c3 m1 m2 m3 l1 l2 l3 hg hmg hng;go_wp2_with fail
      obtain⟨wk,hwk⟩:∃wk,wk=wr:=⟨_,rfl⟩;subst hwk;go_loopw [19,20] (fun tw tk wr=>∃k:Nat,k<=nb/\tk=.int .i64 k/\tw=.int .i64 (ZaZ bz k v:Nat)/\Hid (Below wk.heap.size wk wr)) (fun _ tk _=>nb-(intOf tk).toNat)
      case atStart=>exact⟨0,Qg _,rfl,rfl,Below.refl _ _⟩
      case round=>
       obtain⟨k,hk,rfl,rfl,HBJ⟩:=hrel;obtain⟨e1,e2,e3,e4⟩:=HCC.out wr HBJ.out;have hle:=Zm9 bz k v
       by_cases hkn:k<nb
       ·have bk1:(0:Int)<=(k:Int):=(by omega);have bk2:(k:Int)<(nb:Int):=(by omega);obtain⟨qb,rfl,_,_,x1,_⟩:=(HBZ2.out wr HBJ.out).atK HNB.out hkn;have HNS:Hid (ZaZ bz (k+1) v=ZaZ bz k v+(if bz.getD k 0<v then 1 else 0)):=ZjZ (by rw[HNB.out];exact hkn) v;generalize ZaZ bz k v=A at *;generalize bz.getD k 0=y at *;clear e1 e2
        by_cases hy:y<v
        ·have HQ:Hid (ZaZ bz (k+1) v=A+1):=(by show _=_;rw[HNS.out,if_pos hy]);clear HNS;go_upto_region 33 with fail;go_quiet (fail);go_wp2;go_roundw;case rel=>exact⟨k+1,by omega,by go_num,by rw[HQ.out];go_num,below_drewN HBJ.out _⟩
         case measure=>simp[intOf];omega
        have HQ:Hid (ZaZ bz (k+1) v=A):=(by show _=_;rw[HNS.out,if_neg hy];rfl);clear HNS;go_upto_region 33 with fail;go_quiet (fail);go_wp2;go_roundw;case rel=>exact⟨k+1,by omega,by go_num,by rw[HQ.out],below_drewN HBJ.out _⟩
        case measure=>simp[intOf];omega
       have hnk:¬(k:Int)<(nb:Int):=(by omega);have hkk:k=nb:=(by omega);subst hkk;clear e3 e4 hk hkn;have hbr:=HBR.out;generalize ZaZ bz k v=A at *
       cases mb with
       | true=>
        have HQ:Hid (R=k+1):=(by rw[if_pos rfl] at hbr;exact hbr);clear hbr HBR;go_wp2_with fail
        refine(HLJ.out wr HBJ.out).mono ?_;rintro e w2 ⟨rfl,hb2⟩;rw[HQ.out];have HB2:Hid (Below w0.heap.size w0 w2):=HBN.out.trans ((HBJ.out.trans (hb2.mono HBJ.out.size)).mono HBN.out.size);clear hb2;go_wp2;go_roundw;case rel=>exact⟨j+1,by omega,by go_num,HB2.out⟩
        case measure=>simp[intOf];omega
       | false=>
        have HQ:Hid (R=A):=(by rw[if_neg (by decide)] at hbr;exact hbr);clear hbr HBR;go_wp2_with fail
        refine(HLJ.out wr HBJ.out).mono ?_;rintro e w2 ⟨rfl,hb2⟩;rw[HQ.out];have HB2:Hid (Below w0.heap.size w0 w2):=HBN.out.trans ((HBJ.out.trans (hb2.mono HBJ.out.size)).mono HBN.out.size);clear hb2;go_wp2;go_roundw;case rel=>exact⟨j+1,by omega,by go_num,HB2.out⟩
        case measure=>simp[intOf];omega
     have hnj:¬(j:Int)<(i:Int):=(by omega);go_wp2;go_ret;exact⟨rfl,HBW.out _ HBN.out⟩
def plW(ww:List ByteArray)(x:ByteArray):Nat:=ww.findIdx (fun y=>decide (y=x))
def ZbP(ww:List ByteArray)(x:ByteArray)(k:Nat):Nat:=if plW ww x<k then plW ww x else ww.length
theorem Znj(ww:List ByteArray)(x:ByteArray):plW ww x<=ww.length:=List.findIdx_le_length
theorem Zpj{ww:List ByteArray}{x:ByteArray}(h:x ∉ ww):plW ww x=ww.length:=by unfold plW;rw[List.findIdx_eq_length];intro y hy;simp only[decide_eq_false_iff_not];rintro rfl;exact h hy
theorem Zmp(ww:List ByteArray)(x:ByteArray):ZbP ww x ww.length=plW ww x:=by have:=Znj ww x;unfold ZbP;split<;>omega
theorem Zom{ww:List ByteArray}{x:ByteArray}(h:plW ww x=ww.length):x ∉ ww:=fun hx=>by have:plW ww x<ww.length:=List.findIdx_lt_length_of_exists ⟨x,hx,by simp⟩;omega
theorem Zku{ww:List ByteArray}(hn:ww.Nodup){k:Nat}(hk:k<ww.length)(x:ByteArray):ZbP ww x (k+1)=if ww.getD k ⟨#[]⟩=x then k else ZbP ww x k:=by
 have eg:ww.getD k ⟨#[]⟩=ww[k]:=(by simp[List.getD,hk]);unfold ZbP
 by_cases h:ww.getD k ⟨#[]⟩=x
 have hp:plW ww x=k:=(by unfold plW;rw[List.findIdx_eq hk];refine⟨by rw[<- eg,h];simp,fun j hj=>?_⟩;simp only[decide_eq_false_iff_not];intro h3;have:=(List.pairwise_iff_getElem.1 hn) j k (by omega) hk hj;rw[h3,<- eg,h] at this;exact this rfl);rw[if_pos h,hp,if_pos (by omega)]
 have hp:plW ww x≠k:=fun hp=>by unfold plW at hp;have:=((List.findIdx_eq hk).1 hp).1;rw[<- eg] at this;exact h (of_decide_eq_true this)
 rw[if_neg h];split<;>split<;>omega
def Zhc(ww:List ByteArray)(R:Q0)(f:Nat):Nat:=if R.ms.getD f false=true then ww.length+1 else plW ww (R.ss.getD f ⟨#[]⟩)
theorem ZhS(gb fk fm fc f n cap base wc bins size budget:Nat)(ct:Int)(a wa:Option Addr)(Rs:List Q0)(ww:List ByteArray)(w:World)(hR:YB w base (.slice a n cap) Rs)(hn:n=Rs.length)(hn2:n<=200)(hf:Zjk Rs f)(hfl:f<=1000)(hwt:∀R∈Rs,0<=R.wt/\R.wt<=99)(hfm:f<fm)(hfk:w.cell? ⟨fk,f*3+2,none⟩=some (.int .i64 ct))(hs:ZR w 0 (.slice wa ww.length wc) ww)(hlw:ww.length<=1000)(h1:ww.length<=bins)(h2:∀x∈ww,ct<=wtW Rs f x)(h3:ww.Pairwise (fun x y=>wtW Rs f y<wtW Rs f x∨wtW Rs f y=wtW Rs f x/\QP x y))(h4:ww.Nodup)(h5:∀i,i<n->(Rs.getD i Qv).ms.getD f false=false->(Rs.getD i Qv).ss.getD f ⟨#[]⟩ ∉ ww->ww.length<bins->wtW Rs f ((Rs.getD i Qv).ss.getD f ⟨#[]⟩)<ct)(hL:∀W,Below w.heap.size w W->∀i,i<n->Calls Tryz.prog 44 #[.pointer (some ⟨gb,0,none⟩),.int .i64 (i:Nat),.int .i64 (f:Nat)] W fun e w'=>e=.returned (.tuple #[.int .i64 (Zhc ww (Rs.getD i Qv) f:Nat),.int .i64 0])/\Below W.heap.size W w'):Calls Tryz.prog 28 #[.pointer (some ⟨gb,0,none⟩),.slice a n cap,.agg #[.slice (some ⟨fk,0,none⟩) fm fc,.int .i64 (bins:Nat),.int .i64 (size:Nat),.int .i64 (budget:Nat)],.int .i64 (f:Nat),.slice wa ww.length wc] w fun e w'=>e=.returned (.bool true)/\Below w.heap.size w w':=by
 have HN:Hid (n=Rs.length):=hn;have HF:Hid (Zjk Rs f):=hf;have hfl2:=ZcW hfk;obtain⟨w0,hw0⟩:∃w0,w0=w.alloc (.cells #[.slice (some ⟨fk,0,none⟩) fm fc,.int .i64 (bins:Nat),.int .i64 (size:Nat),.int .i64 (budget:Nat)] 37):=⟨_,rfl⟩;have HR0:Hid (w0.heap[w.heap.size]? =some (.cells #[.slice (some ⟨fk,0,none⟩) fm fc,.int .i64 (bins:Nat),.int .i64 (size:Nat),.int .i64 (budget:Nat)] 37 (0,0))/\w0.heap.size=w.heap.size+1):=⟨by rw[hw0];exact heap_alloc_new w _,by rw[hw0];simp⟩;have hB0:Below w.heap.size w w0:=(by rw[hw0];exact(Below.refl _ _).alloc (Qa _) _);have HBW:Hid (∀W,Below w0.heap.size w0 W->Below w.heap.size w W):=fun W hW=>hB0.trans (hW.mono (by have:=HR0.out.2;omega));have HRO:Hid (∀W,Below w0.heap.size w0 W->YB W base (.slice a n cap) Rs):=fun W hW=>hR.below (HBW.out W hW)
 have HC:Hid (∀W,Below w0.heap.size w0 W->W.cell? ⟨w.heap.size,0,none⟩=some (.slice (some ⟨fk,0,none⟩) fm fc)/\W.cell? ⟨w.heap.size,1,none⟩=some (.int .i64 (bins:Nat))/\W.cell? ⟨fk,f*3+2,none⟩=some (.int .i64 ct)):=fun W hW=>by have hlt:w.heap.size<w0.heap.size:=(by have:=HR0.out.2;omega);have hX:=(hW.block _ hlt).trans HR0.out.1;exact⟨cell_of_row _ _ 0 _ 37 (0,0) hX,cell_of_row _ _ 1 _ 37 (0,0) hX,((HBW.out W hW).cell (p:=⟨fk,f*3+2,none⟩) hfl2).trans hfk⟩
 have HLK:Hid (∀W,Below w0.heap.size w0 W->∀i,i<n->Calls Tryz.prog 44 #[.pointer (some ⟨gb,0,none⟩),.int .i64 (i:Nat),.int .i64 (f:Nat)] W fun e w'=>e=.returned (.tuple #[.int .i64 (Zhc ww (Rs.getD i Qv) f:Nat),.int .i64 0])/\Below W.heap.size W w'):=fun W hW i hi=>hL W (HBW.out W hW) i hi;have H54:Hid (∀W,Below w0.heap.size w0 W->∀s,Calls Tryz.prog 54 #[.slice a n cap,.int .i64 (f:Nat),.string s] W fun e w'=>e=.returned (.int .i64 (wtW Rs f s))/\w'=W):=fun W hW s=>Zkv a n cap f base Rs s W (HRO.out W hW) HN.out hn2 HF.out hwt hfl;obtain⟨nw,hnw⟩:∃nw,nw=ww.length:=⟨_,rfl⟩;have HNW:Hid (ww.length=nw):=hnw.symm
 have HSW:Hid (∀W,Below w0.heap.size w0 W->ZR W 0 (.slice wa nw wc) ww):=fun W hW=>by rw[hnw];exact hs.below (HBW.out W hW)
 have H2:Hid (∀x∈ww,ct<=wtW Rs f x):=h2;have H3:Hid (ww.Pairwise (fun x y=>wtW Rs f y<wtW Rs f x∨wtW Rs f y=wtW Rs f x/\QP x y)):=h3;have H4:Hid (ww.Nodup):=h4;have H5:Hid (∀i,i<n->(Rs.getD i Qv).ms.getD f false=false->plW ww ((Rs.getD i Qv).ss.getD f ⟨#[]⟩)=nw->nw<bins->wtW Rs f ((Rs.getD i Qv).ss.getD f ⟨#[]⟩)<ct):=fun i hi hm hp hb=>h5 i hi hm (Zom (by rw[hp,hnw])) (by rw[<- hnw];exact hb);rw[<- hnw] at h1 hlw ⊢;clear hR hn hf hwt hfk hs h2 h3 h4 h5 hL hnw hB0 hfl2;have g1:¬(bins:Int)<(nw:Int):=(by omega);have bf1:(0:Int)<=(f:Int):=(by omega);have bf2:(f:Int)<(fm:Int):=(by omega);go_enter Tryz.func28,Tryz.ntmps28;go_wp2_with fail
 rw[<- hw0];clear hw0;go_loopw [11] (fun tk wr=>∃k:Nat,k<=nw/\tk=.int .i64 k/\Hid (Below w0.heap.size w0 wr)) (fun tk _=>nw-(intOf tk).toNat)
 case atStart=>exact⟨0,Qg _,rfl,Below.refl _ _⟩
 case round=>
  obtain⟨k,hk,rfl,HB⟩:=hrel
  by_cases hkn:k<nw
  ·have bk1:(0:Int)<=(k:Int):=(by omega);have bk2:(k:Int)<(nw:Int):=(by omega);have HCX:Hid (∀W,Below w0.heap.size w0 W->∀j,j<nw->∃q,wa=some ⟨q,0,none⟩/\q<W.heap.size/\W.cell? ⟨q,j,none⟩=some (.string (ww.getD j ⟨#[]⟩))):=fun W hW j hj=>(HSW.out W hW).atW HNW.out hj ⟨#[]⟩;obtain⟨qw,rfl,_,x1⟩:=HCX.out wr HB.out k hkn;obtain⟨c0,c1,c2⟩:=HC.out wr HB.out;have hmem:ww.getD k ⟨#[]⟩∈ww:=(by rw[Qc,Qd (by rw[HNW.out];exact hkn)];exact Qf _);have hge:¬wtW Rs f (ww.getD k ⟨#[]⟩)<ct:=by have:=H2.out _ hmem;omega
   have HUP:Hid (∀j,k=j+1->wtW Rs f (ww.getD k ⟨#[]⟩)<wtW Rs f (ww.getD j ⟨#[]⟩)∨wtW Rs f (ww.getD k ⟨#[]⟩)=wtW Rs f (ww.getD j ⟨#[]⟩)/\QP (ww.getD j ⟨#[]⟩) (ww.getD k ⟨#[]⟩)):=fun j hj=>by have h1:=HNW.out;have:=List.pairwise_iff_getElem.1 H3.out j k (by omega) (by omega) (by omega);rw[Qc,Qc,Qd (by omega),Qd (by omega)];exact this
   have h54:=H54.out wr HB.out (ww.getD k ⟨#[]⟩);generalize ww.getD k ⟨#[]⟩=x at *;generalize wtW Rs f x=N1 at *;clear hmem;go_wp2_with fail
   refine h54.mono ?_;clear h54;rintro e w1 ⟨rfl,hw1⟩;obtain rfl:=hw1.symm
   cases k with
   | zero=>
    go_wp2;go_roundw;case rel=>exact⟨1,by omega,by go_num,HB.out⟩
    case measure=>simp[intOf];omega
   | succ j=>
    obtain⟨q2,e2,_,x0⟩:=HCX.out wr HB.out j (by omega);injection e2 with e2;injection e2 with e2;subst e2;have h54:=H54.out wr HB.out (ww.getD j ⟨#[]⟩);have hup:=HUP.out j rfl;have b1:(0:Int)<=(j:Int)+1-1:=(by omega);have b2:(j:Int)+1-1<(nw:Int):=(by omega);have b3:(0:Int)<(j:Int)+1:=(by omega);generalize ww.getD j ⟨#[]⟩=y at *;generalize wtW Rs f y=N0 at *;clear HUP HCX;have HUP:Hid (N1<N0∨N1=N0/\QP y x):=hup;clear hup;go_wp2_with fail
    refine h54.mono ?_;clear h54;rintro e w2 ⟨rfl,hw2⟩;obtain rfl:=hw2.symm
    rcases HUP.out with hlt|⟨heq,hls⟩
    ·have d1:decide (N0<N1)=false:=(by simp;omega);have d2:(N0==N1)=false:=(by rw[beq_eq_false_iff_ne];omega);clear hlt;go_upto_region 11 with fail;go_big_quiet (fail);go_wp2;go_roundw;case rel=>exact⟨j+1+1,by omega,by go_num,below_drewN HB.out _⟩
     case measure=>simp[intOf];omega
    subst heq;have d1:decide (N1<N1)=false:=(by simp);have d2:(N1==N1)=true:=(by simp);have d3:Op.bytesLess y.toList x.toList=true:=(by rw[Zk6];exact decide_eq_true hls);go_upto_region 11 with fail;go_big_quiet (fail);go_wp2;go_roundw;case rel=>exact⟨j+1+1,by omega,by go_num,below_drewN HB.out _⟩
    case measure=>simp[intOf];omega
  have hnk:¬(k:Int)<(nw:Int):=(by omega);clear H2 H3;go_wp2_with fail
  go_loopw [14] (fun ti wr=>∃i:Nat,i<=n/\ti=.int .i64 i/\Hid (Below w0.heap.size w0 wr)) (fun ti _=>n-(intOf ti).toNat)
  case atStart=>exact⟨0,Qg _,rfl,HB.out⟩
  case round=>
   clear HB;obtain⟨i,hi,rfl,HB⟩:=hrel
   by_cases hin:i<n
   ·have bi1:(0:Int)<=(i:Int):=(by omega);have bi2:(i:Int)<(n:Int):=(by omega);have HTB:Hid (∀W,Below wr.heap.size wr W->Below w0.heap.size w0 W):=fun W hW=>HB.out.trans (hW.mono HB.out.size);obtain⟨g,mg,ml,mc,ng,nl,nc,sg,sl,sc,rfl,hA⟩:=(HRO.out wr HB.out).at_ HN.out HF.out hin;obtain⟨hg,c0,c1,c2,c3,l1,l2,l3,m1,m2,m3⟩:=hA;have hmg:=ZcW m1;have hsg:=ZcW m3
    have HCC:Hid (∀W,Below wr.heap.size wr W->W.cell? ⟨g,i*4+1,none⟩=some (.slice (some ⟨mg,0,none⟩) ml mc)/\W.cell? ⟨mg,f,none⟩=some (.bool ((Rs.getD i Qv).ms.getD f false))/\W.cell? ⟨g,i*4+3,none⟩=some (.slice (some ⟨sg,0,none⟩) sl sc)/\W.cell? ⟨sg,f,none⟩=some (.string ((Rs.getD i Qv).ss.getD f ⟨#[]⟩))):=fun W hW=>⟨(hW.cell (p:=⟨g,i*4+1,none⟩) hg).trans c1,(hW.cell (p:=⟨mg,f,none⟩) hmg).trans m1,(hW.cell (p:=⟨g,i*4+3,none⟩) hg).trans c3,(hW.cell (p:=⟨sg,f,none⟩) hsg).trans m3⟩;have HLJ:Hid (∀W,Below wr.heap.size wr W->Calls Tryz.prog 44 #[.pointer (some ⟨gb,0,none⟩),.int .i64 (i:Nat),.int .i64 (f:Nat)] W fun e w'=>e=.returned (.tuple #[.int .i64 (Zhc ww (Rs.getD i Qv) f:Nat),.int .i64 0])/\Below W.heap.size W w'):=fun W hW=>HLK.out W (HTB.out W hW) i hin
    have HBR:Hid (Zhc ww (Rs.getD i Qv) f=if(Rs.getD i Qv).ms.getD f false=true then nw+1 else plW ww ((Rs.getD i Qv).ss.getD f ⟨#[]⟩)):=(by show _=_;unfold Zhc;rw[HNW.out]);have HH5:=H5.out i hin;have bm:(f:Int)<(ml:Int):=(by omega);have bs:(f:Int)<(sl:Int):=(by omega);generalize (Rs.getD i Qv).ms.getD f false=mb at *;generalize (Rs.getD i Qv).ss.getD f ⟨#[]⟩=x at *;generalize Zhc ww (Rs.getD i Qv) f=R at *;have HP:Hid (ZbP ww x nw=plW ww x/\plW ww x<=nw):=⟨by rw[<- HNW.out];exact Zmp ww x,by rw[<- HNW.out];exact Znj ww x⟩;have HH:Hid (mb=false->plW ww x=nw->nw<bins->wtW Rs f x<ct):=HH5;clear c0 c1 c2 c3 m1 m2 m3 l1 l2 l3 hg hmg hsg HH5;go_wp2_with fail
    obtain⟨wk,hwk⟩:∃wk,wk=wr:=⟨_,rfl⟩;subst hwk;go_loopw [15,16] (fun tw tk wr=>∃k:Nat,k<=nw/\tk=.int .i64 k/\tw=.int .i64 (ZbP ww x k:Nat)/\Hid (Below wk.heap.size wk wr)) (fun _ tk _=>nw-(intOf tk).toNat)
    case atStart=>exact⟨0,Qg _,rfl,by rw[<- HNW.out];rfl,Below.refl _ _⟩
    case round=>
     obtain⟨k,hk,rfl,rfl,HBJ⟩:=hrel;obtain⟨e1,e2,e3,e4⟩:=HCC.out wr HBJ.out
     by_cases hkn:k<nw
     ·have bk1:(0:Int)<=(k:Int):=(by omega);have bk2:(k:Int)<(nw:Int):=(by omega);obtain⟨qw,rfl,_,x1⟩:=(HSW.out wr (HTB.out wr HBJ.out)).atW HNW.out hkn ⟨#[]⟩;have HNS:Hid (ZbP ww x (k+1)=if ww.getD k ⟨#[]⟩=x then k else ZbP ww x k):=Zku H4.out (by rw[HNW.out];exact hkn) x;generalize ZbP ww x k=A at *;generalize ww.getD k ⟨#[]⟩=y at *;clear e1 e2
      by_cases hy:y=x
      ·have HQ:Hid (ZbP ww x (k+1)=k):=(by show _=_;rw[HNS.out,if_pos hy]);clear HNS;subst hy;go_upto_region 20 with fail;go_big_quiet (fail);go_wp2;go_roundw;case rel=>exact⟨k+1,by omega,by go_num,by rw[HQ.out],below_drewN HBJ.out _⟩
       case measure=>simp[intOf];omega
      have HQ:Hid (ZbP ww x (k+1)=A):=(by show _=_;rw[HNS.out,if_neg hy]);have hyb:=ZoF hy;clear HNS;go_upto_region 20 with fail;go_big_quiet (fail);go_wp2;go_roundw;case rel=>exact⟨k+1,by omega,by go_num,by rw[HQ.out],below_drewN HBJ.out _⟩
      case measure=>simp[intOf];omega
     have hnk:¬(k:Int)<(nw:Int):=(by omega);have hkk:k=nw:=(by omega);subst hkk;rw[HP.out.1];obtain⟨c0,c1,c2⟩:=HC.out wr (HTB.out wr HBJ.out);have HW54:Hid (∀d,Calls Tryz.prog 54 #[.slice (some ⟨g,0,none⟩) n cap,.int .i64 (f:Nat),.string x] (wr.drewN d) fun e w'=>e=.returned (.int .i64 (wtW Rs f x))/\w'=wr.drewN d):=fun d=>H54.out (wr.drewN d) (HTB.out _ (below_drewN HBJ.out _)) x;have hbr:=HBR.out;have hF:=HP.out.2;have HHH:Hid (mb=false->plW ww x=k->k<bins->wtW Rs f x<ct):=HH.out;clear hk hkn HBR HP HH;generalize plW ww x=F at *;generalize wtW Rs f x=NX at *
     have HTAIL:Hid (∀d W2,Below (wr.drewN d).heap.size (wr.drewN d) W2->Below w0.heap.size w0 W2):=fun d W2 h2=>by have hd:Below wk.heap.size wk (wr.drewN d):=below_drewN HBJ.out _;exact(HTB.out _ (hd.trans (h2.mono hd.size)))
     cases mb with
     | true=>
      have HQ:Hid (R=k+1):=(by rw[if_pos rfl] at hbr;exact hbr);clear hbr HHH
      rcases Nat.lt_or_ge F k with hFk|hFk
      ·have q1:((F:Int)==(k:Int))=false:=(by rw[beq_eq_false_iff_ne];omega);go_upto_region 22 with fail;go_big_quiet (first|(go_at_call 54;exact(HW54.out _).mono (fun _ _ h=>⟨h.1,_,h.2⟩)));go_wp2_with fail
       refine(HLJ.out _ (below_drewN HBJ.out _)).mono ?_;rintro e w2 ⟨rfl,hb2⟩;rw[HQ.out];have HB2:Hid (Below w0.heap.size w0 w2):=HTAIL.out _ _ hb2;clear hb2;go_wp2;go_roundw;case rel=>exact⟨i+1,by omega,by go_num,HB2.out⟩
       case measure=>simp[intOf];omega
      have hFF:F=k:=(by omega);subst hFF;go_upto_region 22 with fail;go_big_quiet (first|(go_at_call 54;exact(HW54.out _).mono (fun _ _ h=>⟨h.1,_,h.2⟩)));go_wp2_with fail
      refine(HLJ.out _ (below_drewN HBJ.out _)).mono ?_;rintro e w2 ⟨rfl,hb2⟩;rw[HQ.out];have HB2:Hid (Below w0.heap.size w0 w2):=HTAIL.out _ _ hb2;clear hb2;go_wp2;go_roundw;case rel=>exact⟨i+1,by omega,by go_num,HB2.out⟩
      case measure=>simp[intOf];omega
     | false=>
      have HQ:Hid (R=F):=(by rw[if_neg (by decide)] at hbr;exact hbr);clear hbr
      rcases Nat.lt_or_ge F k with hFk|hFk
      ·have q1:((F:Int)==(k:Int))=false:=(by rw[beq_eq_false_iff_ne];omega);clear HHH;go_upto_region 22 with fail;go_big_quiet (first|(go_at_call 54;exact(HW54.out _).mono (fun _ _ h=>⟨h.1,_,h.2⟩)));go_wp2_with fail
       refine(HLJ.out _ (below_drewN HBJ.out _)).mono ?_;rintro e w2 ⟨rfl,hb2⟩;rw[HQ.out];have HB2:Hid (Below w0.heap.size w0 w2):=HTAIL.out _ _ hb2;clear hb2;go_wp2;go_roundw;case rel=>exact⟨i+1,by omega,by go_num,HB2.out⟩
       case measure=>simp[intOf];omega
      have hFF:F=k:=(by omega);subst hFF
      by_cases hro:F<bins
      ·have q2:decide ((F:Int)<(bins:Int))=true:=(by simp;omega);have q3:decide (ct<=NX)=false:=(by have:=HHH.out rfl rfl hro;simp;omega);clear HHH;go_upto_region 22 with fail;go_big_quiet (first|(go_at_call 54;exact(HW54.out _).mono (fun _ _ h=>⟨h.1,_,h.2⟩)));go_wp2_with fail
       refine(HLJ.out _ (below_drewN HBJ.out _)).mono ?_;rintro e w2 ⟨rfl,hb2⟩;rw[HQ.out];have HB2:Hid (Below w0.heap.size w0 w2):=HTAIL.out _ _ hb2;clear hb2;go_wp2;go_roundw;case rel=>exact⟨i+1,by omega,by go_num,HB2.out⟩
       case measure=>simp[intOf];omega
      have q2:decide ((F:Int)<(bins:Int))=false:=(by simp;omega);clear HHH;go_upto_region 22 with fail;go_big_quiet (first|(go_at_call 54;exact(HW54.out _).mono (fun _ _ h=>⟨h.1,_,h.2⟩)));go_wp2_with fail
      refine(HLJ.out _ (below_drewN HBJ.out _)).mono ?_;rintro e w2 ⟨rfl,hb2⟩;rw[HQ.out];have HB2:Hid (Below w0.heap.size w0 w2):=HTAIL.out _ _ hb2;clear hb2;go_wp2;go_roundw;case rel=>exact⟨i+1,by omega,by go_num,HB2.out⟩
      case measure=>simp[intOf];omega
   have hni:¬(i:Int)<(n:Int):=(by omega);go_wp2;go_ret;exact⟨rfl,HBW.out _ HB.out⟩
theorem Zbc(a b:ByteArray):Zb (a++b)=Zb a++Zb b:=by unfold Zb;rw[ByteArray.data_append,Array.toList_append,List.map_append]
def Zmf(wd:Bool)(u:Int):List Int->ZA->List Int->Option (ZA×List Int)
 |[],p,bs=>some (p,bs)
 | c::r,p,bs=>match Z6 wd u p bs c with
  |some (p',bs')=>Zmf wd u r p' bs'
  |none=>none
def okF(wd:Bool)(u:Int)(bytes:List Int)(miss:Bool)(num:Int)(word:List Int):Bool:=
 match Zmf wd u bytes part0 [] with
 |none=>false
 |some (p,bs)=>YX p.st&&(Z6 wd u p bs 44).isNone&&(Z6 wd u p bs 10).isNone&&decide (Zcc p=num)&&(decide (p.st=0)==miss)&&decide (bs=word)
theorem Zoh(wd:Bool){sc:Nat}(h:sc<=3):okF wd (ZC sc) [] true 0 []=true:=by rcases(show sc=0∨sc=1∨sc=2∨sc=3 by omega) with rfl|rfl|rfl|rfl<;>cases wd<;>decide
theorem Zoj{p:Nat}(h:p<6):okF true (ZC 0) (Zb (Zjf p)) false 0 (Zb (ZnB p))=true:=by rcases(show p=0∨p=1∨p=2∨p=3∨p=4∨p=5 by omega) with rfl|rfl|rfl|rfl|rfl|rfl<;>kernel_rfl
theorem Zoi:((List.range 4).all fun sc=>(List.range 61).all fun j=>okF false (ZC sc) (Zb (Qm ((j:Int)-30))) false (((j:Int)-30)*ZC sc) [])=true:=by kernel_rfl
theorem Zl0:((List.range 3).all fun sc=>(List.range 31).all fun j=>okF false (ZC (sc+1)) (Zb (Qm (j:Int)++⟨#[46,53]⟩)) false ((j:Int)*ZC (sc+1)+ZC (sc+1)/2) [])=true:=by kernel_rfl
theorem Zo0{sc:Nat}{k:Int}(hs:sc<=3)(h1: -30<=k)(h2:k<=30):okF false (ZC sc) (Zb (Qm k)) false (k*ZC sc) []=true:=by
 have h:=Zoi;rw[List.all_eq_true] at h;have h3:=h sc (by simp;omega);rw[List.all_eq_true] at h3;have h4:=h3 (k+30).toNat (by simp;omega)
 rwa [show(((k+30).toNat:Nat):Int)-30=k by omega] at h4
theorem Zog{sc:Nat}{k:Int}(hs0:0<sc)(hs:sc<=3)(h1:0<=k)(h2:k<=30):okF false (ZC sc) (Zb (Qm k++⟨#[46,53]⟩)) false (k*ZC sc+ZC sc/2) []=true:=by
 have h:=Zl0;rw[List.all_eq_true] at h;have h3:=h (sc-1) (by simp;omega);rw[List.all_eq_true,show sc-1+1=sc by omega] at h3;have h4:=h3 k.toNat (by simp;omega)
 rwa [show((k.toNat:Nat):Int)=k by omega] at h4
def ZhE(cs l:List Int)(at_ i:Nat):Int:=if QO (xR l at_ i)=true then 0 else fdV (Qk cs i) (cfC cs i) ((xR l at_ i).tdiv 3)
def ZhU(cs l:List Int)(at_ i:Nat):ByteArray:=if QO (xR l at_ i)=true then⟨#[]⟩ else fdS (Qk cs i) ((xR l at_ i).tdiv 3)
theorem Zi7(b:ByteArray):strOfNums (Zb b)=b:=by
 cases b with
 | mk d=>
  unfold strOfNums Zb;congr 1;apply Array.ext';simp[List.map_map,Function.comp_def]
theorem ZiR(cs l:List Int)(at_ i:Nat):okF (Qk cs i) (ZC (cfC cs i).toNat) (Zb (txR cs l at_ i)) (QO (xR l at_ i)) (ZhE cs l at_ i) (Zb (ZhU cs l at_ i))=true:=by
 have hp4:=Yh (Z9 cs (4+i)) (show 0<4 by omega);have hC:0<=cfC cs i/\cfC cs i<=3:=(by unfold cfC;split<;>omega);unfold txR ZhE ZhU
 cases hg:QO (xR l at_ i) with
 | true=>
  simp only[if_true];exact Zoh (Qk cs i) (sc:=(cfC cs i).toNat) (by omega)
 | false=>
  simp only[Bool.false_eq_true,if_false];generalize (xR l at_ i).tdiv 3=x
  cases hw:Qk cs i with
  | true=>
   have hc0:cfC cs i=0:=(by unfold cfC;rw[hw];rfl);rw[hc0];unfold fdT fdV fdS;simp only[if_true];exact Zoj (Yh x (by omega))
  | false=>
   have hk:=Zoy x;unfold fdT fdV fdS;simp only[Bool.false_eq_true,if_false]
   cases hh:Zed (cfC cs i) x with
   | true=>
    unfold Zed at hh;rw[decide_eq_true_eq] at hh;simp only[if_true];have:=Zog (sc:=(cfC cs i).toNat) (k:=kN x) (by omega) (by omega) hh.2.2 (by omega);exact this
   | false=>
    simp only[Bool.false_eq_true,if_false];exact Zo0 (sc:=(cfC cs i).toNat) (by omega) hk.1 hk.2
section
variable {n:Nat} {wd:Nat->Bool} {sc:Nat->Int}
theorem ZfG(s:RS)(hfl:s.fl=true)(hws:s.ws.length≠200):∀(l:List Int) (p:ZA) (bs:List Int) (k:Nat) {p':ZA} {bs':List Int},Zmf (wd s.row.length) (ZC (sc s.row.length).toNat) l p bs=some (p',bs')->Zj n wd sc {s with p:=p,bs:=bs} l k=.ok {s with p:=p',bs:=bs'}
 |[],p,bs,k,p',bs',h=>by unfold Zmf at h;injection h with h;injection h with h1 h2;subst h1 h2;rfl
 | c ::r,p,bs,k,p',bs',h=>by
  unfold Zmf at h
  cases hs:Z6 (wd s.row.length) (ZC (sc s.row.length).toNat) p bs c with
  |none=>rw[hs] at h;cases h
  | some q=>
   obtain⟨p1,bs1⟩:=q;rw[hs] at h;have e:Yx n wd sc {s with p:=p,bs:=bs} c=.ok {s with p:=p1,bs:=bs1}:=(by unfold Yx;rw[if_neg hws,if_neg (by simp[hfl])];simp only[hs]);unfold Zj;rw[e];exact ZfG s hfl hws r p1 bs1 (k+1) h
theorem ZdC{s:RS}(hfl:s.fl=true)(hws:s.ws.length≠200)(hp:s.p=part0)(hbs:s.bs=[]){bytes:List Int}{miss:Bool}{num:Int}{word:ByteArray}(hok:okF (wd s.row.length) (ZC (sc s.row.length).toNat) bytes miss num (Zb word)=true)(k:Nat):Zj n wd sc s (bytes++[QX s.row.length n]) k=.ok (Y8 n s (s.row++[⟨miss,num,word⟩])):=by
 unfold okF at hok
 cases hr:Zmf (wd s.row.length) (ZC (sc s.row.length).toNat) bytes part0 [] with
 |none=>rw[hr] at hok;cases hok
 | some q=>
  obtain⟨p,bs⟩:=q;rw[hr] at hok;simp only[Bool.and_eq_true,decide_eq_true_eq,beq_iff_eq,Option.isNone_iff_eq_none] at hok;obtain⟨⟨⟨⟨⟨h1,h2⟩,h3⟩,h4⟩,h5⟩,h6⟩:=hok;have h0:=ZfG (n:=n) (wd:=wd) (sc:=sc) s hfl hws bytes part0 [] k hr;rw[show({s with p:=part0,bs:=[]}:RS)=s by rw[<- hp,<- hbs]] at h0;rw[Z0,h0];simp only[Zj];have hn:Z6 (wd s.row.length) (ZC (sc s.row.length).toNat) p bs (QX s.row.length n)=none:=by unfold QX;split;exact h3;exact h2
  have e:Yx n wd sc {s with p:=p,bs:=bs} (QX s.row.length n)=.ok (Y8 n s (s.row++[⟨miss,num,word⟩])):=(by unfold Yx;rw[if_neg hws,if_neg (by simp[hfl])];simp only[hn];rw[if_pos (by first|exact⟨rfl,h1⟩|exact⟨trivial,h1⟩)];have ev:Y0 p bs=⟨miss,num,word⟩:=(by unfold Y0;rw[h4,h5,h6,Zi7]);rw[ev];rfl);rw[e]
end
def QI(cs l:List Int)(at_ i:Nat):VS:=⟨QO (xR l at_ i),ZhE cs l at_ i,ZhU cs l at_ i⟩
def hB(cs l:List Int)(at_:Nat):Nat->List Int
 |0=>[]
 |k+1=>hB cs l at_ k++(Zb (txR cs l at_ k)++[44])
theorem ZcM(cs l:List Int)(at_:Nat)(s:ByteArray):∀k,Zb (YJ cs l at_ s k)++[44]=Zb s++(44::hB cs l at_ k)
 |0=>by simp[YJ,hB]
 |k+1=>by have ih:=ZcM cs l at_ s k;have e:Zb (⟨#[44]⟩:ByteArray)=[44]:=rfl;simp only[YJ,Zbc,e];rw[List.append_assoc,List.append_assoc,<- List.append_assoc (Zb (YJ cs l at_ s k)),ih];simp[hB]
theorem Zi4(cs l:List Int)(at_:Nat)(S:RS)(hfl:S.fl=true)(hws:S.ws.length≠200)(hrow:S.row=[])(hp:S.p=part0)(hbs:S.bs=[])(q:Nat):∀k,k<=ZG cs->Zj (ZG cs+1) (Qk cs) (cfC cs) S (hB cs l at_ k) q=.ok {S with row:=(List.range k).map (QI cs l at_)}
 |0,_=>by simp only[hB,Zj,List.range_zero,List.map_nil];rw[<- hrow]
 | k+1,hk=>by
  have ih:=Zi4 cs l at_ S hfl hws hrow hp hbs q k (by omega);simp only[hB];rw[Z0,ih];simp only;have hl:((List.range k).map (QI cs l at_)).length=k:=(by simp);have hs:QX k (ZG cs+1)=44:=(by unfold QX;rw[if_neg (by omega)]);have h:=ZdC (n:=ZG cs+1) (wd:=Qk cs) (sc:=cfC cs) (s:={S with row:=(List.range k).map (QI cs l at_)}) hfl hws hp hbs (bytes:=Zb (txR cs l at_ k)) (miss:=QO (xR l at_ k)) (num:=ZhE cs l at_ k) (word:=ZhU cs l at_ k) (by rw[show({S with row:=(List.range k).map (QI cs l at_)}:RS).row.length=k from hl];exact ZiR cs l at_ k) (q+(hB cs l at_ k).length);rw[show({S with row:=(List.range k).map (QI cs l at_)}:RS).row.length=k from hl,hs] at h;rw[h];unfold Y8;rw[if_neg (by simp;omega)]
  have er:(List.range k).map (QI cs l at_)++[⟨QO (xR l at_ k),ZhE cs l at_ k,ZhU cs l at_ k⟩]=(List.range (k+1)).map (QI cs l at_):=(by rw[List.range_succ,List.map_append];rfl);rw[er,hp,hbs]
def stR(cs l:List Int):Nat->RS
 |0=>RS.start
 |r+1=>Y8 (ZG cs+1) {stR cs l r with wt:=wtR l (r*(ZG cs+2)),fl:=true} ((List.range (ZG cs+1)).map (QI cs l (r*(ZG cs+2))))
structure ZpG(cs l:List Int)(r:Nat)(s:RS):Prop where
 ws:s.ws=(List.range r).map fun j=>wtR l (j*(ZG cs+2))
 col:∀i,i<ZG cs+1->s.cols i=(List.range r).map fun j=>QI cs l (j*(ZG cs+2)) i
 wt:s.wt=0
 fl:s.fl=false
 row:s.row=[]
 p:s.p=part0
 bs:s.bs=[]
theorem Zcg(cs l:List Int):∀r,ZpG cs l r (stR cs l r)
 |0=>⟨rfl,fun _ _=>rfl,rfl,rfl,rfl,rfl,rfl⟩
 |r+1=>by have ih:=Zcg cs l r;unfold stR Y8;rw[if_pos (by simp)];refine⟨?_,fun i hi=>?_,rfl,rfl,rfl,rfl,rfl⟩;show(stR cs l r).ws++_=_;rw[ih.ws,List.range_succ,List.map_append];rfl;show(if i<ZG cs+1 then(stR cs l r).cols i++_ else(stR cs l r).cols i)=_;rw[if_pos hi,ih.col i hi,show List.range (r+1)=List.range r++[r] from List.range_succ,List.map_append];congr 1;simp[List.getD,hi]
theorem Zgl{n:Nat}{wd:Nat->Bool}{sc:Nat->Int}{s:RS}{z:Int}(h1:1<=z)(h2:z<=9)(hfl:s.fl=false)(hws:s.ws.length≠200)(hwt:s.wt=0)(k:Nat):Zj n wd sc s (Zb (Qm z)++[44]) k=.ok {s with wt:=z,fl:=true}:=by
 have eb:Zb (Qm z)=[48+z]:=by rcases(show z=1∨z=2∨z=3∨z=4∨z=5∨z=6∨z=7∨z=8∨z=9 by omega) with rfl|rfl|rfl|rfl|rfl|rfl|rfl|rfl|rfl<;>kernel_rfl
 have e1:Yx n wd sc s (48+z)=.ok {s with wt:=z}:=(by unfold Yx;rw[if_neg hws,if_pos hfl];have:Zn s.wt (48+z)=some (some z):=(by unfold Zn;rw[hwt,if_neg (by omega),if_pos (by omega)];congr 2;omega);rw[this]);have e2:Yx n wd sc {s with wt:=z} 44=.ok {s with wt:=z,fl:=true}:=(by unfold Yx;rw[if_neg hws,if_pos hfl];have:Zn z 44=some none:=(by unfold Zn;rw[if_pos ⟨rfl,by omega⟩]);rw[this]);rw[eb];simp only[List.singleton_append,Zj,e1,e2]
theorem ZhP(cs l:List Int):∀r,r<=150->Zj (ZG cs+1) (Qk cs) (cfC cs) RS.start (Zb (Qz cs l r)) 0=.ok (stR cs l r)
 |0,_=>rfl
 | r+1,hr=>by
  have ih:=ZhP cs l r (by omega);have hS:=Zcg cs l r;obtain⟨at_,hat⟩:∃at_,at_=r*(ZG cs+2):=⟨_,rfl⟩;have hw:=ZhV l at_;have hwl:(stR cs l r).ws.length≠200:=by rw[hS.ws];simp;omega
  have eb:Zb (Qz cs l (r+1))=Zb (Qz cs l r)++((Zb (Qm (wtR l at_))++[44])++(hB cs l at_ (ZG cs)++(Zb (txR cs l at_ (ZG cs))++[10]))):=by have e10:Zb (⟨#[10]⟩:ByteArray)=[10]:=rfl;have e44:Zb (⟨#[44]⟩:ByteArray)=[44]:=rfl;have hf:=ZcM cs l at_ (Qz cs l r++Qm (wtR l at_)) (ZG cs);simp only[Qz,<- hat,YJ,Zbc,e10,e44];rw[hf,Zbc];simp
  rw[eb,Z0,ih];simp only;rw[Z0,Zgl hw.1 hw.2 hS.fl hwl hS.wt];simp only;rw[Z0,Zi4 cs l at_ {stR cs l r with wt:=wtR l at_,fl:=true} rfl hwl hS.row hS.p hS.bs _ (ZG cs) (Qa _)];simp only;have hl:((List.range (ZG cs)).map (QI cs l at_)).length=ZG cs:=(by simp);have hs:QX (ZG cs) (ZG cs+1)=10:=by unfold QX;rw[if_pos rfl]
  have h:=ZdC (n:=ZG cs+1) (wd:=Qk cs) (sc:=cfC cs) (s:={stR cs l r with wt:=wtR l at_,fl:=true,row:=(List.range (ZG cs)).map (QI cs l at_)}) rfl hwl hS.p hS.bs (bytes:=Zb (txR cs l at_ (ZG cs))) (miss:=QO (xR l at_ (ZG cs))) (num:=ZhE cs l at_ (ZG cs)) (word:=ZhU cs l at_ (ZG cs)) (by rw[show({stR cs l r with wt:=wtR l at_,fl:=true,row:=(List.range (ZG cs)).map (QI cs l at_)}:RS).row.length=ZG cs from hl];exact ZiR cs l at_ (ZG cs)) (0+(Zb (Qz cs l r)).length+(Zb (Qm (wtR l at_))++[44]).length+(hB cs l at_ (ZG cs)).length);rw[show({stR cs l r with wt:=wtR l at_,fl:=true,row:=(List.range (ZG cs)).map (QI cs l at_)}:RS).row.length=ZG cs from hl,hs] at h;rw[h]
  have er:(List.range (ZG cs)).map (QI cs l at_)++[⟨QO (xR l at_ (ZG cs)),ZhE cs l at_ (ZG cs),ZhU cs l at_ (ZG cs)⟩]=(List.range (ZG cs+1)).map (QI cs l at_):=(by rw[List.range_succ,List.map_append];rfl);simp only[er];show _=Except.ok (Y8 (ZG cs+1) {stR cs l r with wt:=wtR l (r*(ZG cs+2)),fl:=true} ((List.range (ZG cs+1)).map (QI cs l (r*(ZG cs+2)))));rw[<- hat];unfold Y8;rw[if_pos (by simp)]
end Go.Proofs.YtfcgnpchbcmdeaaGreat
