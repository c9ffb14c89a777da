import Derived.Test.YtfcgnpchbcmdeaaGreatZfap
import Derived.Test.YtfcgnpchbcmdeaaGreatZfao
import Derived.Test.YtfcgnpchbcmdeaaGreatZfac
namespace Go.Proofs.YtfcgnpchbcmdeaaGreat
set_option linter.unusedSimpArgs false
set_option maxRecDepth 100000
set_option maxHeartbeats 2000000
open Go.RowKit
theorem ZmZ(n:Nat):List.replicate (n*4) (Value.int .i64 0)=ZO (List.replicate n e0):=by
 induction n with
 |zero=>rfl
 | succ n ih=>
  rw[List.replicate_succ,show(n+1)*4=n*4+4 by omega];show _=YL e0++ZO (List.replicate n e0);rw[<- ih];rfl
theorem ZlT(n:Nat):(madeCells #[.int .i64 0,.int .i64 0,.int .i64 0,.int .i64 0] (n*4)).toList=ZO (List.replicate n e0):=by
 have h1:(madeCells #[.int .i64 0,.int .i64 0,.int .i64 0,.int .i64 0] (n*4)).toList=List.replicate (n*4) (.int .i64 0):=by
  apply List.ext_getElem;simp[madeCells];intro i h1 h2;simp[madeCells];have:i%4<4:=Nat.mod_lt _ (by omega)
  rcases(show i%4=0∨i%4=1∨i%4=2∨i%4=3 by omega) with e|e|e|e<;>simp[e]
 rw[h1,ZmZ]
theorem ZlJ{A B:List Zm}{x:Zm}{k:Nat}(hk:A.length=k)(y:Int):(ZO (A++x::B)).set (k*4) (.int .i64 y)=ZO (A++⟨y,x.lo,x.hi,x.wt⟩::B):=by have:=ZeI (B:=B) (x:=x) hk (show 0<4 by omega) (.int .i64 y);rw[Nat.add_zero] at this;rw[this,Yg];rfl
def ZbM(P:List (Int×Int))(k:Nat):List Zm:=(P.take k).map YQ++List.replicate (P.length-k) e0
theorem ZlE(P:List (Int×Int)){k:Nat}(h:k<=P.length):(ZbM P k).length=P.length:=by simp[ZbM];omega
theorem Zl4{vs ws:List Int}{k:Nat}(hk:k<(Zg vs ws).length):(Zg vs ws)[k]=(Q1 (vs.getD k 0),Zbw (ws.getD k 0)):=by have h1:=Za1 vs ws;simp[Zg,List.getD,show k<vs.length by omega,show k<ws.length by omega]
theorem ZM.below{w w':World}{a:Option Addr}{len:Nat}{zs:List Int}(h:ZM w a len zs)(hb:Below w.heap.size w w'):ZM w' a len zs:=by
 obtain⟨h1,h2,h3⟩:=h;refine⟨h1,h2,?_⟩
 rcases h3 with h3|⟨b,off,e,hlt,hc⟩
 exact .inl h3;exact .inr ⟨b,off,e,Qh hlt hb.size,fun i hi=>(hb.cell (p:=⟨b,off+i,none⟩) hlt).trans (hc i hi)⟩
theorem ZmX(L:List Zm):∀(i r:Nat),i<L.length->r<4->(ZO L)[i*4+r]? =(YL (L.getD i e0))[r]?:=by
 induction L with
 |nil=>intro i r hi;simp at hi
 | cons e L ih=>
  intro i r hi hr
  cases i with
  |zero=>simp only[ZO,Nat.zero_mul,Nat.zero_add,List.getD_cons_zero];rw[List.getElem?_append_left (by simpa [YL] using hr)]
  | succ i=>
   simp only[ZO,List.getD_cons_succ];rw[List.getElem?_append_right (by simp[YL];omega)];have:=ih i r (by simpa using hi) hr;rw[<- this];congr 1;simp[YL];omega
theorem Zfa(d:List (Int×Int)):(Go.Sort.flatK ZcZ 4 d.toArray).toList=ZO (d.map YQ):=by
 apply List.ext_getElem?;intro t
 by_cases ht:t<d.length*4
 ·have hk:=ZmX (d.map YQ) (t/4) (t%4) (by simp;omega) (by omega);rw[show t/4*4+t%4=t by omega] at hk;rw[hk,Array.getElem?_toList];have hd:t/4<d.length:=(by omega);have h4:t%4<4:=(by omega);have e1:(d.map YQ).getD (t/4) e0=YQ d[t/4]:=(by simp[List.getD,hd]);rw[e1];simp only[Go.Sort.flatK];rw[Array.getElem?_map];simp[ht,hd,ZcZ,YL,YQ]
  rcases(show t%4=0∨t%4=1∨t%4=2∨t%4=3 by omega) with e|e|e|e<;>simp[e]
 rw[List.getElem?_eq_none (by simp;omega),List.getElem?_eq_none (by rw[YM];simp;omega)]
theorem ZfR(cur:Array Value)(F:Array Value)(h:F.size<=cur.size):(Go.Sort.putCells id 0 F cur).toList.take F.size=F.toList:=by
 apply List.ext_getElem?;intro j
 by_cases hj:j<F.size
 rw[List.getElem?_take_of_lt hj,Array.getElem?_toList,Array.getElem?_toList];simp[Go.Sort.putCells,hj,show j<cur.size by omega];rw[List.getElem?_take_eq_none (by omega),List.getElem?_eq_none (by simp;omega)]
theorem Zka{w:World}{base g cap m:Nat}{os:Array Obj}{P D:List (Int×Int)}(hl:D.length=P.length)(h:Zh w base (.slice (some ⟨g,0,none⟩) P.length cap) (P.map YQ)):Zh (Go.Proofs.sortWorldK ZcZ 4 w g 0 m D.toArray os) base (.slice (some ⟨g,0,none⟩) P.length cap) (D.map YQ)/\w.grownBy (Go.Proofs.sortWorldK ZcZ 4 w g 0 m D.toArray os) (some g):=by
 rcases h.2 with⟨e,_⟩|⟨g',cap',cur,e,hb,hg,hnc,hcm,hcs,htake⟩
 simp at e;simp only[Value.slice.injEq,Option.some.injEq,Addr.mk.injEq,and_true] at e;obtain⟨rfl,_,rfl⟩:=e;have hgl:g<w.heap.size:=(Qb hg).1;have hF:(Go.Sort.flatK ZcZ 4 D.toArray).size=P.length*4:=by simp[hl]
 have hcap:P.length<=cap:=by simpa using hnc
 have hh:(Go.Proofs.sortWorldK ZcZ 4 w g 0 m D.toArray os).heap[g]? =some (.cells (Go.Sort.putCells id 0 (Go.Sort.flatK ZcZ 4 D.toArray) cur) 98 (0,0)):=(by unfold Go.Proofs.sortWorldK Go.Sort.putRowK;rw[Go.Sort.heap_grow_old _ _ (by simpa using hgl)];simp[Go.Sort.putRow,Go.Sort.mapBlock,Go.Sort.ahead,Array.getElem?_modify,hg,Go.Sort.onCells]);refine⟨⟨by rw[YM],.inr ⟨g,cap,_,by simp[hl],hb,hh,by simpa [hl] using hcap,hcm,by simp[Go.Sort.putCells,hcs],?_⟩⟩,⟨rfl,rfl,rfl,?_,fun k hk hne=>?_⟩⟩;rw[<- Zfa,show(D.map YQ).length*4=(Go.Sort.flatK ZcZ 4 D.toArray).size by simp];exact ZfR cur _ (by rw[hF,hcs];omega);unfold Go.Proofs.sortWorldK Go.Sort.putRowK;simp
 unfold Go.Proofs.sortWorldK Go.Sort.putRowK;rw[Go.Sort.heap_grow_old _ _ (by simpa using hk)];have:g≠k:=fun e=>hne (by rw[e]);simp[Go.Sort.putRow,Go.Sort.mapBlock,Go.Sort.ahead,Array.getElem?_modify,this]
theorem Zl2{w:World}{base g cap:Nat}{P:List (Int×Int)}(h:Zh w base (.slice (some ⟨g,0,none⟩) P.length cap) (P.map YQ)):Go.Sort.HoldsK ZcZ 4 w g 0 P.toArray:=by
 intro j hj
 have hj':j<P.length*4:=by simpa using hj
 have h2:Zh w base (.slice (some ⟨g,0,none⟩) (P.map YQ).length cap) (P.map YQ):=by simpa using h
 refine⟨?_,?_⟩;rw[Nat.zero_add,World.ownsRow.cellAt h2 j (by simpa using hj'),<- Zfa];have:j<(Go.Sort.flatK ZcZ 4 P.toArray).size:=hj;rw[Array.getElem?_toList,Array.getElem?_eq_getElem this,getElem!_pos _ j this];rfl;rw[Nat.zero_add];exact World.ownsRow.frozenAt h2 j
theorem Znf(va wa:Option Addr)(vl vc wl wc:Nat)(vz wz:List Int)(w:World)(hv:ZM w va vl vz)(hw:ZM w wa wl wz)(lv:vl<=2097152)(lw:wl<=2097152):Calls Tryz.prog 45 #[.slice va vl vc,.slice wa wl wc] w fun e w'=>∃v M,e=.returned v/\Ys (Zg vz wz) M/\Zh w' w.heap.size v (ZN 0 M)/\Below w.heap.size w w':=by
 obtain⟨i0,hinf,hz0,hz1,hz2⟩:=info_parts Zhw;have hPl:=Za1 vz wz;rw[hv.1,hw.1] at hPl;obtain⟨n,hn⟩:∃n,n=min vl wl:=⟨_,rfl⟩;have hmk:∀W:World,(Instr.makeSlice 29 (.int .i64 (n:Int)) (.int .i64 (n:Int))).run Tryz.prog W=.ok (.slice (some ⟨W.heap.size,0,none⟩) n n) (W.alloc (.cells (madeCells #[.int .i64 0,.int .i64 0,.int .i64 0,.int .i64 0] (n*4)) 98)):=(by intro W;have:=run_make (P:=Tryz.prog) W 29 98 i0 _ Tryz.underlying29 hinf hz0 .i64 .i64 (n:Int) (n:Int) (by omega) (by omega) (by rw[hz2];omega) (by omega);rw[hz1] at this;rw[this,Int.toNat_natCast];rfl);have HPL:Hid ((Zg vz wz).length=n):=hPl.trans hn.symm;have HV:Hid (ZM w va vl vz):=hv;have HW:Hid (ZM w wa wl wz):=hw
 have HM:Hid (Zh (w.alloc (.cells (madeCells #[.int .i64 0,.int .i64 0,.int .i64 0,.int .i64 0] (n*4)) 98)) w.heap.size (.slice (some ⟨w.heap.size,0,none⟩) n n) (ZbM (Zg vz wz) 0)):=by
  have:=World.ownsRow_lit (base:=w.heap.size) (size:=4) (e:=98) w (madeCells #[.int .i64 0,.int .i64 0,.int .i64 0,.int .i64 0] (n*4)) n (Qa _) (by unfold maxLen;omega) (size_madeCells _ _);rw[ZlT] at this;have e:ZbM (Zg vz wz) 0=List.replicate n e0:=(by unfold ZbM;rw[HPL.out];simp);show Zh _ _ _ _;unfold Zh;rw[e]
  simpa using this
 have hnv:n<=vl:=(by omega);have hnw:n<=wl:=(by omega);have HMIN:Hid (n=min vl wl):=hn;clear hv hw hPl hn;go_enter Tryz.func45,Tryz.ntmps45;go_upto_region 1 with fail;go_cut [5] (fun v wx=>v=.slice (some ⟨w.heap.size,0,none⟩) n n/\wx=w.alloc (.cells (madeCells #[.int .i64 0,.int .i64 0,.int .i64 0,.int .i64 0] (n*4)) 98))
 case first=>
  have hmn:min (vl:Int) (wl:Int)=(n:Int):=(by have:=HMIN.out;omega);go_wp2;go_meet
  exact⟨rfl,rfl⟩
 case rest =>
  obtain⟨rfl,rfl⟩:=hcut;clear hmk;go_wp2_with fail
  go_loopw [15] (fun ti wr=>∃k:Nat,k<=n/\ti=.int .i64 k/\Hid (Zh wr w.heap.size (.slice (some ⟨w.heap.size,0,none⟩) n n) (ZbM (Zg vz wz) k))/\Below w.heap.size w wr) (fun ti _=>n-(intOf ti).toNat)
  case atStart=>exact⟨0,Qg _,rfl,HM.out,(Below.refl _ _).alloc (Qa _) _⟩
  case round=>
   clear HM;obtain⟨k,hk,rfl,HO,hbel⟩:=hrel
   by_cases hkn:k<n
   ·have hPk:k<(Zg vz wz).length:=(by rw[HPL.out];exact hkn);have hcat:ZbM (Zg vz wz) k=((Zg vz wz).take k).map YQ++e0::List.replicate (n-(k+1)) e0:=by unfold ZbM;rw[HPL.out,show n-k=n-(k+1)+1 by omega,List.replicate_succ]
    have hAl:(((Zg vz wz).take k).map YQ).length=k:=(by simp;omega);have hown:=HO.out;have hfl:=ZlE (Zg vz wz) (show k<=(Zg vz wz).length by omega);rw[hcat] at hown hfl;rw[HPL.out] at hfl;obtain⟨c0,c1,c2,c3,cf⟩:=hown.at hfl.symm hAl;have HOW:Hid (Zh wr w.heap.size (.slice (some ⟨w.heap.size,0,none⟩) n n) (((Zg vz wz).take k).map YQ++e0::List.replicate (n-(k+1)) e0)):=hown;have HFL:Hid (n=(((Zg vz wz).take k).map YQ++e0::List.replicate (n-(k+1)) e0).length):=hfl.symm;have HAL:Hid ((((Zg vz wz).take k).map YQ).length=k):=hAl
    have HE2:Hid (ZbM (Zg vz wz) (k+1)=((Zg vz wz).take k).map YQ++(⟨Q1 (vz.getD k 0),0,0,Zbw (wz.getD k 0)⟩:Zm)::List.replicate (n-(k+1)) e0):=show _=_ by unfold ZbM;rw[HPL.out,Qi hPk,Zl4 hPk];simp[YQ]
    rcases HV.out with⟨hv1,hv2,hv3|⟨b1,o1,rfl,hb1,hv3⟩⟩;omega;rcases HW.out with⟨hw1,hw2,hw3|⟨b2,o2,rfl,hb2,hw3⟩⟩;omega;have d1:wr.cell? ⟨b1,o1+k,none⟩=some (.int .i64 (vz.getD k 0)):=(hbel.cell (p:=⟨b1,o1+k,none⟩) hb1).trans (hv3 k (by omega));have d2:wr.cell? ⟨b2,o2+k,none⟩=some (.int .i64 (wz.getD k 0)):=(hbel.cell (p:=⟨b2,o2+k,none⟩) hb2).trans (hw3 k (by omega));simp only[e0] at c0 c1 c2 c3;have bk1:(0:Int)<=(k:Int):=(by omega);have bk2:(k:Int)<(n:Int):=(by omega);have bk3:(k:Int)<(vl:Int):=(by omega);have bk4:(k:Int)<(wl:Int):=(by omega);clear hcat hAl hown hfl hv1 hv2 hv3 hw1 hw2 hw3 hPk;generalize vz.getD k 0=x at *;generalize wz.getD k 0=y at *;go_wp2_with fail
    go_region_with (first|(go_at_call 79;refine(ZdK _ _).mono ?_;rintro e w' ⟨rfl,rfl⟩)|(go_at_call 80;refine(Zdc _ _).mono ?_;rintro e w' ⟨rfl,rfl⟩))
    all_goals go_wp2
    all_goals
     go_roundw
     case rel=>
      refine⟨k+1,by omega,by go_num,?_,?_⟩;rw[HE2.out];exact((((HOW.out.store HFL.out (by simp) (ZlJ HAL.out _)).store (HFL.out.trans (by simp)) (by simp) (ZgC HAL.out _)).store (HFL.out.trans (by simp)) (by simp) (ZgD HAL.out _)).store (HFL.out.trans (by simp)) (by simp) (ZgE HAL.out _));exact((((hbel.setCell (Qa _) _).setCell (Qa _) _).setCell (Qa _) _).setCell (Qa _) _).drew
     case measure=>simp[intOf];omega
   have hkn2:k=n:=(by omega);have hown:Zh wr w.heap.size (.slice (some ⟨w.heap.size,0,none⟩) (Zg vz wz).length n) ((Zg vz wz).map YQ):=(by have e:ZbM (Zg vz wz) k=(Zg vz wz).map YQ:=(by unfold ZbM;rw[List.take_of_length_le (by rw[HPL.out];omega),HPL.out,show n-k=0 by omega];simp);rw[<- e,HPL.out];exact HO.out);have hnk:¬(k:Int)<(n:Int):=(by omega);have hsz:=hbel.size;have hwp:∀p∈Zg vz wz,1<=p.2/\p.2<=1000:=fun p hp=>(Zcd hp).1;have HWP:Hid (∀p∈Zg vz wz,1<=p.2/\p.2<=1000):=hwp;have hwlt:=(World.ownsRow.lt hown w.heap.size rfl).2
   have hS:Calls Tryz.prog 81 #[.slice (some ⟨w.heap.size,0,none⟩) n n,.func (.func 82) #[] #[]] wr fun e w'=>e=.returned (.tuple #[])/\∃D:List (Int×Int),D.Perm (Zg vz wz)/\(D.Pairwise fun p q=>p.1<=q.1)/\Zh w' w.heap.size (.slice (some ⟨w.heap.size,0,none⟩) D.length n) (D.map YQ)/\wr.grownBy w' (some w.heap.size):=by
    have hs:=Zns w.heap.size n (Zg vz wz).toArray wr (Zl2 hown) hwlt (by simp[HPL.out];omega);rw[show(Zg vz wz).toArray.size=n by simp[HPL.out]] at hs;refine hs.mono ?_;rintro e w' ⟨rfl,d',m,os,hperm,hsort,rfl⟩;obtain⟨hps,_,hpp⟩:=hperm;have hds:d'.size=n:=(by rw[hps];simp[HPL.out]);have hD:d'.toList.length=(Zg vz wz).length:=(by rw[Array.length_toList,hds,HPL.out]);have ho:=Zka (m:=m) (os:=os) hD hown;rw[show d'.toList.toArray=d' by simp] at ho;refine⟨rfl,d'.toList,?_,?_,?_,ho.2⟩;have e1:d'.extract 0 n=d':=(by rw[<- hds];simp);have e2:(Zg vz wz).toArray.extract 0 n=(Zg vz wz).toArray:=(by rw[<- HPL.out];simp);rw[e1,e2] at hpp;exact hpp
    ·rw[List.pairwise_iff_getElem];intro i j hi hj hij;simp at hi hj;have:=hsort i j (Qg _) hij (by omega);rw[Zn9] at this;simp[hi,hj] at this
     simpa using this
    rw[hD];exact ho.1
   have HSO:Hid (Calls Tryz.prog 81 #[.slice (some ⟨w.heap.size,0,none⟩) n n,.func (.func 82) #[] #[]] wr fun e w'=>e=.returned (.tuple #[])/\∃D:List (Int×Int),D.Perm (Zg vz wz)/\(D.Pairwise fun p q=>p.1<=q.1)/\Zh w' w.heap.size (.slice (some ⟨w.heap.size,0,none⟩) D.length n) (D.map YQ)/\wr.grownBy w' (some w.heap.size)):=hS;clear hown hwp hwlt hS;go_wp2_with fail
   refine(show Calls _ _ _ _ _ from HSO.out).mono ?_;rintro e w1 ⟨rfl,D,hDp,hDs,hDo,hDg⟩;have hDl:D.length=n:=(by rw[hDp.length_eq,HPL.out]);have hb1:Below w.heap.size w w1:=hbel.grown hDg hsz (fun q hq=>by simp at hq;omega);have hME:=Zfv w.heap.size n D w.heap.size w1 hDo hDs (fun p hp=>HWP.out p (hDp.mem_iff.1 hp)) (by omega);rw[hDl] at hME;have HME:Hid (Calls Tryz.prog 83 #[.slice (some ⟨w.heap.size,0,none⟩) n n] w1 fun e w'=>∃M,e=.returned (.slice (some ⟨w.heap.size,0,none⟩) M.length n)/\Ys D M/\M.length<=n/\Zh w' w.heap.size (.slice (some ⟨w.heap.size,0,none⟩) M.length n) (M.map YQ)/\w1.grownBy w' (some w.heap.size)):=hME;have HDP:Hid (D.Perm (Zg vz wz)):=hDp;clear hME hDp hDs hDo hDg;go_wp2_with fail
   refine(show Calls _ _ _ _ _ from HME.out).mono ?_;rintro e w2 ⟨M,rfl,hM1,hM2,hM3,hM4⟩;have hb2:Below w.heap.size w w2:=hb1.grown hM4 hb1.size (fun q hq=>by simp at hq;omega);have hMs:Ys (Zg vz wz) M:=hM1.perm HDP.out
   have hMp:∀p∈M,0<=p.2:=fun p hp=>by rw[hMs.wt p hp];exact ZhQ (fun q hq=>(HWP.out q hq).1) _
   have hMt:ZY M<=1000000000000:=(by have h1:=Zlg (ps:=Zg vz wz) (fun q hq=>(HWP.out q hq).1) hMs.rise;have h2:=ZeN (ps:=Zg vz wz) (fun q hq=>(HWP.out q hq).2);rw[ZfM hMs.wt];rw[HPL.out] at h2;omega);have HMS:Hid (Ys (Zg vz wz) M):=hMs;have HRK:=Znl w.heap.size n M w.heap.size w2 hM3 hMp hMt (by omega);have HRK2:Hid (Calls Tryz.prog 84 #[.slice (some ⟨w.heap.size,0,none⟩) M.length n] w2 fun e w'=>e=.returned (.tuple #[])/\Zh w' w.heap.size (.slice (some ⟨w.heap.size,0,none⟩) M.length n) (ZN 0 M)/\w2.grownBy w' (some w.heap.size)):=HRK;clear HRK hM1 hM3 hM4 hMs hMp hMt;go_wp2_with fail
   refine(show Calls _ _ _ _ _ from HRK2.out).mono ?_;rintro e w3 ⟨rfl,hR1,hR2⟩;have hb3:Below w.heap.size w w3:=hb2.grown hR2 hb2.size (fun q hq=>by simp at hq;omega);have HF:Hid (Zh w3 w.heap.size (.slice (some ⟨w.heap.size,0,none⟩) M.length n) (ZN 0 M)):=hR1;clear hR1 hR2;go_wp2;go_ret;exact⟨_,M,rfl,HMS.out,HF.out,hb3⟩
theorem Zem(va wa:Option Addr)(vl vc wl wc:Nat)(vz wz:List Int)(w:World)(hv:ZM w va vl vz)(hw:ZM w wa wl wz)(lv:vl<=2097152)(lw:wl<=2097152):Calls Tryz.prog 19 #[.slice va vl vc,.slice wa wl wc] w fun e w'=>∃v M,e=.returned v/\Ys (Zg vz wz) M/\Zh w' w.heap.size v (ZN 0 M)/\Below w.heap.size w w':=by
 go_enter Tryz.func19,Tryz.ntmps19;go_wp2_with fail
 refine(Znf va wa vl vc wl wc vz wz w hv hw lv lw).mono ?_;rintro e w' ⟨v,M,rfl,h1,h2,h3⟩;have H1:Hid (Ys (Zg vz wz) M/\Zh w' w.heap.size v (ZN 0 M)/\Below w.heap.size w w'):=⟨h1,h2,h3⟩;clear h1 h2 h3;go_wp2;go_ret;exact⟨_,M,rfl,H1.out.1,H1.out.2.1,H1.out.2.2⟩
end Go.Proofs.YtfcgnpchbcmdeaaGreat
