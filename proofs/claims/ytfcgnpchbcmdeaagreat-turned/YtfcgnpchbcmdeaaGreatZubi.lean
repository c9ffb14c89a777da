import Derived.Test.YtfcgnpchbcmdeaaGreatZuaq
import Derived.Test.YtfcgnpchbcmdeaaGreatZubh
import Derived.Deep.RegionHeld3
namespace Go.Proofs.YtfcgnpchbcmdeaaGreat
set_option linter.unusedSimpArgs false
set_option maxRecDepth 100000
set_option maxHeartbeats 8000000
open Go.RowKit
theorem Zh9.start{w:World}{base ib tb fb rb cb n:Nat}{wd:Nat->Bool}{sc ct:Nat->Int}{bins size budget:Int}(h:Zh9 w base ib tb fb rb cb n wd sc ct bins size budget):∃K M,InX w K M ib tb rb fb cb n wd sc ct bins size budget RS.start 0/\(∀k,M k->base<=k)/\base<=ib/\base<=tb:=by
 have hrb:=h.tx.rd;unfold RB at hrb;refine⟨fun k=>base<=k/\∃cur ty,w.heap[k]? =some (.cells cur ty (0,0))/\(ty=3∨ty=261∨ty=263),fun k=>k=rb∨k=cb,⟨h.ik,h.tx.tx,⟨.slice none 0 0,.slice none 0 0,.slice none 0 0,fun _=>.slice none 0 0,?_⟩,?_,?_⟩,?_,h.lo,h.tx.lo.1⟩
 ·refine⟨h.tx.rd,World.ownsRow_nil _ _ _ _,World.ownsRow_nil _ _ _ _,World.ownsRow_nil _ _ _ _,⟨_,h.tx.cl,?_,fun i hi=>?_⟩,fun _ _=>World.ownsRow_nil _ _ _ _,Zdu.of_made _ h.tx.fs ⟨h.tx.lo.2.1,?_⟩ (fun k cur ty hk hc ht=>⟨hk,cur,ty,hc,by rcases ht with e|e;exact .inl e;exact .inr (.inl e)⟩),fun _ _ _ _ _=>.inl rfl,fun _ _=>.inl rfl,.inl rfl,.inr rfl,?_,?_,?_,?_,?_,?_⟩;simp[madeCells];rw[<- Array.getElem?_toList,Zcv];exact List.getElem?_replicate_of_lt hi;obtain⟨cur,h1,_⟩:=h.tx.fs;exact⟨cur,263,h1,.inr (.inr rfl)⟩;intro k hk;simp[Value.ownBlock] at hk;intro k hk;simp[Value.ownBlock] at hk;intro k hk;simp[Value.ownBlock] at hk;intro i k _ hk;simp[Value.ownBlock] at hk
  ·rintro k ⟨_,cur,ty,hc,ht⟩;refine⟨(Qb hc).1,?_⟩;rintro(e|e)
   ·rw[e,hrb] at hc;rcases ht with e2|e2|e2<;>(subst e2;simp at hc)
   rw[e,h.tx.cl] at hc;rcases ht with e2|e2|e2<;>(subst e2;simp at hc)
  rintro k (e|e);rw[e];exact(Qb hrb).1;rw[e];exact(Qb h.tx.cl).1
 ·refine⟨?_,?_⟩
  ·rintro⟨_,cur,ty,hc,ht⟩
   rw[h.ik] at hc;rcases ht with e2|e2|e2<;>(subst e2;simp at hc)
  rintro(e|e);have:=h.ik;rw[e,hrb] at this;simp at this;have:=h.ik;rw[e,h.tx.cl] at this;simp at this
 ·refine⟨?_,?_⟩
  ·rintro⟨_,cur,ty,hc,ht⟩
   rw[h.tx.tx] at hc;rcases ht with e2|e2|e2<;>(subst e2;simp at hc)
  rintro(e|e);have:=h.tx.tx;rw[e,hrb] at this;simp at this;have:=h.tx.tx;rw[e,h.tx.cl] at this;simp at this
 rintro k (e|e);rw[e];exact h.tx.lo.2.2.1;rw[e];exact h.tx.lo.2.2.2
theorem ZdG{n:Nat}{wd:Nat->Bool}{sc:Nat->Int}:∀(l:List Int) (s:RS) (k:Nat) {z:Int} {p:Nat},Zj n wd sc s l k=.error (z,p)->z=2∨z=3
 |[],s,k,z,p,h=>by cases h
 | c::r,s,k,z,p,h=>by
  unfold Zj at h
  cases ht:Yy n wd sc s c with
  |error y=>rw[ht] at h;injection h with h;injection h with h1 h2;rw[<- h1];exact Zh1 ht
  |ok s1=>rw[ht] at h;exact ZdG r s1 (k+1) h
theorem ZU(b:ByteArray):(Zb b).length=b.size:=by unfold Zb;rw[List.length_map];rfl
theorem Qn(b:ByteArray)(i j:Nat):Zb (b.extract i j)=((Zb b).take j).drop i:=by unfold Zb;rw[ByteArray.data_extract,Array.toList_extract,<- List.map_take,<- List.map_drop];congr 1;rw[List.extract_eq_take_drop,List.drop_take]
structure ZaE(lw:List VS->List Int->Int->Int->ES)(m:Nat)(wd:Nat->Bool)(ct:Nat->Int)(bins:Int)(size:Nat)(s:RS):Prop where
 wok:(∃i,i<m+1/\wd i=true)->ZnS lw
 ok:∀i,i<m+1->Zdb (ZX lw (wd i) (ct i) bins size (s.cols i) s.ws)/\(ZX lw (wd i) (ct i) bins size (s.cols i) s.ws).wd=wd i/\(ZX lw (wd i) (ct i) bins size (s.cols i) s.ws).cnt<=16
 num:∀i,i<m+1->∀v∈s.cols i,(-1000000000<=v.num/\v.num<=1000000000)/\v.word.size<=8
 ws:∀z∈s.ws,0<=z/\z<=99
def ZpY(lw:List VS->List Int->Int->Int->ES)(m:Nat)(wd:Nat->Bool)(ct:Nat->Int)(bins:Int)(size budget len:Nat)(o:Except (Int×Nat) RS)(e:Ending)(w':World):Prop:=
 match o with
 |.error (z,p)=>e=.returned (.tuple #[.pointer none,.int .i64 z,.int .i64 (p:Nat)])
 |.ok s=>(s.wt≠0/\e=.returned (.tuple #[.pointer none,.int .i64 2,.int .i64 (len:Nat)]))∨
   (s.wt=0/\∃gb db,e=.returned (.tuple #[.pointer (some ⟨gb,0,none⟩),.int .i64 0,.int .i64 0])/\Zbn w' gb db (Qp m s.ws.length budget ((List.range (m+1)).map (fun i=>ZX lw (wd i) (ct i) bins size (s.cols i) s.ws)) ((List.range (m+1)).map (fun i=>(s.cols i).map (YD (ZX lw (wd i) (ct i) bins size (s.cols i) s.ws))))))
def ZnQ(base:Nat)(K:Nat->Prop)(ib tb rb fb cb n:Nat)(wd:Nat->Bool)(sc ct:Nat->Int)(bins size budget:Int)(len:Nat)(o:Except (Int×Nat) RS)(w:World):Prop:=
 match o with
 |.error (z,p)=>ZiQ w ib false z (p:Nat)/\(z=2∨z=3)
 |.ok s=>∃M,InX w K M ib tb rb fb cb n wd sc ct bins size budget s len/\∀q,M q->base<=q
def ZqP:Value->Nat
 |.string b=>b.size
 |_=>0
section
variable {w wr:World} {K:Nat->Prop} {ib tb rb fb cb m:Nat} {wd:Nat->Bool} {sc ct:Nat->Int} {bins:Int} {size budget:Nat}
theorem ZmS(b r:ByteArray)(k n base:Nat)(hr:Zb r=(Zb b).drop k)(hrs:r.size=b.size-k)(hk:k<=b.size)(hn:n<=r.size)(hb:b.size<=200000000000000)(hm:m+1<=4)(hsc:∀i,i<m+1->wd i=false->0<=sc i/\sc i<=3)(hbs:base<=wr.heap.size)(hib:base<=ib/\base<=tb)(hF:ZnQ base K ib tb rb fb cb (m+1) wd sc ct bins size budget k (Zj (m+1) wd sc RS.start ((Zb b).take k) 0) wr):Calls Tryz.prog 32 #[.pointer (some ⟨ib,0,none⟩),.string (r.extract 0 n)] wr fun e w'=>e=.returned (.tuple #[.int .i64 (Yj (Zj (m+1) wd sc RS.start ((Zb b).take (k+n)) 0)).1,.int .i64 (Yj (Zj (m+1) wd sc RS.start ((Zb b).take (k+n)) 0)).2])/\ZnQ base K ib tb rb fb cb (m+1) wd sc ct bins size budget (k+n) (Zj (m+1) wd sc RS.start ((Zb b).take (k+n)) 0) w'/\Below base wr w':=by
 have hp:Zb (r.extract 0 n)=((Zb b).drop k).take n:=(by rw[Qn,List.drop_zero,hr]);have ht:(Zb b).take (k+n)=(Zb b).take k++Zb (r.extract 0 n):=(by rw[hp,List.take_add]);have hl:((Zb b).take k).length=k:=(by rw[List.length_take,ZU];omega);have hes:(r.extract 0 n).size=n:=(by rw[<- ZU,hp,List.length_take,List.length_drop,ZU];omega);have ha:=Z1 (m+1) wd sc ((Zb b).take k) (Zb (r.extract 0 n)) RS.start 0;rw[<- ht,hl] at ha
 cases ho:Zj (m+1) wd sc RS.start ((Zb b).take k) 0 with
 | error q=>
  obtain⟨z,p⟩:=q;rw[ho] at ha hF;rw[ha];refine(ZkI (r.extract 0 n) ib z p wr hF.1 hF.2).mono ?_;rintro e w' ⟨rfl,x,rfl⟩;exact⟨rfl,⟨hF.1,hF.2⟩,below_drewN (Below.refl _ _) _⟩
 | ok s=>
  rw[ho] at ha hF;simp only at ha;obtain⟨M,hX,hM⟩:=hF;rw[ha,Nat.zero_add];refine(Zoe (r.extract 0 n) hX (QO.takes (by omega) hsc _ (QO.start (by omega)) ho) (by omega) hm hsc (by rw[hes];omega)).mono ?_;rintro e w' ⟨rfl,h1,h2⟩;refine⟨rfl,?_,h2.to_below hbs (fun q hq=>?_)⟩
  ·cases hq:Zj (m+1) wd sc s (Zb (r.extract 0 n)) k with
   | error q=>
    obtain⟨z,p⟩:=q;rw[hq] at h1;exact⟨h1,ZdG _ _ _ hq⟩
   | ok s'=>
    rw[hq,hes] at h1;obtain⟨M',hX',hM'⟩:=h1;exact⟨M',hX',fun q hq=>by rcases hM' q hq with h|h;exact hM q h;omega⟩
  rcases hq with h|h|h
  exact hM q h;rw[h];exact hib.1;rw[h];exact hib.2
theorem ZmP(lw:List VS->List Int->Int->Int->ES)(b:ByteArray)(base:Nat)(hm:m+1<=4)(hsc:∀i,i<m+1->wd i=false->0<=sc i/\sc i<=3)(hc:2<=bins/\bins<=16/\bins<=size/\size<=32/\budget<=20)(hbs:base<=wr.heap.size)(hib:base<=ib)(hcl:∀s,Zj (m+1) wd sc RS.start (Zb b) 0=.ok s->s.wt=0->ZaE lw m wd ct bins size s)(hF:ZnQ base K ib tb rb fb cb (m+1) wd sc ct bins size budget b.size (Zj (m+1) wd sc RS.start (Zb b) 0) wr):Calls Tryz.prog 50 #[.pointer (some ⟨ib,0,none⟩)] wr fun e w'=>∃(d:Option Addr) (z p:Int),e=.returned (.tuple #[.pointer d,.int .i64 z,.int .i64 p])/\ZpY lw m wd ct bins size budget b.size (Zj (m+1) wd sc RS.start (Zb b) 0) e w'/\Below base wr w'/\((Yj (Zj (m+1) wd sc RS.start (Zb b) 0)).1=0∨(Yj (Zj (m+1) wd sc RS.start (Zb b) 0)).1≠0/\d=none/\z=(Yj (Zj (m+1) wd sc RS.start (Zb b) 0)).1/\p=(Yj (Zj (m+1) wd sc RS.start (Zb b) 0)).2):=by
 cases ho:Zj (m+1) wd sc RS.start (Zb b) 0 with
 | error q=>
  obtain⟨z,p⟩:=q;rw[ho] at hF;refine(Zjb ib z p wr hF.1 hF.2).mono ?_;rintro e w' ⟨rfl,x,rfl⟩;exact⟨none,z,p,rfl,rfl,below_drewN (Below.refl _ _) _,.inr ⟨by show z≠0;rcases hF.2 with e|e<;>omega,rfl,rfl,rfl⟩⟩
 | ok s=>
  rw[ho] at hF;obtain⟨M,hX,hM⟩:=hF;have hI:QO (m+1) s:=QO.takes (by omega) hsc _ (QO.start (by omega)) ho
  by_cases hwt:s.wt=0
  have hK:=hcl s ho hwt;refine(Zjc lw (fun i=>ZX lw (wd i) (ct i) bins size (s.cols i) s.ws) hX hwt hI hm hc.2.2.2.2 hK.wok (fun _=>rfl) hK.ok hK.num hK.ws (by omega) hc.2.2.2.1 hc.1 hc.2.1).mono ?_;rintro e w' ⟨gb,db,rfl,h1,h2,h3,h4⟩;exact⟨_,0,0,rfl,.inr ⟨hwt,gb,db,rfl,h3⟩,h4.2.to_below hbs (fun q hq=>by rw[hq];exact hib),.inl rfl⟩;refine(ZkC hX hwt).mono ?_;rintro e w' ⟨rfl,h4⟩;exact⟨none,2,_,rfl,.inl ⟨hwt,rfl⟩,h4.2.to_below hbs (fun q hq=>by rw[hq];exact hib),.inl rfl⟩
end
theorem Ze2(lw:List VS->List Int->Int->Int->ES)(b:ByteArray)(fk off m fc cn cc:Nat)(ca:Option Addr)(cz:List Int)(bins:Int)(size budget:Nat)(wd:Nat->Bool)(sc ct:Nat->Int)(w:World)(hF:Qk w fk off (m+1) wd sc ct)(hc:Zcp (m+1) bins size budget wd sc ct=true)(hcut:ZS w ca cn cz)(hcn:cn<=9223372036854775807)(hb:b.size<=200000000000000)(hcl:∀s,Zj (m+1) wd sc RS.start (Zb b) 0=.ok s->s.wt=0->ZaE lw m wd ct bins size s):Calls Tryz.prog 25 #[.agg #[.slice (some ⟨fk,off,none⟩) (m+1) fc,.int .i64 bins,.int .i64 (size:Nat),.int .i64 (budget:Nat)],.string b,.slice ca cn cc] w fun e w'=>ZpY lw m wd ct bins size budget b.size (Zj (m+1) wd sc RS.start (Zb b) 0) e w'/\Below w.heap.size w w':=by
 obtain⟨h1,h4,c1,c2,c3,c4,c5,c6,hfe⟩:=ZbS hc
 have HSC:Hid (∀i,i<m+1->wd i=false->0<=sc i/\sc i<=3):=fun i hi hw=>by have:=hfe i hi;unfold Zam at this;rw[hw] at this;simp at this;omega
 have hbl:=hF.lt (by omega);obtain⟨w0,hw0⟩:∃w0,w0=w.alloc (.cells #[.slice (some ⟨fk,off,none⟩) (m+1) fc,.int .i64 bins,.int .i64 (size:Nat),.int .i64 (budget:Nat)] 37):=⟨_,rfl⟩;have hb0:Below w.heap.size w w0:=(by rw[hw0];exact(Below.refl _ _).alloc (Qa _) _);have hrow:w0.heap[w.heap.size]? =some (.cells #[.slice (some ⟨fk,off,none⟩) (m+1) fc,.int .i64 bins,.int .i64 (size:Nat),.int .i64 (budget:Nat)] 37 (0,0)):=(by rw[hw0];exact heap_alloc_new w _);have k:∀o,w0.cell? ⟨fk,o,none⟩=w.cell? ⟨fk,o,none⟩:=fun o=>hb0.cell (p:=⟨fk,o,none⟩) hbl;have HR:=Zlh fk off (m+1) fc bins size budget wd sc ct w0 ⟨hF.le,fun _=>by have:=hb0.size;omega,fun i hi=>(k _).trans (hF.c0 i hi),fun i hi=>(k _).trans (hF.c1 i hi),fun i hi=>(k _).trans (hF.c2 i hi)⟩ hc;have d0:=cell_of_row _ _ 0 _ 37 (0,0) hrow
 have d1:=cell_of_row _ _ 1 _ 37 (0,0) hrow;have d2:=cell_of_row _ _ 2 _ 37 (0,0) hrow;have d3:=cell_of_row _ _ 3 _ 37 (0,0) hrow;have HB0:Hid (Below w.heap.size w w0):=hb0;have HCUT:Hid (ZS w ca cn cz):=hcut;have HCL:Hid (∀s,Zj (m+1) wd sc RS.start (Zb b) 0=.ok s->s.wt=0->ZaE lw m wd ct bins size s):=hcl;clear hF hc hfe hb0 k hrow hcut hcl;have HN:Hid (m+1<=4/\2<=bins/\bins<=16/\bins<=size/\size<=32/\budget<=20):=⟨h4,c1,c2,c3,by omega,by omega⟩;clear h1 h4 c1 c2 c3 c4 c5 c6;go_enter Tryz.func25,Tryz.ntmps25;go_upto_region 1 with fail;rw[<- hw0];clear hw0;go_wp2_with fail
 refine HR.mono ?_;rintro e w1 ⟨ib,tb,fb,rb,cb,rfl,hI,hb1⟩;have hs0:=HB0.out.size;obtain⟨K,M0,hX0,hM0,hib,htb⟩:=hI.start;have HX0:Hid (InX w1 K M0 ib tb rb fb cb (m+1) wd sc ct bins size budget RS.start 0/\(∀q,M0 q->w.heap.size<=q)):=⟨hX0,fun q hq=>by have:=hM0 q hq;omega⟩;have HB1:Hid (Below w.heap.size w w1):=HB0.out.trans (hb1.mono hs0);have HIB:Hid (w.heap.size<=ib/\w.heap.size<=tb):=⟨by omega,by omega⟩;clear hI hb1 hX0 hM0 hib htb d0 d1 d2 d3 HR;go_wp2_with fail
 go_loopw [1,10,11,12] (fun ts te tp ti wr=>∃(k i:Nat) (r:ByteArray),ts=.string r/\te=.int .i64 (Yj (Zj (m+1) wd sc RS.start ((Zb b).take k) 0)).1/\tp=.int .i64 (Yj (Zj (m+1) wd sc RS.start ((Zb b).take k) 0)).2/\ti=.int .i64 i/\i<=k/\k<=b.size/\r.size=b.size-k/\Hid (Zb r=(Zb b).drop k)/\Hid (ZnQ w.heap.size K ib tb rb fb cb (m+1) wd sc ct bins size budget k (Zj (m+1) wd sc RS.start ((Zb b).take k) 0) wr)/\Hid (Below w.heap.size w wr)) (fun ts _ _ _ _=>ZqP ts)
 case atStart=>exact⟨0,0,b,rfl,rfl,rfl,rfl,Qa _,Qg _,by omega,rfl,⟨M0,HX0.out⟩,HB1.out⟩
 case round=>
  obtain⟨k,i,r,rfl,rfl,rfl,rfl,hik,hk,hrs,HR,HF,HB⟩:=hrel
  by_cases hr0:0<r.size
  ·have br:(0:Int)<(r.size:Int):=(by omega);obtain⟨n,hn⟩:∃n:Nat,n=1+Zv (Z9 cz i) r.size:=⟨_,rfl⟩;have hp:=Z8 (Z9 cz i) hr0;have hn1:1<=n:=(by omega);have hn2:n<=r.size:=(by omega);have q1:IntKind.i64.wrap (1+((Zv (Z9 cz i) r.size:Nat):Int))=(n:Int):=(by rw[Zw (by omega) (by omega)];omega);have b1:(0:Int)<=(n:Int):=(by omega);have b2:(n:Int)<=(r.size:Int):=(by omega);have HFD:=ZmS (size:=size) (budget:=budget) (bins:=bins) (ct:=ct) (rb:=rb) (fb:=fb) (cb:=cb) (K:=K) b r k n w.heap.size HR.out hrs hk hn2 hb HN.out.1 HSC.out HB.out.size HIB.out HF.out;have HRW:=Ze3 ca cn cc i cz wr (HCUT.out.below HB.out) (by omega) hcn
   have HRF:Hid ((Lit.int .i64 (Z9 cz i)).wf=true):=(by show _=_;unfold Z9;split;decide;rename_i h0;have hl:i%cz.length<cz.length:=Nat.mod_lt _ (by omega);rw[Qc,Qd hl];exact HCUT.out.2.1 _ (Qf _));clear hn hp
   have HA:Hid ((Yj (Zj (m+1) wd sc RS.start ((Zb b).take k) 0)).1=0∨(Yj (Zj (m+1) wd sc RS.start ((Zb b).take k) 0)).1≠0/\(Yj (Zj (m+1) wd sc RS.start ((Zb b).take (k+n)) 0)).1=(Yj (Zj (m+1) wd sc RS.start ((Zb b).take k) 0)).1/\(Yj (Zj (m+1) wd sc RS.start ((Zb b).take (k+n)) 0)).2=(Yj (Zj (m+1) wd sc RS.start ((Zb b).take k) 0)).2):=by
    cases ho:Zj (m+1) wd sc RS.start ((Zb b).take k) 0 with
    | error q=>
     have ha:=Z1 (m+1) wd sc ((Zb b).take k) (((Zb b).drop k).take n) RS.start 0;rw[<- List.take_add,ho] at ha;rw[ha];obtain⟨z,p⟩:=q;refine .inr ⟨?_,rfl,rfl⟩;show z≠0
     rcases ZdG _ _ _ ho with e|e<;>omega
    |ok s=>exact .inl rfl
   have HR2:Hid (Zb (r.extract n r.size)=(Zb b).drop (k+n)/\(r.extract n r.size).size=b.size-(k+n)):=by have e:Zb (r.extract n r.size)=(Zb b).drop (k+n):=(by rw[Qn,List.take_of_length_le (by rw[ZU];exact Qa _),HR.out,List.drop_drop]);refine⟨e,?_⟩;rw[<- ZU,e,List.length_drop,ZU]
   obtain⟨o2,ho2⟩:∃o2,o2=Zj (m+1) wd sc RS.start ((Zb b).take (k+n)) 0:=⟨_,rfl⟩;have HO2:Hid (o2=Zj (m+1) wd sc RS.start ((Zb b).take (k+n)) 0):=ho2;rw[<- ho2] at HFD HA;clear ho2;obtain⟨A1,hA1⟩:∃A1,A1=(Yj (Zj (m+1) wd sc RS.start ((Zb b).take k) 0)).1:=⟨_,rfl⟩;obtain⟨A2,hA2⟩:∃A2,A2=(Yj (Zj (m+1) wd sc RS.start ((Zb b).take k) 0)).2:=⟨_,rfl⟩;rw[<- hA1,<- hA2] at HA ⊢;clear hA1 hA2 HF;obtain⟨B1,hB1⟩:∃B1,B1=(Yj o2).1:=⟨_,rfl⟩;obtain⟨B2,hB2⟩:∃B2,B2=(Yj o2).2:=⟨_,rfl⟩;rw[<- hB1,<- hB2] at HFD HA;have HBB:Hid (B1=(Yj o2).1/\B2=(Yj o2).2):=⟨hB1,hB2⟩;clear hB1 hB2;generalize Z9 cz i=y at *;have HPK:=Ys y r.size wr HRF.out (by omega) (by omega);generalize Zv y r.size=px at *;have HRS:Hid (r.size=b.size-k):=hrs
   clear hrs;go_wp2_with fail
   refine HRW.mono ?_;rintro e w2 ⟨rfl,hw2⟩;obtain rfl:=hw2.symm;go_wp2_with fail
   refine HPK.mono ?_;rintro e w3 ⟨rfl,hw3⟩;obtain rfl:=hw3.symm;go_wp2_with fail
   refine HFD.mono ?_;rintro e w4 ⟨rfl,hF4,hb4⟩;have HF4:Hid (ZnQ w.heap.size K ib tb rb fb cb (m+1) wd sc ct bins size budget (k+n) o2 w4):=hF4;have HB4:Hid (Below w.heap.size w w4):=HB.out.trans hb4;clear hF4 hb4 HFD HRW HB;go_upto_region 11 with fail;go_cut [61] (fun v wx=>v=.bool false/\wx=w4)
   case first=>
    rcases HA.out with h0|⟨h0,h1,h2⟩
    ·subst h0;go_wp2;go_meet
     exact⟨rfl,rfl⟩
    subst h1 h2;have q2:(B1==0)=false:=(by rw[beq_eq_false_iff_ne];exact h0);go_wp2;go_meet
    exact⟨rfl,rfl⟩
   case rest=>
    obtain⟨rfl,hwx⟩:=hcut;obtain rfl:=hwx.symm;clear hwx;go_wp2;go_roundw;case rel=>exact⟨k+n,i+1,r.extract n r.size,rfl,by rw[<- HO2.out,<- HBB.out.1],by rw[<- HO2.out,<- HBB.out.2],by go_num,by omega,by have:=HRS.out;omega,HR2.out.2,HR2.out.1,by rw[<- HO2.out];exact HF4.out,HB4.out⟩
    case measure=>
     show(r.extract n r.size).size<r.size;have:=HRS.out;rw[HR2.out.2];omega
  have hk2:k=b.size:=(by omega);subst hk2;have et:(Zb b).take b.size=Zb b:=List.take_of_length_le (by rw[ZU];exact Qa _);have hF:=HF.out;rw[et] at hF ⊢;have HCE:=ZmP lw b w.heap.size HN.out.1 HSC.out HN.out.2 HB.out.size HIB.out.1 HCL.out hF;have r0:¬(0:Int)<(r.size:Int):=(by omega);obtain⟨o,ho⟩:∃o,o=Zj (m+1) wd sc RS.start (Zb b) 0:=⟨_,rfl⟩;rw[<- ho] at HCE ⊢;have HO:Hid (o=Zj (m+1) wd sc RS.start (Zb b) 0):=ho;clear ho hF et HF HCL hrs hr0;obtain⟨A1,hA1⟩:∃A1,A1=(Yj o).1:=⟨_,rfl⟩;obtain⟨A2,hA2⟩:∃A2,A2=(Yj o).2:=⟨_,rfl⟩;rw[<- hA1,<- hA2] at HCE ⊢;clear hA1 hA2;go_wp2_with fail
  refine HCE.mono ?_;rintro e w4 ⟨d,z,p,rfl,hR4,hb4,hz⟩;have HR4:Hid (ZpY lw m wd ct bins size budget b.size o (.returned (.tuple #[.pointer d,.int .i64 z,.int .i64 p])) w4):=hR4;have HB4:Hid (Below w.heap.size w w4):=HB.out.trans hb4;have HZ:Hid (A1=0∨A1≠0/\d=none/\z=A1/\p=A2):=hz;clear hR4 hb4 hz HCE HB;go_upto_region 17 with fail;go_cut [88] (fun v wx=>v=.bool false/\wx=w4)
  case first=>
   rcases HZ.out with h0|⟨h0,h1,h2,h3⟩
   ·subst h0;go_wp2;go_meet
    exact⟨rfl,rfl⟩
   subst h1 h2 h3;have q2:(z==0)=false:=(by rw[beq_eq_false_iff_ne];exact h0);go_wp2;go_meet
   exact⟨rfl,rfl⟩
  case rest=>
   obtain⟨rfl,hwx⟩:=hcut;obtain rfl:=hwx.symm;clear hwx;go_wp2;refine bodyPost_ret (v:=.tuple #[.pointer d,.int .i64 z,.int .i64 p]) (by simp[results,Tryz.results25,go_sem]) rfl ?_;rw[<- HO.out];exact⟨HR4.out,HB4.out⟩
def cfB(cs:List Int):Nat:=2+Zv (Z9 cs 0) 15
def cfU(cs:List Int):Nat:=Zv (Z9 cs 2) 21
def cfS(cs:List Int):Nat:=cfB cs+Zv (Z9 cs 1) (33-cfB cs)
def YB(cs:List Int):Nat:=Zv (Z9 cs 3) 4
def Q1(cs:List Int)(i:Nat):Bool:=decide (Zv (Z9 cs (8+i)) 3=0)
def cfC(cs:List Int)(i:Nat):Int:=if Q1 cs i=true then 0 else(Zv (Z9 cs (4+i)) 4:Nat)
def cfT(cs:List Int)(i:Nat):Int:=if Q1 cs i=true then 1+(Zv (Z9 cs (4+i)) 9:Nat) else 0
theorem Zi9(cs:List Int):2<=cfB cs/\cfB cs<=16/\cfB cs<=cfS cs/\cfS cs<=32/\cfU cs<=20/\YB cs<=3:=by have h0:=Z8 (Z9 cs 0) (show 0<15 by omega);have h2:=Z8 (Z9 cs 2) (show 0<21 by omega);have h3:=Z8 (Z9 cs 3) (show 0<4 by omega);have e0:cfB cs=2+Zv (Z9 cs 0) 15:=rfl;have h1:=Z8 (Z9 cs 1) (show 0<33-cfB cs by omega);have e1:cfS cs=cfB cs+Zv (Z9 cs 1) (33-cfB cs):=rfl;have e2:cfU cs=Zv (Z9 cs 2) 21:=rfl;have e3:YB cs=Zv (Z9 cs 3) 4:=rfl;omega
theorem ZlZ(cs:List Int)(i:Nat):Zam (Q1 cs i) (cfC cs i) (cfT cs i)=true:=by
 have h0:=Z8 (Z9 cs (4+i)) (show 0<4 by omega);have h1:=Z8 (Z9 cs (4+i)) (show 0<9 by omega);unfold Zam cfC cfT
 cases Q1 cs i
 simp;omega;simp;omega
theorem Zpf(cs:List Int):Zcp (YB cs+1) (cfB cs:Nat) (cfS cs:Nat) (cfU cs:Nat) (Q1 cs) (cfC cs) (cfT cs)=true:=by have h:=Zi9 cs;unfold Zcp ZfS;rw[Bool.and_eq_true,decide_eq_true_eq,List.all_eq_true];exact⟨by omega,fun i _=>ZlZ cs i⟩
def ZkB(cs:List Int)(i:Nat):List Value:=[.bool (Q1 cs i),.int .i64 (cfC cs i),.int .i64 (cfT cs i)]
def Zcr(cs:List Int):Nat->List Value
 |0=>[]
 |k+1=>Zcr cs k++ZkB cs k
theorem ZcL(cs:List Int):∀k,(Zcr cs k).length=k*3
 |0=>rfl
 |k+1=>by rw[Zcr,Qe,ZcL cs k];simp[ZkB];omega
theorem ZcK(cs:List Int):∀k i c,i<k->c<3->(Zcr cs k)[i*3+c]? =(ZkB cs i)[c]?
 |0,i,c,h,_=>by omega
 | k+1,i,c,h,hc=>by
  rw[Zcr]
  by_cases hk:i<k
  rw[List.getElem?_append_left (by rw[ZcL];omega)];exact ZcK cs k i c hk hc;have e:i=k:=(by omega);subst e;rw[List.getElem?_append_right (by rw[ZcL];omega),ZcL];congr 1;omega
def ZbF(w:World)(base:Nat)(v:Value)(cs:List Int)(k:Nat):Prop:=w.ownsRow base 51 3 v k (Zcr cs k)
theorem ZbF.feats{w:World}{base k:Nat}{v:Value}{cs:List Int}(h:ZbF w base v cs k)(hk:0<k)(hk2:k<=1000):∃fk fc,v=.slice (some ⟨fk,0,none⟩) k fc/\base<=fk/\Qk w fk 0 k (Q1 cs) (cfC cs) (cfT cs):=by
 have h':=h
 rcases h.2 with⟨rfl,h0⟩|⟨g,cap,cur,rfl,hb,hh,_⟩
 omega;refine⟨g,cap,rfl,hb,⟨by unfold maxLen;omega,fun _=>(Qb hh).1,fun i hi=>?_,fun i hi=>?_,fun i hi=>?_⟩⟩;rw[Nat.zero_add,World.ownsRow.cellAt h' (i*3) (by omega)];exact ZcK cs k i 0 hi (by omega);rw[Nat.zero_add,World.ownsRow.cellAt h' (i*3+1) (by omega)];exact ZcK cs k i 1 hi (by omega);rw[Nat.zero_add,World.ownsRow.cellAt h' (i*3+2) (by omega)];exact ZcK cs k i 2 hi (by omega)
theorem ZbF.shape{w:World}{base k:Nat}{v:Value}{cs:List Int}(h:ZbF w base v cs k):∃a c,v=.slice a k c:=by
 rcases h.2 with⟨rfl,h0⟩|⟨g,cap,cur,rfl,_⟩
 exact⟨none,0,by rw[h0]⟩;exact⟨_,cap,rfl⟩
theorem Zqb:(Tryz.prog.info? 51).map (fun i=>(i.zero,i.size,i.bytes))=some (some (.agg #[.bool false,.int .i64 0,.int .i64 0]),3,24):=by kernel_rfl
theorem ZoI{w:World}{a:Option Addr}{n:Nat}{zs:List Int}(h:ZS w a n zs)(i:Nat):(Lit.int .i64 (Z9 zs i)).wf=true:=by unfold Z9;split;decide;rename_i h0;have hl:i%zs.length<zs.length:=Nat.mod_lt _ (by omega);rw[Qc,Qd hl];exact h.2.1 _ (Qf _)
theorem Zgm(ca:Option Addr)(cn cc:Nat)(cs:List Int)(w:World)(hc:ZS w ca cn cs)(hcn:cn<=9223372036854775807):Calls Tryz.prog 23 #[.slice ca cn cc] w fun e w'=>∃fk fc,e=.returned (.agg #[.slice (some ⟨fk,0,none⟩) (YB cs+1) fc,.int .i64 (cfB cs:Nat),.int .i64 (cfS cs:Nat),.int .i64 (cfU cs:Nat)])/\w.heap.size<=fk/\Qk w' fk 0 (YB cs+1) (Q1 cs) (cfC cs) (cfT cs)/\Below w.heap.size w w':=by
 have HR:Hid (∀(W:World) (i:Nat),i<=1000->Below w.heap.size w W->Calls Tryz.prog 18 #[.slice ca cn cc,.int .i64 (i:Nat)] W fun e w'=>e=.returned (.int .i64 (Z9 cs i))/\w'=W):=fun W i hi hW=>Ze3 ca cn cc i cs W (hc.below hW) (by omega) hcn;have HP:Hid (∀(W:World) (i n:Nat),0<n->n<=1000->Calls Tryz.prog 17 #[.int .i64 (Z9 cs i),.int .i64 (n:Nat)] W fun e w'=>e=.returned (.int .i64 (Zv (Z9 cs i) n:Nat))/\w'=W):=fun W i n h0 h1=>Ys _ n W (ZoI hc i) h0 (by omega);have hcf:=Zi9 cs;have HB:Hid (cfB cs=2+Zv (Z9 cs 0) 15):=rfl;have HU:Hid (cfU cs=Zv (Z9 cs 2) 21):=rfl;have HS:Hid (cfS cs=cfB cs+Zv (Z9 cs 1) (33-cfB cs)):=rfl;have hp0:=Z8 (Z9 cs 0) (show 0<15 by omega)
 have q1:IntKind.i64.wrap (2+((Zv (Z9 cs 0) 15:Nat):Int))=((cfB cs:Nat):Int):=(by rw[Zw (by omega) (by omega)];have:=HB.out;omega);obtain⟨w0,hw0⟩:∃w0,w0=w.alloc (.cells #[.slice none 0 0,.int .i64 0,.int .i64 0,.int .i64 0] 37):=⟨_,rfl⟩;have hb0:Below w.heap.size w w0:=(by rw[hw0];exact(Below.refl _ _).alloc (Qa _) _);have HB0:Hid (Below w.heap.size w w0):=hb0;have HR0:Hid (w0.heap[w.heap.size]? =some (.cells #[.slice none 0 0,.int .i64 0,.int .i64 0,.int .i64 0] 37 (0,0))/\w0.heap.size=w.heap.size+1):=(by refine⟨?_,?_⟩;rw[hw0];exact heap_alloc_new w _;rw[hw0];simp);clear hb0 hc;go_enter Tryz.func23,Tryz.ntmps23;go_wp2_with fail
 rw[<- hw0];clear hw0;refine(HR.out w0 0 (by omega) HB0.out).mono ?_;rintro e w1 ⟨rfl,h1⟩;obtain rfl:=h1.symm;go_wp2_with fail
 refine(HP.out w0 0 15 (by omega) (by omega)).mono ?_;rintro e w1 ⟨rfl,h1⟩;obtain rfl:=h1.symm;go_wp2_with fail
 refine(HR.out w0 2 (by omega) HB0.out).mono ?_;rintro e w1 ⟨rfl,h1⟩;obtain rfl:=h1.symm;go_wp2_with fail
 refine(HP.out w0 2 21 (by omega) (by omega)).mono ?_;rintro e w1 ⟨rfl,h1⟩;obtain rfl:=h1.symm;rw[<- HU.out];have hp1:=Z8 (Z9 cs 1) (show 0<33-cfB cs by omega);obtain⟨pn,hpn⟩:∃pn,pn=33-cfB cs:=⟨_,rfl⟩;have q2:IntKind.i64.wrap (33-((cfB cs:Nat):Int))=(pn:Int):=by rw[Zw (by omega) (by omega)];omega
 have q3:IntKind.i64.wrap (((cfB cs:Nat):Int)+((Zv (Z9 cs 1) pn:Nat):Int))=((cfS cs:Nat):Int):=by rw[hpn,Zw (by omega) (by omega)];have:=HS.out;omega
 have hpn0:0<pn/\pn<=1000:=(by omega);have HP1:Hid (∀W:World,Calls Tryz.prog 17 #[.int .i64 (Z9 cs 1),.int .i64 (pn:Nat)] W fun e w'=>e=.returned (.int .i64 (Zv (Z9 cs 1) pn:Nat))/\w'=W):=fun W=>HP.out W 1 pn hpn0.1 hpn0.2;clear hpn hp1 hp0 hpn0 q1;obtain⟨cb,hcb⟩:∃cb,cb=w0.heap.size:=⟨_,rfl⟩;obtain⟨w2,hw2⟩:∃w2,w2=w0.alloc (.cells #[.slice none 0 0,.int .i64 (cfB cs:Nat),.int .i64 0,.int .i64 (cfU cs:Nat)] 37):=⟨_,rfl⟩;have hrow2:w2.heap[cb]? =some (.cells #[.slice none 0 0,.int .i64 (cfB cs:Nat),.int .i64 0,.int .i64 (cfU cs:Nat)] 37 (0,0)):=(by rw[hw2,hcb];exact heap_alloc_new w0 _);have hb2:Below w.heap.size w w2:=by rw[hw2];exact HB0.out.alloc HB0.out.size _
 have HR2:Hid (w2.heap[w.heap.size]? =some (.cells #[.slice none 0 0,.int .i64 0,.int .i64 0,.int .i64 0] 37 (0,0))):=by show _=_;rw[hw2];exact(Below.heap_alloc _ _ _ (by have:=HR0.out.2;omega)).trans HR0.out.1
 have hcw:w.heap.size<cb:=(by have:=HR0.out.2;omega);have e1:w2.cell? ⟨cb,1,none⟩=some (.int .i64 (cfB cs:Nat)):=cell_of_row _ _ 1 _ 37 (0,0) hrow2;have e2:w2.cell? ⟨cb,2,none⟩=some (.int .i64 0):=cell_of_row _ _ 2 _ 37 (0,0) hrow2;have z2:w2.frozen? ⟨cb,2,none⟩=false:=frozen_of_row _ _ 2 _ 37 hrow2;have HB2:Hid (Below w.heap.size w w2):=hb2;have HW2:Hid (w2.heap[cb]? =some (.cells #[.slice none 0 0,.int .i64 (cfB cs:Nat),.int .i64 0,.int .i64 (cfU cs:Nat)] 37 (0,0))):=hrow2;go_upto_region 2 with fail;rw[<- hw2,<- hcb];clear hw2 hcb hb2 hrow2;have hrow3:(w2.setCell ⟨cb,2,none⟩ (.int .i64 (cfS cs:Nat))).heap[cb]? =some (.cells #[.slice none 0 0,.int .i64 (cfB cs:Nat),.int .i64 (cfS cs:Nat),.int .i64 (cfU cs:Nat)] 37 (0,0)):=heap_setCell_same _ cb 2 _ 37 _ HW2.out
 have e3:(w2.setCell ⟨cb,2,none⟩ (.int .i64 (cfS cs:Nat))).cell? ⟨cb,1,none⟩=some (.int .i64 (cfB cs:Nat)):=cell_of_row _ _ 1 _ 37 (0,0) hrow3;have HW3:Hid ((w2.setCell ⟨cb,2,none⟩ (.int .i64 (cfS cs:Nat))).heap[cb]? =some (.cells #[.slice none 0 0,.int .i64 (cfB cs:Nat),.int .i64 (cfS cs:Nat),.int .i64 (cfU cs:Nat)] 37 (0,0))):=hrow3;clear hrow3;go_region_held3 (fun w'=>w'.cell? ⟨cb,1,none⟩=some (.int .i64 (cfB cs:Nat))) (first|with_reducible exact e1|exact e3|exact e1) (first|(go_at_call 18;refine(HR.out _ 1 (by omega) HB2.out.drew).mono ?_;rintro e w' ⟨rfl,rfl⟩)|(go_at_call 17;refine(HP1.out _).mono ?_;rintro e w' ⟨rfl,rfl⟩))
 have HB3:Hid (Below w.heap.size w (w2.setCell ⟨cb,2,none⟩ (.int .i64 (cfS cs:Nat))).drew):=(HB2.out.setCell (show w.heap.size<=cb by omega) _).drew;have HR3:Hid ((w2.setCell ⟨cb,2,none⟩ (.int .i64 (cfS cs:Nat))).drew.heap[w.heap.size]? =some (.cells #[.slice none 0 0,.int .i64 0,.int .i64 0,.int .i64 0] 37 (0,0))):=by have t1:Za (fun q=>q=cb) w2 (w2.setCell ⟨cb,2,none⟩ (.int .i64 (cfS cs:Nat))):=(Za.refl (fun q=>q=cb) w2).setCell (p:=⟨cb,2,none⟩) (fun _=>rfl) _;exact t1.at_ HR2.out (by omega)
 have HW3':Hid ((w2.setCell ⟨cb,2,none⟩ (.int .i64 (cfS cs:Nat))).drew.heap[cb]? =some (.cells #[.slice none 0 0,.int .i64 (cfB cs:Nat),.int .i64 (cfS cs:Nat),.int .i64 (cfU cs:Nat)] 37 (0,0))):=HW3.out;generalize (w2.setCell ⟨cb,2,none⟩ (.int .i64 (cfS cs:Nat))).drew=w3 at *;clear HW3 HW2 HR2 HB2 HP1 HR0 HB0 e1 e2 e3 z2 q2 q3 HB HU HS;have hcm:YB cs<=3:=hcf.2.2.2.2.2;have HCM:Hid (YB cs=Zv (Z9 cs 3) 4):=rfl;obtain⟨m,hm⟩:∃m,m=YB cs:=⟨_,rfl⟩;rw[<- hm] at hcm HCM;have HMM:Hid (m=YB cs):=hm;clear hm hcf;obtain⟨i0,hinf,hz0,hz1,hz2⟩:=info_parts Zqb;go_wp2_with fail
 go_loopw [4] (fun ti wr=>∃(k:Nat) (vF:Value),ti=.int .i64 k/\k<=m+1/\Hid (wr.heap[cb]? =some (.cells #[vF,.int .i64 (cfB cs:Nat),.int .i64 (cfS cs:Nat),.int .i64 (cfU cs:Nat)] 37 (0,0)))/\Hid (ZbF wr w.heap.size vF cs k)/\Hid (wr.heap[w.heap.size]? =some (.cells #[.slice none 0 0,.int .i64 0,.int .i64 0,.int .i64 0] 37 (0,0)))/\Hid (Below w.heap.size w wr)) (fun ti _=>m+1-(intOf ti).toNat)
 case atStart=>exact⟨0,_,rfl,by omega,HW3'.out,World.ownsRow_nil _ _ _ _,HR3.out,HB3.out⟩
 case round=>
  clear HW3' HR3 HB3;obtain⟨k,vF,rfl,hk,HC,HO,HZ,HB⟩:=hrel;have hsz:=HB.out.size;have hcl:cb<wr.heap.size:=(Qb HC.out).1;go_wp2_with fail
  refine(HR.out wr 3 (by omega) HB.out).mono ?_;rintro e w4 ⟨rfl,h4⟩;obtain rfl:=h4.symm;go_wp2_with fail
  refine(HP.out wr 3 4 (by omega) (by omega)).mono ?_;rintro e w4 ⟨rfl,h4⟩;obtain rfl:=h4.symm;rw[<- HCM.out]
  by_cases hkm:k<=m
  ·have bk:(k:Int)<=(m:Int):=(by omega);have q4:IntKind.i64.wrap (4+(k:Int))=((4+k:Nat):Int):=(by rw[Zw (by omega) (by omega)];omega);have q8:IntKind.i64.wrap (8+(k:Int))=((8+k:Nat):Int):=(by rw[Zw (by omega) (by omega)];omega);go_wp2_with fail
   refine(HR.out wr (4+k) (by omega) HB.out).mono ?_;rintro e w4 ⟨rfl,h4⟩;obtain rfl:=h4.symm;go_wp2_with fail
   refine(HP.out wr (4+k) 4 (by omega) (by omega)).mono ?_;rintro e w4 ⟨rfl,h4⟩;obtain rfl:=h4.symm;obtain⟨w6,hw6⟩:∃w6,w6=wr.alloc (.cells #[.bool false,.int .i64 (Zv (Z9 cs (4+k)) 4:Nat),.int .i64 0] 51):=⟨_,rfl⟩;have hb6:Below wr.heap.size wr w6:=(by rw[hw6];exact(Below.refl _ _).alloc (Qa _) _);have hr6:w6.heap[wr.heap.size]? =some (.cells #[.bool false,.int .i64 (Zv (Z9 cs (4+k)) 4:Nat),.int .i64 0] 51 (0,0)):=(by rw[hw6];exact heap_alloc_new wr _);have HB6:Hid (Below w.heap.size w w6):=HB.out.trans (hb6.mono hsz);have HC6:Hid (w6.heap[cb]? =some (.cells #[vF,.int .i64 (cfB cs:Nat),.int .i64 (cfS cs:Nat),.int .i64 (cfU cs:Nat)] 37 (0,0))):=(hb6.block cb hcl).trans HC.out;have HO6:Hid (ZbF w6 w.heap.size vF cs k):=(Za.of_below (S:=fun _=>False) hb6).row HO.out (fun _ _=>id)
   have hwl:w.heap.size<wr.heap.size:=(Qb HZ.out).1;have HZ6:Hid (w6.heap[w.heap.size]? =some (.cells #[.slice none 0 0,.int .i64 0,.int .i64 0,.int .i64 0] 37 (0,0))):=(hb6.block _ hwl).trans HZ.out;have HOL:Hid (∀q,vF.ownBlock=some q->q<wr.heap.size):=fun q hq=>(World.ownsRow.lt HO.out q hq).2;have HR6:Hid (w6.heap[wr.heap.size]? =some (.cells #[.bool false,.int .i64 (Zv (Z9 cs (4+k)) 4:Nat),.int .i64 0] 51 (0,0))):=hr6;go_wp2_with fail
   rw[<- hw6];clear hw6 hb6 HC HO HZ HB;refine(HR.out w6 (8+k) (by omega) HB6.out).mono ?_;rintro e w4 ⟨rfl,h4⟩;obtain rfl:=h4.symm;go_wp2_with fail
   refine(HP.out w6 (8+k) 3 (by omega) (by omega)).mono ?_;rintro e w4 ⟨rfl,h4⟩;obtain rfl:=h4.symm;have f0:=frozen_of_row _ _ 0 _ 51 hr6;have f1:=frozen_of_row _ _ 1 _ 51 hr6;have f2:=frozen_of_row _ _ 2 _ 51 hr6;have g0:=cell_of_row _ _ 0 _ 51 (0,0) hr6;have g1:=cell_of_row _ _ 1 _ 51 (0,0) hr6;have g2:=cell_of_row _ _ 2 _ 51 (0,0) hr6;clear hr6;go_upto_if 42 with fail
   go_cut [5] (fun v wx=>v=.pointer (some ⟨wr.heap.size,0,none⟩)/\Hid (wx.heap[wr.heap.size]? =some (.cells #[.bool (Q1 cs k),.int .i64 (cfC cs k),.int .i64 (cfT cs k)] 51 (0,0)))/\Hid (Za (fun q=>q=wr.heap.size) w6 wx))
   case first=>
    have HCW:Hid (Q1 cs k=decide (Zv (Z9 cs (8+k)) 3=0)):=rfl;have HCC:Hid (cfC cs k=if Q1 cs k=true then(0:Int) else((Zv (Z9 cs (4+k)) 4:Nat):Int)):=rfl;have HCT:Hid (cfT cs k=if Q1 cs k=true then 1+((Zv (Z9 cs (4+k)) 9:Nat):Int) else(0:Int)):=rfl
    by_cases hp:Zv (Z9 cs (8+k)) 3=0
    ·have q5:(((Zv (Z9 cs (8+k)) 3:Nat):Int)==0)=true:=(by rw[hp];rfl);have HV:Hid (Q1 cs k=true/\cfC cs k=0/\cfT cs k=1+(Zv (Z9 cs (4+k)) 9:Nat)):=(by have hw:Q1 cs k=true:=(by rw[HCW.out];exact decide_eq_true hp);exact⟨hw,by rw[HCC.out,if_pos hw],by rw[HCT.out,if_pos hw]⟩);have h9:=Z8 (Z9 cs (4+k)) (show 0<9 by omega);obtain⟨p9,hp9⟩:∃p9,p9=Zv (Z9 cs (4+k)) 9:=⟨_,rfl⟩;have HP9:Hid (p9=Zv (Z9 cs (4+k)) 9):=hp9;have q6:IntKind.i64.wrap (1+(p9:Int))=1+(p9:Int):=Zw (by omega) (by omega);clear hp hp9 h9;generalize Zv (Z9 cs (8+k)) 3=p3 at *;go_wp2_with fail
     refine(HR.out w6 (4+k) (by omega) HB6.out).mono ?_;rintro e w4 ⟨rfl,h4⟩;obtain rfl:=h4.symm;go_wp2_with fail
     refine(HP.out w6 (4+k) 9 (by omega) (by omega)).mono ?_;rintro e w4 ⟨rfl,h4⟩;obtain rfl:=h4.symm;rw[<- HP9.out];go_wp2;go_meet
     refine⟨rfl,?_,?_⟩;show _=_;rw[HV.out.1,HV.out.2.1,HV.out.2.2,<- HP9.out];exact heap_setCell_same _ _ 2 _ 51 _ (heap_setCell_same _ _ 1 _ 51 _ (heap_setCell_same _ _ 0 _ 51 _ HR6.out));exact(((Za.refl (fun q=>q=wr.heap.size) w6).setCell (p:=⟨wr.heap.size,0,none⟩) (fun _=>rfl) _).setCell (p:=⟨wr.heap.size,1,none⟩) (fun _=>rfl) _).setCell (p:=⟨wr.heap.size,2,none⟩) (fun _=>rfl) _
    have q5:(((Zv (Z9 cs (8+k)) 3:Nat):Int)==0)=false:=(by rw[beq_eq_false_iff_ne];omega);have HV:Hid (Q1 cs k=false/\cfC cs k=(Zv (Z9 cs (4+k)) 4:Nat)/\cfT cs k=0):=(by have hw:Q1 cs k=false:=(by rw[HCW.out];exact decide_eq_false hp);have hw2:¬Q1 cs k=true:=(by rw[hw];decide);exact⟨hw,by rw[HCC.out,if_neg hw2],by rw[HCT.out,if_neg hw2]⟩);go_wp2;go_meet
    refine⟨rfl,?_,Za.refl _ _⟩;show _=_;rw[HV.out.1,HV.out.2.1,HV.out.2.2];exact HR6.out
   case rest=>
    obtain⟨rfl,HRW,HTT⟩:=hcut;clear f0 f1 f2 g0 g1 g2 HR6;obtain⟨av,cv,rfl⟩:=HO6.out.shape;have hne1:cb≠wr.heap.size:=(by omega);have HCc:Hid (wc.heap[cb]? =some (.cells #[.slice av k cv,.int .i64 (cfB cs:Nat),.int .i64 (cfS cs:Nat),.int .i64 (cfU cs:Nat)] 37 (0,0))):=HTT.out.at_ HC6.out hne1;have HZc:Hid (wc.heap[w.heap.size]? =some (.cells #[.slice none 0 0,.int .i64 0,.int .i64 0,.int .i64 0] 37 (0,0))):=HTT.out.at_ HZ6.out (by omega)
    have HOc:Hid (ZbF wc w.heap.size (.slice av k cv) cs k):=HTT.out.row HO6.out (fun q hq e=>by
     have h1:=HOL.out q hq
     omega)
    have HBc:Hid (Below w.heap.size w wc):=HB6.out.trans (HTT.out.to_below HB6.out.size (fun q hq=>by rw[hq];exact hsz));have hcs:=HBc.out.size;have hcb:cb<wc.heap.size:=(Qb HCc.out).1;have g0:=cell_of_row _ _ 0 _ 51 (0,0) HRW.out;have g1:=cell_of_row _ _ 1 _ 51 (0,0) HRW.out;have g2:=cell_of_row _ _ 2 _ 51 (0,0) HRW.out;have g3:=cell_of_row _ _ 0 _ 37 (0,0) HCc.out;have HFS:Hid (Zcr cs (k+1)=Zcr cs k++[.bool (Q1 cs k),.int .i64 (cfC cs k),.int .i64 (cfT cs k)]):=rfl;clear HTT HC6 HZ6 HO6 HB6 HRW;generalize Q1 cs k=xW at *;generalize cfC cs k=xC at *;generalize cfT cs k=xT at *;have HROW:Hid (wc.ownsRow w.heap.size 51 3 (.slice av k cv) k (Zcr cs k)):=HOc.out
    go_wp2_with (at_builtin;refine Zg rfl (.tmp 51) (.tmp 53) 35 rfl w.heap.size 51 i0 (.agg #[.bool false,.int .i64 0,.int .i64 0]) 3 24 Tryz.underlying35 hinf hz0 hz1 hz2 rfl (by decide) (.slice av k cv) k (Zcr cs k) rfl (World.ownsRow.alloc HROW.out _) ⟨wc.heap.size,0,none⟩ 1 1 [.bool xW,.int .i64 xC,.int .i64 xT] rfl rfl ?_ ?_ ?_ ?_ ?_ ?_ ?_)
    exact Zr wc #[.bool xW,.int .i64 xC,.int .i64 xT] 51
    ·intro u hu;simp at hu;rcases hu with rfl|rfl|rfl<;>rfl
    decide;unfold maxLen;omega;omega;simp;omega;intro v4 w4 H4;obtain⟨r4,g4,d4,_,_⟩:=H4.out;have h2S:ZbF w4 w.heap.size v4 cs (k+1):=by unfold ZbF;rw[HFS.out];exact r4
    obtain⟨a4,c4,rfl⟩:=h2S.shape;obtain⟨w8,hw8⟩:∃w8,w8=wc.alloc (.cells #[.bool xW,.int .i64 xC,.int .i64 xT] 51):=⟨_,rfl⟩;rw[<- hw8] at g4 d4;have hb8:Below wc.heap.size wc w8:=(by rw[hw8];exact(Below.refl _ _).alloc (Qa _) _);have h8b:=hb8.size;have T:Za (fun q=>(Value.slice av k cv).ownBlock=some q) w8 w4:=(Za.refl _ w8).grown g4 (fun k hk _=>hk);have hR8:w8.ownsRow w.heap.size 51 3 (.slice av k cv) k (Zcr cs k):=(Za.of_below (S:=fun _=>False) hb8).row HROW.out (fun _ _=>id);have hE8:=(hb8.block cb hcb).trans HCc.out;have hZ8:=(hb8.block w.heap.size (by omega)).trans HZc.out;have hE4:w4.heap[cb]? =some (.cells #[.slice av k cv,.int .i64 (cfB cs:Nat),.int .i64 (cfS cs:Nat),.int .i64 (cfU cs:Nat)] 37 (0,0)):=T.at_ hE8 (fun e=>Zo hR8 e hE8 (by decide) rfl)
    have hZ4:w4.heap[w.heap.size]? =some (.cells #[.slice none 0 0,.int .i64 0,.int .i64 0,.int .i64 0] 37 (0,0)):=T.at_ hZ8 (fun e=>Zo hR8 e hZ8 (by decide) rfl);have f4:w4.cell? ⟨cb,0,none⟩=some (.slice av k cv):=cell_of_row _ _ 0 _ 37 (0,0) hE4;have z4:w4.frozen? ⟨cb,0,none⟩=false:=frozen_of_row _ _ 0 _ 37 hE4;have HE5:Hid ((w4.setCell ⟨cb,0,none⟩ (.slice a4 (k+1) c4)).heap[cb]? =some (.cells #[.slice a4 (k+1) c4,.int .i64 (cfB cs:Nat),.int .i64 (cfS cs:Nat),.int .i64 (cfU cs:Nat)] 37 (0,0))):=heap_setCell_same _ cb 0 _ 37 _ hE4;have HO5:Hid (ZbF (w4.setCell ⟨cb,0,none⟩ (.slice a4 (k+1) c4)) w.heap.size (.slice a4 (k+1) c4) cs (k+1)):=Zm h2S hE4 (by decide)
    have HZ5:Hid ((w4.setCell ⟨cb,0,none⟩ (.slice a4 (k+1) c4)).heap[w.heap.size]? =some (.cells #[.slice none 0 0,.int .i64 0,.int .i64 0,.int .i64 0] 37 (0,0))):=(by have t1:Za (fun q=>q=cb) w4 (w4.setCell ⟨cb,0,none⟩ (.slice a4 (k+1) c4)):=(Za.refl (fun q=>q=cb) w4).setCell (p:=⟨cb,0,none⟩) (fun _=>rfl) _;exact t1.at_ hZ4 (by omega));have HB5:Hid (Below w.heap.size w (w4.setCell ⟨cb,0,none⟩ (.slice a4 (k+1) c4))):=by have h1:Below w.heap.size w w8:=HBc.out.trans (hb8.mono hcs);exact(h1.grown g4 h1.size (fun q hq=>(World.ownsRow.lt hR8 q hq).1)).setCell (show w.heap.size<=cb by omega) _
    clear H4 r4 g4 d4 hw8 hb8 h8b T hR8 hE8 hZ8 hE4 hZ4 h2S HCc HZc HOc HBc HROW g0 g1 g2 g3;go_wp2;go_roundw;case rel=>exact⟨k+1,_,by go_num,by omega,HE5.out,HO5.out,HZ5.out,HB5.out⟩
    case measure=>simp[intOf];omega
  have hkm2:k=m+1:=(by omega);subst hkm2;have bk:¬((m+1:Nat):Int)<=(m:Int):=(by omega);have bk2:¬(m:Int)+1<=(m:Int):=(by omega);obtain⟨fk,fc,rfl,hfk,hft⟩:=HO.out.feats (by omega) (by omega);have hE:=HC.out;have e0:=cell_of_row _ _ 0 _ 37 (0,0) hE;have e1:=cell_of_row _ _ 1 _ 37 (0,0) hE;have e2:=cell_of_row _ _ 2 _ 37 (0,0) hE;have e3:=cell_of_row _ _ 3 _ 37 (0,0) hE;have hr0:=HZ.out;have r0:=cell_of_row _ _ 0 _ 37 (0,0) hr0;have r1:=cell_of_row _ _ 1 _ 37 (0,0) hr0;have r2:=cell_of_row _ _ 2 _ 37 (0,0) hr0;have r3:=cell_of_row _ _ 3 _ 37 (0,0) hr0;have z0:=frozen_of_row _ _ 0 _ 37 hr0;have z1:=frozen_of_row _ _ 1 _ 37 hr0;have z2:=frozen_of_row _ _ 2 _ 37 hr0;have z3:=frozen_of_row _ _ 3 _ 37 hr0;have HFT:Hid (ZbF wr w.heap.size (.slice (some ⟨fk,0,none⟩) (m+1) fc) cs (m+1)):=HO.out
  clear hE hr0 hft HO;go_wp2;refine bodyPost_ret (v:=.agg #[.slice (some ⟨fk,0,none⟩) (m+1) fc,.int .i64 (cfB cs:Nat),.int .i64 (cfS cs:Nat),.int .i64 (cfU cs:Nat)]) (by simp[results,Tryz.results23,go_sem, *]) rfl ?_;rw[<- HMM.out];have h1:=Zm HFT.out HZ.out (j:=0) (u:=.slice (some ⟨fk,0,none⟩) (m+1) fc) (by decide);have h2:=Zm h1 (by exact heap_setCell_same _ _ 0 _ 37 _ HZ.out) (j:=1) (u:=.int .i64 (cfB cs:Nat)) (by decide);have h3:=Zm h2 (by exact heap_setCell_same _ _ 1 _ 37 _ (heap_setCell_same _ _ 0 _ 37 _ HZ.out)) (j:=2) (u:=.int .i64 (cfS cs:Nat)) (by decide);have h4:=Zm h3 (by exact heap_setCell_same _ _ 2 _ 37 _ (heap_setCell_same _ _ 1 _ 37 _ (heap_setCell_same _ _ 0 _ 37 _ HZ.out))) (j:=3) (u:=.int .i64 (cfU cs:Nat)) (by decide)
  obtain⟨fk',fc',e,_,hf⟩:=ZbF.feats (show ZbF _ _ _ cs (m+1) from h4) (by omega) (by omega);simp only[Value.slice.injEq,Option.some.injEq,Addr.mk.injEq,and_true,true_and] at e;obtain⟨rfl,rfl⟩:=e;exact⟨fk,fc,rfl,hfk,hf,(((HB.out.setCell (Qa _) _).setCell (Qa _) _).setCell (Qa _) _).setCell (Qa _) _⟩
def ten:ByteArray:=⟨#[48,49,50,51,52,53,54,55,56,57]⟩
def Zg9(n:Nat):ByteArray:=ten.extract n (n+1)
def Zik(n:Nat):ByteArray:=if n<10 then Zg9 n else Zg9 (n/10)++Zg9 (n%10)
def Qw(z:Int):ByteArray:=if z<0 then⟨#[45]⟩++Zik (-z).toNat else Zik z.toNat
theorem ZoU:ten.size=10:=rfl
theorem QZ{n:Nat}(h:n<10):(Zg9 n).size=1:=by unfold Zg9;rw[ByteArray.size_extract,ZoU];omega
theorem Zf6(n:Nat)(hn:n<10)(w:World):Calls Tryz.prog 48 #[.int .i64 (n:Nat)] w fun e w'=>e=.returned (.string (Zg9 n))/\Below w.heap.size w w':=by have b0:¬(n:Int)<0:=(by omega);have b1:(n:Int)<10:=(by omega);have b2:(0:Int)<=(n:Int):=(by omega);have b3:(n:Int)<=(n:Int)+1:=(by omega);have b4:(n:Int)+1<=10:=(by omega);have q:IntKind.i64.wrap ((n:Int)+1)=((n+1:Nat):Int):=(by rw[Zw (by omega) (by omega)];omega);go_enter Tryz.func48,Tryz.ntmps48;go_wp2;go_ret;exact⟨rfl,Below.refl _ _⟩
theorem Zf7(n:Nat)(hn:n<100)(w:World):Calls Tryz.prog 48 #[.int .i64 (n:Nat)] w fun e w'=>e=.returned (.string (Zik n))/\Below w.heap.size w w':=by
 unfold Zik
 by_cases h10:n<10
 rw[if_pos h10];exact Zf6 n h10 w;rw[if_neg h10];obtain⟨a,ha⟩:∃a,a=n/10:=⟨_,rfl⟩;obtain⟨b,hb⟩:∃b,b=n%10:=⟨_,rfl⟩;rw[<- ha,<- hb];have b0:¬(n:Int)<0:=(by omega);have b1:¬(n:Int)<10:=by omega
 have q1:(n:Int).tdiv 10=(a:Int):=(by rw[Int.tdiv_eq_ediv_of_nonneg (by omega)];omega);have q2:(n:Int).tmod 10=(b:Int):=by rw[Int.tmod_eq_emod_of_nonneg (by omega)];omega
 have q4:IntKind.i64.wrap (a:Int)=(a:Int):=Zw (by omega) (by omega);have q5:IntKind.i64.wrap ((n:Int).tdiv 10)=(a:Int):=(by rw[q1];exact q4);have q3:IntKind.i64.wrap ((b:Int)+1)=((b+1:Nat):Int):=(by rw[Zw (by omega) (by omega)];omega);have c2:(0:Int)<=(b:Int):=(by omega);have c3:(b:Int)<=(b:Int)+1:=(by omega);have c4:(b:Int)+1<=10:=(by omega);have HD:Hid (∀W:World,Calls Tryz.prog 48 #[.int .i64 (a:Nat)] W fun e w'=>e=.returned (.string (Zg9 a))/\Below W.heap.size W w'):=fun W=>Zf6 a (by omega) W;have HS:Hid ((Zg9 a).size=1/\(ten.extract b (b+1)).size=1):=⟨QZ (by omega),QZ (n:=b) (by omega)⟩;obtain⟨s1,s2⟩:=HS.out;have HT:Hid (Zg9 b=ten.extract b (b+1)):=rfl;unfold ten at s2 HT;generalize Zg9 a=A at *;clear ha hb h10
 go_enter Tryz.func48,Tryz.ntmps48;go_wp2_with fail
 go_region_held3 (fun _=>True) (trivial) (first|(go_at_call 48;refine(HD.out _).mono ?_;rintro e w1 ⟨rfl,hb1⟩))
 have HB:Hid (Below w.heap.size w w1):=(Below.refl _ _).drew.trans (hb1.mono (by simp));clear hb1;go_wp2;go_ret;exact⟨by rw[HT.out];rfl,HB.out⟩
theorem Zf5(z:Int)(h1: -99<=z)(h2:z<=99)(w:World):Calls Tryz.prog 48 #[.int .i64 z] w fun e w'=>e=.returned (.string (Qw z))/\Below w.heap.size w w':=by
 unfold Qw
 by_cases h0:z<0
 ·rw[if_pos h0];have HD:=Zf7 (-z).toNat (by omega) w;rw[show(((-z).toNat:Nat):Int)= -z by omega] at HD;have q1:IntKind.i64.wrap (-z)= -z:=Zw (by omega) (by omega);have hs:(Zik (-z).toNat).size<=2:=(by unfold Zik;split;rw[QZ (by omega)];omega;rw[ByteArray.size_append,QZ (by omega),QZ (by omega)];omega);generalize Zik (-z).toNat=A at *;go_enter Tryz.func48,Tryz.ntmps48;go_wp2_with fail
  refine HD.mono ?_;rintro e w1 ⟨rfl,hb1⟩;have HB:Hid (Below w.heap.size w w1):=hb1;clear hb1;go_wp2;go_ret;exact⟨rfl,HB.out⟩
 rw[if_neg h0];have HD:=Zf7 z.toNat (by omega) w
 rwa [show((z.toNat:Nat):Int)=z by omega] at HD
def Zke(p:Nat):ByteArray:=[(⟨#[97]⟩:ByteArray),⟨#[98]⟩,⟨#[34,97,32,98,34]⟩,⟨#[34,34]⟩,⟨#[122,122]⟩,⟨#[34,120,34,34,121,34]⟩].getD p ⟨#[]⟩
def ZoZ(p:Nat):ByteArray:=[(⟨#[97]⟩:ByteArray),⟨#[98]⟩,⟨#[97,32,98]⟩,⟨#[]⟩,⟨#[122,122]⟩,⟨#[120,34,121]⟩].getD p ⟨#[]⟩
def kN(n:Int):Int:=((Zv n 61:Nat):Int)-30
def ZeZ(sc n:Int):Bool:=decide (0<sc/\Zv n 4=0/\0<=kN n)
def fdT(wd:Bool)(sc n:Int):ByteArray:=if wd=true then Zke (Zv n 6) else if ZeZ sc n=true then Qw (kN n)++⟨#[46,53]⟩ else Qw (kN n)
def fdV(wd:Bool)(sc n:Int):Int:=if wd=true then 0 else if ZeZ sc n=true then kN n*ZE sc.toNat+ZE sc.toNat/2 else kN n*ZE sc.toNat
def fdS(wd:Bool)(n:Int):ByteArray:=if wd=true then ZoZ (Zv n 6) else⟨#[]⟩
theorem ZcI{z:Int}(h1: -99<=z)(h2:z<=99):(Qw z).size<=3:=by
 have hp:∀n,n<100->(Zik n).size<=2:=fun n hn=>by unfold Zik;split;rw[QZ (by omega)];omega;rw[ByteArray.size_append,QZ (by omega),QZ (by omega)];omega
 unfold Qw;split;rw[ByteArray.size_append];have:=hp (-z).toNat (by omega);have e:(⟨#[45]⟩:ByteArray).size=1:=rfl;omega;have:=hp z.toNat (by omega);omega
theorem ZkJ(sc ct n:Int)(hn:(Lit.int .i64 n).wf=true)(w:World):Calls Tryz.prog 49 #[.agg #[.bool true,.int .i64 sc,.int .i64 ct],.int .i64 n] w fun e w'=>e=.returned (.tuple #[.string (Zke (Zv n 6)),.int .i64 0,.string (ZoZ (Zv n 6))])/\Below w.heap.size w w':=by
 have HP:Hid (∀W:World,Calls Tryz.prog 17 #[.int .i64 n,.int .i64 6] W fun e w'=>e=.returned (.int .i64 (Zv n 6:Nat))/\w'=W):=fun W=>Ys n 6 W hn (by omega) (by omega);have hp:=Z8 n (show 0<6 by omega);generalize Zv n 6=p at *;clear hn;go_enter Tryz.func49,Tryz.ntmps49;go_wp2_with fail
 refine(HP.out _).mono ?_;rintro e w1 ⟨rfl,h1⟩;obtain rfl:=h1.symm
 rcases(show p=0∨p=1∨p=2∨p=3∨p=4∨p=5 by omega) with rfl|rfl|rfl|rfl|rfl|rfl
 ·go_wp2_with fail
  refine(HP.out _).mono ?_;rintro e w2 ⟨rfl,h2⟩;obtain rfl:=h2.symm;go_wp2;refine bodyPost_ret (v:=.tuple #[.string ⟨#[97]⟩,.int .i64 0,.string ⟨#[97]⟩]) (by simp[results,Tryz.results49,go_sem]) rfl ?_;exact⟨rfl,(((Below.refl _ _).alloc (Qa _) _).alloc (by simp) _).alloc (by simp;omega) _⟩
 ·go_wp2_with fail
  refine(HP.out _).mono ?_;rintro e w2 ⟨rfl,h2⟩;obtain rfl:=h2.symm;go_wp2;refine bodyPost_ret (v:=.tuple #[.string ⟨#[98]⟩,.int .i64 0,.string ⟨#[98]⟩]) (by simp[results,Tryz.results49,go_sem]) rfl ?_;exact⟨rfl,(((Below.refl _ _).alloc (Qa _) _).alloc (by simp) _).alloc (by simp;omega) _⟩
 ·go_wp2_with fail
  refine(HP.out _).mono ?_;rintro e w2 ⟨rfl,h2⟩;obtain rfl:=h2.symm;go_wp2;refine bodyPost_ret (v:=.tuple #[.string ⟨#[34,97,32,98,34]⟩,.int .i64 0,.string ⟨#[97,32,98]⟩]) (by simp[results,Tryz.results49,go_sem]) rfl ?_;exact⟨rfl,(((Below.refl _ _).alloc (Qa _) _).alloc (by simp) _).alloc (by simp;omega) _⟩
 ·go_wp2_with fail
  refine(HP.out _).mono ?_;rintro e w2 ⟨rfl,h2⟩;obtain rfl:=h2.symm;go_wp2;refine bodyPost_ret (v:=.tuple #[.string ⟨#[34,34]⟩,.int .i64 0,.string ⟨#[]⟩]) (by simp[results,Tryz.results49,go_sem]) rfl ?_;exact⟨rfl,(((Below.refl _ _).alloc (Qa _) _).alloc (by simp) _).alloc (by simp;omega) _⟩
 ·go_wp2_with fail
  refine(HP.out _).mono ?_;rintro e w2 ⟨rfl,h2⟩;obtain rfl:=h2.symm;go_wp2;refine bodyPost_ret (v:=.tuple #[.string ⟨#[122,122]⟩,.int .i64 0,.string ⟨#[122,122]⟩]) (by simp[results,Tryz.results49,go_sem]) rfl ?_;exact⟨rfl,(((Below.refl _ _).alloc (Qa _) _).alloc (by simp) _).alloc (by simp;omega) _⟩
 go_wp2_with fail
 refine(HP.out _).mono ?_;rintro e w2 ⟨rfl,h2⟩;obtain rfl:=h2.symm;go_wp2;refine bodyPost_ret (v:=.tuple #[.string ⟨#[34,120,34,34,121,34]⟩,.int .i64 0,.string ⟨#[120,34,121]⟩]) (by simp[results,Tryz.results49,go_sem]) rfl ?_;exact⟨rfl,(((Below.refl _ _).alloc (Qa _) _).alloc (by simp) _).alloc (by simp;omega) _⟩
theorem ZmU(sc ct n:Int)(hn:(Lit.int .i64 n).wf=true)(h0:0<=sc)(h3:sc<=3)(w:World):Calls Tryz.prog 49 #[.agg #[.bool false,.int .i64 sc,.int .i64 ct],.int .i64 n] w fun e w'=>e=.returned (.tuple #[.string (fdT false sc n),.int .i64 (fdV false sc n),.string ⟨#[]⟩])/\Below w.heap.size w w':=by
 have HP61:Hid (∀W:World,Calls Tryz.prog 17 #[.int .i64 n,.int .i64 61] W fun e w'=>e=.returned (.int .i64 (Zv n 61:Nat))/\w'=W):=fun W=>Ys n 61 W hn (by omega) (by omega);have HP4:Hid (∀W:World,Calls Tryz.prog 17 #[.int .i64 n,.int .i64 4] W fun e w'=>e=.returned (.int .i64 (Zv n 4:Nat))/\w'=W):=fun W=>Ys n 4 W hn (by omega) (by omega);have hp:=Z8 n (show 0<61 by omega);have hk1: -30<=kN n/\kN n<=30:=(by unfold kN;omega);have qk:IntKind.i64.wrap (((Zv n 61:Nat):Int)-30)=kN n:=(by rw[Zw (by omega) (by omega)];rfl);have HD:Hid (∀W:World,Calls Tryz.prog 48 #[.int .i64 (kN n)] W fun e w'=>e=.returned (.string (Qw (kN n)))/\Below W.heap.size W w'):=fun W=>Zf5 (kN n) (by omega) (by omega) W;have hds:(Qw (kN n)).size<=3:=ZcI (by omega) (by omega)
 have HT:Hid (fdT false sc n=if ZeZ sc n=true then Qw (kN n)++⟨#[46,53]⟩ else Qw (kN n)):=rfl;have HV:Hid (fdV false sc n=if ZeZ sc n=true then kN n*ZE sc.toNat+ZE sc.toNat/2 else kN n*ZE sc.toNat):=rfl;have HH:Hid (ZeZ sc n=decide (0<sc/\Zv n 4=0/\0<=kN n)):=rfl;generalize fdT false sc n=fT at *;generalize fdV false sc n=fV at *;generalize ZeZ sc n=hN at *;generalize Zv n 61=p61 at *;generalize Zv n 4=p4 at *;generalize kN n=kk at *;clear hn hp
 rcases(show sc=0∨sc=1∨sc=2∨sc=3 by omega) with rfl|rfl|rfl|rfl
 ·have HF:Hid (hN=false):=(by show _=_;rw[HH.out];exact decide_eq_false (by omega));have q1:IntKind.i64.wrap (kk*1)=kk*1:=Zw (by omega) (by omega);go_enter Tryz.func49,Tryz.ntmps49;go_wp2_with fail
  refine(HP61.out _).mono ?_;rintro e w1 ⟨rfl,h1⟩;obtain rfl:=h1.symm;go_wp2_with fail
  refine(HD.out _).mono ?_;rintro e w3 ⟨rfl,hb3⟩;have HB:Hid (Below w.heap.size w w3):=(((Below.refl _ _).alloc (Qa _) _).alloc (by simp) _).trans (hb3.mono (by simp;omega));clear hb3;go_wp2;refine bodyPost_ret (v:=.tuple #[.string (Qw kk),.int .i64 (kk*1),.string ⟨#[]⟩]) (by simp[results,Tryz.results49,go_sem]) rfl ?_;exact⟨by rw[HT.out,HV.out,HF.out];rfl,HB.out⟩
 ·have q1:IntKind.i64.wrap (kk*10)=kk*10:=Zw (by omega) (by omega);go_enter Tryz.func49,Tryz.ntmps49;go_wp2_with fail
  refine(HP61.out _).mono ?_;rintro e w1 ⟨rfl,h1⟩;obtain rfl:=h1.symm;go_wp2_with fail
  refine(HP4.out _).mono ?_;rintro e w2 ⟨rfl,h2⟩;obtain rfl:=h2.symm
  by_cases hc:p4=0/\0<=kk
  ·have HF:Hid (hN=true):=(by show _=_;rw[HH.out];exact decide_eq_true (by omega));have q4:((p4:Int)==0)=true:=(by rw[hc.1];rfl);have q5:0<=kk:=hc.2;have q6:IntKind.i64.wrap (kk*10+5)=kk*10+5:=Zw (by omega) (by omega);clear hc;go_wp2_with fail
   refine(HD.out _).mono ?_;rintro e w3 ⟨rfl,hb3⟩;have HB:Hid (Below w.heap.size w w3):=(((Below.refl _ _).alloc (Qa _) _).alloc (by simp) _).trans (hb3.mono (by simp;omega));clear hb3;go_wp2;refine bodyPost_ret (v:=.tuple #[.string (Qw kk++⟨#[46,53]⟩),.int .i64 (kk*10+5),.string ⟨#[]⟩]) (by simp[results,Tryz.results49,go_sem]) rfl ?_;exact⟨by rw[HT.out,HV.out,HF.out];rfl,HB.out⟩
  have HF:Hid (hN=false):=by show _=_;rw[HH.out];exact decide_eq_false (by omega)
  by_cases hp4:p4=0
  ·have q4:((p4:Int)==0)=true:=(by rw[hp4];rfl);have q5:¬0<=kk:=(by omega);clear hc hp4;go_wp2_with fail
   refine(HD.out _).mono ?_;rintro e w3 ⟨rfl,hb3⟩;have HB:Hid (Below w.heap.size w w3):=(((Below.refl _ _).alloc (Qa _) _).alloc (by simp) _).trans (hb3.mono (by simp;omega));clear hb3;go_wp2;refine bodyPost_ret (v:=.tuple #[.string (Qw kk),.int .i64 (kk*10),.string ⟨#[]⟩]) (by simp[results,Tryz.results49,go_sem]) rfl ?_;exact⟨by rw[HT.out,HV.out,HF.out];rfl,HB.out⟩
  have q4:((p4:Int)==0)=false:=(by rw[beq_eq_false_iff_ne];omega);clear hc;go_wp2_with fail
  refine(HD.out _).mono ?_;rintro e w3 ⟨rfl,hb3⟩;have HB:Hid (Below w.heap.size w w3):=(((Below.refl _ _).alloc (Qa _) _).alloc (by simp) _).trans (hb3.mono (by simp;omega));clear hb3;go_wp2;refine bodyPost_ret (v:=.tuple #[.string (Qw kk),.int .i64 (kk*10),.string ⟨#[]⟩]) (by simp[results,Tryz.results49,go_sem]) rfl ?_;exact⟨by rw[HT.out,HV.out,HF.out];rfl,HB.out⟩
 ·have q1:IntKind.i64.wrap (kk*100)=kk*100:=Zw (by omega) (by omega);go_enter Tryz.func49,Tryz.ntmps49;go_wp2_with fail
  refine(HP61.out _).mono ?_;rintro e w1 ⟨rfl,h1⟩;obtain rfl:=h1.symm;go_wp2_with fail
  refine(HP4.out _).mono ?_;rintro e w2 ⟨rfl,h2⟩;obtain rfl:=h2.symm
  by_cases hc:p4=0/\0<=kk
  ·have HF:Hid (hN=true):=(by show _=_;rw[HH.out];exact decide_eq_true (by omega));have q4:((p4:Int)==0)=true:=(by rw[hc.1];rfl);have q5:0<=kk:=hc.2;have q6:IntKind.i64.wrap (kk*100+50)=kk*100+50:=Zw (by omega) (by omega);clear hc;go_wp2_with fail
   refine(HD.out _).mono ?_;rintro e w3 ⟨rfl,hb3⟩;have HB:Hid (Below w.heap.size w w3):=(((Below.refl _ _).alloc (Qa _) _).alloc (by simp) _).trans (hb3.mono (by simp;omega));clear hb3;go_wp2;refine bodyPost_ret (v:=.tuple #[.string (Qw kk++⟨#[46,53]⟩),.int .i64 (kk*100+50),.string ⟨#[]⟩]) (by simp[results,Tryz.results49,go_sem]) rfl ?_;exact⟨by rw[HT.out,HV.out,HF.out];rfl,HB.out⟩
  have HF:Hid (hN=false):=by show _=_;rw[HH.out];exact decide_eq_false (by omega)
  by_cases hp4:p4=0
  ·have q4:((p4:Int)==0)=true:=(by rw[hp4];rfl);have q5:¬0<=kk:=(by omega);clear hc hp4;go_wp2_with fail
   refine(HD.out _).mono ?_;rintro e w3 ⟨rfl,hb3⟩;have HB:Hid (Below w.heap.size w w3):=(((Below.refl _ _).alloc (Qa _) _).alloc (by simp) _).trans (hb3.mono (by simp;omega));clear hb3;go_wp2;refine bodyPost_ret (v:=.tuple #[.string (Qw kk),.int .i64 (kk*100),.string ⟨#[]⟩]) (by simp[results,Tryz.results49,go_sem]) rfl ?_;exact⟨by rw[HT.out,HV.out,HF.out];rfl,HB.out⟩
  have q4:((p4:Int)==0)=false:=(by rw[beq_eq_false_iff_ne];omega);clear hc;go_wp2_with fail
  refine(HD.out _).mono ?_;rintro e w3 ⟨rfl,hb3⟩;have HB:Hid (Below w.heap.size w w3):=(((Below.refl _ _).alloc (Qa _) _).alloc (by simp) _).trans (hb3.mono (by simp;omega));clear hb3;go_wp2;refine bodyPost_ret (v:=.tuple #[.string (Qw kk),.int .i64 (kk*100),.string ⟨#[]⟩]) (by simp[results,Tryz.results49,go_sem]) rfl ?_;exact⟨by rw[HT.out,HV.out,HF.out];rfl,HB.out⟩
 have q1:IntKind.i64.wrap (kk*1000)=kk*1000:=Zw (by omega) (by omega);go_enter Tryz.func49,Tryz.ntmps49;go_wp2_with fail
 refine(HP61.out _).mono ?_;rintro e w1 ⟨rfl,h1⟩;obtain rfl:=h1.symm;go_wp2_with fail
 refine(HP4.out _).mono ?_;rintro e w2 ⟨rfl,h2⟩;obtain rfl:=h2.symm
 by_cases hc:p4=0/\0<=kk
 ·have HF:Hid (hN=true):=(by show _=_;rw[HH.out];exact decide_eq_true (by omega));have q4:((p4:Int)==0)=true:=(by rw[hc.1];rfl);have q5:0<=kk:=hc.2;have q6:IntKind.i64.wrap (kk*1000+500)=kk*1000+500:=Zw (by omega) (by omega);clear hc;go_wp2_with fail
  refine(HD.out _).mono ?_;rintro e w3 ⟨rfl,hb3⟩;have HB:Hid (Below w.heap.size w w3):=(((Below.refl _ _).alloc (Qa _) _).alloc (by simp) _).trans (hb3.mono (by simp;omega));clear hb3;go_wp2;refine bodyPost_ret (v:=.tuple #[.string (Qw kk++⟨#[46,53]⟩),.int .i64 (kk*1000+500),.string ⟨#[]⟩]) (by simp[results,Tryz.results49,go_sem]) rfl ?_;exact⟨by rw[HT.out,HV.out,HF.out];rfl,HB.out⟩
 have HF:Hid (hN=false):=by show _=_;rw[HH.out];exact decide_eq_false (by omega)
 by_cases hp4:p4=0
 ·have q4:((p4:Int)==0)=true:=(by rw[hp4];rfl);have q5:¬0<=kk:=(by omega);clear hc hp4;go_wp2_with fail
  refine(HD.out _).mono ?_;rintro e w3 ⟨rfl,hb3⟩;have HB:Hid (Below w.heap.size w w3):=(((Below.refl _ _).alloc (Qa _) _).alloc (by simp) _).trans (hb3.mono (by simp;omega));clear hb3;go_wp2;refine bodyPost_ret (v:=.tuple #[.string (Qw kk),.int .i64 (kk*1000),.string ⟨#[]⟩]) (by simp[results,Tryz.results49,go_sem]) rfl ?_;exact⟨by rw[HT.out,HV.out,HF.out];rfl,HB.out⟩
 have q4:((p4:Int)==0)=false:=(by rw[beq_eq_false_iff_ne];omega);clear hc;go_wp2_with fail
 refine(HD.out _).mono ?_;rintro e w3 ⟨rfl,hb3⟩;have HB:Hid (Below w.heap.size w w3):=(((Below.refl _ _).alloc (Qa _) _).alloc (by simp) _).trans (hb3.mono (by simp;omega));clear hb3;go_wp2;refine bodyPost_ret (v:=.tuple #[.string (Qw kk),.int .i64 (kk*1000),.string ⟨#[]⟩]) (by simp[results,Tryz.results49,go_sem]) rfl ?_;exact⟨by rw[HT.out,HV.out,HF.out];rfl,HB.out⟩
theorem ZmT(wd:Bool)(sc ct n:Int)(hn:(Lit.int .i64 n).wf=true)(hsc:wd=false->0<=sc/\sc<=3)(w:World):Calls Tryz.prog 49 #[.agg #[.bool wd,.int .i64 sc,.int .i64 ct],.int .i64 n] w fun e w'=>e=.returned (.tuple #[.string (fdT wd sc n),.int .i64 (fdV wd sc n),.string (fdS wd n)])/\Below w.heap.size w w':=by
 cases wd
 exact ZmU sc ct n hn (hsc rfl).1 (hsc rfl).2 w;exact ZkJ sc ct n hn w
theorem Zi8(x y r:Nat)(W:World):Calls Tryz.prog 373 #[.agg #[.int .i64 (x:Nat),.int .i64 (y:Nat)],.int .i64 (r:Nat)] W fun e w'=>e=.returned (.int .i64 (Lib.compareInt (x:Nat) (r:Nat)))/\Below W.heap.size W w':=by
 have H1:Hid (∀w:World,Calls Tryz.prog 151 #[.int .i64 (x:Nat),.int .i64 (r:Nat)] w fun e w'=>e=.returned (.int .i64 (Lib.compareInt (x:Nat) (r:Nat)))/\w'=w):=fun w=>Tryz.cmp_Compare_int _ _ w;generalize Lib.compareInt (x:Nat) (r:Nat)=c1 at *;go_enter Tryz.func373,Tryz.ntmps373;go_wp2_with fail
 refine(H1.out _).mono ?_;rintro e w3 ⟨rfl,hw3⟩;obtain rfl:=hw3.symm;go_wp2;go_ret;exact⟨rfl,(Below.refl _ _).alloc (Qa _) _⟩
theorem Zl1(x r:Nat):Lib.compareInt (x:Nat) (r:Nat)<0↔x<r:=by unfold Lib.compareInt;split<;>(try split)<;>omega
theorem Zl0(x r:Nat):Lib.compareInt (x:Nat) (r:Nat)=0↔x=r:=by unfold Lib.compareInt;split<;>(try split)<;>omega
structure ZlN(L:List (Nat×Nat))(r i:Nat):Prop where
 le:i<=L.length
 lo:∀k,k<i->(L.getD k (0,0)).1<r
 hi:∀k,i<=k->k<L.length->r<=(L.getD k (0,0)).1
def ZaV(L:List (Nat×Nat))(r i:Nat):Bool:=decide (i<L.length/\(L.getD i (0,0)).1=r)
def Zqx(W:World)(L:List (Nat×Nat))(r:Nat)(e:Ending)(w':World):Prop:=∃i,e=.returned (.tuple #[.int .i64 (i:Nat),.bool (ZaV L r i)])/\ZlN L r i/\Below W.heap.size W w'
theorem ZmY(a:Option Addr)(c r:Nat)(L:List (Nat×Nat))(w:World)(h:Zc0 w 0 (.slice a L.length c) L)(hs:L.Pairwise (fun x y=>x.1<y.1))(hl:L.length<=1000000):Calls Tryz.prog 372 #[.slice a L.length c,.int .i64 (r:Nat),.func (.func 373) #[] #[]] w fun e w'=>Zqx w L r e w':=by
 have H0:Hid (Zc0 w 0 (.slice a L.length c) L):=h
 have HS:Hid (∀i j,i<j->j<L.length->(L.getD i (0,0)).1<(L.getD j (0,0)).1):=fun i j hij hj=>by
  have:=List.pairwise_iff_getElem.1 hs i j (by omega) hj hij
  simpa [Qc,Qd hj,Qd (show i<L.length by omega)] using this
 have HC:Hid (∀(x y:Nat) (W:World),Calls Tryz.prog 373 #[.agg #[.int .i64 (x:Nat),.int .i64 (y:Nat)],.int .i64 (r:Nat)] W fun e w'=>e=.returned (.int .i64 (Lib.compareInt (x:Nat) (r:Nat)))/\Below W.heap.size W w'):=fun x y W=>Zi8 x y r W;clear h hs;generalize hnl:L.length=n at *;have HN:Hid (L.length=n):=hnl;clear hnl;go_enter Tryz.func372,Tryz.ntmps372;go_wp2_with fail
 go_loopw [9,10] (fun ti tj wr=>∃(i j:Nat),ti=.int .i64 i/\tj=.int .i64 j/\i<=j/\j<=n/\Hid ((∀k,k<i->(L.getD k (0,0)).1<r)/\(∀k,j<=k->k<n->r<=(L.getD k (0,0)).1)/\Below w.heap.size w wr)) (fun ti tj _=>(intOf tj).toNat-(intOf ti).toNat)
 case atStart=>exact⟨0,n,rfl,rfl,Qg _,Qa _,fun k hk=>by omega,fun k h1 h2=>by omega,Below.refl _ _⟩
 case round=>
  obtain⟨i,j,rfl,rfl,hij,hjn,HR⟩:=hrel
  by_cases hlt:i<j
  ·have b1:(i:Int)<(j:Int):=(by omega);have hm:(i+j)/2<n:=(by omega);obtain⟨q,hq,hql,y0,y1⟩:=(show Zc0 w 0 (.slice a L.length c) L by rw[HN.out];exact H0.out).atK (k:=(i+j)/2) (by rw[HN.out];exact hm);have e0:=(HR.out.2.2.cell (p:=⟨q,(i+j)/2*2,none⟩) hql).trans y0;have e1:=(HR.out.2.2.cell (p:=⟨q,(i+j)/2*2+1,none⟩) hql).trans y1;clear y0 y1;subst hq;generalize hmm:(i+j)/2=m at *;have hmi:((i:Int)+(j:Int))/2=(m:Int):=(by omega);have bm1:(0:Int)<=(m:Int):=(by omega);have bm2:(m:Int)<(n:Int):=(by omega);have HM:Hid ((i+j)/2=m):=hmm;clear hmm
   have HX:Hid ((∀k,k<=m->(L.getD k (0,0)).1<=(L.getD m (0,0)).1)/\(∀k,m<=k->k<n->(L.getD m (0,0)).1<=(L.getD k (0,0)).1)):=⟨fun k hk=>by
    rcases Nat.lt_or_ge k m with h1|h1
    exact Nat.le_of_lt (HS.out k m h1 hm)
    ·rw[show k=m by omega];exact Qa _,fun k hk hkn=>by
    rcases Nat.lt_or_ge m k with h1|h1
    exact Nat.le_of_lt (HS.out m k h1 hkn)
    rw[show k=m by omega];exact Qa _⟩
   generalize (L.getD m (0,0)).1=xr at *;generalize (L.getD m (0,0)).2=xn at *;go_wp2_with fail
   refine(HC.out _ _ _).mono ?_;rintro e w3 ⟨rfl,hb3⟩;have HB3:Hid (Below w.heap.size w w3):=HR.out.2.2.trans (hb3.mono HR.out.2.2.size);clear hb3 e0 e1
   by_cases hx:xr<r
   ·have hc:=(Zl1 xr r).2 hx;generalize Lib.compareInt (xr:Nat) (r:Nat)=c1 at *;go_wp2;go_roundw;case rel=>exact⟨m+1,j,by go_num,rfl,by omega,hjn,fun k hk=>by have:=HX.out.1 k (by omega);omega,HR.out.2.1,HB3.out⟩
    case measure=>simp[intOf];omega
   have hc:¬Lib.compareInt (xr:Nat) (r:Nat)<0:=fun h=>hx ((Zl1 xr r).1 h);generalize Lib.compareInt (xr:Nat) (r:Nat)=c1 at *;go_wp2;go_roundw;case rel=>exact⟨i,m,rfl,rfl,by omega,by omega,HR.out.1,fun k h1 h2=>by have:=HX.out.2 k h1 h2;omega,HB3.out⟩
   case measure=>simp[intOf];omega
  have hni:¬(i:Int)<(j:Int):=(by omega);have hie:i=j:=(by omega);subst hie
  by_cases hin:i<n
  ·have b2:(i:Int)<(n:Int):=(by omega);have b3:(0:Int)<=(i:Int):=(by omega);obtain⟨q,hq,hql,y0,y1⟩:=(show Zc0 w 0 (.slice a L.length c) L by rw[HN.out];exact H0.out).atK (k:=i) (by rw[HN.out];exact hin);have e0:=(HR.out.2.2.cell (p:=⟨q,i*2,none⟩) hql).trans y0;have e1:=(HR.out.2.2.cell (p:=⟨q,i*2+1,none⟩) hql).trans y1;clear y0 y1;subst hq;have HFO:Hid (ZaV L r i=decide ((L.getD i (0,0)).1=r)):=(by show _=_;unfold ZaV;rw[HN.out];simp[hin]);generalize (L.getD i (0,0)).1=xr at *;generalize (L.getD i (0,0)).2=xn at *;go_wp2_with fail
   refine(HC.out _ _ _).mono ?_;rintro e w3 ⟨rfl,hb3⟩;have HB3:Hid (Below w.heap.size w w3):=HR.out.2.2.trans (hb3.mono HR.out.2.2.size);clear hb3 e0 e1
   by_cases hx:xr=r
   ·have hc:=(Zl0 xr r).2 hx;rw[hc];go_wp2;go_ret2
    exact⟨i,by rw[HFO.out];simp[hx],⟨by rw[HN.out];exact hjn,HR.out.1,by rw[HN.out];exact HR.out.2.1⟩,HB3.out⟩
   have hc:¬Lib.compareInt (xr:Nat) (r:Nat)=0:=fun h=>hx ((Zl0 xr r).1 h);generalize Lib.compareInt (xr:Nat) (r:Nat)=c1 at *;go_wp2;go_ret2
   exact⟨i,by rw[HFO.out];simp[hx,hc],⟨by rw[HN.out];exact hjn,HR.out.1,by rw[HN.out];exact HR.out.2.1⟩,HB3.out⟩
  have b2:¬(i:Int)<(n:Int):=(by omega);have HFO:Hid (ZaV L r i=false):=(by show _=_;unfold ZaV;rw[HN.out];simp[hin]);go_wp2;go_ret2
  exact⟨i,by rw[HFO.out];rfl,⟨by rw[HN.out];exact hjn,HR.out.1,by rw[HN.out];exact HR.out.2.1⟩,HR.out.2.2⟩
theorem Zd7(N:List Nat):∀(k:Nat) (x:Nat×Nat),x∈spF N k↔x.1<k/\x.2=N.getD x.1 0/\x.2≠0
 |0,x=>by simp[spF]
 | k +1,x=>by
  obtain⟨x1,x2⟩:=x;rw[spF,List.mem_append,Zd7 N k]
  by_cases h0:N.getD k 0=0
  ·rw[if_pos h0];simp only[List.not_mem_nil,or_false];constructor;rintro⟨h1,h2,h3⟩;exact⟨by omega,h2,h3⟩;rintro⟨h1,h2,h3⟩;refine⟨?_,h2,h3⟩
   rcases Nat.lt_or_ge x1 k with h4|h4
   exact h4;have e:x1=k:=(by omega);subst e;exact absurd (h2.trans h0) h3
  rw[if_neg h0];simp only[List.mem_singleton,Prod.mk.injEq];constructor;rintro(⟨h1,h2,h3⟩|⟨h1,h2⟩);exact⟨by omega,h2,h3⟩;subst h1;exact⟨by omega,h2,by rw[h2];exact h0⟩;rintro⟨h1,h2,h3⟩
  rcases Nat.lt_or_ge x1 k with h4|h4
  exact .inl ⟨h4,h2,h3⟩;have e:x1=k:=(by omega);subst e;exact .inr ⟨rfl,h2⟩
theorem ZgN(N:List Nat):∀k,(spF N k).Pairwise (fun x y=>x.1<y.1)
 |0=>by simp[spF]
 |k+1=>by rw[spF,List.pairwise_append];refine⟨ZgN N k,by split<;>simp,fun x hx y hy=>?_⟩;have h1:=((Zd7 N k x).1 hx).1;split at hy;simp at hy;rw[List.mem_singleton] at hy;subst hy;exact h1
theorem Zof{N:List Nat}{k r i:Nat}(hr:r<k)(h:ZlN (spF N k) r i):(if ZaV (spF N k) r i=true then((spF N k).getD i (0,0)).2 else 0)=N.getD r 0:=by
 have hp:=ZgN N k;have hm:=Zd7 N k;generalize spF N k=L at *
 by_cases h0:N.getD r 0=0
 rw[h0,if_neg];intro hf;simp only[ZaV,decide_eq_true_eq] at hf;have hin:L.getD i (0,0)∈L:=(by rw[Qc,Qd hf.1];exact Qf _);have:=(hm _).1 hin;rw[hf.2,h0] at this;exact this.2.2 this.2.1
 have hin:(r,N.getD r 0)∈L:=(hm _).2 ⟨hr,rfl,h0⟩;obtain⟨p,hpl,hpe⟩:=List.getElem_of_mem hin;have hpg:L.getD p (0,0)=(r,N.getD r 0):=by rw[Qc,Qd hpl];exact hpe
 have hpi:p=i:=by
  rcases Nat.lt_trichotomy p i with h1|h1|h1
  have:=h.lo p h1;rw[hpg] at this;simp at this;exact h1;have h2:=h.hi i (Qa _) (by omega);have h3:=List.pairwise_iff_getElem.1 hp i p (by omega) hpl h1;rw[hpe] at h3;rw[Qc,Qd (show i<L.length by omega)] at h2;simp only[Option.getD_some] at h2;omega
 subst hpi;rw[if_pos,hpg];simp only[ZaV,decide_eq_true_eq];exact⟨hpl,by rw[hpg]⟩
theorem Zel(sb n d row:Nat)(vc:Value)(N:List Nat)(w:World)(h:ZfQ w 0 sb n d vc (spF N N.length))(hr:row<N.length)(hl:N.length<=1000000):Calls Tryz.prog 371 #[.pointer (some ⟨sb,0,none⟩),.int .i64 (row:Nat)] w fun e w'=>e=.returned (.int .i64 (N.getD row 0:Nat))/\Below w.heap.size w w':=by
 obtain⟨a,c,rfl⟩:=h.row.shape;have s2:w.cell? ⟨sb,2,none⟩=some (.slice a (spF N N.length).length c):=cell_of_row _ _ 2 _ 403 (0,0) h.blk;have hsl:sb<w.heap.size:=(Qb h.blk).1;have HO:Hid (Zc0 w 0 (.slice a (spF N N.length).length c) (spF N N.length)):=h.row;have HF:=ZmY a c row (spF N N.length) w h.row (ZgN N _) (by have:=Zek N N.length;omega);have HX:Hid (∀i,ZlN (spF N N.length) row i->(if ZaV (spF N N.length) row i=true then((spF N N.length).getD i (0,0)).2 else 0)=N.getD row 0):=fun i hi=>Zof hr hi;clear h hr hl;generalize spF N N.length=L at *;generalize N.getD row 0=res at *;go_enter Tryz.func371,Tryz.ntmps371;go_wp2_with fail
 refine HF.mono ?_;rintro e w2 ⟨i,rfl,hi,hb⟩;have hx:=HX.out i hi;have HB:Hid (Below w.heap.size w w2):=hb;have z2:=(hb.cell (p:=⟨sb,2,none⟩) hsl).trans s2;have HI:Hid (ZlN L row i):=hi;clear hb hi s2
 cases hf:ZaV L row i
 ·have HE:Hid (res=0):=(by rw[hf] at hx;exact hx.symm);clear hx hf;generalize L.length=ll at *;go_wp2;go_ret;exact⟨by rw[HE.out];rfl,HB.out⟩
 have HE:Hid (res=(L.getD i (0,0)).2):=(by rw[hf] at hx;exact hx.symm);have hil:i<L.length:=(by simp only[ZaV,decide_eq_true_eq] at hf;exact hf.1);obtain⟨q,rfl,hql,y0,y1⟩:=HO.out.atK hil;have e1:=(HB.out.cell (p:=⟨q,i*2+1,none⟩) hql).trans y1;clear hx hf y0 y1;have b1:(0:Int)<=(i:Int):=(by omega);have b2:(i:Int)<(L.length:Int):=(by omega);generalize (L.getD i (0,0)).2=x at *;generalize L.length=ll at *;go_wp2;go_ret;exact⟨by rw[HE.out];rfl,HB.out⟩
end Go.Proofs.YtfcgnpchbcmdeaaGreat
