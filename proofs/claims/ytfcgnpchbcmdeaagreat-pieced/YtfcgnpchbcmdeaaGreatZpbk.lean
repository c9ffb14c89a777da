import Derived.Test.YtfcgnpchbcmdeaaGreatZpaf
import Derived.Test.YtfcgnpchbcmdeaaGreatZpbj
import Derived.Test.YtfcgnpchbcmdeaaGreatZpaw
import Derived.Maps.RangeWalk
import Derived.Maps.OwnOps
import Derived.Maps.Views
import Derived.Sort.KeysCollected
namespace Go.Proofs.YtfcgnpchbcmdeaaGreat
set_option linter.unusedSimpArgs false
set_option maxRecDepth 100000
set_option maxHeartbeats 8000000
open Go.RowKit Go.Maps
def Zc4(v:VS)(x:List UInt8):Bool:=!v.miss&&decide (v.word.data.toList=x)
def Q4(ps:List (VS×Int))(x:List UInt8):Int:=(ps.map fun p=>if Zc4 p.1 x=true then p.2 else 0).sum
def ZcM(ps:List (VS×Int))(x:List UInt8):Bool:=ps.any fun p=>Zc4 p.1 x
theorem ZfI(ps:List (VS×Int))(p:VS×Int)(x:List UInt8):Q4 (ps++[p]) x=Q4 ps x+(if Zc4 p.1 x=true then p.2 else 0):=by simp[Q4]
theorem ZgH(ps:List (VS×Int))(p:VS×Int)(x:List UInt8):ZcM (ps++[p]) x=(ZcM ps x||Zc4 p.1 x):=by simp[ZcM]
theorem ZmZ{ps:List (VS×Int)}(h:∀p∈ps,0<=p.2/\p.2<=99)(x:List UInt8):0<=Q4 ps x/\Q4 ps x<=99*ps.length:=by
 induction ps with
 |nil=>simp[Q4]
 | cons p r ih=>
  have h1:=ih (fun q hq=>h q (by simp[hq]));have h2:=h p (by simp);have e:Q4 (p::r) x=(if Zc4 p.1 x=true then p.2 else 0)+Q4 r x:=(by simp[Q4]);rw[e,List.length_cons];split<;>omega
def ZaN(D:DataW Unit)(ps:List (VS×Int)):Prop:=IsMap D/\∀x,has D (.string x)=ZcM ps x/\D.atKey (.string x) (.lit (.int .i64 0))=.lit (.int .i64 (Q4 ps x))
theorem ZaN.start:ZaN (.map []) []:=⟨isMap_empty,fun _=>⟨rfl,rfl⟩⟩
theorem ZaN.miss{D:DataW Unit}{ps:List (VS×Int)}(h:ZaN D ps){v:VS}(z:Int)(hm:v.miss=true):ZaN D (ps++[(v,z)]):=by refine⟨h.1,fun x=>?_⟩;have e:Zc4 v x=false:=(by simp[Zc4,hm]);rw[ZgH,ZfI];simp[e,(h.2 x).1,(h.2 x).2]
theorem ZaN.put{D:DataW Unit}{ps:List (VS×Int)}(h:ZaN D ps){v:VS}{z:Int}(hm:v.miss=false):ZaN (D.put (.string v.word.data.toList) (.lit (.int .i64 (Q4 ps v.word.data.toList+z)))) (ps++[(v,z)]):=by
 refine⟨h.1.put _ _,fun x=>?_⟩;rw[ZgH,ZfI]
 by_cases hx:v.word.data.toList=x
 have e:Zc4 v x=true:=(by simp[Zc4,hm,hx]);subst hx;rw[has_put_same h.1 (show WideAt.IsKeyLit (.string _) from trivial),atKey_put_same h.1 (show WideAt.IsKeyLit (.string _) from trivial)];simp[e];have e:Zc4 v x=false:=(by simp[Zc4,hm,hx]);rw[has_put_other (by intro e;injection e with e;exact hx e.symm),atKey_put_other (by intro e;injection e with e;exact hx e.symm)];simp[e,(h.2 x).1,(h.2 x).2]
def Zc5:List (VS×Int)->List ByteArray
  |[]=>[]
  |p::r=>if p.1.miss=true then Zc5 r else if ZcM r p.1.word.data.toList=true then Zc5 r else p.1.word::Zc5 r
theorem Zcd(b:ByteArray):∀ps,b∈Zc5 ps↔ZcM ps b.data.toList=true
 |[]=>by simp[Zc5,ZcM]
 | p ::r=>by
  have ih:=Zcd b r;have e:ZcM (p::r) b.data.toList=(Zc4 p.1 b.data.toList||ZcM r b.data.toList):=by simp[ZcM]
  have hb:p.1.word.data.toList=b.data.toList↔b=p.1.word:=by
   constructor
   ·intro h
    cases b;cases hw:p.1.word
    rw[hw] at h;simp at h;rw[h]
   intro h;rw[h]
  rw[e];unfold Zc5 Zc4
  cases hm:p.1.miss with
  |true=>simp[ih]
  | false=>
   simp only[Bool.false_eq_true,if_false,Bool.not_false,Bool.true_and,Bool.or_eq_true,decide_eq_true_eq,hb,<- ih];split;rename_i h;constructor;exact .inr;rintro(e|e);rw[ih,e];exact h;exact e;simp
theorem ZaR:∀ps,(Zc5 ps).Nodup
 |[]=>List.nodup_nil
 |p::r=>by unfold Zc5;split;exact ZaR r;split;exact ZaR r;rename_i h;exact List.nodup_cons.2 ⟨fun h2=>h ((Zcd _ r).1 h2),ZaR r⟩
def ZaF(ps:List (VS×Int))(ct:Int):List WS:=((Zc5 ps).map fun b=>⟨b,Q4 ps b.data.toList⟩).filter fun x=>decide (ct<=x.wt)
def lwF(L:List VS)(ws:List Int)(ct bins:Int):ES:=⟨true,[],(((ZaF (L.zip ws) ct).mergeSort fun x y=>decide (leW x y)).take bins.toNat).map WS.wd⟩
theorem Zfg(ps:List (VS×Int))(ct:Int)(x:WS):x∈ZaF ps ct↔ZcM ps x.wd.data.toList=true/\x.wt=Q4 ps x.wd.data.toList/\ct<=x.wt:=by unfold ZaF;rw[List.mem_filter,List.mem_map];constructor;rintro⟨⟨b,hb,rfl⟩,hc⟩;exact⟨(Zcd b ps).1 hb,rfl,by simpa using hc⟩;rintro⟨h1,h2,h3⟩;refine⟨⟨x.wd,(Zcd x.wd ps).2 h1,?_⟩,by simpa using h3⟩;rw[<- h2]
theorem Zg4(ps:List (VS×Int))(ct:Int):(ZaF ps ct).Nodup:=by unfold ZaF;refine List.Pairwise.filter _ ?_;refine List.pairwise_map.2 ((ZaR ps).imp fun h e=>h ?_);injection e
theorem Zlb{x y z:WS}(h1:leW x y)(h2:leW y z):leW x z:=by have:=ZoN.ntrans z y x (by rw[ltW];exact decide_eq_false h2) (by rw[ltW];exact decide_eq_false h1);rw[ltW] at this;exact of_decide_eq_false this
theorem Zla(x y:WS):leW x y∨leW y x:=by
 by_cases h:leW x y
 exact .inl h;right;unfold leW at *;rw[Classical.not_not] at h;intro h2
 rcases h with h|⟨h,g⟩<;>rcases h2 with h2|⟨h2,g2⟩
 omega;omega;omega;exact List.lt_irrefl _ (List.lt_trans g g2)
theorem Zhb{x y:WS}(h1:leW x y)(h2:leW y x):x=y:=by
 unfold leW at *;simp only[not_or,not_and] at h1 h2;have e:x.wt=y.wt:=(by omega);have e2:=Zmh (h2.2 e) (h1.2 e.symm)
 cases x;cases y
 simp only at e e2;rw[e,e2]
theorem ZjK{ps:List (VS×Int)}{ct:Int}{H D:List WS}(hn:H.Nodup)(hm:∀x,x∈H↔ZcM ps x.wd.data.toList=true/\x.wt=Q4 ps x.wd.data.toList/\ct<=x.wt)(hp:D.Perm H)(hs:D.Pairwise leW):D=(ZaF ps ct).mergeSort fun x y=>decide (leW x y):=by
 have hP:H.Perm (ZaF ps ct):=(List.perm_ext_iff_of_nodup hn (Zg4 ps ct)).2 fun x=>by rw[hm,Zfg]
 have hM:=List.pairwise_mergeSort (le:=fun x y=>decide (leW x y)) (fun a b c h1 h2=>decide_eq_true (Zlb (of_decide_eq_true h1) (of_decide_eq_true h2))) (fun a b=>by rcases Zla a b with h|h;rw[decide_eq_true h];rfl;rw[decide_eq_true h,Bool.or_true]) (ZaF ps ct);refine List.Perm.eq_of_pairwise (le:=leW) (fun a b _ _ h1 h2=>Zhb h1 h2) hs (hM.imp fun h=>of_decide_eq_true h) ((hp.trans hP).trans (List.mergeSort_perm _ _).symm)
structure Zar(D:DataW Unit)(left:Lit->Bool)(ct:Int)(Hs:List WS):Prop where
 nd:Hs.Nodup
 mem:∀x:WS,x∈Hs↔(has D (.string x.wd.data.toList)=true/\left (.string x.wd.data.toList)=false/\D.atKey (.string x.wd.data.toList) (.lit (.int .i64 0))=.lit (.int .i64 x.wt)/\ct<=x.wt)
theorem Zar.start(D:DataW Unit)(ct:Int):Zar D (has D) ct []:=⟨List.nodup_nil,fun x=>by cases h:has D (.string x.wd.data.toList)<;>simp⟩
theorem ZmT(a b:List UInt8):(Lit.string a).sameKey (.string b)=decide (a=b):=by
 by_cases h:a=b
 subst h;simp[Lit.sameKey];rw[sameKey_ne (by intro e;injection e with e;exact h e)];simp[h]
theorem Zar.step{D:DataW Unit}{left:Lit->Bool}{ct:Int}{Hs:List WS}(h:Zar D left ct Hs){x:List UInt8}{c:Int}(hl:left (.string x)=true)(hat:∀zd,D.atKey (.string x) zd=.lit (.int .i64 c)):Zar D (fun z=>left z&&!z.sameKey (.string x)) ct (if ct<=c then Hs++[⟨⟨x.toArray⟩,c⟩] else Hs):=by
 have hhas:has D (.string x)=true:=has_true_of_atKey hat
 have key:∀y:WS,(has D (.string y.wd.data.toList)=true/\(left (.string y.wd.data.toList)&&!(Lit.string y.wd.data.toList).sameKey (.string x))=false/\D.atKey (.string y.wd.data.toList) (.lit (.int .i64 0))=.lit (.int .i64 y.wt)/\ct<=y.wt)↔(y∈Hs∨(y.wd.data.toList=x/\y.wt=c/\ct<=c)):=by
  intro y;rw[ZmT]
  by_cases hy:y.wd.data.toList=x
  ·rw[hy];simp only[hhas,hat,decide_true,Bool.not_true,Bool.and_false,true_and]
   have hno:y ∉ Hs:=fun hm=>by
    have:=((h.mem y).1 hm).2.1;rw[hy,hl] at this
    cases this
   constructor;rintro⟨e,hc⟩;injection e with e;injection e with _ e;right;exact⟨e.symm,by omega⟩;rintro(hm|⟨e,hc⟩);exact absurd hm hno;rw[e];exact⟨rfl,hc⟩
  simp only[hy,decide_false,Bool.not_false,Bool.and_true,false_and,or_false];exact(h.mem y).symm
 by_cases hc:ct<=c
 ·rw[if_pos hc];refine⟨?_,fun y=>?_⟩
  ·refine List.nodup_append.2 ⟨h.nd,by simp,fun a ha b hb e=>?_⟩;simp only[List.mem_singleton] at hb;have:=((h.mem a).1 ha).2.1;rw[e,hb] at this;simp only at this;rw[hl] at this
   cases this
  rw[key y,List.mem_append,List.mem_singleton];constructor;rintro(hm|e);exact .inl hm;right;rw[e];exact⟨rfl,rfl,hc⟩;rintro(hm|⟨e1,e2,_⟩);exact .inl hm;right;obtain⟨⟨yd⟩,yt⟩:=y;simp only at e1 e2;rw[<- e1,e2]
 rw[if_neg hc];refine⟨h.nd,fun y=>?_⟩;rw[key y];constructor;exact .inl;rintro(hm|⟨_,_,h3⟩);exact hm;exact absurd h3 hc
theorem Zar.end_{D:DataW Unit}{left:Lit->Bool}{ct:Int}{Hs:List WS}{ps:List (VS×Int)}(h:Zar D left ct Hs)(hD:ZaN D ps)(hl:∀kl,left kl=false)(x:WS):x∈Hs↔ZcM ps x.wd.data.toList=true/\x.wt=Q4 ps x.wd.data.toList/\ct<=x.wt:=by rw[h.mem x,hl,(hD.2 _).1,(hD.2 _).2];constructor;rintro⟨h1,_,h2,h3⟩;injection h2 with h2;injection h2 with _ h2;exact⟨h1,h2.symm,h3⟩;rintro⟨h1,h2,h3⟩;exact⟨h1,rfl,by rw[h2],h3⟩
theorem Zhg{w:World}{b n:Nat}{D:DataW Unit}{R:Value->Option (DataW Unit×List MemPlace)}(h:w.ownsMap Tryz.prog 9 R b n D):Maps.size D<=n:=by
 obtain⟨es,clock,_,_,hs,rfl⟩:=h;show(List.foldr DataW.insert [] _).length<=n;rw[length_sorted]
 simpa using hs
theorem Ziw{w:World}{b r n cnt base e size m:Nat}{D:DataW Unit}{left:Lit->Bool}{R:Value->Option (DataW Unit×List MemPlace)}{v:Value}{xs:List Value}(h:w.ranges Tryz.prog 9 R b r n D left cnt)(ho:w.ownsRow base e size v m xs):v.ownBlock≠some r/\v.ownBlock≠some b:=by obtain⟨es,clock,since,seen,c0,hb,F,hs,hD,hr,rest⟩:=h;refine⟨fun e=>?_,fun e=>?_⟩;obtain⟨cur,hc⟩:=Zg ho e;rw[hr] at hc;cases hc;obtain⟨cur,hc⟩:=Zg ho e;rw[hb] at hc;cases hc
theorem YY.more{w:World}{base:Nat}{v:Value}{L:List WS}{x:WS}(h:w.ownsRow base 358 2 v (L.length+1) (Qx L++[.string x.wd,.int .i64 x.wt])):YY w base v (L++[x]):=by
 unfold YY;rw[ZfV,Qe]
 simpa [Qx,ZaL] using h
theorem YY.shape{w:World}{base:Nat}{v:Value}{L:List WS}(h:YY w base v L):∃a c,v=.slice a L.length c/\((a=none/\L.length=0/\c=0)∨∃g,a=some ⟨g,0,none⟩/\L.length<=c):=by
 rcases h.2 with⟨rfl,h0⟩|⟨g,cap,cur,rfl,_,hh,hnc,_⟩
 exact⟨none,0,by rw[h0],.inl ⟨rfl,h0,rfl⟩⟩;exact⟨_,cap,rfl,.inr ⟨g,rfl,hnc⟩⟩
theorem YY.cells{w:World}{base g n c:Nat}{L:List WS}(h:YY w base (.slice (some ⟨g,0,none⟩) n c) L){i:Nat}(hi:i<L.length):g<w.heap.size/\w.cell? ⟨g,i*2,none⟩=some (.string (L.getD i w0W).wd)/\w.cell? ⟨g,i*2+1,none⟩=some (.int .i64 (L.getD i w0W).wt):=by
 have h':=h
 rcases h.2 with⟨e,_⟩|⟨g',cap,cur,e,_,hh,_⟩
 ·cases e
 simp only[Value.slice.injEq,Option.some.injEq,Addr.mk.injEq,and_true] at e;obtain⟨rfl,rfl,rfl⟩:=e;refine⟨(Qb hh).1,?_,?_⟩;rw[World.ownsRow.cellAt h' (i*2) (by omega)];have:=ZcJ L i 0 hi (by omega);rw[Nat.add_zero] at this;rw[this];rfl;rw[World.ownsRow.cellAt h' (i*2+1) (by omega),ZcJ L i 1 hi (by omega)];rfl
theorem Zji:(Tryz.prog.info? 9).map (fun i=>(i.zero,i.size,i.bytes))=some (some (.string ⟨#[]⟩),1,16):=by kernel_rfl
theorem ZS.shapeW{w:World}{base:Nat}{v:Value}{L:List ByteArray}(h:ZS w base v L):∃a c,v=.slice a L.length c:=by
 rcases h.2 with⟨rfl,h0⟩|⟨g,cap,cur,rfl,_⟩
 exact⟨none,0,by rw[h0]⟩;exact⟨_,cap,rfl⟩
theorem ZjT(L:List WS){r:Nat}(h:r<L.length):L.take (r+1)=L.take r++[L.getD r w0W]:=by rw[Qi h];simp[List.getD,h]
theorem ZS.monoW{w:World}{b b':Nat}{v:Value}{L:List ByteArray}(h:ZS w b' v L)(hb:b<=b'):ZS w b v L:=by
 obtain⟨h1,h2⟩:=h;refine⟨h1,?_⟩
 rcases h2 with h|⟨g,cap,cur,e,hg,rest⟩
 exact .inl h;exact .inr ⟨g,cap,cur,e,by omega,rest⟩
theorem Znv:(Tryz.prog.info? 358).map (fun i=>(i.zero,i.size,i.bytes))=some (some (.agg #[.string ⟨#[]⟩,.int .i64 0]),2,24):=by kernel_rfl
theorem Znz:Keyed Tryz.prog 9:=string_keyed Tryz.underlying9
theorem ZoQ(w:World):(zeroValue 3).run Tryz.prog w=.ok (.int .i64 0) w:=by kernel_rfl
theorem Zo7{α β:Type}(L:List α)(ws:List β){k:Nat}(h1:k<L.length)(h2:k<ws.length)(d1:α)(d2:β):(L.zip ws).take (k+1)=(L.zip ws).take k++[(L.getD k d1,ws.getD k d2)]:=by rw[Qi (by rw[List.length_zip];omega)];congr 2;rw[List.getElem_zip];simp[List.getD,h1,h2]
theorem Zfc(va wa:Option Addr)(n vcap wcap:Nat)(ct bins:Int)(L:List VS)(ws:List Int)(w:World)(hv:Qn w 0 (.slice va n vcap) L)(hw:ZI w wa n ws)(hL:L.length=n)(hn:n<=200)(hz:∀z∈ws,0<=z/\z<=99)(hwd:∀v∈L,v.word.size<=8)(hb1:2<=bins)(hb2:bins<=16):Calls Tryz.prog 211 #[.slice va n vcap,.slice wa n wcap,.int .i64 ct,.int .i64 bins] w fun e w'=>∃v,e=.returned v/\Zcg w' w.heap.size v (lwF L ws ct bins)/\Below w.heap.size w w':=by
 have HV:Hid (Qn w 0 (.slice va n vcap) L):=hv;have HW:Hid (ZI w wa n ws):=hw;have HLL:Hid (L.length=n/\ws.length=n):=⟨hL,hw.1⟩;have HZ:Hid (∀z∈ws,0<=z/\z<=99):=hz;have HWD:Hid (∀v∈L,v.word.size<=8):=hwd;clear hv hw hL hz hwd;have hmm:= @run_makeMap Tryz.prog;obtain⟨w0,hw0⟩:∃w0,w0=w.alloc (.cells #[.bool false,.slice none 0 0,.slice none 0 0] 170):=⟨_,rfl⟩;have hs0:w0.heap.size=w.heap.size+1:=(by rw[hw0];simp);have HS0:Hid (w0.heap.size=w.heap.size+1):=hs0;have HW0:Hid (w0=w.alloc (.cells #[.bool false,.slice none 0 0,.slice none 0 0] 170)):=hw0;clear hs0 hw0;go_enter Tryz.func211,Tryz.ntmps211;go_wp2_with fail
 go_loopw [21] (fun ti wr=>∃(k:Nat) (D:DataW Unit),ti=.int .i64 k/\k<=n/\Hid (wr.ownsMap Tryz.prog 9 (plainElem Tryz.prog 3) (w.heap.size+1) k D/\ZaN D ((L.zip ws).take k))/\Hid (Below w0.heap.size w0 wr)) (fun ti _=>n-(intOf ti).toNat)
 case atStart=>
  refine⟨0,.map [],rfl,Qg _,⟨?_,ZaN.start⟩,?_⟩;have:=World.ownsMap_made (H:=Unit) w0 Tryz.prog 9 (plainElem Tryz.prog 3);rw[HS0.out,HW0.out] at this;exact this;rw[HW0.out];exact(Below.refl _ _).alloc (Qa _) _
 case round=>
  obtain⟨k,D,rfl,hk,HO,HB⟩:=hrel;have hsz:=HB.out.size
  by_cases hkn:k<n
  ·have hkL:k<L.length:=(by rw[HLL.out.1];exact hkn);have hkw:k<ws.length:=(by rw[HLL.out.2];exact hkn);obtain⟨q,rfl,hql,c0,c1,c2⟩:=HV.out.at hkL;rcases HW.out with⟨_,_,h0|⟨b2,o2,rfl,hb2',hc2⟩⟩;omega;have hbw:Below w.heap.size w wr:=by have h1:Below w.heap.size w w0:=(by rw[HW0.out];exact(Below.refl _ _).alloc (Qa _) _);exact h1.trans (HB.out.mono (by have:=HS0.out;omega))
   have a0:=(hbw.cell (p:=⟨q,k*3,none⟩) hql).trans c0;have a1:=(hbw.cell (p:=⟨q,k*3+1,none⟩) hql).trans c1;have a2:=(hbw.cell (p:=⟨q,k*3+2,none⟩) hql).trans c2;have d1:=(hbw.cell (p:=⟨b2,o2+k,none⟩) hb2').trans (hc2 k hkn);have hlb2:b2<wr.heap.size:=(by have:=hbw.size;omega);have HSN:Hid ((L.zip ws).take (k+1)=(L.zip ws).take k++[(L.getD k ZH,ws.getD k 0)]):=Zo7 L ws hkL hkw ZH 0;have HXW:Hid ((L.getD k ZH).word.size<=8):=HWD.out _ (by simp[List.getD,hkL]);have HZZ:Hid (0<=ws.getD k 0/\ws.getD k 0<=99):=HZ.out _ (by simp[List.getD,hkw]);clear hc2 c0 c1 c2 hbw;generalize L.getD k ZH=x at *;generalize ws.getD k 0=z at *;obtain⟨xm,xn,xw⟩:=x;simp only at a0 a1 a2;have bk1:(0:Int)<=(k:Int):=(by omega);have bk2:(k:Int)<(n:Int):=by omega
   cases xm with
   | true=>
    have HF:Hid ((wr.alloc (.cells #[.bool true,.int .i64 xn,.string xw] 308)).ownsMap Tryz.prog 9 (plainElem Tryz.prog 3) (w.heap.size+1) (k+1) D/\ZaN D ((L.zip ws).take (k+1))):=by rw[HSN.out];exact⟨(HO.out.1.alloc _).mono (by omega),HO.out.2.miss _ rfl⟩
    go_wp2;go_roundw;case rel=>exact⟨k+1,D,by go_num,by omega,HF.out,HB.out.trans ((Below.refl _ _).alloc (by omega) _)⟩
    case measure=>simp[intOf];omega
   | false=>
    go_upto_region 6 with fail;have hwf:xw.size<=8:=HXW.out;have hkey:keyOf Tryz.prog 9 (.string xw)=some (.string xw.data.toList):=WideMaps.keyOf_string_mk Tryz.underlying9 (by unfold maxLen;omega);obtain⟨w2,hw2⟩:∃w2,w2=wr.alloc (.cells #[.bool false,.int .i64 xn,.string xw] 308):=⟨_,rfl⟩;have hO2:w2.ownsMap Tryz.prog 9 (plainElem Tryz.prog 3) (w.heap.size+1) k D:=(by rw[hw2];exact HO.out.1.alloc _);have e2:w2.cell? ⟨wr.heap.size,2,none⟩=some (.string xw):=(by rw[hw2];exact cell_of_row _ _ 2 _ 308 (0,0) (heap_alloc_new wr _));have hb2w:Below wr.heap.size wr w2:=(by rw[hw2];exact(Below.refl _ _).alloc (Qa _) _);have d2:w2.cell? ⟨b2,o2+k,none⟩=some (.int .i64 z):=(hb2w.cell (p:=⟨b2,o2+k,none⟩) hlb2).trans d1;rw[<- hw2]
    obtain⟨c,hrun,hat,_⟩:=(show w2.drew.ownsMap Tryz.prog 9 (plainElem Tryz.prog 3) (w.heap.size+1) k D from hO2).lookup_int Znz Tryz.underlying355 Tryz.underlying3 (ZoQ _) hkey;have hc:c=Q4 ((L.zip ws).take k) xw.data.toList:=by have h1:=(HO.out.2.2 xw.data.toList).2;rw[hat] at h1;injection h1 with h1;injection h1 with _ h1
    have hci:=ZmZ (ps:=(L.zip ws).take k) (fun p hp=>HZ.out _ (List.of_mem_zip (List.mem_of_mem_take hp)).2) xw.data.toList;rw[<- hc] at hci;have hcl:((L.zip ws).take k).length<=200:=(by rw[List.length_take];omega);have hzz:=HZZ.out;have q1:IntKind.i64.wrap (c+z)=c+z:=ZB (by omega) (by omega);obtain⟨w3,hU,hO3,hg3⟩:=(show w2.drew.ownsMap Tryz.prog 9 (plainElem Tryz.prog 3) (w.heap.size+1) k D from hO2).update Znz Tryz.underlying355 (by unfold maxLen;omega) hkey (plainElem_int (H:=Unit) Tryz.underlying3 (show(Lit.int .i64 (c+z)).wf=true by simp[Lit.wf,IntKind.min,IntKind.max,IntKind.bits,IntKind.signed];omega))
    have HF:Hid (w3.ownsMap Tryz.prog 9 (plainElem Tryz.prog 3) (w.heap.size+1) (k+1) (D.put (.string xw.data.toList) (.lit (.int .i64 (c+z))))/\ZaN (D.put (.string xw.data.toList) (.lit (.int .i64 (c+z)))) ((L.zip ws).take (k+1))):=(by refine⟨hO3,?_⟩;rw[HSN.out,hc];exact HO.out.2.put (v:=⟨false,xn,xw⟩) rfl);have HB3:Hid (Below w0.heap.size w0 w3):=by have h1:Below w0.heap.size w0 w2:=HB.out.trans (hb2w.mono hsz);have h2:Below w0.heap.size w0 w2.drew:=h1.drew;exact h2.grown hg3 h2.size (fun j hj=>by injection hj with hj;have:=HS0.out;omega)
    clear hO2 hO3 hg3 hc hci hcl hzz hat hkey hw2 hb2w HO HB HSN hwf;refine ZM (fun w'=>w'.cell? ⟨wr.heap.size,2,none⟩=some (.string xw)/\w'.cell? ⟨b2,o2+k,none⟩=some (.int .i64 z)/\(Instr.lookup 355 (.map (some (w.heap.size+1))) (.string xw) false).run Tryz.prog w'=.ok (.int .i64 c) w') 9 (by kernel_rfl) ⟨e2,d2,hrun⟩ (fun hHeld=>?_);refine ZO 0 ?_;try simp only[Act.put,sA,sB,sC]
    refine ZO 1 ?_;try simp only[Act.put,sA,sB,sC]
    refine tkM [3,8,9] 2 (v:=?_) ?_ ?_
    rotate_left
    ·intro w hSw;try obtain⟨_,_,_⟩:=hSw
     go_simp;try with_reducible rfl
    try simp only[Act.put,sA,sB,sC]
    refine tkM [8,9] 3 (v:=?_) ?_ ?_
    rotate_left
    ·intro w hSw;obtain⟨_,_,_⟩:=hSw;go_simp;try with_reducible rfl
    try simp only[Act.put,sA,sB,sC]
    refine ZO 4 ?_;try simp only[Act.put,sA,sB,sC]
    refine ZO 5 ?_;try simp only[Act.put,sA,sB,sC]
    refine ZO 6 ?_;try simp only[Act.put,sA,sB,sC]
    refine tkM [8,9] 7 (v:=?_) ?_ ?_
    rotate_left
    ·intro w hSw;try obtain⟨_,_,_⟩:=hSw
     go_simp;try with_reducible rfl
    try simp only[Act.put,sA,sB,sC]
    refine ZO 8 ?_;try simp only[Act.put,sA,sB,sC]
    refine Zt (i:=9) (by kernel_rfl) rfl (by kernel_rfl) (fun KK hK=>?_);go_simp;refine hK.out _ _ ?_;clear hK KK;try simp only[Act.put,sA,sB,sC]
    refine Zu (by kernel_rfl) ?_ _;go_wp2;go_roundw;case rel=>exact⟨k+1,_,by go_num,by omega,HF.out,HB3.out⟩
    case measure=>simp[intOf];omega
  have hkk:k=n:=(by omega);subst hkk;have bkn:¬(k:Int)<(k:Int):=(by omega);have eT:(L.zip ws).take k=L.zip ws:=List.take_of_length_le (by rw[List.length_zip,HLL.out.1,HLL.out.2];omega);have HOw:Hid (wr.ownsMap Tryz.prog 9 (plainElem Tryz.prog 3) (w.heap.size+1) k D):=HO.out.1;have HMI:Hid (ZaN D (L.zip ws)):=(by have:=HO.out.2;rwa [eT] at this);clear HO eT hsz;generalize wr=wl at *;obtain⟨i0,hinf,hz0,hz1,hz2⟩:=info_parts Znv;go_wp2_with (first|(at_range;refine wpList_range_own _ rfl _ 355 rfl 9 3 Znz Tryz.underlying355 _ (w.heap.size+1) k D rfl HOw.out ?_;intro wq hrg0 hg0 hs0)|go_in)
  try go_frame
  have HRG0:Hid (wq.ranges Tryz.prog 9 (plainElem Tryz.prog 3) (w.heap.size+1) wl.heap.size k D (has D) (Maps.size D)):=hrg0;have HBQ:Hid (Below w0.heap.size w0 wq):=HB.out.grown hg0 HB.out.size (fun j hj=>by cases hj);have HSD:Hid (Maps.size D<=k):=Zhg HOw.out;have hlq:w0.heap.size<=wl.heap.size:=HB.out.size;clear hrg0 hg0 hs0 HB HOw;go_loopw [12] (fun th wr=>∃(left:Lit->Bool) (cnt:Nat) (Hs:List WS),Hid (wr.ranges Tryz.prog 9 (plainElem Tryz.prog 3) (w.heap.size+1) wl.heap.size k D left cnt)/\Hid (YY wr w0.heap.size th Hs)/\Hid (Zar D left ct Hs)/\Hs.length+cnt<=k/\Hid (Below w0.heap.size w0 wr)) (fun _ wr=>wr.rangeLeft (w.heap.size+1) wl.heap.size)
  case atStart=>exact⟨_,_,[],HRG0.out,World.ownsRow_nil _ _ _ _,Zar.start D ct,by simpa using HSD.out,HBQ.out⟩
  case round=>
   clear HRG0 HBQ;obtain⟨left,cnt,Hs,HRG,HOH,HC,hcnt,HB⟩:=hrel;go_wp2_with (first|(at_next;refine wpList_next_ranges _ rfl _ rfl 9 Znz (plainElem Tryz.prog 3) encStr (Value.int .i64) (fun key kl hk=>by obtain⟨x,hx,_⟩:=Maps.keyOf_str Tryz.underlying9 hk;exact⟨x,hx⟩) (fun v y hv=>by obtain⟨c,rfl,_⟩:=plainElem_int_inv Tryz.underlying3 hv;exact⟨c,rfl⟩) (w.heap.size+1) wl.heap.size k D left cnt rfl HRG.out ?_ ?_)|go_in)
   ·intro hc0 hl0;have HEN:Hid (∀x:WS,x∈Hs↔ZcM (L.zip ws) x.wd.data.toList=true/\x.wt=Q4 (L.zip ws) x.wd.data.toList/\ct<=x.wt):=fun x=>HC.out.end_ HMI.out hl0 x;have HND:Hid Hs.Nodup:=HC.out.nd;have hHl:Hs.length<=200:=(by omega);obtain⟨ua,uc,rfl,hsh⟩:=HOH.out.shape;have HSH:Hid ((ua=none/\Hs.length=0/\uc=0)∨∃g,ua=some ⟨g,0,none⟩/\Hs.length<=uc):=hsh;have HSO:=Ziz _ Hs w0.heap.size wr HOH.out (by omega);have HBL:Hid (∀j,(Value.slice ua Hs.length uc).ownBlock=some j->w0.heap.size<=j):=fun j hj=>(World.ownsRow.lt HOH.out j hj).1;obtain⟨hl,hhl⟩:∃hl,hl=Hs.length:=⟨_,rfl⟩;have HHL:Hid (hl=Hs.length):=hhl;rw[<- hhl] at HSH HSO HBL hHl hcnt;clear hc0 hl0 HC HRG HMI HOH hsh;rw[<- hhl];clear hhl;go_wp2_with fail
    refine HSO.mono ?_;rintro e w5 ⟨rfl,⟨D',hp5,hs5,ho5⟩,hg5⟩;have HDD:Hid (D'=(ZaF (L.zip ws) ct).mergeSort fun x y=>decide (leW x y)):=ZjK HND.out HEN.out hp5 hs5;have HDL:Hid (D'.length=hl):=(by show _=_;rw[hp5.length_eq,HHL.out]);have HO5:Hid (YY w5 w0.heap.size (.slice ua hl uc) D'):=ho5;have HB5:Hid (Below w0.heap.size w0 w5):=HB.out.grown hg5 HB.out.size HBL.out;clear hp5 hs5 ho5 hg5 HSO HB HEN HND HBL;obtain⟨m,hm⟩:∃m:Nat,m=min hl bins.toNat:=⟨_,rfl⟩;have HM:Hid (m=min hl bins.toNat):=hm;clear hm;have HM2:Hid (m<=hl/\(m:Int)<=bins/\m<=200):=⟨by have:=HM.out;omega,by have:=HM.out;omega,by have:=HM.out;omega⟩;obtain⟨w6,hw6⟩:∃w6,w6=w5.alloc (.cells #[.bool true,.slice none 0 0,.slice none 0 0] 170):=⟨_,rfl⟩
    have HE6:Hid (w6.heap[w5.heap.size]? =some (.cells #[.bool true,.slice none 0 0,.slice none 0 0] 170 (0,0))):=(by show _=_;rw[hw6];exact heap_alloc_new w5 _);have HO6:Hid (YY w6 w0.heap.size (.slice ua hl uc) D'):=(by show YY _ _ _ _;rw[hw6];exact World.ownsRow.alloc HO5.out _);have HB6:Hid (Below w0.heap.size w0 w6):=(by show Below _ _ _;rw[hw6];exact HB5.out.alloc HB5.out.size _);have hl56:w0.heap.size<=w5.heap.size:=HB5.out.size;go_upto_region 16 with fail;rw[<- hw6];clear hw6 HO5 HB5;go_cut [63,64,65] (fun v l t0 wx=>t0=.int .i64 0/\∃sa sc,v=.slice sa m sc/\l=.int .i64 (m:Nat)/\Hid (0<m->∃g,sa=some ⟨g,0,none⟩/\ua=some ⟨g,0,none⟩)/\wx=w6)
    case first=>
     rcases HSH.out with⟨rfl,h0,rfl⟩|⟨g,rfl,hgc⟩
     ·subst h0;have hm0:m=0:=(by have:=HM2.out;omega);subst hm0;have bb:¬bins<0:=(by omega);have bb2:(0:Int)<=bins:=(by omega);have bm:min (0:Int) bins=0:=(by omega);go_wp2;go_meet
      exact⟨rfl,none,0,rfl,rfl,fun h=>by omega,rfl⟩
     by_cases hlb:(hl:Int)<=bins
     ·have hme:m=hl:=(by have:=HM.out;omega);subst hme;have bb:¬bins<(m:Int):=(by omega);have bm:min (m:Int) bins=(m:Int):=(by omega);have b0:(0:Int)<=(m:Int):=(by omega);have b1:(m:Int)<=(uc:Int):=(by omega);go_wp2;go_meet
      exact⟨rfl,_,_,rfl,rfl,fun _=>⟨g,rfl,rfl⟩,rfl⟩
     have hme:(m:Int)=bins:=(by have:=HM.out;omega);have HME:Hid ((m:Int)=bins):=hme;have bm:min (hl:Int) bins=(m:Int):=(by omega);have bb:bins<(hl:Int):=(by omega);have b0:(0:Int)<=(m:Int):=(by omega);have b1:(m:Int)<=(uc:Int):=(by omega);subst hme;go_wp2;go_meet
     exact⟨rfl,_,_,rfl,rfl,fun _=>⟨g,rfl,rfl⟩,rfl⟩
    case rest=>
     obtain⟨rfl,sa,sc,rfl,rfl,HSA,hwx⟩:=hcut;obtain rfl:=hwx.symm;clear hwx;obtain⟨i9,jinf,jz0,jz1,jz2⟩:=info_parts Zji;have HR0:Hid (w0.heap[w.heap.size]? =some (.cells #[.bool false,.slice none 0 0,.slice none 0 0] 170 (0,0))):=(by show _=_;rw[HW0.out];exact heap_alloc_new w _);have hl0:w.heap.size<w0.heap.size:=(by have:=HS0.out;omega);obtain⟨eb,heb⟩:∃eb,eb=w5.heap.size:=⟨_,rfl⟩;rw[<- heb] at HE6 hl56 ⊢;clear heb;go_wp2_with fail
     go_loopw [65] (fun tj wr=>∃(j:Nat) (vw:Value),tj=.int .i64 j/\j<=m/\Hid (wr.heap[eb]? =some (.cells #[.bool true,.slice none 0 0,vw] 170 (0,0)))/\Hid (ZS wr w0.heap.size vw ((D'.take j).map WS.wd))/\Hid (YY wr w0.heap.size (.slice ua hl uc) D')/\Hid (Below w0.heap.size w0 wr)) (fun tj _=>m-(intOf tj).toNat)
     case atStart=>exact⟨0,_,rfl,Qg _,HE6.out,World.ownsRow_nil _ _ _ _,HO6.out,HB6.out⟩
     case round=>
      clear HE6 HO6 HB6;obtain⟨j,vw,rfl,hj,HE,HOS,HOD,HB⟩:=hrel;have hsz:=HB.out.size;have hebl:eb<wr.heap.size:=(Qb HE.out).1
      by_cases hjm:j<m
      ·obtain⟨g,rfl,rfl⟩:=HSA.out (by omega);have hjD:j<D'.length:=(by rw[HDL.out];have:=HM2.out;omega);obtain⟨hgl,x0,x1⟩:=HOD.out.cells hjD;have hjl:((D'.take j).map WS.wd).length=j:=(by rw[List.length_map,List.length_take];omega);obtain⟨av,cv,rfl⟩:=HOS.out.shapeW;have HOSW:Hid (ZS wr w0.heap.size (.slice av ((D'.take j).map WS.wd).length cv) ((D'.take j).map WS.wd)):=HOS.out;have HTS:Hid (D'.take (j+1)=D'.take j++[D'.getD j w0W]):=ZjT D' hjD;have e2:wr.cell? ⟨eb,2,none⟩=some (.slice av ((D'.take j).map WS.wd).length cv):=cell_of_row _ _ 2 _ 170 (0,0) HE.out;rw[hjl] at HOSW e2;generalize D'.getD j w0W=x at *;obtain⟨xw,xt⟩:=x;simp only at x0 x1;have b0:(0:Int)<=(j:Int):=(by omega);have b1:(j:Int)<(m:Int):=(by omega);have hl2:j<=200:=by have:=HM2.out;omega
       obtain⟨w7,hw7⟩:∃w7,w7=wr.alloc (.cells #[.string xw,.int .i64 xt] 358):=⟨_,rfl⟩;have hb7:Below wr.heap.size wr w7:=(by rw[hw7];exact(Below.refl _ _).alloc (Qa _) _);have k0:w7.cell? ⟨wr.heap.size,0,none⟩=some (.string xw):=(by rw[hw7];exact cell_of_row _ _ 0 _ 358 (0,0) (heap_alloc_new wr _));have e7:w7.cell? ⟨eb,2,none⟩=some (.slice av j cv):=(hb7.cell (p:=⟨eb,2,none⟩) hebl).trans e2;have HE7:Hid (w7.heap[eb]? =some (.cells #[.bool true,.slice none 0 0,.slice av j cv] 170 (0,0))):=(by have:=HE.out;rw[hjl] at this;exact(hb7.block eb hebl).trans this);have HOS7:Hid (ZS w7 w0.heap.size (.slice av j cv) ((D'.take j).map WS.wd)):=by have h1:=HOSW.out;exact h1.below hb7
       have HOD7:Hid (YY w7 w0.heap.size (.slice (some ⟨g,0,none⟩) hl uc) D'):=(Za.of_below (S:=fun _=>False) hb7).row HOD.out (fun _ _=>id);have HB7:Hid (Below w0.heap.size w0 w7):=HB.out.trans (hb7.mono hsz);have hs7:wr.heap.size<w7.heap.size:=(by rw[hw7];simp);go_upto_region 19 with fail;rw[<- hw7];clear hw7 hb7 x0 x1 e2 HE HOSW HOS HOD HB;have hs70:=HB7.out.size;have hrow:w7.ownsRow w0.heap.size 9 1 (.slice av j cv) j (((D'.take j).map WS.wd).map Value.string):=by have h1:=HOS7.out;unfold ZS at h1;rw[hjl] at h1;exact h1
       obtain⟨Wj,hWj⟩:∃Wj,Wj=(D'.take j).map WS.wd:=⟨_,rfl⟩;have HWS:Hid ((D'.take (j+1)).map WS.wd=Wj++[xw]):=(by show _=_;rw[HTS.out,List.map_append,hWj];rfl);rw[<- hWj] at hrow hjl;have HLS:Hid (Wj.length=j):=hjl;have HROW:Hid (w7.ownsRow w0.heap.size 9 1 (.slice av j cv) j (Wj.map Value.string)):=hrow;clear hrow hjl hWj HTS HOS7;go_wp2_with (at_builtin;refine Zd rfl (.tmp 70) (.tmp 73) 47 rfl w0.heap.size 9 i9 (.string ⟨#[]⟩) 1 16 Tryz.underlying47 jinf jz0 jz1 jz2 rfl (by decide) (.slice av j cv) j (Wj.map Value.string) rfl (World.ownsRow.alloc HROW.out _) ⟨w7.heap.size,0,none⟩ 1 1 [.string xw] rfl rfl ?_ ?_ ?_ ?_ ?_ ?_ ?_)
       exact Zr w7 #[.string xw] 9;intro u hu;simp at hu;subst hu;rfl;decide;unfold maxLen;omega;omega;simp;omega;intro v4 w4 H4;obtain⟨r4,g4,d4,_,_⟩:=H4.out;have h2S:ZS w4 w0.heap.size v4 (Wj++[xw]):=by unfold ZS;rw[Qe,HLS.out,List.map_append];exact r4
       obtain⟨a4,c4,rfl⟩:=h2S.shapeW;obtain⟨n4,hn4⟩:∃n4,n4=(Wj++[xw]).length:=⟨_,rfl⟩;rw[<- hn4] at r4 d4 h2S ⊢;clear hn4;obtain⟨w8,hw8⟩:∃w8,w8=w7.alloc (.cells #[.string xw] 9):=⟨_,rfl⟩;rw[<- hw8] at g4 d4;have hb8:Below w7.heap.size w7 w8:=(by rw[hw8];exact(Below.refl _ _).alloc (Qa _) _);have h8b:=hb8.size;have T:Za (fun q=>(Value.slice av j cv).ownBlock=some q) w8 w4:=(Za.refl _ w8).grown g4 (fun k hk _=>hk);have hE8:w8.heap[eb]? =some (.cells #[.bool true,.slice none 0 0,.slice av j cv] 170 (0,0)):=(hb8.block eb (by omega)).trans HE7.out;have hR8:w8.ownsRow w0.heap.size 9 1 (.slice av j cv) j (Wj.map Value.string):=(Za.of_below (S:=fun _=>False) hb8).row HROW.out (fun _ _=>id)
       have hO8:YY w8 w0.heap.size (.slice (some ⟨g,0,none⟩) hl uc) D':=(Za.of_below (S:=fun _=>False) hb8).row HOD7.out (fun _ _=>id);have hE4:w4.heap[eb]? =some (.cells #[.bool true,.slice none 0 0,.slice av j cv] 170 (0,0)):=T.at_ hE8 (fun e=>Zs hR8 e hE8 (by decide) rfl)
       have hO4:YY w4 w0.heap.size (.slice (some ⟨g,0,none⟩) hl uc) D':=T.row hO8 (fun q hq e=>by
        obtain⟨cur,hc⟩:=Zg hO8 hq
        exact Zs hR8 e hc (by decide) rfl)
       have f4:w4.cell? ⟨eb,2,none⟩=some (.slice av j cv):=cell_of_row _ _ 2 _ 170 (0,0) hE4;have z4:w4.frozen? ⟨eb,2,none⟩=false:=frozen_of_row _ _ 2 _ 170 hE4;have HEN4:Hid ((w4.setCell ⟨eb,2,none⟩ (.slice a4 n4 c4)).heap[eb]? =some (.cells #[.bool true,.slice none 0 0,(.slice a4 n4 c4)] 170 (0,0))):=heap_setCell_same _ eb 2 _ 170 _ hE4;have HON4:Hid (ZS (w4.setCell ⟨eb,2,none⟩ (.slice a4 n4 c4)) w0.heap.size (.slice a4 n4 c4) ((D'.take (j+1)).map WS.wd)):=(by rw[HWS.out];exact Zl h2S hE4 (by decide));have HOD4:Hid (YY (w4.setCell ⟨eb,2,none⟩ (.slice a4 n4 c4)) w0.heap.size (.slice (some ⟨g,0,none⟩) hl uc) D'):=Zl hO4 hE4 (by decide)
       have HB4:Hid (Below w0.heap.size w0 (w4.setCell ⟨eb,2,none⟩ (.slice a4 n4 c4))):=by have h1:Below w0.heap.size w0 w8:=HB7.out.trans (hb8.mono hs70);exact(h1.grown g4 h1.size (fun q hq=>(World.ownsRow.lt hR8 q hq).1)).setCell hl56 (.slice a4 n4 c4)
       clear H4 r4 g4 d4 hw8 hb8 h8b T hE8 hR8 hO8 hE4 hO4 HROW HOD7 HE7 HB7 h2S;go_wp2;go_roundw;case rel=>exact⟨j+1,_,by go_num,by omega,HEN4.out,HON4.out,HOD4.out,HB4.out⟩
       case measure=>simp[intOf];omega
      have hjm2:j=m:=(by omega);subst hjm2;have bj:¬(j:Int)<(j:Int):=by omega
      have hww:(D'.take j).map WS.wd=(lwF L ws ct bins).ww:=by
       show _=(((ZaF (L.zip ws) ct).mergeSort fun x y=>decide (leW x y)).take bins.toNat).map WS.wd;rw[<- HDD.out];congr 1;have h1:=HM.out;have h2:=HDL.out
       by_cases hb:bins.toNat<=hl
       rw[show j=bins.toNat by omega];rw[List.take_of_length_le (by omega),List.take_of_length_le (by omega)]
      have HOW:Hid (ZS wr w0.heap.size vw (lwF L ws ct bins).ww):=by have:=HOS.out;rw[hww] at this;exact this
      obtain⟨av,cv,rfl⟩:=HOW.out.shapeW;have hE:=HE.out;have e0:=cell_of_row _ _ 0 _ 170 (0,0) hE;have e1:=cell_of_row _ _ 1 _ 170 (0,0) hE;have e2:=cell_of_row _ _ 2 _ 170 (0,0) hE;have hr0:wr.heap[w.heap.size]? =some (.cells #[.bool false,.slice none 0 0,.slice none 0 0] 170 (0,0)):=(HB.out.block _ hl0).trans HR0.out;have HRR:Hid (wr.heap[w.heap.size]? =some (.cells #[.bool false,.slice none 0 0,.slice none 0 0] 170 (0,0))):=hr0;have r0:=cell_of_row _ _ 0 _ 170 (0,0) hr0;have r1:=cell_of_row _ _ 1 _ 170 (0,0) hr0;have r2:=cell_of_row _ _ 2 _ 170 (0,0) hr0;have z0:=frozen_of_row _ _ 0 _ 170 hr0;have z1:=frozen_of_row _ _ 1 _ 170 hr0;have z2:=frozen_of_row _ _ 2 _ 170 hr0;clear hE hr0 hww HOS HOD HE HM HDD;generalize hnw:(lwF L ws ct bins).ww.length=nw at *;have HNW:Hid ((lwF L ws ct bins).ww.length=nw):=hnw
      clear hnw;go_wp2;refine bodyPost_ret (v:=.agg #[.bool true,.slice none 0 0,.slice av nw cv]) (by simp[results,Tryz.results211,go_sem, *]) rfl ?_;have hbw:Below w.heap.size w wr:=(by have h1:Below w.heap.size w w0:=(by rw[HW0.out];exact(Below.refl _ _).alloc (Qa _) _);exact h1.trans (HB.out.mono (by have:=HS0.out;omega)));refine⟨_,rfl,⟨.slice none 0 0,.slice av nw cv,rfl,World.ownsRow_nil _ _ _ _,?_⟩,((hbw.setCell (Qa _) _).setCell (Qa _) _).setCell (Qa _) _⟩;have h1:ZS wr w.heap.size (.slice av nw cv) (lwF L ws ct bins).ww:=HOW.out.monoW (by omega);exact Zl (Zl (Zl h1 HRR.out (by decide)) (by exact heap_setCell_same _ _ _ _ _ _ HRR.out) (by decide)) (by exact heap_setCell_same _ _ _ _ _ _ (heap_setCell_same _ _ _ _ _ _ HRR.out)) (by decide)
   intro x c kl yd yp w2 cnt2 hkey hlk hv hat hrg2 hlt hg2 hs2 hen;obtain⟨x',ex,rfl,hxl⟩:=Maps.keyOf_str Tryz.underlying9 hkey;obtain rfl:x=x':=encStr_inj ex;obtain⟨c',ec,hyc,_⟩:=plainElem_int_inv Tryz.underlying3 hv;obtain rfl:c=c':=(by injection ec);have hyd:yd=.lit (.int .i64 c):=(by injection hyc);subst hyd;have HCS:=HC.out.step hlk hat;have HRG2:Hid (w2.ranges Tryz.prog 9 (plainElem Tryz.prog 3) (w.heap.size+1) wl.heap.size k D (fun z=>left z&&!z.sameKey (.string x)) cnt2):=hrg2;have HOH2:Hid (YY w2 w0.heap.size u12 Hs):=World.ownsRow.kept HOH.out hg2 (.inr (Ziw HRG.out HOH.out).1);have HB2:Hid (Below w0.heap.size w0 w2):=HB.out.grown hg2 HB.out.size (fun j hj=>by injection hj with hj;omega);have HLT:Hid (cnt2<cnt):=hlt;clear hs2 hrg2 hg2 hkey hv hat hlk ex ec hyc hlt
   by_cases hct:ct<=c
   ·rw[if_pos hct] at HCS;have HCC:Hid (Zar D (fun z=>left z&&!z.sameKey (.string x)) ct (Hs++[⟨⟨x.toArray⟩,c⟩])):=HCS;clear HCS;go_wp2_with (at_builtin;refine Zd rfl (.tmp 49) (.tmp 53) 356 rfl w0.heap.size 358 i0 (.agg #[.string ⟨#[]⟩,.int .i64 0]) 2 24 Tryz.underlying356 hinf hz0 hz1 hz2 rfl (by decide) u12 Hs.length (Qx Hs) rfl (World.ownsRow.alloc HOH2.out _) ⟨w2.heap.size,0,none⟩ 1 1 [encStr x,.int .i64 c] rfl rfl ?_ ?_ ?_ ?_ ?_ ?_ ?_)
    exact Zr w2 #[encStr x,.int .i64 c] 358
    ·intro u hu;simp at hu;rcases hu with rfl|rfl<;>rfl
    decide;unfold maxLen;omega;omega;have:=HB2.out.size;simp;omega;intro v4 w4 H4;obtain⟨r4,g4,d4,_,_⟩:=H4.out;have HO4:Hid (YY w4 w0.heap.size v4 (Hs++[⟨⟨x.toArray⟩,c⟩])):=YY.more r4;have hne:=Ziw HRG2.out HOH2.out;have HR4:Hid (w4.ranges Tryz.prog 9 (plainElem Tryz.prog 3) (w.heap.size+1) wl.heap.size k D (fun z=>left z&&!z.sameKey (.string x)) cnt2):=(HRG2.out.alloc _).kept g4 (fun e=>hne.2 e.symm) (fun e=>hne.1 e.symm);have HB4:Hid (Below w0.heap.size w0 w4):=(HB2.out.alloc HB2.out.size _).grown g4 (by have:=HB2.out.size;simp;omega) (fun j hj=>(World.ownsRow.lt HOH2.out j hj).1);clear H4 r4 g4 d4 hne hen;go_wp2;go_roundw;case rel=>exact⟨_,cnt2,_,HR4.out,HO4.out,HCC.out,by rw[Qe];have:=HLT.out;simp;omega,HB4.out⟩
    case measure=>rw[HR4.out.left_eq,HRG.out.left_eq];exact HLT.out
   rw[if_neg hct] at HCS;have HCC:Hid (Zar D (fun z=>left z&&!z.sameKey (.string x)) ct Hs):=HCS;clear HCS;go_wp2;go_roundw;case rel=>exact⟨_,cnt2,Hs,HRG2.out,HOH2.out,HCC.out,by have:=HLT.out;omega,HB2.out⟩
   case measure=>rw[HRG2.out.left_eq,HRG.out.left_eq];exact HLT.out
end Go.Proofs.YtfcgnpchbcmdeaaGreat
