import Derived.Test.YtfcgnpchbcmdeaaGreatZrbp
import Derived.Test.YtfcgnpchbcmdeaaGreatZrbr
namespace Go.Proofs.YtfcgnpchbcmdeaaGreat
set_option linter.all false
set_option maxRecDepth 100000
set_option maxHeartbeats 32000000
open Go.RowKit
theorem jz{a b:ByteArray}:a.data.toList=b.data.toList↔a=b:=by
 constructor
 ·intro h
  cases a;cases b
  simp at h;rw[h]
 intro h;rw[h]
theorem ZhQ v s:Qo v s.data.toList=(!v.miss&&decide (v.word=s)):=by grind [Qo,jz]
def Zi4:∀(L:List (Int×List VS)) (i:Nat) (s:ByteArray),Pn L i s=Jq ((Bn L i).zip (Fr L)) s.data.toList
  |[],_,_=>rfl
  | r::L,i,s=>by
    have ih:=Zi4 L i s
    grind [Jq,Bn,Fr,ZhQ,Pn]
abbrev fy(T:List ByteArray)(Wt:ByteArray->Int)(ct:Int)(v:VS):Prop:=v.miss=false/\Lib.containsS T v.word=false/\ct<=Wt v.word
abbrev Zeb(Wt:ByteArray->Int)(s:ByteArray×Int)(v:VS):Prop:=s.2<Wt v.word∨Wt v.word=s.2/\If v.word s.1
def pkS(T:List ByteArray)(Wt:ByteArray->Int)(ct:Int)(s:ByteArray×Int)(v:VS):ByteArray×Int:=if fy T Wt ct v/\Zeb Wt s v then(v.word,Wt v.word) else s
def pkF(T:List ByteArray)(Wt:ByteArray->Int)(ct:Int)(vs:List VS):ByteArray×Int:=vs.foldl (pkS T Wt ct) (⟨#[]⟩,0)
def Zbz T b a c v:pkF T b a (c++[v])=pkS T b a (pkF T b a c) v:=by
 unfold pkF
 grind
def Ziq T Wt {ct}(hc:1<=ct):∀n vs,vs.length=n->(pkF T Wt ct vs=(⟨#[]⟩,0)/\∀v∈vs,¬fy T Wt ct v)∨((∃v∈vs,fy T Wt ct v/\pkF T Wt ct vs=(v.word,Wt v.word))/\∀v∈vs,fy T Wt ct v->¬Zeb Wt (pkF T Wt ct vs) v)
 |0,vs,h=>by obtain rfl:=List.eq_nil_of_length_eq_zero h;exact .inl ⟨rfl,s_⟩
 | n+1,vs,h=>by
  obtain⟨us,v,rfl⟩:∃us v,vs=us++[v]:=⟨vs.dropLast,vs.getLast w_,(List.dropLast_concat_getLast _).symm⟩;have ih:=Ziq T Wt hc n _ (by simpa using h);rw[Zbz];have hirr:∀x,¬If x x:=λx=>List.lt_irrefl _
  by_cases hb:fy T Wt ct v/\Zeb Wt (pkF T Wt ct us) v
  ·grind [pkS]
  grind [pkS]
section
variable {L:List (Int×List VS)} {i:Nat} {ct:Int}
def ZeK{x}:x∈Tl (Bn L i) (Fr L) ct↔(∃v∈Bn L i,v.miss=false/\v.word=x.wd)/\x.wt=Pn L i x.wd/\ct<=x.wt:=by
 rw[Zh7,Zi4];refine and_congr_left λ_=>?_;unfold Sh;rw[List.any_eq_true];constructor;rintro⟨p,b,a⟩;simp only[Qo,Bool.and_eq_true,Bool.not_eq_true',decide_eq_true_eq,jz] at a;exact⟨p.1,(List.of_mem_zip b).1,a⟩;rintro⟨v,c,f,e⟩;obtain⟨j,d,rfl⟩:=List.getElem_of_mem c;refine⟨((Bn L i)[j],(Fr L)[j]'(by simpa [Bn,Fr] using d)),?_,?_⟩
 ·grind [Bn,Fr]
 grind [Qo]
def ZfY(w:1<=ct){k}(A:k<=(Tl (Bn L i) (Fr L) ct).length):pkF (((Tl (Bn L i) (Fr L) ct).take k).map WS.wd) (Pn L i) ct (Bn L i)=if h:k<(Tl (Bn L i) (Fr L) ct).length then((Tl (Bn L i) (Fr L) ct)[k].wd,(Tl (Bn L i) (Fr L) ct)[k].wt) else(⟨#[]⟩,0):=by
 have z:=ZaP (Bn L i) (Fr L) ct;have u:=ZcR (Bn L i) (Fr L) ct;have c:∀x,x∈Tl (Bn L i) _ ct↔_:=λx=>ZeK;generalize Tl (Bn L i) (Fr L) ct=D at *
 have a:∀h,D[k].wd ∉ (D.take k).map WS.wd:=λh hin=>by
  obtain⟨y,s,e⟩:=List.mem_map.1 hin;obtain⟨j,p,rfl⟩:=List.getElem_of_mem s;rw[List.length_take] at p;rw[List.getElem_take] at e;have g:=((c D[j]).1 (Qf _)).2.1;have o:=((c D[k]).1 (Qf _)).2.1
  have:D[j]=D[k]:=by
   cases f:D[j];cases hz:D[k]
   rw[f,hz] at e;rw[f] at g;rw[hz] at o;simp only at e g o;rw[g,o,e]
  have:=(List.getElem_inj u).1 this;omega
 have l:∀h,∃v∈Bn L i,fy ((D.take k).map WS.wd) (Pn L i) ct v/\v.word=D[k].wd:=λh=>by obtain⟨⟨v,m,b,d⟩,q,B⟩:=(c D[k]).1 (Qf _);exact⟨v,m,⟨b,by rw[d,<- Bool.not_eq_true,Lib.containsS_iff];exact a h,w_⟩,d⟩
 rcases Ziq ((D.take k).map WS.wd) (Pn L i) w _ (Bn L i) rfl with⟨b,d⟩|⟨⟨v,m,b,q⟩,d⟩
 ·grind
 have f:⟨v.word,Pn L i v.word⟩∈D:=(c _).2 ⟨⟨v,m,b.1,rfl⟩,rfl,b.2.2⟩;obtain⟨j,p,C⟩:=List.getElem_of_mem f
 have r:k<=j:=by
  apply Nat.le_of_not_lt;intro h;have t:=b.2.1;rw[<- Bool.not_eq_true,Lib.containsS_iff] at t
  grind [List.mem_iff_getElem]
 have n:k<D.length:=o_;rw[dif_pos n,q]
 by_cases e:k=j
 ·grind
 grind [List.pairwise_iff_getElem,Ve]
end
def aq(w:World)(b:Nat)(wd:Bool)(vb vd:Value)(d:Int):Prop:=w.heap[b]? =some (.cells #[.bool wd,vb,vd,I_ d] 227 (0,0))
def aq.cells{w b wd vb vd d}(h:aq w b wd vb vd d):(w.cell? (A_ b 0)=some (.bool wd)/\w.cell? (A_ b 1)=some vb/\w.cell? (A_ b 2)=some vd/\w.cell? (A_ b 3)=some (I_ d))/\(∀j,w.frozen? (A_ b j)=false)/\b<w.heap.size:=
 ⟨⟨cq_ 0 _ 227 (0,0) h,cq_ 1 _ 227 (0,0) h,cq_ 2 _ 227 (0,0) h,cq_ 3 _ 227 (0,0) h⟩,λj=>fq_ j _ 227 h,(Qb h).1⟩
def Cc.add{w a v b}{x:ByteArray}(h:w.ownsRow a 9 1 v (b.length+1) (b.map Value.string++[.string x])):Cc w a v (b++[x]):=by
 unfold Cc
 simpa using h
def gr(w:World)(b:Nat):Nat:=(w.cell? (A_ b 2)).elim 0 yr
structure WdI(w w3 W:World)(b k)(da)(dc)(T):Prop where
 blk:aq W b true (.slice none 0 0) (.slice da k dc) 0
 own:Cc W w3.heap.size (.slice da k dc) T
 len:T.length=k
 tch:Aa (λq=>q=b) w3 W
def WdI.below{w w3 W W' b k dc da T}(h:WdI w w3 W b k da dc T)(hb:Below W.heap.size W W'):WdI w w3 W' b k da dc T:=⟨(hb.block _ h.blk.cells.2.2).trans h.blk,h.own.below hb,h.len,h.tch.below hb⟩
def Zhb{p:Prop}(h:p:=by
 obtain⟨⟨e0,e1,e2,e3⟩,_,_⟩:=hI.blk.cells;have h6:aq _ _ _ _ _ 0:=hI.tch.at_ HA3.2.2 o_;obtain⟨⟨k0,k1,k2,k3⟩,hfz,_⟩:=h6.cells;have p0:=hfz 0;have p1:=hfz 1;have p2:=hfz 2;have p3:=hfz 3;have hbe:=HA3.1.trans (hI.tch.to_below HA3.1.size (λq hq=>o_));have HF:Hid (aq wr (w.heap.size+1) false (.slice none 0 0) (.slice none 0 0) 0/\Cc wr w.heap.size (.slice da k dc) B/\E_ w wr):=(by refine⟨h6,?_,hbe⟩;rw[<- HTB];exact hI.own.monoW HA3.1.size);have hkB:k=B.length:=(by rw[<- HTB];exact hI.len.symm);clear hI h6 hfz hbe HI;subst hkB;go_wp2;refine bodyPost_ret (v:=.agg #[.bool true,.slice none 0 0,.slice da B.length dc,I_ 0]) (by simp[results,Tryz.results238,go_sem, *]) rfl ?_;have tt:=Aa.set4 wr (w.heap.size+1) (.bool true) (.slice none 0 0) (.slice da B.length dc) (I_ 0)
 exact⟨da,dc,rfl,tt.row HF.2.1 (λk hk e=>Au HF.2.1 hk HF.1 d_ e),HF.2.2.trans (tt.to_below HF.2.2.size (λk hk=>o_))⟩):p:=h
def Zdy a O N c i d size x3 j fk cv L w (h:Sn w a O N L)(hi:i<N)(a8:Yj L)(hn:O<=200)(bA:2<=d)(b9:d<=16)(hc:w.cell? (A_ fk (i*3+2))=some (I_ j))(aU:1<=j):C_ 238 #[.agg #[.slice (some ⟨fk,0,none⟩) N cv,.int .i64 d,.int .i64 size,.int .i64 x3],.slice a O c,.int .i64 i] w λe w'=>∃ad cd,e=.returned (.agg #[.bool true,.slice none 0 0,.slice ad (Mb (Bn L i) (Fr L) j d).ww.length cd,.int .i64 0])/\Cc w' w.heap.size (.slice ad (Mb (Bn L i) (Fr L) j d).ww.length cd) (Mb (Bn L i) (Fr L) j d).ww/\Below w.heap.size w w':=by
 have HV:=x1_ h
 have aK:∀r∈L,0<=r.1/\r.1<=99:=λr hr=>by have:=(a8 r hr).1;omega
 have aM:=x1_ aK;have X:=x1_ h.1;obtain⟨B,hB⟩:=ez_ ((Mb (Bn L i) (Fr L) j d).ww);rw[hB.out];have Y:Hid (B=((Tl _ _ _).take _).map _):=hB.out.symm;have aG:Hid (∀k,k<=_->_):=λk hk=>ZfY (L:=L) (i:=i) aU hk;obtain⟨D,hD⟩:=ey_ (Tl (Bn L i) (Fr L) j);rw[hD] at Y aG
 have aL:Hid (∀x∈D,_):=λx hx=>by rw[<- hD] at hx;exact((ZeK.1 hx).2.2)
 obtain⟨H,C⟩:=ex_ (((w.alloc (.cells #[L_ fk N cv,I_ d,I_ size,I_ x3] 37)).alloc (.cells #[.bool false,.slice none 0 0,.slice none 0 0,I_ 0] 227)).alloc (.cells #[.bool true,.slice none 0 0,.slice none 0 0,I_ 0] 227));have aD:E_ w H:=(by rw[C];exact(bA_.alloc s_ _).alloc t_ _);have aA:H.heap.size=w.heap.size+1+1+1:=by rw[C];simp
 have s:H.heap[w.heap.size]? =some (.cells #[L_ fk N cv,I_ d,I_ size,I_ x3] 37 (0,0))/\aq H (w.heap.size+1) false (.slice none 0 0) (.slice none 0 0) 0/\aq H (w.heap.size+1+1) true (.slice none 0 0) (.slice none 0 0) 0:=by
  rw[C];refine⟨?_,?_,?_⟩;exact((hc_ t_).trans (hc_ s_)).trans hn_;exact(hc_ s_).trans (by have e:=ha_ (w.alloc (.cells #[L_ fk N cv,I_ d,I_ size,I_ x3] 37)) (.cells #[.bool false,.slice none 0 0,.slice none 0 0,I_ 0] 227);simpa using e);have e:=ha_ ((w.alloc (.cells #[L_ fk N cv,I_ d,I_ size,I_ x3] 37)).alloc (.cells #[.bool false,.slice none 0 0,.slice none 0 0,I_ 0] 227)) (.cells #[.bool true,.slice none 0 0,.slice none 0 0,I_ 0] 227)
  simpa [aq] using e
 have bB:=x1_ aA;have HA3:=x3_ aD s.1 s.2.1;have aF:Hid (WdI w _ _ _ 0 _ 0 _):=⟨s.2.2,Cc.nil _ _,rfl,Aa.refl _ _⟩;have aB:=x1_ C;have V:=World.block_lt_of_cell? _ _ hc;simp only at V;have b6:=x1_ V;clear h a8 aK hB C aD aA s V hD;go_enter Tryz.func238,Tryz.ntmps238;go_upto_region 2 with fail;rw[<- aB];clear aB;go_loopw [8] (λ_ wr=>∃(k:Nat) (da:Option Addr) (dc:Nat),k<=D.length/\(k:Int)<=d/\Hid (WdI w H wr (w.heap.size+1+1) k da dc ((D.take k).map WS.wd))) (λ_ wr=>d.toNat-gr wr (w.heap.size+1+1))
 case atStart=>exact⟨0,none,0,qg_,o_,aF⟩
 case round=>
  clear aF;obtain⟨k,da,dc,aW,b5,HI⟩:=hrel;obtain⟨⟨c0,c1,c2,c3⟩,_,bC⟩:=HI.blk.cells;have S:=HI.tch.at_ HA3.2.1 o_;have y0:=cR_ 0 S;have y1:=cR_ 1 S;have Q:=HA3.1.trans (HI.tch.to_below HA3.1.size (λq hq=>o_));clear S
  by_cases hk2:(k:Int)<d
  ·obtain ⟨wo, aR⟩:=ex_ wr;subst aR;obtain⟨T,hT⟩:=ey_ ((D.take k).map WS.wd);have HP:Hid (pkF T (Pn L i) j (Bn L i)=if h:k<D.length then(D[k].wd,D[k].wt) else(⟨#[]⟩,0)):=(by rw[<- hT];exact aG k aW);have HT:=x1_ hT;rw[hT] at HI;clear hT;go_wp2_with fail
   go_loopw [8,9,10] (λt8 t9 t10 wz=>∃r:Nat,t10=.int .i64 r/\r<=O/\t8=.string (pkF T (Pn L i) j ((Bn L i).take r)).1/\t9=.int .i64 (pkF T (Pn L i) j ((Bn L i).take r)).2/\E_ wo wz) (λ_ _ t10 _=>O-(intOf t10).toNat)
   case atStart=>exact⟨0,rfl,qg_,rfl,rfl,bz_⟩
   case round=>
    obtain⟨r,rfl,b8,rfl,rfl,z⟩:=hrel;have E:=Q.trans (z.mono Q.size)
    by_cases hin:r<O
    ·rcases(HV.below E).2 with h0|⟨q,rfl,hq⟩
     omega;obtain⟨_,g,cc,a1,_,hC⟩:=hq r hin;obtain⟨a2,a3,a4⟩:=hC i hi;have aC:r<(Bn L i).length:=by unfold Bn;rw[List.length_map,X];exact hin
     have aI:pkF T (Pn L i) j ((Bn L i).take (r+1))=pkS T (Pn L i) j (pkF T (Pn L i) j ((Bn L i).take r)) ((L.getD r Sf).2.getD i Ax):=by have aQ:r<L.length:=(by rw[X];exact hin);rw[lq _ aC,Zbz];congr 1;simp[Bn,List.getD,aQ]
     have P:=x1_ aI;clear hq hC aI aC;generalize (L.getD r Sf).2.getD i Ax=x at *;generalize pkF T (Pn L i) j ((Bn L i).take r)=p at *;obtain⟨xm,xn,l⟩:=x;obtain⟨f,b⟩:=p;simp only at a2 a3 a4 ⊢;have b1:0<=(r:Int):=o_;have b2:r<(O:Int):=o_;have b3:0<=(i:Int):=o_;have b4:i<(N:Int):=o_;have x2:=Ac z c2;obtain⟨y,hy⟩:=ex_ (wr.alloc (.cells #[.bool xm,I_ xn,.string l] 335));have J:E_ wr y:=(by rw[hy];exact bA_);have a6:y.heap[wr.heap.size]? =some (.cells #[.bool xm,I_ xn,.string l] 335 (0,0)):=(by rw[hy];exact hn_);have z0:=cR_ 0 a6;have z2:=cR_ 2 a6;have z3:=Ac J x2;have HY:=x1_ hy;have u:=z.trans (J.mono z.size);clear hy a6;go_upto_region 9 with fail;rw[<- HY];clear HY a1 a2 a3 a4;go_wp2_with fail
     refine(Ziv H.heap.size k dc da T l _ ((HI.below u).own) HI.len o_).mono ?_;rintro e w1 ⟨rfl,a9⟩;obtain rfl:=a9.symm;clear a9;obtain⟨tk,a5⟩:=ey_ (Lib.containsS T l);rw[a5];have a0:=x1_ a5;clear a5
     by_cases hgo:xm=true∨tk=true
     ·have n:Hid (pkF T (Pn L i) j ((Bn L i).take (r+1))=(f,b)):=by
       show _=_;rw[P];refine if_neg (λh=>?_);have h1:=h.1.1;have h2:=h.1.2.1;simp only[a0.out] at h1 h2
       rcases hgo with e|e
       rw[e] at h1;cases h1;rw[e] at h2;cases h2
      clear P
      cases xm<;>cases tk
      ·rcases hgo with e|e<;>cases e
      all_goals
       go_wp2;go_roundw;case rel=>exact⟨r+1,g_,o_,by rw[n],by rw[n],u⟩
       case measure=>exact z_
     obtain⟨rfl,rfl⟩:xm=false/\tk=false:=⟨by cases xm;rfl;exact absurd (.inl rfl) hgo,by cases tk;rfl;exact absurd (.inr rfl) hgo⟩;clear hgo;go_wp2_with fail
     refine(ZbO (some ⟨q,0,none⟩) O N c i L l _ (HV.below (E.trans (J.mono E.size))) hi aM o_).mono ?_;rintro e w2 ⟨rfl,m,aH⟩;obtain rfl:=aH.symm;clear aH;have n:Hid (pkF T (Pn L i) j ((Bn L i).take (r+1))=if j<=Pn L i l/\(b<Pn L i l∨Pn L i l=b/\If l f) then(l,Pn L i l) else(f,b)):=(by show _=_;rw[P];unfold pkS fy Zeb;simp only[a0.out,true_and]);have aV:=E.trans (J.mono E.size);have f0:=Ac u y0;have f1:=Ac aV hc;have R:=below_drewN u m;clear P a0;generalize Pn L i l=W at *;go_upto_region 12 with fail;go_cut [73] (λt wx=>t=.bool (decide (j<=W/\(b<W∨W=b/\If l f)))/\wx=y.drewN m)
     case first=>
      by_cases h1:j<=W
      ·by_cases h2:b<W
       ·go_wp2;go_meet
        exact⟨by rw[decide_eq_true (p:=_/\_) ⟨h1,.inl h2⟩],rfl⟩
       by_cases h3:W=b
       ·have e3:=beq_iff_eq.2 h3
        by_cases h4:If l f
        ·have e4:Op.bytesLess l.toList f.toList=true:=(by rw[yu];exact decide_eq_true h4);have Z:Hid (_/\(b<W∨_/\_)):=⟨h1,.inr ⟨h3,h4⟩⟩;clear h3 h4;go_wp2;go_meet
         exact⟨by rw[decide_eq_true Z.out],rfl⟩
        have e4:Op.bytesLess l.toList f.toList=false:=by rw[yu];exact decide_eq_false h4
        have Z:Hid (¬(j<=W/\(b<W∨W=b/\If l f))):=λh=>by rcases h.2 with h|h;exact h2 h;exact h4 h.2
        clear h3 h4;go_wp2;go_meet
        exact⟨by rw[decide_eq_false Z],rfl⟩
       have e3:=beq_eq_false_iff_ne.2 h3
       have Z:Hid (¬(j<=W/\(b<W∨W=b/\If l f))):=λh=>by rcases h.2 with h|h;exact h2 h;exact h3 h.1
       clear h3;go_wp2;go_meet
       exact⟨by rw[decide_eq_false Z],rfl⟩
      have Z:Hid (¬(_/\(b<W∨W=b/\If l f))):=λh=>h1 h.1;go_wp2;go_meet
      exact⟨by rw[decide_eq_false Z],rfl⟩
     case rest=>
     obtain⟨rfl,hw⟩:=hcut;obtain rfl:=hw.symm;clear hw
     by_cases hb:j<=W/\(b<W∨W=b/\If l f)
     ·rw[decide_eq_true hb];have G:Hid (pkF T (Pn L i) j ((Bn L i).take (r+1))=(l,W)):=(by show _=_;rw[n,if_pos hb]);clear hb n;go_wp2;go_roundw;case rel=>exact⟨r+1,g_,o_,by rw[G],by rw[G],R⟩
      case measure=>exact z_
     rw[decide_eq_false hb];have G:Hid (pkF T (Pn L i) j ((Bn L i).take (r+1))=(f,b)):=(by show _=_;rw[n,if_neg hb]);clear hb n;go_wp2;go_roundw;case rel=>exact⟨r+1,g_,o_,by rw[G],by rw[G],R⟩
     case measure=>exact z_
    have g2:¬r<(O:Int):=o_;have U:(Bn L i).take r=_:=List.take_of_length_le (by unfold Bn;rw[List.length_map,X];omega);rw[U,HP]
    by_cases hkl:k<D.length
    ·rw[dif_pos hkl];have aO:=aL _ (Qf hkl);have aS:Hid ((D.take (k+1)).map WS.wd=T++[D[k].wd]):=(by show _=_;rw[Qi hkl,List.map_append,HT];rfl);generalize D[k]=x at *;obtain⟨l,xt⟩:=x;simp only at aO ⊢;have e0:(xt==0)=_:=beq_eq_false_iff_ne.2 o_;have hI:=HI.below z;obtain⟨⟨_,_,x2,_⟩,_,aZ⟩:=hI.blk.cells;obtain⟨i0,aE,aX,aT,aP⟩:=info_parts Zc8;have A:Hid (∀o,WdI w _ (wr.alloc o) _ k _ _ T):=λo=>hI.below bA_;have aY:=hI.tch.size;have F:=HI.len
     have M:Hid (∀o,(wr.alloc o).ownsRow H.heap.size 9 1 (.slice da k dc) k (T.map Value.string)):=λo=>by have:=(A o).own;unfold Cc at this;rw[F] at this;exact this
     clear hI HI HP;go_wp2_with (at_builtin;refine Ab rfl (.tmp 81) (.tmp 83) 47 rfl H.heap.size 9 i0 _ 1 16 Tryz.underlying47 aE aX aT aP rfl d_ (.slice da k dc) k _ rfl (M _) _ 1 1 [.string l] rfl rfl ?_ ?_ ?_ ?_ ?_ ?_ ?_)
     rfl;unfold maxLen;omega;omega;omega;intro v7 w7 H7;obtain⟨r7,g7,_,_,q7,p7,a7⟩:=H7;have t7:=(Aa.refl _ _).grown g7 (λk hk _=>hk);have I:aq _ _ _ _ _ 0:=t7.at_ (A _).blk (λe=>Au (M (.cells #[] 9)) e (A _).blk d_ rfl);have HF:Hid (WdI w H (w7.setCell (A_ (w.heap.size+1+1) 2) v7) (w.heap.size+1+1) (k+1) (some ⟨q7,0,none⟩) p7 (T++[l])):=by subst a7;refine⟨ht_ 2 _ _ _ I,?_,by rw[Qe,F];rfl,?_⟩;have ho:=Cc.add (by rw[F];exact r7);exact As ho I d_;exact((A _).tch.grown g7 (λx hx hlt=>by have:=(rl_ (M (.cells #[] 9)) x hx).1;omega)).setCell (p:=(A_ (w.heap.size+1+1) 2)) (λ_=>rfl) _
     obtain⟨⟨_,_,b7,_⟩,hfz,_⟩:=I.cells;have p2:=hfz 2;have aN:Hid (gr wo (w.heap.size+1+1)=k):=by show _=_;unfold gr;rw[c2];rfl
     have aJ:Hid (gr (w7.setCell (A_ (w.heap.size+1+1) 2) v7) (w.heap.size+1+1)=k+1):=by show _=_;unfold gr;rw[HF.blk.cells.1.2.2.1];rfl
     subst a7;clear r7 g7 t7 I hfz A M x2 c0 c1 c2 c3;go_wp2;go_roundw;case rel=>exact⟨k+1,_,_,o_,o_,by rw[aS];exact HF⟩
     case measure=>rw[aN,aJ];omega
    rw[dif_neg hkl];have HTB:Hid (T=B):=(by show _=_;rw[Y,<- HT,List.take_of_length_le o_,List.take_of_length_le o_]);have hI:=HI.below z;exact Zhb
  have g2:=hk2;have HTB:Hid ((D.take k).map WS.wd=B):=(by show _=_;rw[Y,show d.toNat=k by omega]);have hI:=HI.out;exact Zhb
def Mr(L:List (Int×List VS))(E:Nat->ES)(i:Nat):List Nat:=(Bn L i).map (Dy (E i))
def Ou(m:Nat)(E:Nat->ES):List ES:=(List.range (m+1)).map E
def Ih(m:Nat)(L:List (Int×List VS))(E:Nat->ES):List (List Nat):=(List.range (m+1)).map (Mr L E)
def bv{m E i}(h:i<m+1):(Ou m E).getD i Ph=E i:=by simp[Ou,List.getD,h]
def Uh{m L E i}(h:i<m+1):(Ih m L E).getD i []=Mr L E i:=by simp[Ih,List.getD,h]
def Lt{L E}{i}:(Mr L E i).length=L.length:=by simp[Mr,Bn]
def Zhc{L E i r}(h:r<L.length):(Mr L E i).getD r 0=Dy (E i) ((L.getD r Sf).2.getD i Ax):=by simp[Mr,Bn,List.getD,h]
def CfB(w:World)(cb:Nat)(fk n fc:Nat)(bins:Int)(size budget:Nat):Prop:=w.heap[cb]? =some (.cells #[L_ fk n fc,I_ bins,I_ size,I_ budget] 37 (0,0))
def CfB.cells{w cb fk n fc bins size budget}(h:CfB w cb fk n fc bins size budget):w.cell? (A_ cb 0)=some (L_ fk n fc)/\w.cell? (A_ cb 1)=some (I_ bins)/\w.cell? (A_ cb 2)=some (I_ size)/\w.cell? (A_ cb 3)=some (I_ budget):=
 ⟨cq_ 0 _ 37 (0,0) h,cq_ 1 _ 37 (0,0) h,cq_ 2 _ 37 (0,0) h,cq_ 3 _ 37 (0,0) h⟩
def aq.fill{w b l c i j a e d f}(h:aq w b l i j d):aq ((((w.setCell (A_ b 0) (.bool c)).setCell (A_ b 1) a).setCell (A_ b 2) e).setCell (A_ b 3) (I_ f)) b c a e f:=by have m:=hs_ w b 0 _ 227 (.bool c) h;have g:=hs_ _ b 1 _ 227 a m;have k:=hs_ _ b 2 _ 227 e g;exact hs_ _ b 3 _ 227 (I_ f) k
section
variable {P:Program} {ops:Array Oper} {Q:Exit->Act->World->Prop} {md:Region.Mode} {S:World->Prop} {stop:Nat}
def Zf{e:Oper}{v:Value}{d:Nat}{b:Array Bool}{a g:Act}{w:World}(i:Nat)(h:Dg P md ops Q S stop d (b.setIfInBounds i true) g w)(j:ops.toList[i]? =some e:=by rfl)(hs:Region.noSelect ops=true:=by kernel_rfl)(hf:Region.free md ops b i=true:=by kernel_rfl)(hr:(Region.ready md ops b).contains i=true:=by kernel_rfl)(hstop:(ZeD md ops b i).contains stop=true:=by kernel_rfl)(hL:iu md ops b i (ZeD md ops b i)=true:=by kernel_rfl)(hg:Region.wanted e (yielded ops a.tmps)=true:=by rfl)(hS:S w:=by assumption)(y:∀w,S w->(execOp a.eval e).run P w=.ok (.value v) w:=by intro w f;(first|obtain⟨_,_,_,_,_,_,_,_⟩:=f|obtain⟨_,_,_,_,_,_⟩:=f);go_simp;try with_reducible rfl)(ha:a.put e.dst v=g:=by(try simp only[Act.put,List.setIfInBounds_toArray,List.set_cons_succ,List.set_cons_zero]);exact rfl)
  (hQ:∀c a w,Q (.panic c) (a.put e.dst v) w->Q (.panic c) a w:=by exact λ_ _ _ h=>h):Dg P md ops Q S stop (d+1) b a w:=Kh _ j hs hf hr hstop hL hQ (Or.inl ⟨hg,y⟩) hS (ha ▸ h)
end
def ZjQ:(Tryz.prog.info? 227).map (λi=>(i.zero,i.size,i.bytes))=some (some (.agg #[.bool false,.slice none 0 0,.slice none 0 0,I_ 0]),4,64):=k_
def xz p b r:∀i,(ng p b r i).length<=i
 |0=>by simp[ng]
 |i+1=>by have:=xz p b r i;simp only[ng,Qe,exC];split<;>simp<;>omega
def Zep p b M:∀r,(Uq p b M r).length<=r*M
 |0=>by simp[Uq]
 |r+1=>by have:=Zep p b M r;have:=xz p b r M;simp only[Uq,Qe,Nat.add_mul];omega
def Zan(w w':World)(yb n:Nat)(D:Zh):Prop:=∃vF vB vC vX kvs bvs cvs X,RfX w' w.heap.size yb n vF vB vC vX kvs bvs cvs D.ks (D.bs.map BS.fs) (D.bs.map BS.N) X/\X.Perm D.xs/\Fp X
structure MaI(w wr:World)(fk fc n m)(bins)(size budget k)(L)(E)(vF vb vo)(kvs)(bbs):Prop where
 my:rg wr w.heap.size (w.heap.size+1+1) (w.heap.size+1) n vF Cz Cz Cz vb vo kvs bbs (Eb (Ou m E) (Ih m L E) k) ((Ih m L E).take k) ((List.range k).map (De (Gh (Ou m E) (Ih m L E) (m+1))))
 cf:CfB wr w.heap.size fk (m+1) fc bins size budget
 lo:E_ w wr
def Zf3(fk fc n c m A l:Nat) a s wd sc ct L E w (hF:Dd w fk 0 (m+1) wd sc ct)(hR:Sn w a n (m+1) L)(fH:Yj L)(hn:n<=200)(hm:m+1<=4)(kG:l<=20)(hs:2<=A)(kC:A<=32)(jD:2<=s)(iT:s<=16)(jI:∀i,i<m+1->wd i=true->1<=ct i)(hE:∀i,E i=Ck Mb (wd i) (ct i) s A (Bn L i) (Fr L))(i3:∀i,i<m+1->Ol (E i)/\(E i).wd=wd i/\(E i).cnt<=16):C_ 179 #[.agg #[.slice (some ⟨fk,0,none⟩) (m+1) fc,.int .i64 s,.int .i64 A,.int .i64 l],.slice a n c] w λe w'=>∃yb,e=.returned (.pointer (some ⟨yb,0,none⟩))/\Zan w w' yb n (Ao m n l (Ou m E) (Ih m L E))/\Below w.heap.size w w':=by
 have HF:Hid (Dd w fk 0 (m+1) wd sc ct):=hF;have HR:Hid (Sn w a n (m+1) L):=hR;have i5:Hid (Yj L):=fH;have HE:Hid ((∀i,E i=Ck Mb (wd i) (ct i) s A (Bn L i) (Fr L))/\(∀i,i<m+1->Ol (E i)/\(E i).wd=wd i/\(E i).cnt<=16)/\∀i,i<m+1->wd i=true->1<=ct i):=⟨hE,i3,jI⟩;have iY:L.length=n:=hR.1;have bM:Hid (L.length=n):=iY;obtain⟨w3,c4⟩:=ex_ (((w.alloc (.cells #[L_ fk (m+1) fc,I_ s,I_ A,I_ l] 37)).alloc (.cells #[I_ n,Cz,Cz,Cz,Cz] 142)).alloc (.cells #[P_ (w.heap.size+1),Cz,Cz] 331))
 have j3:Hid (MaI w w3 fk fc n m s A l 0 L E Cz Cz Cz [] []):=by
  have hb:E_ w w3:=(by rw[c4];exact(bA_.alloc s_ _).alloc t_ _);refine⟨⟨?_,?_,dx.nil _ _,Mg.nil _ _,Ag.nil _ _,λi O=>by simp at O,λi O=>by simp[Eb] at O⟩,?_,hb⟩
  ·rw[c4];have e:=ha_ ((w.alloc (.cells #[L_ fk (m+1) fc,I_ s,I_ A,I_ l] 37)).alloc (.cells #[I_ (n:Nat),Cz,Cz,Cz,Cz] 142)) (.cells #[P_ (w.heap.size+1),Cz,Cz] 331)
   simpa [MaB] using e
  rw[c4];exact(hc_ s_).trans (by have e:=ha_ (w.alloc (.cells #[L_ fk (m+1) fc,I_ s,I_ A,I_ l] 37)) (.cells #[I_ (n:Nat),Cz,Cz,Cz,Cz] 142);simpa [Ty] using e);rw[c4];exact((hc_ t_).trans (hc_ s_)).trans hn_
 have iJ:Hid (w3=_):=c4;obtain⟨M,hM⟩:=ex_ (m+1);have aM:Hid (M=m+1):=hM;have l4:M<=4:=o_;clear hF hR fH hE i3 jI c4 iY;go_enter Tryz.func179,Tryz.ntmps179;go_upto_region 3 with fail;rw[<- iJ];clear iJ;rw[<- hM];clear hM;go_loopw [6] (λt6 wr=>∃(k:Nat) (vF vb vo:Value) (U:List (Value×Value)) (X:List Value),t6=.int .i64 k/\k<=M/\Hid (MaI w wr fk fc n m s A l k L E vF vb vo U X)) (λt6 _=>M-(intOf t6).toNat)
 case atStart=>exact⟨0,Cz,Cz,Cz,[],[],rfl,qg_,j3⟩
 case round=>
  clear j3;obtain⟨k,vF,vb,vo,U,X,rfl,hk,HI⟩:=hrel;obtain⟨y0,y1,y2,y3⟩:=HI.cf.cells;rw[<- aM] at y0;have aY:=HI.lo;have cV:=aY.size
  by_cases hkM:k<M
  ·have Z:k<m+1:=(by have:=aM.out;omega);have g1:k<(M:Int):=o_;have g0:0<=(k:Int):=o_;have iD:=HF.lt o_;have f0:wr.cell? (A_ fk (k*3))=some (.bool (wd k)):=(aY.cell (p:=(A_ fk _)) iD).trans (by have:=HF.c0 k Z;rwa [Nat.zero_add] at this);have f2:wr.cell? (A_ fk (k*3+2))=some (I_ (ct k)):=(aY.cell (p:=(A_ fk _)) iD).trans (by have:=HF.c2 k Z;rwa [Nat.zero_add] at this);have h9:=zn a n (m+1) c k A s l (some ⟨fk,0,none⟩) (m+1) fc L wr (HR.below aY) Z i5 hn hs kC jD iT;rw[<- aM] at h9;have bC:=HI.cf;have cW:w.heap.size<wr.heap.size:=(Qb bC).1;obtain⟨Y,gW⟩:=ex_ wr;subst gW;clear bC;go_wp2_with fail
   refine h9.mono ?_;rintro e w1 ⟨av,cb,rfl,j5,cG⟩;have iM:=cG.size;obtain⟨y,hy⟩:=ex_ (w1.alloc (.cells #[.bool false,.slice av (Co (Bn L k) (Fr L) s A).length cb,Cz,I_ 0] 227));have cI:E_ w1 y:=(by rw[hy];exact bA_);have P:E_ Y y:=cG.trans (cI.mono iM);have bP:Hid (aq y w1.heap.size false (.slice av (Co (Bn L k) (Fr L) s A).length cb) Cz 0/\Ag y Y.heap.size (.slice av (Co (Bn L k) (Fr L) s A).length cb) (Co (Bn L k) (Fr L) s A)):=⟨by rw[hy];exact hn_,j5.below cI⟩;have HY:Hid (y=w1.alloc (.cells #[.bool false,.slice av (Co (Bn L k) (Fr L) s A).length cb,Cz,I_ 0] 227)):=hy;have iO:=HE.1 k;obtain⟨aD,aI,kW⟩:=HE.2.1 k Z;have jX:Hid (wd k=true->1<=ct k):=HE.2.2 k Z
   have bZ:Hid (E k=Ck Mb (wd k) (ct k) s A (Bn L k) (Fr L)):=iO;clear hy h9 j5 cG iO;have z0:=Ac P y0;have z1:=Ac P y1;have z2:=Ac P y2;have z3:=Ac P y3;have z4:=Ac P f0;go_upto_region 6 with fail;rw[<- HY];clear HY;go_upto_if 40 with fail
   go_cut [7] (λt wx=>t=.pointer (some ⟨w1.heap.size,0,none⟩)/\∃vb' vw,Hid (aq wx w1.heap.size (E k).wd vb' vw 0/\Ag wx Y.heap.size vb' (E k).bs/\Cc wx Y.heap.size vw (E k).ww/\E_ Y wx))
   case first=>
    cases hw:wd k with
    | false=>
     rw[hw] at z4 f0;have aU:Hid (aq y w1.heap.size (E k).wd (.slice av (Co (Bn L k) (Fr L) s A).length cb) Cz 0/\Ag y Y.heap.size (.slice av (Co (Bn L k) (Fr L) s A).length cb) (E k).bs/\Cc y Y.heap.size Cz (E k).ww/\E_ Y y):=(by have e:E k=⟨false,Co (Bn L k) (Fr L) s A,[]⟩:=(by rw[bZ,hw];rfl);rw[e];exact⟨bP.1,bP.2,Cc.nil _ _,P⟩);clear bP cI P bZ;go_wp2;go_meet
     exact⟨rfl,_,_,aU⟩
    | true=>
     rw[hw] at z4 f0;have g4:=Zdy a n (m+1) c k s A l (ct k) fk fc L y (HR.below (aY.trans (P.mono cV))) Z i5 hn jD iT (Ac P f2) (jX hw);rw[<- aM] at g4;have he:E k=Mb (Bn L k) (Fr L) (ct k) s:=(by rw[bZ,hw];rfl);have jU:Hid (E k=Mb (Bn L k) (Fr L) (ct k) s):=he;clear he;go_wp2_with fail
     refine g4.mono ?_;rintro e w4 ⟨ad,cd,rfl,i2,gX⟩;have hQ:aq w4 w1.heap.size false (.slice av (Co (Bn L k) (Fr L) s A).length cb) Cz 0:=(gX.block _ bP.1.cells.2.2).trans bP.1;obtain⟨⟨q0,q1,q2,q3⟩,dR,_⟩:=hQ.cells;have p0:=dR 0;have p1:=dR 1;have p2:=dR 2;have p3:=dR 3;have aU:Hid (aq w4 w1.heap.size false (.slice av (Co (Bn L k) (Fr L) s A).length cb) Cz 0/\Cc w4 Y.heap.size (.slice ad (Mb (Bn L k) (Fr L) (ct k) s).ww.length cd) (Mb (Bn L k) (Fr L) (ct k) s).ww/\E_ Y w4):=⟨hQ,i2.monoW P.size,P.trans (gX.mono P.size)⟩;clear dR hQ i2 gX bP g4 cI P z0 z1 z2 z3 z4;generalize (Co (Bn L k) (Fr L) s A).length=nl at *;generalize hgw:(Mb (Bn L k) (Fr L) (ct k) s).ww.length=nw at *;go_wp2;go_meet
     have tt:=Aa.set4 w4 w1.heap.size (.bool true) Cz (.slice ad nw cd) (I_ 0);refine⟨rfl,Cz,.slice ad nw cd,?_⟩;rw[jU];exact⟨aU.1.fill,Ag.nil _ _,tt.row aU.2.1 (λk hk e=>Au aU.2.1 hk aU.1 d_ e),aU.2.2.trans (tt.to_below aU.2.2.size (λk hk=>o_))⟩
   case rest=>
   obtain⟨rfl,l9,l7,HC⟩:=hcut;obtain⟨fb,gY⟩:=ex_ w1.heap.size;rw[<- gY] at HC ⊢;have iV:Y.heap.size<=fb:=(by rw[gY];exact iM);clear gY;obtain⟨iU,jJ,jM,hS⟩:=HC.out;obtain⟨ab,F,rfl⟩:=jJ.shape;obtain⟨aw,cw,rfl⟩:=jM.form;have kM:=HI.my.below hS;obtain⟨⟨s0,s1,s2,s3⟩,_,jQ⟩:=iU.cells;have aH:Hid (aq wc fb (E k).wd (.slice ab (E k).bs.length F) (.slice aw (E k).ww.length cw) 0/\Ag wc Y.heap.size (.slice ab (E k).bs.length F) (E k).bs/\Cc wc Y.heap.size (.slice aw (E k).ww.length cw) (E k).ww/\E_ Y wc):=HC.out;have h4:E_ w wc:=aY.trans (hS.mono cV);have k9:Hid (E_ w wc):=h4
   have bO:Hid (od ⟨E k,0⟩):=(by have:=aD.lb;have:=aD.lw;refine⟨a_,a_,λe=>?_,λe=>?_⟩;have e2:wd k=true:=aI ▸ e;rw[bZ];unfold Ck;rw[e2,if_pos rfl];rfl;have e2:wd k=false:=aI ▸ e;rw[bZ];unfold Ck;rw[e2,if_neg d_]);clear aI;have aR:∀W v,E_ wc W->C_ 239 #[.agg #[.bool (E k).wd,.slice ab (E k).bs.length F,.slice aw (E k).ww.length cw,.int .i64 0],.agg #[.bool v.miss,.int .i64 v.num,.string v.word]] W λz w'=>z=.returned (.int .i64 (Dy (E k) v:Nat))/\E_ W w':=λW v hW=>Zit Y.heap.size _ _ 0 (E k) v W (aH.2.1.below hW) (aH.2.2.1.below hW) aD bO.2.2.1 bO.2.2.2;have fI:Hid _:=aR;have jZ:=Ko n o_;have cQ:=Nu (λr=>((Dy (E k) ((L.getD r Sf).2.getD k Ax):Nat):Int)) n
   have d5:Hid (Eu (λr=>(Dy (E k) ((L.getD r Sf).2.getD k Ax):Nat)) n n=Av (Mr L E k)):=(by show _=_;rw[Nt];apply List.ext_getElem;simp[Av,Lt,bM.out];intro r h1 h2;have hr:r<L.length:=(by simp at h1;have:=bM.out;omega);have:=Zhc (E:=E) (i:=k) hr;simp only[List.getElem_map,List.getElem_range,Av];rw[<- this];simp[List.getD,show r<(Mr L E k).length by rw[Lt];exact hr]);clear HC iU jJ jM hS aR y cI P bP y0 y1 y2 y3 f0 f2 z0 z1 z2 z3 z4;go_wp2_with fail
   go_loopw [9] (λt9 wr=>∃r:Nat,t9=.int .i64 r/\r<=n/\Hid (Ag wr wc.heap.size (.slice (some ⟨wc.heap.size,0,none⟩) n n) (Eu (λr=>((Dy (E k) ((L.getD r Sf).2.getD k Ax):Nat):Int)) n r))/\Hid (E_ wc wr)) (λt9 _=>n-(intOf t9).toNat)
   case atStart=>
    refine⟨0,rfl,qg_,?_,bA_⟩;rw[cQ];exact Kn n wc wc.heap.size o_ qa_
   case round=>
    clear jZ cQ;obtain⟨r,rfl,gR,HO,HB⟩:=hrel
    by_cases hin:r<n
    ·rcases(HR.below h4).2 with h0|⟨q,rfl,hq⟩
     omega;obtain⟨_,g,cc,a1,_,hC⟩:=hq r hin;obtain⟨a2,a3,a4⟩:=hC k Z;have hB:=HB.out;have iI:Hid (n=(Eu (λr=>(Dy (E k) ((L.getD r Sf).2.getD k Ax):Nat)) n r).length):=(Mz _ o_).symm;have iN:Hid ((Eu (λr=>(Dy (E k) ((L.getD r Sf).2.getD k Ax):Nat)) n r).set r (Dy (E k) ((L.getD r Sf).2.getD k Ax):Nat)=Eu (λr=>(Dy (E k) ((L.getD r Sf).2.getD k Ax):Nat)) n (r+1)):=Rk (λr=>((Dy (E k) ((L.getD r Sf).2.getD k Ax):Nat):Int)) hin;have gJ:=λW hW=>fI W ((L.getD r Sf).2.getD k Ax) hW;clear hq hC;generalize Dy (E k) ((L.getD r Sf).2.getD k Ax)=bx at *;generalize (L.getD r Sf).2.getD k Ax=x at *;obtain⟨xm,xn,xw⟩:=x;simp only at a2 a3 a4 gJ
     generalize hoo:Eu (λr=>((Dy (E k) ((L.getD r Sf).2.getD k Ax):Nat):Int)) n r=out at *;clear hoo;generalize (E k).wd=ewd at *;generalize (E k).bs.length=enb at *;generalize (E k).ww.length=enw at *;have kH:Hid (∀W,E_ wc W->C_ 239 #[.agg #[.bool ewd,.slice ab enb F,.slice aw enw cw,.int .i64 0],.agg #[.bool xm,.int .i64 xn,.string xw]] W λz w'=>z=.returned (.int .i64 bx)/\E_ W w'):=gJ;have b1:0<=(r:Int):=o_;have b2:r<(n:Int):=o_;have b4:k<((m+1:Nat):Int):=o_;have b5:k<(m:Int)+1:=o_;clear gJ;go_upto_region 12 with fail
     refine Al (λw'=>w'.cell? (A_ fb 0)=some (.bool ewd)/\w'.cell? (A_ fb 1)=some (.slice ab enb F)/\w'.cell? (A_ fb 2)=some (.slice aw enw cw)/\w'.cell? (A_ fb 3)=some (I_ 0)/\w'.cell? (A_ q (r*2+1))=some (L_ g (m+1) cc)/\w'.cell? (A_ g (k*3))=some (.bool xm)/\w'.cell? (A_ g (k*3+1))=some (I_ xn)/\w'.cell? (A_ g (k*3+2))=some (.string xw)) 13 k_ ⟨Ac hB s0,Ac hB s1,Ac hB s2,Ac hB s3,Ac hB a1,Ac hB a2,Ac hB a3,Ac hB a4⟩ (λhHeld=>?_);refine Zf 0 ?_;refine Zf 1 ?_;refine Zf 2 ?_;refine Zf 3 ?_;refine Zf 4 ?_;refine Zf 5 ?_;refine Zf 6 ?_;refine Zf 7 ?_;refine Zf 8 ?_;refine Zf 9 ?_;refine Zf 10 ?_;refine Af (i:=11) k_ rfl (λKK hK=>?_);go_simp;refine(kH _ hB.drew).mono ?_;rintro e w2 ⟨rfl,h5⟩
     have aN:E_ wc w2:=hB.drew.trans (h5.mono hB.size);have aJ:=HO.below (bz_.drew.trans h5);obtain⟨x0,x1⟩:=Ag.cellK aJ iI hin;have k3:Hid (Ag (w2.setCell (A_ wc.heap.size r) (I_ bx)) wc.heap.size (L_ wc.heap.size n n) (out.set r bx)):=(Ag.put aJ iI (bx:Nat)).1;have k7:Hid (E_ wc w2):=aN;have t0:=Ac aN s0;have t1:=Ac aN s1;have t2:=Ac aN s2;have t3:=Ac aN s3;have t4:=Ac aN a1;have t5:=Ac aN a2;have t6:=Ac aN a3;have t7:=Ac aN a4;clear aJ h5;go_simp;refine hK _ _ ⟨t0,t1,t2,t3,t4,t5,t6,t7⟩ (λhHeld=>?_);clear hK KK;try simp only[Act.put,tA,tB,tC]
     refine Zf 12 ?_;refine Ai (i:=13) k_ rfl k_ (λKK hK=>?_);go_simp;refine hK _ _ ?_;clear hK KK;try simp only[Act.put,tA,tB,tC]
     refine Ak k_ ?_ _;clear t0 t1 t2 t3 t4 t5 t6 t7 hHeld;go_wp2;go_roundw;case rel=>exact⟨r+1,g_,o_,by rw[<- iN];exact k3,k7.setCell qa_ _⟩
     case measure=>exact z_
    have b2:¬r<(n:Int):=o_;have g3:Hid (Ag wr wc.heap.size (L_ wc.heap.size n n) (Av (Mr L E k))):=(by have:=HO.out;rw[show r=n by omega,d5] at this;exact this);have hB:=HB.out;have aW:(Mr L E k).length=n:=(by rw[Lt];exact bM);obtain⟨S,hN⟩:=ex_ (Zm (E k) (Mr L E k));have iS:Hid (S=Zm (E k) (Mr L E k)):=hN;have iC:(Tz (Mr L E k) ((E k).bs.length+(E k).ww.length+2)).1=S:=(by have bN:=bO.many;simp only[KS.many] at bN;rw[hN,bN];unfold Zm;rw[Zkl _ o_];simp);have iX:=Nk ab aw (E k).bs.length (E k).ww.length F cw (E k).wd 0 wr bO.1 bO.2.1
    have i1:∀W,E_ wr W->C_ 240 #[.slice (some ⟨wc.heap.size,0,none⟩) n n,.int .i64 ((E k).bs.length+(E k).ww.length+2:Nat)] W λe w'=>e=.returned (.int .i64 S)/\w'=W:=λW hW=>by have:=ZbJ (some ⟨wc.heap.size,0,none⟩) n n ((E k).bs.length+(E k).ww.length+2) (Mr L E k) W ((g3.below hW).mono qg_) aW hn (by have:=bO.many;simp only[KS.many] at this;omega);rw[iC] at this;exact this
    have j1:Hid _:=i1;have gK:Hid (aq wr fb (E k).wd (.slice ab (E k).bs.length F) (.slice aw (E k).ww.length cw) 0):=(hB.block _ jQ).trans aH.1;have f9:Hid ((Mr L E k).length=n):=aW;have fT:Hid (∀W,E_ wr W->E_ Y W):=λW hW=>(aH.2.2.2.trans (hB.mono aH.2.2.2.size)).trans (hW.mono (Nat.le_trans aH.2.2.2.size hB.size));have hI:Hid (∀W,E_ wr W->Ag W Y.heap.size (.slice ab (E k).bs.length F) (E k).bs/\Cc W Y.heap.size (.slice aw (E k).ww.length cw) (E k).ww):=λW hW=>⟨(aH.2.1.below hB).below hW,(aH.2.2.1.below hB).below hW⟩;have t0:=Ac hB s0;have t1:=Ac hB s1;have t2:=Ac hB s2;have t3:=Ac hB s3;obtain⟨wl,kD⟩:=ex_ wr;subst kD;clear i1 hN iC HO fI;go_wp2_with fail
    refine iX.mono ?_;rintro e w2 ⟨rfl,H⟩;go_wp2_with fail
    refine(j1 _ H).mono ?_;rintro e lA ⟨rfl,j7⟩;obtain rfl:=j7.symm;have bF:aq w2 fb (E k).wd (.slice ab (E k).bs.length F) (.slice aw (E k).ww.length cw) 0:=(H.block _ gK.cells.2.2).trans gK;have q3:=bF.cells.1.2.2.2;have p3:=bF.cells.2.1 3;obtain⟨w6,cD⟩:=ex_ (w2.setCell (A_ fb 3) (I_ S));have gL:aq w6 fb (E k).wd (.slice ab (E k).bs.length F) (.slice aw (E k).ww.length cw) S:=by rw[cD];exact hs_ _ fb 3 _ 227 _ bF
    have gT:Hid (Ag w6 wc.heap.size (L_ wc.heap.size n n) (Av (Mr L E k))):=(by show Ag _ _ _ _;rw[cD];exact As (g3.below H) bF d_);have hJ:Hid (E_ Y w6):=(by show Below _ _ _;rw[cD];exact(fT _ H).setCell iV _);have bU:Hid (Ag w6 Y.heap.size (.slice ab (E k).bs.length F) (E k).bs/\Cc w6 Y.heap.size (.slice aw (E k).ww.length cw) (E k).ww):=by rw[cD];exact⟨As (hI _ H).1 bF d_,As (hI _ H).2 bF d_⟩
    have hA:Hid (aq w6 fb (E k).wd (.slice ab (E k).bs.length F) (.slice aw (E k).ww.length cw) S):=gL;obtain⟨⟨u0,u1,u2,u3⟩,_,_⟩:=gL.cells;have iA:Hid (w6=w2.setCell (A_ fb 3) (I_ S)):=cD;clear j7 iX H bF gL cD t0 t1 t2 t3 j1 gK g3 HB hB fT hI;go_upto_region 16 with fail;rw[<- iA];clear iA;go_loopw [10,11] (λdF t11 wz=>∃(r d:Nat),t11=.int .i64 r/\r<=n/\dF=.int .i64 (Dj ((Dc (Mr L E k) S).take r):Nat)/\wz=w6.drewN d) (λ_ t11 _=>n-(intOf t11).toNat)
    case atStart=>exact⟨0,0,rfl,qg_,rfl,rfl⟩
    case round=>
     obtain⟨r2,d2,rfl,l3,rfl,kP⟩:=hrel;subst kP
     by_cases hin2:r2<n
     ·obtain⟨q9,e9,_,_,c9,_⟩:=gT.atK (by rw[Aw];exact f9) hin2;injection e9 with e9;injection e9 with e9;subst e9;rw[Cv] at c9;have gB:r2<(Dc (Mr L E k) S).length:=(by simp[Dc];rw[f9];exact hin2);have hD:=My ((Dc (Mr L E k) S).take r2) ((Dc (Mr L E k) S).getD r2 false);rw[<- Oe _ gB,show(Dc (Mr L E k) S).getD r2 false=decide ((Mr L E k).getD r2 0≠S) by simp[Dc,List.getD,show r2<(Mr L E k).length by rw[f9];exact hin2]] at hD;have l0:Dj ((Dc (Mr L E k) S).take r2)<=r2:=(by have:=Rj ((Dc (Mr L E k) S).take r2);rw[List.length_take] at this;omega);have j8:Hid _:=hD;clear hD;generalize (Mr L E k).getD r2 0=x at *;generalize Dj ((Dc (Mr L E k) S).take r2)=cr at *;have b3:0<=(r2:Int):=o_
      have b4:r2<(n:Int):=o_
      by_cases hx:x=S
      ·have HD:Hid (Dj ((Dc (Mr L E k) S).take (r2+1))=cr):=(by show _=_;rw[j8];simp[hx]);have e1:(x==(S:Int))=true:=beq_iff_eq.2 o_;have e2:(x !=(S:Int))=false:=(by simp[bne,e1]);clear hx;go_upto_region 18 with fail;go_quiet (fail);go_wp2;go_roundw;case rel=>exact⟨r2+1,_,g_,o_,by rw[HD],by first|rfl|simp⟩
       case measure=>exact z_
      have HD:Hid (Dj ((Dc (Mr L E k) S).take (r2+1))=cr+1):=(by show _=_;rw[j8];simp[hx]);have e1:(x==(S:Int))=false:=beq_eq_false_iff_ne.2 o_;have e2:(x !=(S:Int))=true:=(by simp[bne,e1]);go_upto_region 18 with fail;go_quiet (fail);go_wp2;go_roundw;case rel=>exact⟨r2+1,_,g_,o_,by rw[HD];go_num,by first|rfl|simp⟩
      case measure=>exact z_
     have b3:¬r2<(n:Int):=o_;have hz:Dj ((Dc (Mr L E k) S).take r2)=De (Gh (Ou m E) (Ih m L E) (m+1)) k:=(by rw[List.take_of_length_le (by simp[Dc];rw[f9];omega)];unfold De;rw[Lg _ _ Z];unfold oF;rw[bv Z,Uh Z,<- iS]);rw[hz];have l6:De (Gh (Ou m E) (Ih m L E) (m+1)) k<=200:=by rw[<- hz];have:=Rj ((Dc (Mr L E k) S).take r2);rw[List.length_take] at this;omega
     clear hz;generalize hzz:De (Gh (Ou m E) (Ih m L E) (m+1)) k=z at *;have kR:Hid (De (Gh (Ou m E) (Ih m L E) (m+1)) k=z):=hzz;clear hzz;obtain⟨w7,gQ⟩:=ex_ (w6.drewN d2);rw[<- gQ];have aE:E_ w6 w7:=(by rw[gQ];exact below_drewN bz_ _);have bT:E_ Y w7:=hJ.trans (aE.mono hJ.size);have bX:=HI.my.below bT;have gH:Hid (rg w7 w.heap.size (w.heap.size+1+1) (w.heap.size+1) n vF Cz Cz Cz vb vo U X (Eb (Ou m E) (Ih m L E) k) ((Ih m L E).take k) ((List.range k).map (De (Gh (Ou m E) (Ih m L E) (m+1))))):=bX;have x0:=cR_ 0 bX.blk;obtain⟨aF,cF,jA⟩:=bX.fe.row.shape;rw[bX.fe.zlen,Dh] at jA;subst jA;have x1:=cR_ 1 bX.ds;have v0:=Ac aE u0;have v1:=Ac aE u1;have v2:=Ac aE u2;have v3:=Ac aE u3
     have iB:Hid (∀x,(Value.slice aF k cF).ownBlock=some x->x<Y.heap.size):=λx hx=>(rl_ HI.my.fe.row.row x hx).2;have gS:Hid (aq w7 fb (E k).wd (.slice ab (E k).bs.length F) (.slice aw (E k).ww.length cw) S):=(aE.block _ hA.cells.2.2).trans hA;have b8:Hid (CfB w7 w.heap.size fk (m+1) fc s A l):=(bT.block _ cW).trans HI.cf;have dQ:Hid (Ag w7 w.heap.size (.slice ab (E k).bs.length F) (E k).bs/\Cc w7 w.heap.size (.slice aw (E k).ww.length cw) (E k).ww):=⟨(bU.1.below aE).mono cV,(bU.2.below aE).monoW cV⟩;have gG:Hid (Ag w7 w.heap.size (L_ wc.heap.size n n) (Av (Mr L E k))):=(gT.below aE).mono (by have:=k9.size;exact this)
     have dW:∀u v:Value,(∀x,u.ownBlock=some x->x<Y.heap.size)->(∀x,v.ownBlock=some x->Y.heap.size<=x)->Ch u v:=λu v hu hv=>by
      cases hk2:u.ownBlock with
      |none=>exact .inl hk2
      | some x=>
       cases hk3:v.ownBlock with
       |none=>exact .inr (.inl hk3)
       |some x'=>exact .inr (.inr (by rw[hk2,hk3];have:=hu x hk2;have:=hv x' hk3;simp;omega))
     have gF:Hid (Ch vo (.slice ab (E k).bs.length F)/\Ch vo (L_ wc.heap.size n n)/\∀i,i<((Ih m L E).take k).length->Ch (X.getD i Cz) (L_ wc.heap.size n n)):=by
      have hq:∀x,(L_ wc.heap.size n n).ownBlock=some x->Y.heap.size<=x:=λx hx=>by simp[Value.ownBlock] at hx;rw[<- hx];exact aH.2.2.2.size
      have ho:=λx hx=>(rl_ HI.my.ou x hx).2;exact⟨dW _ _ ho (λx hx=>(rl_ bU.1 x hx).1),dW _ _ ho hq,λi O=>dW _ _ (λx hx=>(rl_ (HI.my.bb.each i (by rw[List.length_map];exact O)) x hx).2) hq⟩
     have gM:Hid (E_ w w7):=aY.trans (bT.mono cV);have k6:Hid (kF (Ou m E) (Ih m L E) k=⟨E k,S⟩):=(by show _=_;unfold kF;rw[bv Z,Uh Z,iS]);obtain⟨i0,j2,kU,kN,k0⟩:=info_parts ZjQ;clear bX aE bT gQ dW gT hJ bU hA u0 u1 u2 u3 HI aH bO bZ aD kM s0 s1 s2 s3 h4;generalize hwe:(E k).wd=ewd at *;have jS:Hid ((E k).wd=ewd):=hwe;generalize gV:(E k).bs.length=enb at *;generalize hlw:(E k).ww.length=enw at *;clear gV hlw hwe;obtain⟨W1,a0⟩:=ex_ ((w7.alloc (.cells #[.bool ewd,.slice ab enb F,.slice aw enw cw,I_ S] 227)).drew);have aC:E_ w7 W1:=(by rw[a0];exact bA_.drew);have gD:=gH.below aC
     have jK:W1.ownsRow w.heap.size 227 4 (.slice aF k cF) k ((List.zipWith Cf (Eb (Ou m E) (Ih m L E) k) U).flatten):=(by have:=gD.fe.row.row;rw[gD.fe.zlen,Dh] at this;exact this);have cR:Hid (W1.ownsRow w.heap.size 227 4 (.slice aF k cF) k ((List.zipWith Cf (Eb (Ou m E) (Ih m L E) k) U).flatten)):=jK;have bB:∀j u,[Value.bool ewd,.slice ab enb F,.slice aw enw cw,I_ S][j]? =some u->W1.cell? (((A_ w7.heap.size 0):Addr).add j)=some u:=by rw[a0];exact Am w7 #[.bool ewd,.slice ab enb F,.slice aw enw cw,I_ (S:Nat)] 227
     have aS:Hid _:=bB;have cA:w.heap.size<=W1.heap.size:=Nat.le_trans gM.size aC.size;have T:Hid (W1=(w7.alloc (.cells #[.bool ewd,.slice ab enb F,.slice aw enw cw,I_ S] 227)).drew/\E_ w7 W1):=⟨a0,aC⟩;clear bB jK gD a0 aC;go_upto_region 20 with fail;refine Al (λw'=>w'.cell? (A_ (w.heap.size+1+1) 0)=some (P_ (w.heap.size+1))/\w'.cell? (A_ (w.heap.size+1) 1)=some (.slice aF k cF)/\w'.cell? (A_ fb 0)=some (.bool ewd)/\w'.cell? (A_ fb 1)=some (.slice ab enb F)/\w'.cell? (A_ fb 2)=some (.slice aw enw cw)/\w'.cell? (A_ fb 3)=some (I_ (S:Nat))) 16 k_ ⟨x0,x1,v0,v1,v2,v3⟩ (λhHeld=>?_);refine Zf 0 ?_;refine Zf 1 ?_;refine Zf 2 ?_;refine Zf 3 ?_;refine Zf 4 ?_;refine Zf 5 ?_;refine Zf 6 ?_;refine Zf 7 ?_;refine Zf 8 ?_;refine Zf 9 ?_;refine Zf 10 ?_
     refine Zf 11 ?_;refine Af (i:=12) k_ rfl (λKK hK=>?_);go_simp;refine hK _ _ ⟨Ac bA_ x0,Ac bA_ x1,Ac bA_ v0,Ac bA_ v1,Ac bA_ v2,Ac bA_ v3⟩ (λhHeld=>?_);clear hK KK;try simp only[Act.put,tA,tB,tC]
     refine Af (i:=13) k_ rfl (λKK hK=>?_);rw[<- T.1];refine Az rfl (.tmp 97) (.tmp 99) 139 rfl w.heap.size 227 i0 (.agg #[.bool false,.slice none 0 0,.slice none 0 0,I_ 0]) 4 64 Tryz.underlying139 j2 kU kN k0 rfl d_ (.slice aF k cF) k ((List.zipWith Cf (Eb (Ou m E) (Ih m L E) k) U).flatten) j_ cR (A_ w7.heap.size 0) 1 1 [.bool ewd,.slice ab enb F,.slice aw enw cw,I_ (S:Nat)] j_ rfl aS ?_ d_ m_ o_ cA ?_
     ·intro u hu;simp at hu;rcases hu with rfl|rfl|rfl|rfl<;>rfl
     intro v9 w9 H9;obtain⟨r9,g9,d9,_,q9,p9,kL⟩:=H9;have i4:=gH.below T.2
     obtain⟨hH,bQ,fQ⟩:=i4.feat (k:=⟨E k,S⟩) (u:=(.slice ab enb F,.slice aw enw cw)) (vF':=v9) (dQ.1.below T.2) (dQ.2.below T.2) gF.1 g9 (by
      have e:Cf ⟨E k,S⟩ (.slice ab enb F,.slice aw enw cw)=[.bool ewd,.slice ab enb F,.slice aw enw cw,I_ S]:=(by unfold Cf;rw[jS]);rw[Dh,e]
      exact r9)
     rw[<- k6,<- Za8] at hH;have t9:Aa (λx=>(Value.slice aF k cF).ownBlock=some x) W1 w9:=(Aa.refl _ _).grown g9 (λx hx _=>hx);have fV:E_ w w9:=gM.trans ((T.2.mono gM.size).trans (t9.to_below cA (λx hx=>(rl_ cR x hx).1)));have cM:Hid (rg (w9.setCell (A_ (w.heap.size+1) 1) v9) w.heap.size (w.heap.size+1+1) (w.heap.size+1) n v9 Cz Cz Cz vb vo (U++[(.slice ab enb F,.slice aw enw cw)]) X (Eb (Ou m E) (Ih m L E) (k+1)) ((Ih m L E).take k) ((List.range k).map (De (Gh (Ou m E) (Ih m L E) (m+1))))):=hH;have iW:aq w9 fb ewd (.slice ab enb F) (.slice aw enw cw) S:=t9.at_ ((T.2.block _ gS.cells.2.2).trans gS) (λe=>by have:=iB _ e;omega)
     have fY:Hid (CfB w9 w.heap.size fk (m+1) fc s A l):=t9.at_ ((T.2.block _ (Qb b8).1).trans b8) (λe=>Au cR e ((T.2.block _ (Qb b8).1).trans b8) d_ rfl)
     have h8:Hid (Ag w9 w.heap.size (L_ wc.heap.size n n) (Av (Mr L E k))):=t9.row (gG.below T.2) (λx hx e=>by
      obtain⟨c5,kE⟩:=Ad cR e
      exact Au (gG.below T.2) hx kE d_ rfl)
     have e0:=cR_ 0 fQ;have e1:=cR_ 1 bQ;have e2:=fq_ 1 _ 142 bQ;obtain⟨⟨e3,e4,e5,e6⟩,_,_⟩:=iW.cells;have iP:Hid (E_ w w9):=fV;have jC:Hid (Ty w9 (w.heap.size+1) n (.slice aF k cF) Cz Cz Cz):=bQ;subst kL;clear r9 g9 d9 i4 hH bQ fQ t9 fV iW x0 x1 v0 v1 v2 v3 gH T cR aS gS iB b8 gG dQ;refine hK _ _ ⟨e0,e1,e3,e4,e5,e6⟩ (λhHeld=>?_);clear hK KK;try simp only[Act.put,tA,tB,tC]
     refine Zf 14 ?_;refine Zf 15 ?_;refine Ai (i:=16) k_ rfl k_ (λKK hK=>?_);go_simp;refine hK _ _ ?_;clear hK KK;try simp only[Act.put,tA,tB,tC]
     refine Ak k_ ?_ _;clear e0 e1 e2 e3 e4 e5 e6 hHeld;obtain⟨bA,bS⟩:=ex_ (w9.setCell (A_ (w.heap.size+1) 1) (L_ q9 (k+1) p9));rw[<- bS] at cM ⊢;have dG:Hid (E_ w bA):=(by show Below _ _ _;rw[bS];exact iP.setCell (Nat.le_succ _) _);have dF:Aa (λx=>x=w.heap.size+1) w9 bA:=(by rw[bS];exact(Aa.refl (λx=>x=w.heap.size+1) w9).setCell (p:=(A_ (w.heap.size+1) 1)) (λ_=>rfl) _);have fX:Hid (Ag bA w.heap.size (L_ wc.heap.size n n) (Av (Mr L E k))):=dF.row h8 (λx hx e=>Au h8 hx jC d_ e);have cN:Hid (CfB bA w.heap.size fk (m+1) fc s A l):=dF.at_ fY o_;have gV:=cM.bb.shape;obtain⟨a8,c8,cY⟩:=gV;rw[List.length_map,List.length_take,show(Ih m L E).length=m+1 by simp[Ih],Nat.min_eq_left o_] at cY
     subst cY;have x0:=cR_ 1 cM.blk;have iE:=dG.size;have cZ:Hid (∀o,rg (bA.alloc o) w.heap.size (w.heap.size+1+1) (w.heap.size+1) n (L_ q9 (k+1) p9) Cz Cz Cz (.slice a8 k c8) vo (U++[(.slice ab enb F,.slice aw enw cw)]) X (Eb (Ou m E) (Ih m L E) (k+1)) ((Ih m L E).take k) ((List.range k).map (De (Gh (Ou m E) (Ih m L E) (m+1))))):=λo=>cM.below bA_
     have aK:Hid (∀o,(bA.alloc o).ownsRow w.heap.size 25 1 (.slice a8 k c8) k X):=λo=>by have:=(cZ o).bb.row;rw[List.length_map,List.length_take,show(Ih m L E).length=m+1 by simp[Ih],Nat.min_eq_left o_] at this;exact this
     obtain⟨j0,aT,dC,cU,cP⟩:=info_parts cm;clear bS dF cM iP h8 fY jC;go_wp2_with (at_builtin;refine Ab rfl (.tmp 107) (.tmp 109) 84 rfl w.heap.size 25 j0 Cz 1 24 Tryz.underlying84 aT dC cU cP rfl d_ (.slice a8 k c8) k X rfl (aK _) (A_ bA.heap.size 0) 1 1 [L_ wc.heap.size n n] rfl rfl ?_ ?_ ?_ ?_ ?_ ?_ ?_)
     rfl;unfold maxLen;omega;omega;omega;intro hV bK jW;obtain⟨jP,cL,k8,_,h6,h7,i8⟩:=jW;have gU:((Ih m L E).take k).length=k:=(by rw[List.length_take,show(Ih m L E).length=m+1 by simp[Ih],Nat.min_eq_left o_]);obtain⟨fM,aL⟩:=(cZ _).bins (vb':=hV) (B:=Mr L E k) (fX.alloc _) gF.2.2 gF.2.1 cL (by rw[gU];exact jP);have fZ:E_ w bK:=dG.trans ((bz_.alloc iE _).grown cL t_ (λx hx=>(rl_ (aK (.cells #[] 25)) x hx).1))
     have cJ:Hid (CfB bK w.heap.size fk (m+1) fc s A l):=by have hc:=cN.out;have cT:CfB (bA.alloc (.cells #[L_ wc.heap.size n n] 25)) w.heap.size fk (m+1) fc s A l:=(hc_ (Qb hc).1).trans hc;exact((Aa.refl (λx=>(Value.slice a8 k c8).ownBlock=some x) _).grown cL (λx hx _=>hx)).at_ cT (λe=>Au (aK _) e cT d_ rfl)
     have b9:Hid (rg (bK.setCell (A_ (w.heap.size+1+1) 1) hV) w.heap.size (w.heap.size+1+1) (w.heap.size+1) n (L_ q9 (k+1) p9) Cz Cz Cz hV vo (U++[(.slice ab enb F,.slice aw enw cw)]) (X++[L_ wc.heap.size n n]) (Eb (Ou m E) (Ih m L E) (k+1)) ((Ih m L E).take (k+1)) ((List.range k).map (De (Gh (Ou m E) (Ih m L E) (m+1))))):=by have e:(Ih m L E).take (k+1)=(Ih m L E).take k++[Mr L E k]:=(by rw[Qi (by simp[Ih];omega)];congr 2;simp[Ih]);rw[e];exact fM
     have jT:=cR_ 1 aL;have jV:=fq_ 1 _ 331 aL;have fU:Hid (E_ w bK):=fZ;have kJ:Hid (MaB bK (w.heap.size+1+1) (w.heap.size+1) (.slice a8 k c8) vo):=aL;subst i8;clear jP cL k8 fM aL fZ cZ aK fX cN dG x0;go_upto_region 22 with fail;obtain⟨cC,bV⟩:=ex_ (bK.setCell (A_ (w.heap.size+1+1) 1) (L_ h6 (k+1) h7));rw[<- bV] at b9 ⊢;have dJ:Hid (E_ w cC):=by show Below _ _ _;rw[bV];exact fU.setCell (by show _<=w.heap.size+1+1;omega) _
     have bH:Hid (CfB cC w.heap.size fk (m+1) fc s A l):=by show CfB _ _ _ _ _ _ _ _;rw[bV];exact((Aa.refl (λx=>x=w.heap.size+1+1) bK).setCell (p:=(A_ (w.heap.size+1+1) 1)) (λ_=>rfl) _).at_ cJ o_
     obtain⟨a6,c6,j9⟩:=b9.ou.shape;rw[Aw,List.length_map,List.length_range] at j9;subst j9;have x2:=cR_ 2 b9.blk;have jN:=dJ.size;have gB:(Av ((List.range k).map (De (Gh (Ou m E) (Ih m L E) (m+1))))).length<=1000000000:=(by rw[Aw,List.length_map,List.length_range];omega);have dS:Hid (∀o,rg (cC.alloc o) w.heap.size (w.heap.size+1+1) (w.heap.size+1) n (L_ q9 (k+1) p9) Cz Cz Cz (L_ h6 (k+1) h7) (.slice a6 k c6) (U++[(.slice ab enb F,.slice aw enw cw)]) (X++[L_ wc.heap.size n n]) (Eb (Ou m E) (Ih m L E) (k+1)) ((Ih m L E).take (k+1)) ((List.range k).map (De (Gh (Ou m E) (Ih m L E) (m+1))))):=λo=>b9.below bA_
     have bR:Hid (∀o,Ag (cC.alloc o) w.heap.size (.slice a6 k c6) (Av ((List.range k).map (De (Gh (Ou m E) (Ih m L E) (m+1)))))):=λo=>(dS o).ou;clear bV b9 fU cJ kJ jT jV;go_wp2_with (at_builtin;refine Bu rfl (.tmp 117) (.tmp 119) rfl w.heap.size _ (Av ((List.range k).map (De (Gh (Ou m E) (Ih m L E) (m+1))))) (z:Nat) rfl (bR _) cC.heap.size 1 rfl ?_ ?_ ?_ ?_)
     ·simp[go_sem]
     exact gB;simp;omega;intro dZ dY kQ;obtain⟨jL,dX,iF⟩:=kQ
     obtain⟨fF,bG⟩:=(dS _).outm (vo':=dZ) (z:=z) dX jL (by
      rcases iF with e|e
      exact .inl e
      exact .inr (by simpa using e.1))
     have fO:Hid (MaI w (dY.setCell (A_ (w.heap.size+1+1) 2) dZ) fk fc n m s A l (k+1) L E (L_ q9 (k+1) p9) (L_ h6 (k+1) h7) dZ (U++[(.slice ab enb F,.slice aw enw cw)]) (X++[L_ wc.heap.size n n])):=by
      have iR:E_ w dY:=dJ.trans ((bz_.alloc jN _).grown dX t_ (λx hx=>(rl_ (bR (.cells #[] 3)) x hx).1));have cT:CfB (cC.alloc (.cells #[I_ z] 3)) w.heap.size fk (m+1) fc s A l:=(hc_ (Qb bH).1).trans bH;have k1:CfB dY w.heap.size fk (m+1) fc s A l:=((Aa.refl (λx=>(Value.slice a6 k c6).ownBlock=some x) _).grown dX (λx hx _=>hx)).at_ cT (λe=>Au (bR _) e cT d_ rfl);refine⟨?_,((Aa.refl (λx=>x=w.heap.size+1+1) dY).setCell (p:=(A_ (w.heap.size+1+1) 2)) (λ_=>rfl) _).at_ k1 o_,iR.setCell (by show _<=w.heap.size+1+1;omega) _⟩;rw[List.range_succ,List.map_append];simp only[List.map_cons,List.map_nil,kR.out];exact fF
     have l5:=cR_ 2 bG;have l1:=fq_ 2 _ 331 bG;clear jL dX iF fF bG dS bR bH dJ x2;obtain⟨lB,kX,jG⟩:∃a c,dZ=.slice a (k+1) c:=by obtain⟨a,c,e⟩:=fO.my.ou.shape;rw[Aw,List.length_map,List.length_range] at e;exact⟨a,c,e⟩
     subst jG;go_wp2;go_roundw;case rel=>exact⟨k+1,_,_,_,_,_,g_,o_,fO⟩
     case measure=>exact z_
  have g1:¬k<(M:Int):=o_;have Z:k=m+1:=(by have:=aM.out;omega);obtain⟨I,cH⟩:=ey_ (Eb (Ou m E) (Ih m L E) (m+1));obtain⟨Os,dU⟩:=ey_ (Gh (Ou m E) (Ih m L E) (m+1));obtain⟨J,dP⟩:=ey_ (Ih m L E)
  have cS:∀i,i<m+1->I.getD i Ay=⟨E i,Zm (E i) (Mr L E i)⟩:=λi O=>by rw[<- cH,Fi _ _ O];unfold kF;rw[bv O,Uh O]
  have dL:∀i,i<m+1->J.getD i []=Mr L E i:=λi O=>by rw[<- dP];exact Uh O
  have cE:I.length=m+1:=(by rw[<- cH];exact Dh _ _ _);have aW:J.length=m+1:=by rw[<- dP];simp[Ih]
  have gC:∀i,i<m+1->Os.getD i []=Dc (Mr L E i) (Zm (E i) (Mr L E i)):=λi O=>by rw[<- dU,Lg _ _ O];unfold oF;rw[bv O,Uh O]
  have g2:∀i,i<m+1->od (I.getD i Ay):=λi O=>by rw[cS i O];obtain⟨aD,aI,_⟩:=HE.2.1 i O;refine⟨aD.lb,aD.lw,λe=>?_,λe=>?_⟩;have e2:wd i=true:=aI ▸ e;show(E i).bs=[];rw[HE.1];unfold Ck;rw[e2,if_pos rfl];rfl;have e2:wd i=false:=aI ▸ e;show(E i).ww=[];rw[HE.1];unfold Ck;rw[e2,if_neg d_]
  have bN:∀i,i<m+1->(I.getD i Ay).many<=18:=λi O=>by rw[cS i O];have:=(HE.2.1 i O).2.2;show(E i).cnt+2<=18;omega
  have aR:∀i,i<m+1->∀r,(J.getD i []).getD r 0<(I.getD i Ay).many:=λi O r=>by
   rw[cS i O,dL i O]
   by_cases hr:r<L.length
   rw[Zhc hr];exact wi _ _;rw[Qc,List.getElem?_eq_none (by rw[Lt];omega)];show 0<(E i).cnt+2;omega
  have fD:∀i,i<m+1->(Os.getD i []).length=n:=λi O=>by rw[gC i O];simp[Dc,Lt,bM.out]
  have hO:∀r,r<n->∀g,g<I.length->(Os.getD g []).getD r false=sO I J g r:=λr hr g hg=>by rw[cE] at hg;unfold sO;rw[gC g hg,dL g hg,cS g hg];simp[Dc,List.getD,show r<(Mr L E g).length by rw[Lt,bM];exact hr]
  have hX:MkX wr w.heap.size (w.heap.size+1+1) (w.heap.size+1) n vF Cz Cz Cz vb vo U X I J ((List.range (m+1)).map (De Os)):=(by have:=HI.my;rw[Z,cH,dU,dP,List.take_of_length_le (by rw[aW];exact qa_)] at this;exact this.whole (by rw[aW,cE]) (λi O=>by rw[aW] at O;rw[dL i O,Lt];exact bM) (λi O=>by rw[cE] at O;exact g2 i O));have d7:=Ziw w.heap.size (w.heap.size+1+1) (w.heap.size+1) n m l vF Cz Cz vb vo U X I J Os wr hX cE hn hm kG (λi O=>by have:=bN i O;omega) fD hO;have R:=iv (budget:=l) fD (Ks:=I) (λi O=>by have:=bN i O;omega);have gE:Hid (Ao m n l (Ou m E) (Ih m L E)=Ew Os J n I (Ha m I Os n l)):=by show _=_;unfold Ao;rw[cH,dU,dP]
  obtain⟨C,hP⟩:=ey_ (Ha m I Os n l);have dA:Hid ((Fh C).Perm (List.range (m+1))/\(Fh C).Nodup):=(by rw[<- hP];exact⟨Nd m I Os n l,Tq m I Os n l⟩);rw[hP] at d7 R gE;have HP:Hid ((∀i,i<m+1->(I.getD i Ay).many<=18)/\(∀i,i<m+1->∀r,(J.getD i []).getD r 0<(I.getD i Ay).many)/\(∀i,i<m+1->(Os.getD i []).length=n)/\(∀r,r<n->∀g,g<I.length->(Os.getD g []).getD r false=sO I J g r)/\I.length=m+1/\J.length=m+1/\(∀i,i<m+1->(J.getD i []).length=n)):=⟨bN,aR,fD,hO,cE,aW,λi O=>by rw[dL i O,Lt];exact bM⟩;have HX:Hid (MkX wr w.heap.size (w.heap.size+1+1) (w.heap.size+1) n vF Cz Cz Cz vb vo U X I J ((List.range (m+1)).map (De Os))):=hX
  have bI:Hid ((∀G∈C,nh m n (m+1) I G)/\C.length<=m+1):=R;have bY:Hid (CfB wr w.heap.size fk (m+1) fc s A l/\E_ w wr):=⟨HI.cf,aY⟩;obtain⟨Y,gW⟩:=ex_ wr;subst gW;clear cH dU dP cS dL gC g2 bN aR fD hO hX R hP HI cE aW;go_wp2_with fail
  refine d7.mono ?_;rintro e w1 ⟨rfl,vB,gO,aZ,dH,fA⟩;obtain⟨aB,cB,j6⟩:=dH.shape;rw[show((Dp C).map Av).length=C.length by simp[Dp]] at j6;subst j6;have f7:Hid (MkX w1 w.heap.size (w.heap.size+1+1) (w.heap.size+1) n vF (.slice aB C.length cB) Cz Cz vb vo U X I J ((List.range (m+1)).map (De Os))):=HX.dbw fA aZ;have H1:Hid (Ty w1 (w.heap.size+1) n vF (.slice aB C.length cB) Cz Cz/\Mg w1 Y.heap.size (.slice aB C.length cB) gO ((Dp C).map Av)/\Aa (λq=>q=w.heap.size+1) Y w1):=⟨aZ,dH,fA⟩;have i9:Hid (CoI w1 w1 (w.heap.size+1) n vF (.slice aB C.length cB) Cz Cz [] (((Dp C).map (λfs=>He I J fs n)).take 0)):=⟨Aa.refl _ _,aZ,Mg.nil _ _,aZ.lt⟩;have lC:C.length<=4:=(by have:=bI.2;omega);have hZ:Y.heap.size<=w1.heap.size:=fA.size
  clear aZ dH fA d7 HX;go_wp2_with fail
  go_loopw [12] (λt12 wr=>∃(b:Nat) (vC:Value) (aG:List Value),t12=.int .i64 b/\b<=C.length/\Hid (CoI w1 wr (w.heap.size+1) n vF (.slice aB C.length cB) vC Cz aG (((Dp C).map (λfs=>He I J fs n)).take b))) (λt12 _=>C.length-(intOf t12).toNat)
  case atStart=>exact⟨0,Cz,[],rfl,qg_,i9⟩
  case round=>
   clear i9;obtain⟨b,vC,aG,rfl,hb,HC⟩:=hrel;have V:=f7.dbw HC.tch HC.ds;have x0:=cR_ 0 V.blk;have x2:=cR_ 2 V.ds;have b7:=H1.2.1.dbw H1.1 HC.tch
   by_cases bC:b<C.length
   ·have jF:b<((Dp C).map Av).length:=(by simp[Dp];exact bC);obtain⟨qB,l2,a5,kk,e,cb,_,ev,_,_⟩:=b7.at jF;have fC:((Dp C).map Av).getD b []=Av (C.getD b Fq).fs:=(by simp[Dp,List.getD,bC]);have hE:=b7.each b jF;rw[ev] at hE;rw[fC,Aw] at cb hE;rw[show((Dp C).map Av).length=C.length by simp[Dp]] at e;injection e with e1 _ e3;subst e1 e3;have bW:C.getD b Fq∈C:=(by simp[List.getD,bC]);have R:=bI.1 _ bW;have dV:∀f∈(C.getD b Fq).fs,f<m+1:=R.fs;have fK:=ZbF (w.heap.size+1+1) (w.heap.size+1) n kk a5 (C.getD b Fq).fs I J wr V.view (hE.nums rfl) (λf hf=>by rw[HP.2.2.2.2.1];exact dV f hf) hn (by have:=R.len;omega) (λf hf r=>by have h1:=HP.1 f (dV f hf);have h2:=HP.2.1 f (dV f hf) r;exact⟨o_,o_⟩)
    have k2:Hid (((Dp C).map (λfs=>He I J fs n)).take (b+1)=((Dp C).map (λfs=>He I J fs n)).take b++[He I J (C.getD b Fq).fs n]):=(by show _=_;rw[Qi (by simp[Dp];exact bC)];congr 2;simp[Dp,List.getD,bC]);have cW:(((Dp C).map (λfs=>He I J fs n)).take b).length=b:=(by rw[List.length_take];simp[Dp];omega);have jY:(He I J (C.getD b Fq).fs n).length=n:=(by simp[He]);generalize He I J (C.getD b Fq).fs n=N at *;generalize (C.getD b Fq).fs.length=fl at *;generalize ((Dp C).map (λfs=>He I J fs n)).take b=Cs at *;have g5:b<(C.length:Int):=o_;have g6:0<=(b:Int):=o_;clear V b7 hE fC ev R dV bW;go_wp2_with fail
    refine fK.mono ?_;rintro e w2 ⟨v,rfl,aJ,H⟩;obtain⟨av,cv,rfl⟩:=aJ.shape;rw[Aw,jY] at aJ ⊢;obtain⟨a7,c7,iQ⟩:=HC.co.shape;rw[List.length_map,cW] at iQ;subst iQ;have dM:=HC.below H;have fR:=f7.dbw dM.tch dM.ds;have z0:=cR_ 0 fR.blk;have z3:=cR_ 3 dM.ds;obtain⟨W1,a0⟩:=ex_ ((w2.alloc (.cells #[.slice av n cv] 25)).drew);have aC:E_ w2 W1:=(by rw[a0];exact bA_.drew);have jE:w1.heap.size<=wr.heap.size:=HC.tch.size;have kY:=H.size
    have bL:Hid (CoI w1 W1 (w.heap.size+1) n vF (L_ qB C.length cB) (.slice a7 b c7) Cz aG Cs/\Ag W1 w1.heap.size (.slice av n cv) (Av N)/\(∀i,i<Cs.length->Ch (aG.getD i Cz) (.slice av n cv))):=by
     refine⟨dM.below aC,(aJ.mono jE).below aC,λi O=>?_⟩
     cases hk2:(aG.getD i Cz).ownBlock with
     |none=>exact .inl hk2
     | some x=>
      cases hk3:(Value.slice av n cv).ownBlock with
      |none=>exact .inr (.inl hk3)
      | some x'=>
       refine .inr (.inr ?_);rw[hk2,hk3];have h1:=(rl_ (HC.co.each i (by rw[List.length_map];exact O)) x hk2).2;have h2:=(rl_ aJ x' hk3).1;simp;omega
    have bE:Hid (W1.ownsRow w1.heap.size 25 1 (.slice a7 b c7) b aG):=(by have:=bL.1.co.row;rw[List.length_map,cW] at this;exact this);have bB:∀j u,[Value.slice av n cv][j]? =some u->W1.cell? (((A_ w2.heap.size 0):Addr).add j)=some u:=by rw[a0];exact Am w2 #[.slice av n cv] 25
    have aS:Hid _:=bB;have cA:w1.heap.size<=W1.heap.size:=(by have:=aC.size;omega);have T:Hid (W1=(w2.alloc (.cells #[.slice av n cv] 25)).drew):=a0;obtain⟨j0,aT,dC,cU,cP⟩:=info_parts cm;clear bB a0 aC aJ H dM fR fK x0 x2 HC cb;go_upto_region 28 with fail;refine Al (λw'=>w'.cell? (A_ (w.heap.size+1+1) 0)=some (P_ (w.heap.size+1))/\w'.cell? (A_ (w.heap.size+1) 3)=some (.slice a7 b c7)) 16 k_ ⟨z0,z3⟩ (λhHeld=>?_);refine Ah 0 ?_;refine Ah 1 ?_;refine Ah 2 ?_;refine Ah 3 ?_;refine Ah 4 ?_;refine Ah 5 ?_;refine Ah 6 ?_;refine Ah 7 ?_;refine Ah 8 ?_;refine Ah 9 ?_;refine Ah 10 ?_;refine Ah 11 ?_;refine Af (i:=12) k_ rfl (λKK hK=>?_);go_simp;refine hK _ _ ⟨Ac bA_ z0,Ac bA_ z3⟩ (λhHeld=>?_);clear hK KK
    try simp only[Act.put,tA,tB,tC]
    refine Af (i:=13) k_ rfl (λKK hK=>?_);rw[<- T];refine Az rfl (.tmp 161) (.tmp 163) 84 rfl w1.heap.size 25 j0 Cz 1 24 Tryz.underlying84 aT dC cU cP rfl d_ (.slice a7 b c7) b aG j_ bE (A_ w2.heap.size 0) 1 1 [.slice av n cv] j_ rfl aS ?_ d_ m_ o_ cA ?_;intro u hu;simp at hu;rw[hu];rfl;intro v6 w6 H6;obtain⟨r6,g6,d6,_,q6,p6,gA⟩:=H6;obtain⟨hY,cO⟩:=bL.1.more (vC':=v6) (N:=N) bL.2.1 bL.2.2 g6 (by rw[cW];exact r6);rw[<- k2] at hY;have kT:Hid (CoI w1 (w6.setCell (A_ (w.heap.size+1) 3) v6) (w.heap.size+1) n vF (L_ qB C.length cB) v6 Cz (aG++[.slice av n cv]) (((Dp C).map (λfs=>He I J fs n)).take (b+1))):=hY;have dD:=f7.dbw bL.1.tch bL.1.ds
    have t6:Aa (λx=>(Value.slice a7 b c7).ownBlock=some x) W1 w6:=(Aa.refl _ _).grown g6 (λx hx _=>hx);have e0:w6.cell? (A_ (w.heap.size+1+1) 0)=some (P_ (w.heap.size+1)):=cq_ 0 _ 331 (0,0) (t6.at_ dD.blk (λe=>Au bE e dD.blk d_ rfl));have e3:=cR_ 3 cO;have ez:w6.frozen? (A_ (w.heap.size+1) 3)=false:=fq_ 3 _ 142 cO;subst gA;clear r6 g6 d6 hY cO dD t6 z0 z3 bL bE aS T;refine hK _ _ ⟨e0,e3⟩ (λhHeld=>?_);clear hK KK;try simp only[Act.put,tA,tB,tC]
    refine Ah 14 ?_;refine Ah 15 ?_;refine Ai (i:=16) k_ rfl k_ (λKK hK=>?_);go_simp;refine hK _ _ ?_;clear hK KK;try simp only[Act.put,tA,tB,tC]
    refine Ak k_ ?_ _;clear e0 e3 ez hHeld;go_wp2;go_roundw;case rel=>exact⟨b+1,_,_,g_,o_,kT⟩
    case measure=>exact z_
   have g5:¬b<(C.length:Int):=o_;obtain⟨Cg,dB⟩:∃Cg,(Dp C).map (λfs=>He I J fs n)=Cg:=⟨_,rfl⟩;have gP:Hid ((Dp C).map (λfs=>He I J fs n)=Cg):=dB;have aQ:Hid (CoI w1 wr (w.heap.size+1) n vF (.slice aB C.length cB) vC Cz aG Cg):=(by have:=HC.out;rw[List.take_of_length_le (by simp[Dp];omega),dB] at this;exact this);have aV:(Dp C).length=C.length:=by simp[Dp]
   have dO:∀j,j<C.length->(Dp C).getD j []=(C.getD j Fq).fs:=λj hj=>by simp[Dp,List.getD,hj]
   have dN:∀j,j<C.length->Cg.getD j []=He I J (C.getD j Fq).fs n:=λj hj=>by rw[<- dB];simp[Dp,List.getD,hj]
   have aP:∀j,j<C.length->C.getD j Fq∈C:=λj hj=>by simp[List.getD,hj]
   have fB:Cg.length=C.length:=by rw[<- dB];simp[Dp]
   have kI:Hid (ZkW n I (Dp C) Cg):=by
    refine⟨by rw[fB,aV],by rw[aV];omega,λj hj=>?_,λj hj r=>?_,λj hj=>?_,λj hj f hf=>?_⟩;rw[fB] at hj;rw[dN j hj];simp[He]
    ·rw[fB] at hj;rw[dN j hj];have R:=bI.1 _ (aP j hj)
     by_cases hr:r<n
     have h1:=(ZcP (Ks:=I) (Bb:=J) (r:=r) (fs:=(C.getD j Fq).fs) (λf hf=>⟨by have h1:=HP.2.1 f (R.fs f hf) r;have h2:=HP.1 f (R.fs f hf);omega,by have h2:=HP.1 f (R.fs f hf);omega⟩) _ qa_).1;rw[List.take_length] at h1;have h3:=R.len;have e:(He I J (C.getD j Fq).fs n).getD r 0=(mz I J r (C.getD j Fq).fs).1:=(by simp[He,List.getD,hr]);rw[e];omega;rw[Qc,List.getElem?_eq_none (by simp[He];omega)];simp
    rw[aV] at hj;rw[dO j hj];have:=(bI.1 _ (aP j hj)).len;omega;rw[aV] at hj;rw[dO j hj] at hf;rw[HP.2.2.2.2.1];exact(bI.1 _ (aP j hj)).fs f hf
   have b6:Hid (MkX wr w.heap.size (w.heap.size+1+1) (w.heap.size+1) n vF (.slice aB C.length cB) vC Cz vb vo U X I J ((List.range (m+1)).map (De Os))/\Mg wr Y.heap.size (.slice aB C.length cB) gO ((Dp C).map Av)/\Aa (λq=>q=w.heap.size+1) Y wr):=⟨V,b7,H1.2.2.trans aQ.tch⟩;have jB:Hid (∀W,Aa (λq=>q=w.heap.size+1) wr W->CfB W w.heap.size fk (m+1) fc s A l):=λW hW=>(b6.2.2.trans hW).at_ bY.1 o_
   have hL:Hid (∀i,i<m+1->∀r,r<n->∃qb cq gb cg,∀W,Aa (λq=>q=w.heap.size+1) wr W->W.cell? (A_ (w.heap.size+1+1) 0)=some (P_ (w.heap.size+1))/\W.cell? (A_ (w.heap.size+1+1) 1)=some (L_ qb J.length cq)/\W.cell? (A_ qb i)=some (L_ gb n cg)/\W.cell? (A_ gb r)=some (I_ ((J.getD i []).getD r 0:Nat))):=λi O r hr=>by
    have dT:i<(J.map Av).length:=(by rw[List.length_map,HP.2.2.2.2.2.1];exact O);have hd:=V.ds;obtain⟨qb,cq,ag,cg,cY,c1,_,ev,⟨i7,hq⟩,_⟩:=V.bb.at dT;have fC:(J.map Av).getD i []=Av (J.getD i []):=(by simp[List.getD,show i<J.length by rw[List.length_map] at dT;exact dT]);have f6:=V.bb.each i dT;rw[ev] at f6;rw[fC,Aw,HP.2.2.2.2.2.2 i O] at c1 f6;rw[List.length_map] at cY;obtain⟨gb,e5,_,_,c3,_⟩:=f6.atK (by rw[Aw];exact HP.2.2.2.2.2.2 i O) hr;rw[Cv] at c3;subst e5;obtain⟨kZ,kK⟩:=Ad f6 (k:=gb) rfl;have x1:=cR_ 1 V.blk;rw[cY] at x1
    have aO:∀W p v,Aa (λq=>q=w.heap.size+1) wr W->wr.cell? p=some v->p.block≠w.heap.size+1->W.cell? p=some v:=λW p v hT hp hne=>(cb_ (hT.block _ (World.block_lt_of_cell? _ _ hp) hne)).trans hp;exact⟨qb,cq,gb,cg,λW hT=>⟨aO W _ _ hT x0 s_,aO W _ _ hT x1 s_,aO W _ _ hT c1 (hd.ne hq d_),aO W _ _ hT c3 (hd.ne kK d_)⟩⟩
   obtain⟨Q,i6⟩:∃Q:Nat->Nat->Bool,Q=λr i=>decide (Jp I (Dp C) Cg r i≠(J.getD i []).getD r 0):=⟨_,rfl⟩;obtain⟨D,fW⟩:∃D:Nat->Nat->Nat,D=λr i=>(J.getD i []).getD r 0:=⟨_,rfl⟩
   have gN:Hid (∀r i,Q r i=decide (Jp I (Dp C) Cg r i≠(J.getD i []).getD r 0)/\D r i=(J.getD i []).getD r 0):=λr i=>by rw[i6,fW];exact⟨rfl,rfl⟩
   have d5:Hid ((Uq Q D (m+1) n).Perm (Ao m n l (Ou m E) (Ih m L E)).xs/\Fp (Uq Q D (m+1) n)/\(Ao m n l (Ou m E) (Ih m L E)).ks=I/\(Ao m n l (Ou m E) (Ih m L E)).bs.map BS.fs=Dp C/\(Ao m n l (Ou m E) (Ih m L E)).bs.map BS.N=Cg):=by have d8:=jb m n l (Ou m E) (Ih m L E);rw[gE] at d8 ⊢;have hp:=Zhy (p:=Q) (b:=D) (M:=m+1) (r:=n) d8 (λx=>by rw[Zas HP.2.2.2.2.1 dA.1 dA.2 HP.2.1 HP.2.2.2.1 x,gP,(gN x.row x.f).1,(gN x.row x.f).2]);refine⟨hp.1,hp.2,vx Os J n C ⟨I,[],[]⟩,by have:=bo Os J n I C ⟨I,[],[]⟩;unfold Ew;simpa using this,?_⟩;rw[<- gP];exact Zar (λG hG f hf=>by rw[HP.2.2.2.2.1];exact(bI.1 G hG).fs f hf) (λi O=>by rw[HP.2.2.2.2.1] at O;exact HP.2.1 i O) HP.2.2.2.1
   have jH:Hid (ExI wr wr (w.heap.size+1) n vF (.slice aB C.length cB) vC Cz (Uq Q D (m+1) 0)):=⟨Aa.refl _ _,aQ.ds,Yk.nil _ _ _ _,aQ.ds.lt⟩;obtain⟨wC,kB⟩:=ex_ wr;subst kB;clear i6 fW dB aV dO dN aP fB V b7 HC H1 f7 gE dA bI gP Z g1;go_wp2_with fail
   go_loopw [14] (λt14 wr=>∃(r:Nat) (vX:Value),t14=.int .i64 r/\r<=n/\Hid (ExI wC wr (w.heap.size+1) n vF (.slice aB C.length cB) vC vX (Uq Q D (m+1) r))) (λt14 _=>n-(intOf t14).toNat)
   case atStart=>exact⟨0,Cz,rfl,qg_,jH⟩
   case round=>
    clear jH x0 x2;obtain⟨r,vX,rfl,hr,aA⟩:=hrel
    by_cases gR:r<n
    ·have g7:r<(n:Int):=o_;have g8:0<=(r:Int):=o_
     have fG:Hid (ExI wC wr (w.heap.size+1) n vF (.slice aB C.length cB) vC vX (Uq Q D (m+1) r++ng Q D r 0)):=(by rw[show Uq Q D (m+1) r++ng Q D r 0=Uq Q D (m+1) r from List.append_nil _];exact aA);have y0:wr.cell? (A_ w.heap.size 0)=some (L_ fk M fc):=(by have:=(jB wr aA.tch).cells.1;rw[aM];exact this);clear aA;go_wp2_with fail
     rename_i wold;go_loopw [15] (λt15 wr=>∃(i:Nat) (vX:Value),t15=.int .i64 i/\i<=M/\Hid (ExI wC wr (w.heap.size+1) n vF (.slice aB C.length cB) vC vX (Uq Q D (m+1) r++ng Q D r i))) (λt15 _=>M-(intOf t15).toNat)
     case atStart=>exact⟨0,vX,rfl,qg_,fG⟩
     case round=>
      clear fG y0;obtain⟨i,f8,rfl,O,a9⟩:=hrel;have y0:wr.cell? (A_ w.heap.size 0)=some (L_ fk M fc):=by have:=(jB wr a9.tch).cells.1;rw[aM];exact this
      by_cases hiM:i<M
      ·have iK:i<m+1:=(by have:=aM.out;omega);have V:=b6.1.dbw a9.tch a9.ds;have iZ:DaV wr (w.heap.size+1) n I (Dp C) Cg (Uq Q D (m+1) r++ng Q D r i):=⟨V.view.dk,⟨_,cq_ 2 _ 142 (0,0) a9.ds,(b6.2.1.dbw aQ.ds a9.tch).view⟩,⟨_,cq_ 3 _ 142 (0,0) a9.ds,(aQ.co.dbw aQ.ds a9.tch).view⟩,⟨_,cq_ 4 _ 142 (0,0) a9.ds,XsV.of a9.xs⟩⟩;have kS:(Uq Q D (m+1) r++ng Q D r i).length<=1000000:=(by rw[Qe];have h1:=Zep Q D (m+1) r;have h2:=xz Q D r i;have h3:r*(m+1)<=200*4:=Nat.mul_le_mul o_ hm;omega);have hU:=jr (w.heap.size+1) n r i I (Dp C) Cg _ wr iZ kI gR (by rw[HP.2.2.2.2.1];exact iK) kS
       rw[rx (λj hj hat=>by
        have bW:(Uq Q D (m+1) r++ng Q D r i).getD j Fk∈Uq Q D (m+1) r++ng Q D r i:=by rw[Qc,Qd hj];exact Qf hj
        rcases List.mem_append.1 bW with h|h
        have:=(de r).1 h;have:=hat.1;omega
        have:=(Vj i).1 h;have:=hat.2;omega)] at hU
       obtain⟨qb,cq,gb,cg,bD⟩:=hL i iK r gR;obtain⟨x0,e1,c1,c3⟩:=bD wr a9.tch;have iG:Hid _:=bD;have gI:=gN r i;have j4:Hid (Uq Q D (m+1) r++ng Q D r (i+1)=Uq Q D (m+1) r++ng Q D r i++exC Q D r i):=by show _=_;simp[ng,List.append_assoc]
       have fJ:exC Q D r i=if Jp I (Dp C) Cg r i≠(J.getD i []).getD r 0 then[⟨r,i,(J.getD i []).getD r 0⟩] else[]:=by
        unfold exC;rw[gI.1,gI.2]
        by_cases h:Jp I (Dp C) Cg r i≠(J.getD i []).getD r 0
        rw[if_pos h,if_pos (decide_eq_true h)];rw[if_neg h,if_neg (by rw[decide_eq_false h];decide)]
       have iL:Hid _:=fJ;have kO:i<(J.length:Int):=(by have:=HP.2.2.2.2.2.1;omega);have cL:0<=(i:Int):=o_;have l8:i<(M:Int):=o_;generalize hX0:Uq Q D (m+1) r++ng Q D r i=X0 at *;generalize Jp I (Dp C) Cg r i=tl at *;generalize (J.getD i []).getD r 0=bx at *;clear hX0 iZ gI fJ V bD;go_wp2_with fail
       refine hU.mono ?_;rintro e w2 ⟨rfl,H⟩;have z0:=Ac H x0;have z1:=Ac H e1;have z2:=Ac H c1;have z3:=Ac H c3;have dK:Hid (ExI wC w2 (w.heap.size+1) n vF (.slice aB C.length cB) vC f8 X0):=a9.below H;clear H hU x0 e1 c1 c3 a9 y0
       by_cases htl:tl=bx
       ·have HN:Hid (exC Q D r i=[]):=(by show _=_;rw[iL,if_neg (by simp[htl])]);have q1:(tl==(bx:Int))=true:=beq_iff_eq.2 o_;have q2:(tl !=(bx:Int))=false:=(by simp[bne,q1]);clear htl;go_wp2;go_roundw;case rel=>exact⟨i+1,f8,g_,o_,by rw[j4,HN,List.append_nil];exact dK⟩
        case measure=>exact z_
       have HN:Hid (exC Q D r i=[⟨r,i,bx⟩]):=(by show _=_;rw[iL,if_pos htl]);have q1:(tl==(bx:Int))=false:=beq_eq_false_iff_ne.2 o_;have q2:(tl !=(bx:Int))=true:=(by simp[bne,q1]);obtain⟨aX,cX,iH⟩:=dK.xs.shape;rw[List.length_map] at iH;subst iH;have z4:=cR_ 4 dK.ds;obtain⟨W1,a0⟩:=ex_ ((w2.alloc (.cells #[I_ r,I_ i,I_ bx] 231)).drew);have aC:E_ w2 W1:=(by rw[a0];exact bA_.drew);have dI:Hid (ExI wC W1 (w.heap.size+1) n vF (.slice aB C.length cB) vC (.slice aX X0.length cX) X0):=dK.below aC;have bE:Hid (W1.ownsRow wC.heap.size 231 3 (.slice aX X0.length cX) X0.length ((X0.map Dn).flatten)):=by have:=dI.xs.row;rw[List.length_map] at this;exact this
       have bB:∀j u,[I_ r,I_ i,I_ bx][j]? =some u->W1.cell? (((A_ w2.heap.size 0):Addr).add j)=some u:=by rw[a0];exact Am w2 #[I_ (r:Nat),I_ (i:Nat),I_ (bx:Nat)] 231
       have aS:Hid _:=bB;have cA:wC.heap.size<=W1.heap.size:=dI.tch.size;have T:Hid (W1=(w2.alloc (.cells #[I_ r,I_ i,I_ bx] 231)).drew):=a0;obtain⟨j0,aT,dC,cU,cP⟩:=info_parts ZjR;clear bB a0 aC dK;go_upto_region 37 with fail;refine Al (λw'=>w'.cell? (A_ (w.heap.size+1+1) 0)=some (P_ (w.heap.size+1))/\w'.cell? (A_ (w.heap.size+1) 4)=some (.slice aX X0.length cX)/\w'.cell? (A_ (w.heap.size+1+1) 1)=some (L_ qb J.length cq)/\w'.cell? (A_ qb i)=some (L_ gb n cg)/\w'.cell? (A_ gb r)=some (I_ (bx:Nat))) 28 k_ ⟨z0,z4,z1,z2,z3⟩ (λhHeld=>?_);refine Ah 0 ?_;refine Ah 1 ?_;refine Ah 2 ?_;refine Ah 3 ?_;refine Ah 4 ?_;refine Ah 5 ?_;refine Ah 6 ?_;refine Ah 7 ?_;refine Ah 8 ?_;refine Ah 9 ?_;refine Ah 10 ?_;refine Ah 11 ?_;refine Ah 12 ?_
       refine Ah 13 ?_;refine Ah 14 ?_;refine Ah 15 ?_;refine Ah 16 ?_;refine Ah 17 ?_;refine Ah 18 ?_;refine Ah 19 ?_;refine Ah 20 ?_;refine Ah 21 ?_;refine Ah 22 ?_;refine Ah 23 ?_;refine Af (i:=24) k_ rfl (λKK hK=>?_);go_simp;refine hK _ _ ⟨Ac bA_ z0,Ac bA_ z4,Ac bA_ z1,Ac bA_ z2,Ac bA_ z3⟩ (λhHeld=>?_);clear hK KK;try simp only[Act.put,tA,tB,tC]
       refine Af (i:=25) k_ rfl (λKK hK=>?_);rw[<- T];refine Az rfl (.tmp 212) (.tmp 226) 140 rfl wC.heap.size 231 j0 (.agg #[I_ 0,I_ 0,I_ 0]) 3 24 Tryz.underlying140 aT dC cU cP rfl d_ (.slice aX X0.length cX) X0.length ((X0.map Dn).flatten) j_ bE (A_ w2.heap.size 0) 1 1 [I_ (r:Nat),I_ (i:Nat),I_ (bx:Nat)] j_ rfl aS ?_ d_ m_ o_ cA ?_
       ·intro u hu;simp at hu;rcases hu with rfl|rfl|rfl<;>rfl
       intro v6 w6 H6;obtain⟨r6,g6,d6,_,q6,p6,gA⟩:=H6;obtain⟨jO,dE⟩:=dI.more (vX':=v6) (x:=⟨r,i,bx⟩) g6 r6;have k5:Hid (ExI wC (w6.setCell (A_ (w.heap.size+1) 4) v6) (w.heap.size+1) n vF (.slice aB C.length cB) vC v6 (Uq Q D (m+1) r++ng Q D r (i+1))):=(by rw[j4,HN];exact jO);obtain⟨s0,s1,s2,s3⟩:=iG w6 (dI.tch.grown g6 (λk hk hlt=>by have:=(rl_ bE k hk).1;omega));have s4:=cR_ 4 dE;have s5:w6.frozen? (A_ (w.heap.size+1) 4)=false:=fq_ 4 _ 142 dE;subst gA;clear r6 g6 d6 jO dE z0 z1 z2 z3 z4 dI bE aS T iG;refine hK _ _ ⟨s0,s4,s1,s2,s3⟩ (λhHeld=>?_);clear hK KK;try simp only[Act.put,tA,tB,tC]
       refine Ah 26 ?_;refine Ah 27 ?_;refine Ai (i:=28) k_ rfl k_ (λKK hK=>?_);go_simp;refine hK _ _ ?_;clear hK KK;try simp only[Act.put,tA,tB,tC]
       refine Ak k_ ?_ _;clear s0 s1 s2 s3 s4 s5 hHeld;go_wp2;go_roundw;case rel=>exact⟨i+1,_,g_,o_,k5⟩
       case measure=>exact z_
      have kO:¬i<(M:Int):=o_;have kV:Hid (ExI wC wr (w.heap.size+1) n vF (.slice aB C.length cB) vC f8 (Uq Q D (m+1) (r+1))):=by have:=a9.out;rw[show i=m+1 by have:=aM.out;omega] at this;exact this
      clear a9;go_wp2;go_roundw;case rel=>exact⟨r+1,f8,g_,o_,kV⟩
      case measure=>exact z_
    have g7:¬r<(n:Int):=o_;have x0:wr.cell? (A_ (w.heap.size+1+1) 0)=some (P_ (w.heap.size+1)):=cq_ 0 _ 331 (0,0) (b6.1.dbw aA.tch aA.ds).blk
    have fP:Hid (Zan w wr (w.heap.size+1) n (Ao m n l (Ou m E) (Ih m L E))/\E_ w wr):=by
     obtain⟨f1,f2,f3,f4,f5⟩:=d5;have kA:w.heap.size<=wC.heap.size:=Nat.le_trans bY.2.size b6.2.2.size;have V:=b6.1.dbw aA.tch aA.ds;refine⟨⟨vF,.slice aB C.length cB,vC,vX,U,gO,aG,Uq Q D (m+1) n,?_,f1,f2⟩,?_⟩
     ·rw[f3,f4,f5];have hX:=aA.xs;rw[show r=n by omega] at hX;refine⟨aA.ds,V.fe,((b6.2.1.dbw aQ.ds aA.tch).mono bY.2.size),((aQ.co.dbw aQ.ds aA.tch).mono ?_),⟨⟨hX.row.1,?_⟩,hX.wid⟩,V.one,Nat.le_succ _⟩;exact Nat.le_trans bY.2.size hZ
      rcases hX.row.2 with e|⟨g,jR,i7,e,hg,rr⟩
      exact .inl e;exact .inr ⟨g,jR,i7,e,Nat.le_trans kA hg,rr⟩
     exact bY.2.trans ((b6.2.2.trans aA.tch).to_below bY.2.size (λq hq=>o_))
    clear aA;go_wp2;go_ret;exact⟨_,rfl,fP.1,fP.2⟩
section
variable {w:World} {base db n:Nat} {vF vB vC vX:Value} {kvs:List (Value×Value)} {bvs cvs:List Value} {Ks:List KS} {Fs Cs:List (List Nat)} {X:List XS}
def RfX.mono{b}(h:RfX w base db n vF vB vC vX kvs bvs cvs Ks Fs Cs X)(c:b<=base):RfX w b db n vF vB vC vX kvs bvs cvs Ks Fs Cs X:=by
 have a:∀{ty sz m:Nat} {v xs},w.ownsRow base ty sz v m xs->w.ownsRow b ty sz v m xs:=λhr=>⟨hr.1,by
  rcases hr.2 with e|⟨g,d,f,e,j,r⟩
  exact .inl e
  exact .inr ⟨g,d,f,e,Nat.le_trans c j,r⟩⟩
 exact⟨h.ds,⟨⟨a h.fe.row.row,h.fe.row.wid⟩,h.fe.len,λi hi=>⟨a (h.fe.each i hi).1,a (h.fe.each i hi).2⟩⟩,h.bu.mono c,h.co.mono c,⟨a h.xs.row,h.xs.wid⟩,h.one,Nat.le_trans c h.lo⟩
def ZcQ i (h:RfX w base db n vF vB vC vX kvs bvs cvs Ks Fs Cs X)(a:i<Ks.length):C_ 139 #[.pointer (some ⟨db,0,none⟩),.int .i64 i] w λe w'=>e=.returned (.tuple #[(kvs.getD i Oi).1,(kvs.getD i Oi).2,.int .i64 0])/\∃m,w'=w.drewN m:=by
 obtain⟨q,c,e,_,_,_,_,b⟩:=h.fe.row.at (i:=i) (by rw[h.fe.zlen];exact a);rw[h.fe.zlen] at e;subst e;have x:=cR_ 1 h.ds;have g:(List.zipWith Cf Ks kvs).getD i []=Cf (Ks.getD i Ay) (kvs.getD i Oi):=by simp[List.getD,List.getElem?_zipWith,a,show i<kvs.length by rw[h.fe.len];exact a]
 rw[g] at b;have r:=b 1 o_ _ rfl;have p:=b 2 o_ _ rfl;obtain⟨k,l,d⟩:=(h.fe.each i a).1.shape;obtain⟨j,o,f⟩:=(h.fe.each i a).2.form;generalize kvs.getD i Oi=u at *;obtain⟨u1,u2⟩:=u;simp only at d f r p ⊢;subst d f;have y:¬(i:Int)<0:=o_;have t:¬Ks.length<=(i:Int):=o_;have z:0<=(i:Int):=o_;have s:i<(Ks.length:Int):=o_;generalize (Ks.getD i Ay).e.bs.length=nb at *;generalize (Ks.getD i Ay).e.ww.length=nw at *;clear h b g;go_enter Tryz.func139,Tryz.ntmps139;go_upto_region 3 with fail;go_quiet (fail);go_wp2;refine bodyPost_ret (v:=.tuple #[.slice k nb l,.slice j nw o,I_ 0]) (by simp[results,Tryz.results139,go_sem]) rfl ?_
 grind
def ZaM f (h:DkV w db n Ks)(g:¬(0<=f/\f<(Ks.length:Int))):C_ 139 #[.pointer (some ⟨db,0,none⟩),.int .i64 f] w λe w'=>e=.returned (.tuple #[Cz,Cz,.int .i64 1])/\w'=w:=by
 obtain⟨d,b,a⟩:=h.d1;obtain⟨c,j,rfl⟩:=a.1;clear h a;go_enter Tryz.func139,Tryz.ntmps139
 by_cases g1:f<0
 ·go_wp2;refine bodyPost_ret (v:=.tuple #[Cz,Cz,I_ 1]) (by simp[results,Tryz.results139,go_sem]) rfl ?_
  grind
 have i:Ks.length<=f:=o_;go_wp2;refine bodyPost_ret (v:=.tuple #[Cz,Cz,I_ 1]) (by simp[results,Tryz.results139,go_sem]) rfl ?_
 grind
end
def qi a b n g f c d z p S w (h:mu w a b n g f c d S z p true):C_ 126 #[.pointer (some ⟨a,0,none⟩)] w λe w'=>e=.returned (.tuple #[.pointer none,.int .i64 1,.int .i64 0])/\w'=w:=by
 have i:=h.cells.2.2.2;clear h;go_enter Tryz.func126,Tryz.ntmps126;go_wp2;go_ret3
 exact⟨rfl,rfl⟩
def zl a b n j i c f z p S w (h:mu w a b n j i c f S z p false)(g:z≠0):C_ 126 #[.pointer (some ⟨a,0,none⟩)] w λe w'=>e=.returned (.tuple #[.pointer none,.int .i64 z,.int .i64 p])/\∃m,w'=w.drewN m:=by
 obtain⟨_,l,k,o⟩:=h.cells;have d:=bne_iff_ne.2 g;clear h;go_enter Tryz.func126,Tryz.ntmps126;go_upto_region 4 with fail;go_quiet (fail);go_wp2;go_ret3
 exact⟨rfl,_,rfl⟩
def RcP(w:World)(ib fk m fc:Nat)(bins:Int)(size budget:Nat)(S:ByteArray)(E:Nat->ES)(R:List (Int×List VS)×Nat×Int)(e:Ending)(w':World):Prop:=
 mu w' ib fk (m+1) fc bins size budget S 0 0 true/\Aa (λq=>q=ib) w w'/\
 ((R.2.2≠0/\e=.returned (.tuple #[.pointer none,I_ R.2.2,I_ R.2.1]))∨(R.2.2=0/\∃yb,e=.returned (.tuple #[P_ yb,I_ 0,I_ 0])/\Zan w w' yb R.1.length (Ao m R.1.length budget (Ou m E) (Ih m R.1 E))))
def Zdw(j o m z d b:Nat) f S t B ct E w (h:mu w j o (m+1) z f d b S 0 0 false)(N:Dd w o 0 (m+1) t B ct)(F:o≠j)(v:o<w.heap.size)(hn:m+1<=4)(O:∀i,i<m+1->0<=B i/\(t i=false->B i<=3))(hk:S.size<=1000000000000000)(a3:b<=20)(hs:2<=d)(a1:d<=32)(P:2<=f)(r:f<=16)(a0:∀i,i<m+1->t i=true->1<=ct i)(hr:∀R,R=Jd S (m+1) t B (S.size+1) [] 0->R.2.2=0->Yj R.1/\(∀p∈R.1,p.2.length=m+1)/\(∀i,E i=Ck Mb (t i) (ct i) f d (Bn R.1 i) (Fr R.1))/\∀i,i<m+1->Ol (E i)/\(E i).wd=t i/\(E i).cnt<=16):C_ 126 #[.pointer (some ⟨j,0,none⟩)] w λe w'=>RcP w j o m z f d b S E (Jd S (m+1) t B (S.size+1) [] 0) e w':=by
 obtain⟨⟨_,_,_,_,_⟩,c5,_,c7⟩:=h.cells;have f7:=fq_ 7 _ _ h;obtain⟨w1,u⟩:=ex_ (w.setCell (A_ j 7) (.bool true));have H:Aa (λq=>q=j) w w1:=(by rw[u];exact(Aa.refl (λq=>q=j) w).setCell (p:=(A_ j 7)) (λ_=>rfl) _);have h1:mu w1 j o (m+1) z f d b S 0 0 true:=(by rw[u];exact ht_ 7 _ _ _ h);have I:Dd w1 _ 0 _ t B _:=⟨N.le,λh0=>Qh (N.lt h0) H.size,λi hi=>by rw[<- N.c0 i hi];simp[World.cell?,H.block o v F],λi hi=>by rw[<- N.c1 i hi];simp[World.cell?,H.block o v F],λi hi=>by rw[<- N.c2 i hi];simp[World.cell?,H.block o v F]⟩;have x:=Qh v H.size
 have U:=x1_ (λW hW=>uq _ _ z S f d b _ _ _ W (I.below hW) (Qh x hW.size) hn O hk);have Q:=hr _ rfl;generalize Jd S (m+1) t B (S.size+1) [] 0=R at *;have D:=x1_ (λW a c n hW hz hn2 hv=>Zf3 _ z n c m _ _ a _ _ _ _ _ E W (I.below hW) hv (Q hz).1 hn2 hn a3 hs a1 P r a0 (Q hz).2.2.1 (Q hz).2.2.2);have y:=x1_ (λhz=>(Q hz).2.1);have a2:=x1_ u;have J:=x2_ h1 H;obtain⟨M,hM⟩:=ex_ (m+1);have A:=x1_ hM;rw[<- hM] at U D y J;clear h N I u h1 H hk hr Q a0 O hM hn a3 hs a1 P r x;go_enter Tryz.func126,Tryz.ntmps126;go_upto_region 6 with fail;rw[<- a2];clear a2 c5 c7 f7;have hc:=J.1.cells.1
 refine Al (λw'=>w'.cell? _=some _/\w'.cell? _=some _/\w'.cell? _=some _/\w'.cell? _=some _/\w'.cell? _=some _) 9 k_ hc (λhHeld=>?_);refine Ah 0 ?_;refine Ah 1 ?_;refine Ah 2 ?_;refine Ah 3 ?_;refine Ah 4 ?_;refine Ah 5 ?_;refine Ah 6 ?_;refine Ah 7 ?_;refine Af (i:=8) k_ rfl (λKK hK=>?_);go_simp;refine(U _ bz_.drew).mono ?_;rintro e l ⟨tb,vR,L,rfl,a9,hx,hL,s,a4,r⟩;have k:Below w1.heap.size _ _:=bz_.drew.trans r;have h2:mu _ _ _ M _ _ _ _ S 0 0 _:=(k.block _ (Qb J.1).1).trans J.1;have t2:=J.2.below k;obtain⟨ra,rc,rfl⟩:=hL.shape
 have g:Hid (Fb l tb S R.2.1 R.2.2 (.slice ra L.length rc)/\mu l j o M z f d b S 0 0 true/\Aa (λq=>q=j) w l/\w.heap.size<=l.heap.size/\E_ w1 l/\L.length=R.1.length/\L.length<=200/\(R.2.2=0->Sn l ra L.length M R.1)):=⟨hx,h2,t2,t2.size,k,by rw[<- s];simp,a4,λhz=>by
  rw[<- s]
  refine hL.view rfl (λp hp=>y hz _ (by rw[<- s];exact List.mem_map_of_mem hp)) (by rw[A];omega)⟩
 have V:=h2.cells.1;clear hx h2 t2 r k J hc hL s a4;go_simp;refine hK _ _ V (λhHeld=>?_);clear hK KK;try simp only[Act.put,List.setIfInBounds_toArray,List.set_cons_succ,List.set_cons_zero]
 refine Ai (i:=9) k_ rfl k_ (λKK hK=>?_);go_simp;refine hK _ _ ?_;clear hK KK;try simp only[Act.put,List.setIfInBounds_toArray,List.set_cons_succ,List.set_cons_zero]
 refine Ak k_ ?_ _;obtain⟨_,e1,e2,_⟩:=g.1.cells
 by_cases hz:R.2.2=0
 ·have a8:(R.2.2 !=0)=false:=(by rw[hz];rfl);rw[hz] at e2;go_upto_region 9 with fail;have Y:l.cell? (A_ j 0)=some (L_ o M z)/\l.cell? (A_ j 1)=some (I_ f)/\l.cell? (A_ j 2)=some (I_ d)/\l.cell? (A_ j 3)=some (I_ b)/\l.cell? (A_ tb 3)=some (.slice ra L.length rc):=w_
  clear e1 e2 V;refine Al (λw'=>w'.cell? _=some _/\w'.cell? _=some _/\w'.cell? _=some _/\w'.cell? _=some _/\w'.cell? _=some _) 8 k_ Y (λhHeld=>?_);refine Ah 0 ?_;refine Ah 1 ?_;refine Ah 2 ?_;refine Ah 3 ?_;refine Ah 4 ?_;refine Ah 5 ?_;refine Ah 6 ?_;refine Ah 7 ?_;refine Ai (i:=8) k_ rfl k_ (λKK hK=>?_);go_simp;refine(D _ _ _ _ (g.2.2.2.2.1.trans (bz_.drew)) hz g.2.2.2.2.2.2.1 ((g.2.2.2.2.2.2.2 hz).below bz_.drew)).mono ?_;rintro e w3 ⟨yb,rfl,C,k⟩
  have Z:Hid (RcP w j o m z f d b S E R (.returned (.tuple #[P_ yb,I_ 0,I_ 0])) w3):=(by have T:Below l.heap.size _ _:=bz_.drew.trans k;have G:=g.2.1;rw[A] at G;rw[g.2.2.2.2.2.1] at C;obtain⟨vF,vB,vC,vX,a5,a7,a6,X,g1,g2,g3⟩:=C;exact⟨(T.block _ (Qb G).1).trans G,g.2.2.1.below T,.inr ⟨hz,yb,rfl,vF,vB,vC,vX,a5,a7,a6,X,g1.mono g.2.2.2.1,g2,g3⟩⟩);clear C k Y g D;go_simp;refine hK _ _ ?_;clear hK KK;try simp only[Act.put,List.setIfInBounds_toArray,List.set_cons_succ,List.set_cons_zero]
  refine Ai (i:=9) k_ rfl k_ (λKK hK=>?_);go_simp;refine hK _ _ ?_;clear hK KK;try simp only[Act.put,List.setIfInBounds_toArray,List.set_cons_succ,List.set_cons_zero]
  refine Ai (i:=10) k_ rfl k_ (λKK hK=>?_);go_simp;refine hK _ _ ?_;clear hK KK;try simp only[Act.put,List.setIfInBounds_toArray,List.set_cons_succ,List.set_cons_zero]
  refine Ai (i:=11) k_ rfl k_ (λKK hK=>?_);go_simp;refine hK _ _ ?_;clear hK KK;try simp only[Act.put,List.setIfInBounds_toArray,List.set_cons_succ,List.set_cons_zero]
  refine Ak k_ ?_ _;go_wp2;go_ret3
  exact Z
 have a8:=bne_iff_ne.2 hz;go_upto_region 8 with fail;go_quiet (fail);go_wp2;go_ret3
 rw[A] at g;exact⟨g.2.1,g.2.2.1.drewN _,.inl ⟨hz,rfl⟩⟩
def Zh1 m:∀k,k<=4->Ba (m+4294967296) k=Ba m k:=λk hk=>by
 rcases(show k=0∨k=1∨k=2∨k=3∨k=4 by omega) with rfl|rfl|rfl|rfl|rfl
 rfl
 all_goals
  simp only[Ba,Vx,List.nil_append,List.cons_append]
  grind [Ba,Vx]
def ZbI m k w (a:k<=4)(c: -4294967296<=m)(b:m<=1000000000000):C_ 135 #[.int .i64 m,.int .i64 (k:Nat)] w λe w'=>e=.returned (.string (strOfNums (Ba m k)))/\Below w.heap.size w w':=by
 by_cases h:0<=m
 have e:m.toNat=m:=o_;have:=Qw m m.toNat k w o_ o_ (.inl ⟨h,e.symm⟩);rw[e] at this;exact this;have e:(m+4294967296).toNat=m+4294967296:=o_;have:=Qw m (m+4294967296).toNat k w o_ o_ (.inr ⟨o_,o_⟩);rw[e,Zh1 m k a] at this;exact this
def Ea{w W}(hW:Below w.heap.size w W) m k (hk:k<=4)(h1: -4294967296<=m)(h2:m<=1000000000000):C_ 135 #[.int .i64 m,.int .i64 (k:Nat)] W λe w'=>e=.returned (.string (strOfNums (Ba m k)))/\Below w.heap.size w w':=
 (ZbI m k W hk h1 h2).mono (λ_ _ h=>⟨h.1,hW.trans (h.2.mono hW.size)⟩)
def ZcH{l}(h:Dv l):Aq (strOfNums l)=l:=by
 unfold Aq strOfNums;simp only[List.map_map]
 conv=>rhs;rw[<- List.map_id l]
 refine List.map_congr_left λx hx=>?_;have:=h x hx
 grind [UInt8.toNat_ofNat']
def ZkP:∀(l:List Int) {z:Nat},z<4294967296->Dv l->nF z l<4294967296
 |[],z,hz,_=>by simpa [nF,nJ,Zb6] using hz
 |b::l,z,hz,h=>by have hb:=h b s_;rw[za z hb];exact ZkP l (Zbk (Nat.xor_lt_two_pow (n:=32) hz o_) 8) (λx hx=>h x (by simp[hx]))
def Zk7{l}(h:Dv l):0<=Jt l/\Jt l<4294967296:=by
 have b:Zhs l=_:=gq l (z:=4294967295) d_ h;have a:=ZkP l (z:=4294967295) d_ h;unfold Jt;rw[b];have e:=Uk 4294967295 _ d_ a;have c:4294967295^^^_<_:=Nat.xor_lt_two_pow (n:=32) d_ a
 grind
def ZbL l w (h:Dv l)(j:l.length<=1000000):C_ 134 #[.string (strOfNums l)] w λe w'=>e=.returned (.string (strOfNums (l++Ba (Jt l) 4)))/\Below w.heap.size w w':=by
 have a:=Ziu _ w (by rw[Br];exact j);rw[ZcH h] at a;have m:=Zk7 h;have f:Hid (∀W,Calls _ _ #[_,.int _ 4] W λe _=>_):=λW=>ZbI (Jt l) 4 W o_ o_ o_;have g:Hid (strOfNums (l++Ba (Jt l) 4)=_):=(Cl _ _).symm;have o:¬9223372036854775807<(strOfNums l).size+(strOfNums (Ba (Jt l) 4)).size:=(by rw[Br,Br,Gc];omega);generalize strOfNums l=S at *;generalize strOfNums (Ba (Jt l) 4)=s4 at *;generalize Jt l=c at *;go_enter Tryz.func134,Tryz.ntmps134;go_wp2_with fail
 refine a.mono ?_;rintro e n ⟨rfl,i⟩;obtain rfl:=i.symm;go_wp2_with fail
 refine(f _).mono ?_;rintro e k ⟨rfl,b⟩;have d:=x1_ b;clear b;go_wp2;go_ret;exact⟨by rw[g];rfl,d⟩
structure KnR(k):Prop where
 one:od k
 bs:∀x∈k.e.bs,-4294967296<=x/\x<=1000000000000
 ww:∀s∈k.e.ww,s.size<=1000
 d:k.d<=1000000
structure BuR(n)(Ks:List KS)(b:BS):Prop where
 len:b.N.length=n
 few:b.fs.length<=1000
 fk:∀f∈b.fs,f<Ks.length
 fl:∀k,b.fs.getD k 0<=1000000
 gs:b.g=Du Ks b.fs
 g6:b.g<64
 val:∀r,b.N.getD r 0<=1000000
def ZfF(wd:Bool):List Int:=if wd=true then[119] else[110]
def Zli{k}(h:od k):Pj k=ZfF k.e.wd++[(k.d:Int)%256]++[(((k.e.bs.length+k.e.ww.length:Nat)):Int)%256]++Jz k.e.bs++Ki k.e.ww:=by
 unfold Pj ZfF
 cases hw:k.e.wd
 rw[h.2.2.2 hw];simp[knB,ES.cnt,Ky,hw,Ki];rw[h.2.2.1 hw];simp[yo,ES.cnt,Ky,hw,Jz]
def Se(n:Nat)(Ks:List KS)(Bs:List BS)(X:List XS):List Int:=[71,82,(n:Int)%256,Ks.length%256]++Ks.flatMap Pj++[(Bs.length:Int)%256]++Bs.flatMap Gw++Ba X.length 2++X.flatMap xB
def dx.get{w b v f a}(h:dx w b v f a){i}(g:i<a.length):∃q c ab cb aw cw,v=L_ q a.length c/\w.cell? (A_ q (i*4))=some (.bool (a.getD i Ay).e.wd)/\w.cell? (A_ q (i*4+1))=some (.slice ab (a.getD i Ay).e.bs.length cb)/\w.cell? (A_ q (i*4+2))=some (.slice aw (a.getD i Ay).e.ww.length cw)/\w.cell? (A_ q (i*4+3))=some (I_ (a.getD i Ay).d)/\Ag w b (.slice ab (a.getD i Ay).e.bs.length cb) (a.getD i Ay).e.bs/\Cc w b (.slice aw (a.getD i Ay).e.ww.length cw) (a.getD i Ay).e.ww:=by
 obtain⟨q,m,k,_,_,_,_,j⟩:=h.row.at (i:=i) (by rw[h.zlen];exact g);rw[h.zlen] at k;have e:=h.each i g;obtain⟨ab,cb,l⟩:=(h.each i g).1.shape;obtain⟨aw,cw,n⟩:=(h.each i g).2.form;have o:(List.zipWith Cf a f).getD i []=Cf (a.getD i Ay) (f.getD i Oi):=(by simp[List.getD,List.getElem?_zipWith,g,show i<f.length by rw[h.len];exact g]);rw[o] at j;exact⟨q,m,ab,cb,aw,cw,k,j 0 o_ _ rfl,j 1 o_ _ (by rw[<- l];rfl),j 2 o_ _ (by rw[<- n];rfl),j 3 o_ _ rfl,w_,w_⟩
def Na{α:Type}{L:List α}{k} d (h:k<L.length):L.getD k d∈L:=w_
def zx b:strOfNums (Aq b)=b:=by
 cases b with
 | mk d=>
  unfold strOfNums Aq;congr 1;apply Array.ext';simp[List.map_map,Function.comp_def]
def Rl{α:Type}(f:α->List Int)(L:List α) i:((L.take i).flatMap f).length<=(L.flatMap f).length:=by
 conv=>rhs;rw[<- List.take_append_drop i L,List.flatMap_append,Qe]
 omega
def Ex m k:(strOfNums (Ba m k)).size=k:=by rw[Br,Gc]
def Zdu db a0 n vF vB vC vX cA d5 cP q l X w (h:RfX w a0 db n vF vB vC vX cA d5 cP q (l.map BS.fs) (l.map BS.N) X)(hk:∀K∈q,KnR K)(hb:∀b∈l,BuR n q b)(dC:q.length<=1000)(dG:l.length<=1000)(dF:X.length<=100000)(hx:∀x∈X,x.row<=1000000/\x.f<=1000000/\x.bin<=1000000)(hn:n<=200)(aU:(Se n q l X).length<=1000000)(bG:Dv (Se n q l X)):C_ 76 #[.pointer (some ⟨db,0,none⟩)] w λe w'=>e=.returned (.string (strOfNums (Se n q l X++Ba (Jt (Se n q l X)) 4)))/\Below w.heap.size w w':=by
 have HV:Hid (DaV w db n q (l.map BS.fs) (l.map BS.N) X):=h.view;have aO:Hid (dx w a0 vF cA q):=h.fe;have HK:Hid (∀K∈q,KnR K):=hk;have cT:Hid (∀b∈l,BuR n q b):=hb;have HX:Hid (∀x∈X,x.row<=1000000/\x.f<=1000000/\x.bin<=1000000):=hx;have H:Hid ((Se n q l X).length<=1000000):=aU;have cR:Hid (∀W,C_ 134 #[.string (strOfNums (Se n q l X))] W λe w'=>e=.returned (.string (strOfNums (Se n q l X++Ba (Jt (Se n q l X)) 4)))/\E_ W w'):=λW=>ZbL _ W bG aU;have u:Hid (Se n q l X=[71,82,(n:Int)%256,q.length%256]++q.flatMap Pj++[(l.length:Int)%256]++l.flatMap Gw++Ba X.length 2++X.flatMap xB):=rfl;obtain⟨af,cf,dA⟩:=aO.view.1;subst dA;have d0:=cR_ 0 h.ds;have d1:=cR_ 1 h.ds;obtain⟨v2,d2,h2⟩:=HV.d2;obtain⟨v3,d3,h3⟩:=HV.d3
 obtain⟨v4,d4,h4⟩:=HV.d4;obtain⟨a2,c2,bI⟩:=h2.1;obtain⟨a3,c3,bO⟩:=h3.1;obtain⟨a4,c4,d6⟩:=h4.1;rw[List.length_map] at bI bO;subst bI bO d6;have aY:Hid (LiV w (.slice a2 l.length c2) (l.map BS.fs)):=h2;have b8:Hid (LiV w (.slice a3 l.length c3) (l.map BS.N)):=h3;have c6:Hid (XsV w (.slice a4 X.length c4) X):=h4;obtain⟨lk,b5⟩:=ey_ q.length;obtain⟨Y,aZ⟩:=ey_ l.length;obtain⟨lx,b3⟩:=ey_ X.length;have aB:Hid (q.length=lk/\l.length=Y/\X.length=lx):=⟨b5,aZ,b3⟩;rw[b5] at d1 dC u aO;rw[aZ] at d2 d3 dG u aY b8;rw[b3] at d4 dF u c6;clear h hk hb hx h2 h3 h4 aU bG b5 aZ b3;generalize strOfNums (Se n q l X++Ba (Jt (Se n q l X)) 4)=SR at *
 have cN:Hid (∀W,E_ w W->C_ 135 #[.int .i64 n,.int .i64 1] W λe w'=>e=.returned (.string (strOfNums (Ba n 1)))/\E_ w w'):=λW hW=>Ea hW _ 1 o_ o_ o_;have cD:Hid (∀W,E_ w W->C_ 135 #[.int .i64 lk,.int .i64 1] W λe w'=>e=.returned (.string (strOfNums (Ba lk 1)))/\E_ w w'):=λW hW=>Ea hW _ 1 o_ o_ o_;have bV:Hid (({data:=#[71,82]}:ByteArray)++strOfNums (Ba n 1)++strOfNums (Ba lk 1)=strOfNums [71,82,n%256,lk%256]):=by show _=_;rw[show({data:=#[71,82]}:ByteArray)=strOfNums [71,82] from rfl,Cl,Cl];rfl
 have bQ:E_ w w:=bz_;have Q:=Ex (n:Nat) 1;have l2:=Ex (lk:Nat) 1;have F:¬9223372036854775807<2+(strOfNums (Ba n 1)).size:=o_;have z2:¬9223372036854775807<2+(strOfNums (Ba n 1)).size+(strOfNums (Ba lk 1)).size:=o_;clear Q l2;go_enter Tryz.func76,Tryz.ntmps76;go_upto_region 1 with fail;generalize strOfNums (Ba (n:Nat) 1)=s1 at *;generalize strOfNums (Ba (lk:Nat) 1)=s2 at *;go_cut [3] (λv wx=>v=.string (({data:=#[71,82]}:ByteArray)++s1++s2)/\Hid (E_ w wx))
 case first=>
  refine Al (λw'=>w'.cell? (A_ db 0)=some (I_ (n:Nat))/\w'.cell? (A_ db 1)=some (.slice af lk cf)) 13 k_ ⟨d0,d1⟩ (λhHeld=>?_);refine Ah 0 ?_;refine Ah 1 ?_;refine Ah 2 ?_;refine Ah 3 ?_;refine Ah 6 ?_;refine Ah 7 ?_;refine Ah 8 ?_;refine Ah 9 ?_;refine Ah 10 ?_;refine Af (i:=4) k_ rfl (λKK hK=>?_);go_simp;refine(cN _ bQ.drew).mono ?_;rintro e w2 ⟨rfl,m⟩;go_simp;refine hK _ _ ⟨Ac m d0,Ac m d1⟩ (λhHeld=>?_);clear hK KK;try simp only[Act.put,sA,sB,sC]
  refine Ah 5 ?_;refine Af (i:=11) k_ rfl (λKK hK=>?_);go_simp;refine(cD _ m).mono ?_;rintro e w3 ⟨rfl,y⟩;go_simp;refine hK _ _ ⟨Ac y d0,Ac y d1⟩ (λhHeld=>?_);clear hK KK;try simp only[Act.put,sA,sB,sC]
  refine Ah 12 ?_;refine Ai (i:=13) k_ rfl k_ (λKK hK=>?_);go_simp;refine hK _ _ ?_;clear hK KK;try simp only[Act.put,sA,sB,sC]
  refine Ak k_ ?_ _;go_wp2;go_meet
  exact⟨rfl,y⟩
 case rest=>
 obtain⟨rfl,aC⟩:=hcut;rw[bV];clear cN cD bV bQ F z2;obtain⟨H0,cE⟩:∃H0:List Int,H0=[71,82,(n:Int)%256,lk%256]:=⟨_,rfl⟩;rw[<- cE] at u ⊢;clear cE
 have cM:Hid (∀i,(H0++(q.take i).flatMap Pj).length<=1000000):=λi=>by have C:=H.out;rw[u] at C;simp only[Qe] at C ⊢;have:=Rl Pj q i;omega
 go_upto_region 3 with fail;go_loopw [3,4] (λt3 t4 wr=>∃(i:Nat) (S:ByteArray),t3=.string S/\t4=.int .i64 i/\i<=lk/\Hid (S=strOfNums (H0++(q.take i).flatMap Pj))/\Hid (E_ w wr)) (λ_ t4 _=>lk-(intOf t4).toNat)
 case atStart=>exact⟨0,_,rfl,rfl,qg_,by show _=_;simp,aC⟩
 case round=>
  clear aC;obtain⟨i,S,rfl,rfl,hi,c,A⟩:=hrel;have a:=A.out;have y1:=Ac a d1
  by_cases hil:i<lk
  ·have g0:0<=(i:Int):=o_;have g1:i<(lk:Int):=o_;have b6:i<q.length:=(by rw[aB.1];exact hil);obtain⟨qf,dN,ab,cb,aw,cw,e2,f0,f1,f2,f3,oI,oS⟩:=aO.get b6;have dE:af=some ⟨qf,0,none⟩:=(by injection e2);subst dE;clear e2;have M:=HK _ (Na Ay b6);have HT:Hid ((q.take (i+1)).flatMap Pj=(q.take i).flatMap Pj++Pj (q.getD i Ay)):=Kl Pj q Ay b6;obtain⟨K,hK⟩:=ey_ (q.getD i Ay);rw[hK] at f0 f1 f2 f3 oI oS M HT;have a7:Hid (Pj K=ZfF K.e.wd++[(K.d:Int)%256]++[(((K.e.bs.length+K.e.ww.length:Nat)):Int)%256]++Jz K.e.bs++Ki K.e.ww):=Zli M.one;clear hK;generalize Pj K=kA at *;obtain⟨⟨wd,R,G⟩,dd⟩:=K;simp only at f0 f1 f2 f3 oI oS a7;have cQ:Hid (∀x∈R,-4294967296<=x/\x<=1000000000000):=M.bs
   have dD:Hid (∀s∈G,s.size<=1000):=M.ww;have dO:dd<=1000000:=M.d;have bZ:R.length<=1000:=M.one.1;have bR:G.length<=1000:=M.one.2.1;clear M;have z0:=Ac a f0;have F:=Ac a f1;have z2:=Ac a f2;have z3:=Ac a f3;have aI:Hid (Ag w a0 (.slice ab R.length cb) R/\Cc w a0 (.slice aw G.length cw) G):=⟨oI,oS⟩;clear f0 f1 f2 f3 oI oS;obtain⟨nb,aN⟩:=ey_ R.length;obtain⟨nw,aV⟩:=ey_ G.length;have a8:Hid (R.length=nb/\G.length=nw):=⟨aN,aV⟩;rw[aN] at F aI a7 bZ;rw[aV] at z2 aI a7 bR;clear aN aV;go_upto_region 6 with fail;obtain⟨D,V⟩:=ex_ (wr.alloc (.cells #[.bool wd,.slice ab nb cb,.slice aw nw cw,I_ dd] 227));rw[<- V];have aP:E_ w D:=by rw[V];exact a.alloc a.size _
   have x0:D.cell? (A_ wr.heap.size 0)=some (.bool wd):=(by rw[V];simp[go_sem]);have x1:D.cell? (A_ wr.heap.size 1)=some (.slice ab nb cb):=(by rw[V];simp[go_sem]);have x2:D.cell? (A_ wr.heap.size 2)=some (.slice aw nw cw):=(by rw[V];simp[go_sem]);have x3:D.cell? (A_ wr.heap.size 3)=some (I_ dd):=(by rw[V];simp[go_sem]);clear V y1 z0 F z2 z3 A;generalize wr.heap.size=fb at *;have a1:Hid (E_ w D):=aP;clear a aP;obtain⟨kd,aL⟩:∃kd:ByteArray,kd=strOfNums (ZfF wd):=⟨_,rfl⟩;have aX:Hid (kd=strOfNums (ZfF wd)):=aL;go_upto_if 42 with fail
   go_cut [6] (λv wx=>v=.string kd/\wx=D)
   case first=>
    cases wd
    ·have aQ:kd={data:=#[110]}:=aL;subst aQ;go_wp2;go_meet
     exact⟨rfl,rfl⟩
    have aQ:kd={data:=#[119]}:=aL;subst aQ;go_wp2;go_meet
    exact⟨rfl,rfl⟩
   case rest=>
   obtain⟨rfl,hw⟩:=hcut;obtain rfl:=hw.symm;clear aL x0;have aG:Hid (∀W,E_ D W->C_ 135 #[.int .i64 dd,.int .i64 1] W λe w'=>e=.returned (.string (strOfNums (Ba dd 1)))/\E_ D w'):=λW hW=>Ea hW _ 1 o_ o_ o_;obtain⟨nn,bC⟩:∃nn:Nat,nn=nb+nw:=⟨_,rfl⟩;rw[<- bC] at a7;have q1:nb+nw=(nn:Int):=o_;have dH:nn<=2000:=o_;clear bC;have aD:Hid (∀W,E_ D W->C_ 135 #[.int .i64 nn,.int .i64 1] W λe w'=>e=.returned (.string (strOfNums (Ba nn 1)))/\E_ D w'):=λW hW=>Ea hW _ 1 o_ o_ o_;obtain⟨H1,bB⟩:∃H1:List Int,H1=H0++(q.take i).flatMap Pj++ZfF wd++[(dd:Int)%256]++[(nn:Int)%256]:=⟨_,rfl⟩
   have cJ:Hid (S++kd++strOfNums (Ba dd 1)++strOfNums (Ba nn 1)=strOfNums H1):=(by show _=_;rw[bB,c,aX,Cl,Cl,Cl];rfl);have aR:Hid (H0++(q.take (i+1)).flatMap Pj=H1++Jz R++Ki G):=(by show _=_;rw[HT,a7,bB];simp only[List.append_assoc]);have r:S.size<=1000000:=by rw[c,Br];exact cM i
   have dB:kd.size=1:=by
    rw[aX,Br]
    cases wd<;>rfl
   have Q:=Ex (dd:Nat) 1;have l2:=Ex (nn:Nat) 1;have F:¬9223372036854775807<S.size+kd.size:=o_;have z2:¬9223372036854775807<S.size+kd.size+(strOfNums (Ba dd 1)).size:=o_;have z3:¬9223372036854775807<S.size+kd.size+(strOfNums (Ba dd 1)).size+(strOfNums (Ba nn 1)).size:=o_;have a5:Hid ((H1++Jz R++Ki G).length<=1000000):=(by rw[<- aR];exact cM (i+1));have cV:IntKind.i64.wrap nn=nn:=Cb o_ o_;clear bB HT a7 aX c dB Q l2;have cF:E_ D D:=bz_;go_upto_region 9 with fail;generalize strOfNums (Ba (dd:Nat) 1)=s1 at *;generalize strOfNums (Ba (nn:Nat) 1)=s2 at *;go_cut [3] (λv wx=>v=.string (S++kd++s1++s2)/\Hid (E_ D wx))
   case first=>
    refine Al (λw'=>w'.cell? (A_ fb 1)=some (.slice ab nb cb)/\w'.cell? (A_ fb 2)=some (.slice aw nw cw)/\w'.cell? (A_ fb 3)=some (I_ (dd:Nat))) 16 k_ ⟨x1,x2,x3⟩ (λhHeld=>?_);refine Ah 0 ?_;refine Ah 1 ?_;refine Ah 2 ?_;refine Ah 3 ?_;refine Ah 4 ?_;refine Ah 7 ?_;refine Ah 8 ?_;refine Ah 9 ?_;refine Ah 10 ?_;refine Ah 11 ?_;refine Ah 12 ?_;refine Ah 13 ?_;refine Af (i:=5) k_ rfl (λKK hK=>?_);go_simp;refine(aG _ cF.drew).mono ?_;rintro e w2 ⟨rfl,m⟩;go_simp;refine hK _ _ ⟨Ac m x1,Ac m x2,Ac m x3⟩ (λhHeld=>?_);clear hK KK;try simp only[Act.put,sA,sB,sC]
    refine Ah 6 ?_;refine Af (i:=14) k_ rfl (λKK hK=>?_);go_simp;refine(aD _ m).mono ?_;rintro e w3 ⟨rfl,y⟩;go_simp;refine hK _ _ ⟨Ac y x1,Ac y x2,Ac y x3⟩ (λhHeld=>?_);clear hK KK;try simp only[Act.put,sA,sB,sC]
    refine Ah 15 ?_;refine Ai (i:=16) k_ rfl k_ (λKK hK=>?_);go_simp;refine hK _ _ ?_;clear hK KK;try simp only[Act.put,sA,sB,sC]
    refine Ak k_ ?_ _;go_wp2;go_meet
    exact⟨rfl,y⟩
   case rest=>
   obtain⟨rfl,aC⟩:=hcut;rw[cJ];clear aG aD cJ cF x3 q1 cV F z2 z3 r;go_upto_region 11 with fail;go_loopw [3,7] (λt3 t7 wr=>∃(k:Nat) (S:ByteArray),t3=.string S/\t7=.int .i64 k/\k<=nb/\Hid (S=strOfNums (H1++Jz (R.take k)))/\Hid (E_ D wr)) (λ_ t7 _=>nb-(intOf t7).toNat)
   case atStart=>exact⟨0,_,rfl,rfl,qg_,by show _=_;simp[Jz],aC⟩
   case round=>
    clear aC;obtain⟨k,S2,rfl,rfl,cH,c,A⟩:=hrel;have a:=A.out;have y1:=Ac a x1
    by_cases hkb:k<nb
    ·have k0:0<=(k:Int):=o_;have k1:k<(nb:Int):=o_;have L:k<R.length:=(by rw[a8.1];exact hkb);obtain⟨qb,rfl,_,_,cx⟩:=aI.1.atK a8.1 (k:=k) hkb;have y2:=Ac a (Ac a1 cx.1);have cO:=cQ _ (Na 0 L);have P:Hid (Jz (R.take (k+1))=Jz (R.take k)++Ba (R.getD k 0) 4):=rt L;clear cx;generalize R.getD k 0=x at *;have I:Hid (C_ 135 #[.int .i64 x,.int .i64 4] wr λe w'=>e=.returned (.string (strOfNums (Ba x 4)))/\E_ D w'):=Ea a _ 4 o_ o_ o_;have U:Hid (S2++strOfNums (Ba x 4)=strOfNums (H1++Jz (R.take (k+1)))):=by show _=_;rw[P,c,Cl,List.append_assoc]
     have r:S2.size<=1000000:=(by rw[c,Br];have C:=a5.out;simp only[Qe,fh,List.length_take] at C ⊢;omega);have Q:=Ex x 4;have F:¬9223372036854775807<S2.size+(strOfNums (Ba x 4)).size:=o_;clear P c A cO Q r;generalize strOfNums (Ba x 4)=s3 at *;go_wp2_with fail
     refine I.mono ?_;rintro e w2 ⟨rfl,m⟩;have O:Hid (E_ D w2):=m;clear m I a;go_wp2;go_roundw;case rel=>exact⟨k+1,_,rfl,g_,o_,U,O⟩
     case measure=>exact z_
    have bS:k=nb:=o_;subst bS;have bF:¬k<(k:Int):=o_;rw[List.take_of_length_le (by rw[a8.1];omega)] at c;obtain⟨H2,cG⟩:∃H2:List Int,H2=H1++Jz R:=⟨_,rfl⟩;rw[<- cG] at c aR a5;clear cG;generalize wr=wa at *;go_upto_region 15 with fail;clear y1 a;go_loopw [3,8] (λt3 t8 wr=>∃(j:Nat) (S:ByteArray),t3=.string S/\t8=.int .i64 j/\j<=nw/\Hid (S=strOfNums (H2++Ki (G.take j)))/\Hid (E_ D wr)) (λ_ t8 _=>nw-(intOf t8).toNat)
    case atStart=>exact⟨0,_,rfl,rfl,qg_,by show _=_;rw[c];simp[Ki],A⟩
    case round=>
     clear c A;obtain⟨j,T,rfl,rfl,dJ,c,A⟩:=hrel;have a:=A.out;have y2:=Ac a x2
     by_cases hjw:j<nw
     ·have j0:0<=(j:Int):=o_;have j1:j<(nw:Int):=o_;have c5:j<G.length:=(by rw[a8.2];exact hjw);obtain⟨qw,rfl,_,cx⟩:=aI.2.atW a8.2 hjw ByteArray.empty;have x4:=Ac a1 cx;have y3:=Ac a x4;have cZ:=dD _ (Na ByteArray.empty c5);have P:Hid (Ki (G.take (j+1))=Ki (G.take j)++((G.getD j ByteArray.empty).size:Int)%256::Aq (G.getD j ByteArray.empty)):=uy c5 _;clear cx;generalize G.getD j ByteArray.empty=t at *;have I:Hid (∀W,E_ D W->C_ 135 #[.int .i64 t.size,.int .i64 1] W λe w'=>e=.returned (.string (strOfNums (Ba t.size 1)))/\E_ D w'):=λW hW=>Ea hW _ 1 o_ o_ o_
      have U:Hid (T++strOfNums (Ba t.size 1)++t=strOfNums (H2++Ki (G.take (j+1)))):=(by show _=_;have h3:=Cl (H2++Ki (G.take j)++Ba (t.size:Nat) 1) (Aq t);rw[zx] at h3;rw[P,c,Cl,h3,ja];simp only[List.append_assoc];rfl);have r:T.size<=1000000:=by rw[c,Br];have C:=a5.out;have h2:=Rl (λs=>((s.size:Nat):Int)%256::Aq s) G j;simp only[Qe,Ki] at C h2 ⊢;omega
      have Q:=Ex (t.size:Nat) 1;have F:¬9223372036854775807<T.size+(strOfNums (Ba t.size 1)).size:=o_;have z2:¬9223372036854775807<T.size+(strOfNums (Ba t.size 1)).size+t.size:=o_;clear P c A cZ Q r;generalize strOfNums (Ba (t.size:Nat) 1)=s3 at *;go_upto_region 17 with fail;refine Al (λw'=>w'.cell? (A_ fb 2)=some (L_ qw nw cw)/\w'.cell? (A_ qw j)=some (.string t)) 15 k_ ⟨y2,y3⟩ (λhHeld=>?_);refine Ah 0 ?_;refine Ah 1 ?_;refine Ah 2 ?_;refine Ah 3 ?_;refine Ah 4 ?_;refine Ah 5 ?_;refine Ah 6 ?_;refine Ah 9 ?_;refine Ah 10 ?_;refine Ah 11 ?_;refine Ah 12 ?_;refine Ah 13 ?_;refine Af (i:=7) k_ rfl (λKK hK=>?_);go_simp;refine(I _ a.drew).mono ?_;rintro e w2 ⟨rfl,m⟩;go_simp
      refine hK _ _ ⟨Ac m x2,Ac m x4⟩ (λhHeld=>?_);clear hK KK;try simp only[Act.put,sA,sB,sC]
      refine Ah 8 ?_;refine Ah 14 ?_;refine Ai (i:=15) k_ rfl k_ (λKK hK=>?_);go_simp;refine hK _ _ ?_;clear hK KK;try simp only[Act.put,sA,sB,sC]
      refine Ak k_ ?_ _;have O:Hid (E_ D w2):=m;clear m hHeld;clear I a y2 y3;go_wp2;go_roundw;case rel=>exact⟨j+1,_,rfl,g_,o_,U,O⟩
      case measure=>exact z_
     have bP:j=nw:=o_;subst bP;have dP:¬j<(j:Int):=o_;rw[List.take_of_length_le (by rw[a8.2];omega),<- aR] at c;have O:Hid (E_ w wr):=a1.trans (a.mono a1.size);clear A a;go_wp2;go_roundw;case rel=>exact⟨i+1,_,rfl,g_,o_,c,O⟩
     case measure=>exact z_
  have c7:i=lk:=o_;subst c7;have dI:¬i<(i:Int):=o_;rw[List.take_of_length_le (by rw[aB.1];omega)] at c;obtain⟨H3,bL⟩:∃H3:List Int,H3=H0++q.flatMap Pj:=⟨_,rfl⟩;rw[<- bL] at c u;clear bL aO HK;have y2:=Ac a d2;have I:Hid (C_ 135 #[.int .i64 Y,.int .i64 1] wr λe w'=>e=.returned (.string (strOfNums (Ba Y 1)))/\E_ w w'):=Ea a _ 1 o_ o_ o_;obtain⟨H4,aJ⟩:∃H4:List Int,H4=H3++[(Y:Int)%256]:=⟨_,rfl⟩;have cL:Hid (S++strOfNums (Ba Y 1)=strOfNums H4):=(by show _=_;rw[aJ,c,Cl];rfl);rw[<- aJ] at u
  have r:S.size<=1000000:=by
   rw[c,Br];have C:=H.out;rw[u,aJ] at C
   grind
  have Q:=Ex (Y:Nat) 1;have F:¬9223372036854775807<S.size+(strOfNums (Ba Y 1)).size:=o_
  have bH:Hid (∀b,(H4++(l.take b).flatMap Gw).length<=1000000):=λb=>by have C:=H.out;rw[u] at C;simp only[Qe] at C ⊢;have:=Rl Gw l b;omega
  clear aJ c Q r;generalize strOfNums (Ba (Y:Nat) 1)=s1 at *;go_wp2_with fail
  refine I.mono ?_;rintro e w2 ⟨rfl,m⟩;have O:Hid (E_ w w2):=m;clear m I A a y1 y2;go_upto_region 20 with fail;clear F;rw[cL];clear cL;go_loopw [3,9] (λt3 t9 wr=>∃(b:Nat) (S:ByteArray),t3=.string S/\t9=.int .i64 b/\b<=Y/\Hid (S=strOfNums (H4++(l.take b).flatMap Gw))/\Hid (E_ w wr)) (λ_ t9 _=>Y-(intOf t9).toNat)
  case atStart=>exact⟨0,_,rfl,rfl,qg_,by show _=_;simp,O⟩
  case round=>
   clear O;obtain⟨b,S2,rfl,rfl,hb,c,A⟩:=hrel;have a:=A.out;have y2:=Ac a d2
   by_cases hbb:b<Y
   ·have b0:0<=(b:Int):=o_;have b1:b<(Y:Int):=o_;have a9:b<l.length:=(by rw[aB.2.1];exact hbb);obtain⟨q2,k2,ag,cg,e2,cB,aE⟩:=aY.2 b (by rw[List.length_map];exact a9);obtain⟨q3,k3,ac,cc,e3,cC,aK⟩:=b8.2 b (by rw[List.length_map];exact a9);have d8:a2=some ⟨q2,0,none⟩:=(by injection e2);have d9:a3=some ⟨q3,0,none⟩:=(by injection e3);subst d8 d9;have eF:(l.map BS.fs).getD b []=(l.getD b Dx).fs:=(by simp[List.getD,a9]);have eN:(l.map BS.N).getD b []=(l.getD b Dx).N:=(by simp[List.getD,a9]);rw[eF] at cB aE;rw[eN] at cC aK;have J:=cT _ (Na Dx a9);have HT:Hid ((l.take (b+1)).flatMap Gw=(l.take b).flatMap Gw++Gw (l.getD b Dx)):=Kl Gw l Dx a9;clear e2 e3 eF eN;generalize l.getD b Dx=B at *;obtain⟨E,N,g⟩:=B
    have aT:Hid (Gw ⟨E,N,g⟩=[(E.length:Int)%256]++Wl E++Kz N g):=rfl;simp only at cB aE cC aK;have aW:N.length=n:=J.len;have bK:E.length<=1000:=J.few;have cU:Hid (∀k,E.getD k 0<=1000000):=J.fl
    have aS:Hid (∀W,E_ w W->C_ 137 #[.pointer (some ⟨db,0,none⟩),.slice ag E.length cg] W λe w'=>e=.returned (.int .i64 g)/\E_ w w'):=λW hW=>by have C:=uj db n cg ag E q W (HV.dk.below hW) (aE.below hW) J.fk bK;have h2:g=Du q E:=J.gs;rw[<- h2] at C;exact C.mono (λ_ _ h=>⟨h.1,hW.trans (h.2.mono hW.size)⟩)
    have b7:Hid (∀W,E_ w W->C_ 136 #[.slice ac N.length cc,.int .i64 g] W λe w'=>e=.returned (.string (strOfNums (Kz N g)))/\E_ w w'):=λW hW=>(Zf1 ac cc g N W (aK.below hW) (by rw[aW];exact hn) J.g6 J.val).mono (λ_ _ h=>⟨h.1,hW.trans (h.2.mono hW.size)⟩);have cS:Hid (NuV w ag E):=aE;clear aE aK J;have a6:=Ac a cB;obtain⟨fl,aH⟩:=ey_ E.length;have bN:Hid (E.length=fl):=aH;rw[aH] at cB bK aS aT a6;rw[aW] at cC b7;clear aH aW;have I:Hid (C_ 135 #[.int .i64 fl,.int .i64 1] wr λe w'=>e=.returned (.string (strOfNums (Ba fl 1)))/\E_ w w'):=Ea a _ 1 o_ o_ o_;obtain⟨H5,b9⟩:∃H5:List Int,H5=H4++(l.take b).flatMap Gw++[(fl:Int)%256]:=⟨_,rfl⟩
    have c9:Hid (S2++strOfNums (Ba fl 1)=strOfNums H5):=(by show _=_;rw[b9,c,Cl];rfl);have bU:Hid (H4++(l.take (b+1)).flatMap Gw=H5++Wl E++Kz N g):=(by show _=_;rw[HT,aT,b9];simp only[List.append_assoc]);have r:S2.size<=1000000:=(by rw[c,Br];exact bH b);have Q:=Ex (fl:Nat) 1;have F:¬9223372036854775807<S2.size+(strOfNums (Ba fl 1)).size:=o_;have a5:Hid ((H5++Wl E++Kz N g).length<=1000000):=(by rw[<- bU];exact bH (b+1));clear b9 c HT aT Q r;generalize strOfNums (Ba (fl:Nat) 1)=s1 at *;go_wp2_with fail
    refine I.mono ?_;rintro e w3 ⟨rfl,y⟩;have aF:Hid (E_ w w3):=y;clear y I A a y2 a6;go_upto_region 24 with fail;clear F;rw[c9];clear c9;go_loopw [3,10] (λt3 t10 wr=>∃(k:Nat) (S:ByteArray),t3=.string S/\t10=.int .i64 k/\k<=fl/\Hid (S=strOfNums (H5++Wl (E.take k)))/\Hid (E_ w wr)) (λ_ t10 _=>fl-(intOf t10).toNat)
    case atStart=>exact⟨0,_,rfl,rfl,qg_,by show _=_;simp[Wl],aF⟩
    case round=>
     clear aF;obtain⟨k,T,rfl,rfl,cH,c,A⟩:=hrel;have a:=A.out;have y2:=Ac a d2;have a6:=Ac a cB
     by_cases hkf:k<fl
     ·have k0:0<=(k:Int):=o_;have k1:k<(fl:Int):=o_;have L:k<E.length:=(by rw[bN];exact hkf);obtain⟨qg,rfl,cx⟩:=cS k L;have y4:=Ac a cx;have dK:=cU k;have P:Hid (Wl (E.take (k+1))=Wl (E.take k)++[((E.getD k 0:Nat):Int)%256]):=ZaA L;clear cx;generalize E.getD k 0=f at *;have I:Hid (C_ 135 #[.int .i64 f,.int .i64 1] wr λe w'=>e=.returned (.string (strOfNums (Ba f 1)))/\E_ w w'):=Ea a _ 1 o_ o_ o_;have U:Hid (T++strOfNums (Ba f 1)=strOfNums (H5++Wl (E.take (k+1)))):=(by show _=_;rw[P,c,Cl,List.append_assoc];rfl);have r:T.size<=1000000:=by rw[c,Br];have C:=a5.out;simp only[Qe,Wl,List.length_map,List.length_take] at C ⊢;omega
      have Q:=Ex (f:Nat) 1;have F:¬9223372036854775807<T.size+(strOfNums (Ba f 1)).size:=o_;clear P c A Q r;generalize strOfNums (Ba (f:Nat) 1)=s3 at *;go_wp2_with fail
      refine I.mono ?_;rintro e w4 ⟨rfl,o⟩;have Z:Hid (E_ w w4):=o;clear o I a y2 a6 y4;go_wp2;go_roundw;case rel=>exact⟨k+1,_,rfl,g_,o_,U,Z⟩
      case measure=>exact z_
     have cI:k=fl:=o_;subst cI;have bF:¬k<(k:Int):=o_;rw[List.take_of_length_le (by rw[bN];omega)] at c;have cY:Hid (T++strOfNums (Kz N g)=strOfNums (H4++(l.take (b+1)).flatMap Gw)):=(by show _=_;rw[bU,c,Cl]);have F:¬9223372036854775807<T.size+(strOfNums (Kz N g)).size:=by rw[c,Br,Br];have C:=a5.out;simp only[Qe] at C ⊢;omega
     clear c;generalize strOfNums (Kz N g)=s4 at *;go_upto_region 27 with fail;have y3:=Ac a d3;have bW:=Ac a cC;refine Al (λw'=>w'.cell? (A_ db 2)=some (L_ q2 Y c2)/\w'.cell? (A_ db 3)=some (L_ q3 Y c3)/\w'.cell? (A_ q2 b)=some (.slice ag k cg)/\w'.cell? (A_ q3 b)=some (.slice ac n cc)) 19 k_ ⟨y2,y3,a6,bW⟩ (λhHeld=>?_);refine Ah 0 ?_;refine Ah 1 ?_;refine Ah 2 ?_;refine Ah 3 ?_;refine Ah 4 ?_;refine Ah 5 ?_;refine Ah 6 ?_;refine Ah 7 ?_;refine Ah 8 ?_;refine Ah 9 ?_;refine Ah 10 ?_;refine Ah 11 ?_;refine Ah 12 ?_;refine Ah 13 ?_;refine Ah 14 ?_;refine Ah 15 ?_;refine Af (i:=16) k_ rfl (λKK hK=>?_);go_simp;refine(aS _ a.drew).mono ?_;rintro e w4 ⟨rfl,o⟩;go_simp;refine hK _ _ ⟨Ac o d2,Ac o d3,Ac o cB,Ac o cC⟩ (λhHeld=>?_)
     clear hK KK;try simp only[Act.put,sA,sB,sC]
     refine Af (i:=17) k_ rfl (λKK hK=>?_);go_simp;refine(b7 _ o).mono ?_;rintro e w5 ⟨rfl,z⟩;go_simp;refine hK _ _ ⟨Ac z d2,Ac z d3,Ac z cB,Ac z cC⟩ (λhHeld=>?_);clear hK KK;try simp only[Act.put,sA,sB,sC]
     refine Ah 18 ?_;refine Ai (i:=19) k_ rfl k_ (λKK hK=>?_);go_simp;refine hK _ _ ?_;clear hK KK;try simp only[Act.put,sA,sB,sC]
     refine Ak k_ ?_ _;have Z:Hid (E_ w w5):=z;clear z hHeld;clear o aS b7 A a y2 a6 y3 bW;go_wp2;go_roundw;case rel=>exact⟨b+1,_,rfl,g_,o_,cY,Z⟩
     case measure=>exact z_
   have c8:b=Y:=o_;subst c8;have aN:¬b<(b:Int):=o_;rw[List.take_of_length_le (by rw[aB.2.1];omega)] at c;obtain⟨H6,bE⟩:∃H6:List Int,H6=H4++l.flatMap Gw:=⟨_,rfl⟩;rw[<- bE] at c u;clear bE aY b8;have y4:=Ac a d4;have I:Hid (C_ 135 #[.int .i64 lx,.int .i64 2] wr λe w'=>e=.returned (.string (strOfNums (Ba lx 2)))/\E_ w w'):=Ea a _ 2 o_ o_ o_;obtain⟨H7,aM⟩:∃H7:List Int,H7=H6++Ba lx 2:=⟨_,rfl⟩;have bD:Hid (S2++strOfNums (Ba lx 2)=strOfNums H7):=(by show _=_;rw[aM,c,Cl]);rw[<- aM] at u;have r:S2.size<=1000000:=by rw[c,Br];have C:=H.out;rw[u,aM] at C;simp only[Qe] at C ⊢;omega
   have Q:=Ex (lx:Nat) 2;have F:¬9223372036854775807<S2.size+(strOfNums (Ba lx 2)).size:=o_
   have d7:Hid (∀k,(H7++(X.take k).flatMap xB).length<=1000000):=λk=>by have C:=H.out;rw[u] at C;simp only[Qe] at C ⊢;have:=Rl xB X k;omega
   clear aM c Q r;generalize strOfNums (Ba (lx:Nat) 2)=s1 at *;go_wp2_with fail
   refine I.mono ?_;rintro e w3 ⟨rfl,y⟩;have aF:Hid (E_ w w3):=y;clear y I A a y2 y4;go_upto_region 30 with fail;clear F;rw[bD];clear bD;go_loopw [3,11] (λt3 t11 wr=>∃(k:Nat) (S:ByteArray),t3=.string S/\t11=.int .i64 k/\k<=lx/\Hid (S=strOfNums (H7++(X.take k).flatMap xB))/\Hid (E_ w wr)) (λ_ t11 _=>lx-(intOf t11).toNat)
   case atStart=>exact⟨0,_,rfl,rfl,qg_,by show _=_;simp,aF⟩
   case round=>
    clear aF;obtain⟨k,T,rfl,rfl,cH,c,A⟩:=hrel;have a:=A.out;have y4:=Ac a d4
    by_cases hkx:k<lx
    ·have k0:0<=(k:Int):=o_;have k1:k<(lx:Int):=o_;have bA:k<X.length:=(by rw[aB.2.2];exact hkx);obtain⟨qx,cx,ex,x0,x1,x2⟩:=c6.2 k bA;have cX:a4=some ⟨qx,0,none⟩:=(by injection ex);subst cX;clear ex;have bT:=HX _ (Na Fk bA);have HT:Hid ((X.take (k+1)).flatMap xB=(X.take k).flatMap xB++xB (X.getD k Fk)):=Kl xB X Fk bA;generalize X.getD k Fk=x at *;obtain⟨xr,xf,xb⟩:=x;simp only at x0 x1 x2 bT;obtain⟨dM,dL,dQ⟩:=bT;have z0:=Ac a x0;have F:=Ac a x1;have z2:=Ac a x2;have aG:Hid (∀W,E_ w W->C_ 135 #[.int .i64 xr,.int .i64 1] W λe w'=>e=.returned (.string (strOfNums (Ba xr 1)))/\E_ w w'):=λW hW=>Ea hW _ 1 o_ o_ o_
     have aD:Hid (∀W,E_ w W->C_ 135 #[.int .i64 xf,.int .i64 1] W λe w'=>e=.returned (.string (strOfNums (Ba xf 1)))/\E_ w w'):=λW hW=>Ea hW _ 1 o_ o_ o_;have bX:Hid (∀W,E_ w W->C_ 135 #[.int .i64 xb,.int .i64 1] W λe w'=>e=.returned (.string (strOfNums (Ba xb 1)))/\E_ w w'):=λW hW=>Ea hW _ 1 o_ o_ o_;have U:Hid (T++strOfNums (Ba xr 1)++strOfNums (Ba xf 1)++strOfNums (Ba xb 1)=strOfNums (H7++(X.take (k+1)).flatMap xB)):=by show _=_;rw[HT,c,Cl,Cl,Cl];simp only[List.append_assoc];rfl
     have r:T.size<=1000000:=(by rw[c,Br];exact d7 k);have Q:=Ex (xr:Nat) 1;have l2:=Ex (xf:Nat) 1;have l3:=Ex (xb:Nat) 1;have u1:¬9223372036854775807<T.size+(strOfNums (Ba xr 1)).size:=o_;have u2:¬9223372036854775807<T.size+(strOfNums (Ba xr 1)).size+(strOfNums (Ba xf 1)).size:=o_;have u3:¬9223372036854775807<T.size+(strOfNums (Ba xr 1)).size+(strOfNums (Ba xf 1)).size+(strOfNums (Ba xb 1)).size:=o_;clear HT c Q l2 l3 r;generalize strOfNums (Ba (xr:Nat) 1)=t1 at *;generalize strOfNums (Ba (xf:Nat) 1)=t2 at *;generalize strOfNums (Ba (xb:Nat) 1)=t3 at *;go_upto_region 32 with fail
     refine Al (λw'=>w'.cell? (A_ db 4)=some (L_ qx lx c4)/\w'.cell? (A_ qx (k*3))=some (I_ (xr:Nat))/\w'.cell? (A_ qx (k*3+1))=some (I_ (xf:Nat))/\w'.cell? (A_ qx (k*3+2))=some (I_ (xb:Nat))) 31 k_ ⟨y4,z0,F,z2⟩ (λhHeld=>?_);refine Ah 0 ?_;refine Ah 1 ?_;refine Ah 2 ?_;refine Ah 3 ?_;refine Ah 4 ?_;refine Ah 5 ?_;refine Ah 6 ?_;refine Ah 7 ?_;refine Ah 8 ?_;refine Ah 11 ?_;refine Ah 12 ?_;refine Ah 13 ?_;refine Ah 14 ?_;refine Ah 15 ?_;refine Ah 16 ?_;refine Ah 17 ?_;refine Ah 18 ?_;refine Ah 21 ?_;refine Ah 22 ?_;refine Ah 23 ?_;refine Ah 24 ?_;refine Ah 25 ?_;refine Ah 26 ?_;refine Ah 27 ?_;refine Ah 28 ?_;refine Af (i:=9) k_ rfl (λKK hK=>?_);go_simp;refine(aG _ a.drew).mono ?_;rintro e w4 ⟨rfl,o⟩;go_simp
     refine hK _ _ ⟨Ac o d4,Ac o x0,Ac o x1,Ac o x2⟩ (λhHeld=>?_);clear hK KK;try simp only[Act.put,sA,sB,sC]
     refine Ah 10 ?_;refine Af (i:=19) k_ rfl (λKK hK=>?_);go_simp;refine(aD _ o).mono ?_;rintro e w5 ⟨rfl,z⟩;go_simp;refine hK _ _ ⟨Ac z d4,Ac z x0,Ac z x1,Ac z x2⟩ (λhHeld=>?_);clear hK KK;try simp only[Act.put,sA,sB,sC]
     refine Ah 20 ?_;refine Af (i:=29) k_ rfl (λKK hK=>?_);go_simp;refine(bX _ z).mono ?_;rintro e w6 ⟨rfl,aA⟩;go_simp;refine hK _ _ ⟨Ac aA d4,Ac aA x0,Ac aA x1,Ac aA x2⟩ (λhHeld=>?_);clear hK KK;try simp only[Act.put,sA,sB,sC]
     refine Ah 30 ?_;refine Ai (i:=31) k_ rfl k_ (λKK hK=>?_);go_simp;refine hK _ _ ?_;clear hK KK;try simp only[Act.put,sA,sB,sC]
     refine Ak k_ ?_ _;have Z:Hid (E_ w w6):=aA;clear aA hHeld;clear o z aG aD bX A a y4 z0 F z2;go_wp2;go_roundw;case rel=>exact⟨k+1,_,rfl,g_,o_,U,Z⟩
     case measure=>exact z_
    have bM:k=lx:=o_;subst bM;have bF:¬k<(k:Int):=o_;rw[List.take_of_length_le (by rw[aB.2.2];omega),<- u] at c;have cW:=c.out;subst cW;clear c u;have bY:=cR wr;go_wp2_with fail
    refine bY.mono ?_;rintro e w4 ⟨rfl,o⟩;have Z:Hid (E_ w w4):=a.trans (o.mono a.size);clear o bY A a y4;go_wp2;go_ret;exact⟨rfl,Z⟩
section
variable {m n budget:Nat} {es:List ES} {Bb:List (List Nat)}
def ZgX(c:Po m n es Bb){g}(a:g<m+1) r:(Bb.getD g []).getD r 0<((Eb es Bb (m+1)).getD g Ay).many:=by
 rw[Fi es Bb a];show _<(es.getD g Ph).cnt+2;rw[Qc]
 rcases Nat.lt_or_ge r (Bb.getD g []).length with b|b
 rw[Qd b];exact c.bin g a _ (Qf _)
 grind
def ZlW(c:Po m n es Bb){r}(d:r<n){g}(a:g<m+1):((Gh es Bb (m+1)).getD g []).getD r false=sO (Eb es Bb (m+1)) Bb g r:=by unfold sO;rw[Lg es Bb a,Fi es Bb a];have b:r<(Bb.getD g []).length:=(by rw[c.lb g a];exact d);unfold oF Dc;rw[Qc,List.getElem?_map,Qd b,Qc (l:=Bb.getD g []),Qd b];rfl
def ZeI:(Ao m n budget es Bb).ks=Eb es Bb (m+1):=Kw _ _ _ _ _
def yy:(Ao m n budget es Bb).ks.length=m+1:=by rw[ZeI];exact Dh _ _ _
def Zkd:(Ao m n budget es Bb).bs.map BS.fs=Dp (Ha m (Eb es Bb (m+1)) (Gh es Bb (m+1)) n budget):=by
  have:=bo (Gh es Bb (m+1)) Bb n (Eb es Bb (m+1)) (Ha m (Eb es Bb (m+1)) (Gh es Bb (m+1)) n budget) ⟨Eb es Bb (m+1),[],[]⟩;unfold Ao Ew
  simpa using this
def Zke{G}(a:G∈Ha m (Eb es Bb (m+1)) (Gh es Bb (m+1)) n budget){f}(b:f∈G.fs):f<m+1:=by
 have c:f∈Fh (Ha m (Eb es Bb (m+1)) (Gh es Bb (m+1)) n budget):=by grind [Fh]
 grind [Nd]
def ZiX(j:Po m n es Bb){X}(p:X.Perm (Ao m n budget es Bb).xs){f r}(l:f<m+1)(k:r<n):xbF X f r (Jp (Ao m n budget es Bb).ks ((Ao m n budget es Bb).bs.map BS.fs) ((Ao m n budget es Bb).bs.map BS.N) r f)=(Bb.getD f []).getD r 0:=by
 have b:=Dh es Bb (m+1);have o:∀r,_->∀g,g<(Eb es Bb (m+1)).length->_=sO _ _ g r:=λr k g hg=>ZlW j k o_;have h:=Zas (n:=n) b (Nd m (Eb es Bb (m+1)) _ n _) (Tq m _ (Gh es Bb (m+1)) n budget) (λi hi r=>ZgX j hi r) o;have c:=Zar (n:=n) (Gs:=Ha m (Eb es Bb _) _ n budget) (λG hG f l=>by rw[b];exact Zke hG l) (λi hi r=>ZgX j o_ r) o;have a:(Ao m n _ _ _).bs.map _=_:=c;rw[ZeI,Zkd,a];have d:=λx=>p.mem_iff.trans (h x);unfold xbF
 cases hfd:X.find? (λy=>decide (rp r f y)) with
 | some y=>
  grind
 | none=>
  rw[List.find?_eq_none] at hfd
  by_cases e:Jp (Eb es Bb (m+1)) (Dp (Ha m (Eb es Bb (m+1)) (Gh es Bb (m+1)) n budget)) ((Dp (Ha m (Eb es Bb (m+1)) (Gh es Bb (m+1)) n budget)).map (λfs=>He (Eb es Bb (m+1)) Bb fs n)) r f=(Bb.getD f []).getD r 0
  exact e;exact absurd (decide_eq_true (show rp r f _ from⟨rfl,rfl⟩)) (hfd _ ((d ⟨r,f,(Bb.getD f _).getD r 0⟩).2 ⟨k,l,decide_eq_true e,rfl⟩))
end
def ce{α:Type}(f:α->List Int) c:∀(L:List α),(∀x∈L,(f x).length<=c)->(L.flatMap f).length<=L.length*c
 |[],_=>s_
 |x::L,h=>by have h1:=h x s_;have h2:=ce f c L (λy hy=>h y (by simp[hy]));rw[List.flatMap_cons,Qe,List.length_cons,Nat.succ_mul];omega
def Zik{n D}(a:Mt n D)(e:∀K∈D.ks,oe K){X}(d:X.Perm D.xs):(Ob D X).length<=100000:=by have j:=ce Pj _ _ (λK hK=>ZeC (e K hK));have g:=ce _ _ _ (λb hb=>(a.bun b hb).2.2.2.2);have i:=ce xB 3 X (λx _=>qa_);have h:=a.k4;have f:=a.b4;have c:=a.xl;rw[<- d.length_eq] at c;unfold Ob;simp only[Qe,List.length_cons,List.length_nil,Gc];omega
def ZbE{m n a d c}(P:m+1<=4)(E:n<=200)(g:Po m n d c)(j:∀K∈(Ao m n a d c).ks,oe K)(y:∀K∈(Ao m n a d c).ks,∀x∈K.e.bs,-4294967296<=x){X}(D:X.Perm (Ao m n a d c).xs) F o Q L H M u A z w (h:RfX w o F n Q L H M u A z (Ao m n a d c).ks ((Ao m n a d c).bs.map BS.fs) ((Ao m n a d c).bs.map BS.N) X):C_ 76 #[.pointer (some ⟨F,0,none⟩)] w λe w'=>e=.returned (.string (strOfNums (Ml (Ao m n a d c) X)))/\Below w.heap.size w w':=by
 have f:=Jk (budget:=a) P E g;have q:=Zik f j D;have t:=ZeT (Ao m n a d c) X;have p:=(f.bok _ (f.mem f.b0)).len;have C:Ml (Ao m n a d c) X=Se n (Ao m n a d c).ks (Ao m n a d c).bs X++Ba (Jt (Se n (Ao m n a d c).ks (Ao m n a d c).bs X)) 4:=(by unfold Ml Ob Se;rw[p]);have B:Ob (Ao m n a d c) X=Se n (Ao m n a d c).ks (Ao m n a d c).bs X:=(by unfold Ob Se;rw[p]);rw[B] at q t;rw[C];have J:=f.mn;have I:=f.k4;refine Zdu _ _ n _ _ _ _ _ _ _ _ _ X w h (λK hK=>?_) (λb hb=>?_) o_ (by have:=f.b4;omega) (by rw[D.length_eq];have:=f.xl;omega) (λx hx=>?_) E o_ t
 ·obtain⟨i,v,rfl⟩:=List.getElem_of_mem hK;have e:(Ao m n a d c).ks.getD i Ay=(Ao m n a d c).ks[i]:=w_;have l:=h.one i v;have G:=f.mn i v;have O:=f.dn i v;rw[e] at l G O;refine⟨l,λx hx=>⟨y _ hK x hx,?_⟩,λs hs=>?_,o_⟩
  ·rcases j _ hK with h|h
   ·grind
   grind
  rcases j _ hK with h|h
  ·grind
  grind
 ·have l:=f.bok b hb;have G:=f.g40 b hb;refine⟨l.len,by have:=f.f4 b hb;omega,f.fk b hb,λk=>?_,l.sum,o_,λr=>?_⟩
  ·rw[Qc]
   rcases Nat.lt_or_ge k b.fs.length with g|g
   ·rw[Qd g];have:=f.fk b hb _ (Qf g)
    grind
   grind
  rw[Qc]
  rcases Nat.lt_or_ge r b.N.length with g|g
  ·rw[Qd g];have:=l.le _ (Qf g)
   grind
  grind
 have:=f.xin x (D.subset hx);omega
def Fx(w w':World)(o:Nat->Nat)(g N:Nat)(c:Array Value):Prop:=∃o' c',Hx w' o' g c' N/\Dq w o o'/\Aa (λk=>o k<=13∨o k=99) w w'/\(∀j,j<4->c'[j]? =c[j]?)/\(∀k,w.heap.size<=k∨o k=99->o' k<=13∨o' k=99)/\∀k,w'.heap.size<=k->o' k=99
def Hx.norm{w o g N c}(h:Hx w o g c N):Hx w (λk=>if k<w.heap.size then o k else 99) g c N:=
 h.keep (S:=λ_=>False) (Aa.refl _ _) (λ_ _ e=>e.elim) (λk hk=>.inr (by simp[hk]))
def Hx.more{w o g N b c}(h:Hx w o g c N)(a:N<=b):Hx w o g c b:=by obtain⟨z,f,d,i⟩:=h.nx;exact⟨h.wb,h.og,h.sz,⟨z,f,d,o_⟩,h.es.keep (S:=λ_=>False) (Aa.refl _ _) (λ_ _ e=>e.elim) (Dq.refl _ _) d_ rfl rfl a,h.ns.keep (S:=λ_=>False) (Aa.refl _ _) (λ_ _ e=>e.elim) (Dq.refl _ _) d_ rfl rfl a,h.ss.keep (S:=λ_=>False) (Aa.refl _ _) (λ_ _ e=>e.elim) (Dq.refl _ _) d_ rfl rfl a,h.ls.keep (S:=λ_=>False) (Aa.refl _ _) (λ_ _ e=>e.elim) (Dq.refl _ _) d_ rfl rfl a⟩
def Fx.of_q2{w b o g N c}(h:Lr w b o g N c){d}(i:N<=d):Fx w b o g d c:=by
 obtain⟨p,f,m,j,a,l,r,n⟩:=h;have q:=a.size;refine⟨_,f,m.norm.more i,λk hk=>?_,a,l,λk hk=>?_,λk hk=>w_⟩
 ·rcases j k hk with e|e
  exact .inl e
  grind
 grind
def Fx.of_below{w w' o g N c}(h:Hx w o g c N)(hb:Below w.heap.size w w')(h9:∀k,w.heap.size<=k->o k=99){N'}(hN:N<=N'):Fx w w' o g N' c:=
 ⟨o,c,(h.keep (S:=λ_=>False) (.of_below hb) (λ_ _ e=>e.elim) (Dq.refl _ _)).more hN,Dq.refl _ _,.of_below hb,λ_ _=>rfl,λk hk=>.inr (hk.elim (h9 k) id),λk hk=>h9 k (Nat.le_trans hb.size hk)⟩
def Fx.trans{w b f o a g N c i}(m:Dq w o a)(l:Aa (λk=>o k<=13∨o k=99) w b)(q:∀j,j<4->i[j]? =c[j]?)(x:∀k,w.heap.size<=k∨o k=99->a k<=13∨a k=99)(h:Fx b f a g N i):Fx w f o g N c:=by
 obtain⟨n,p,s,d,r,v,y,t⟩:=h;refine⟨n,p,s,m.trans l.size d,l.trans2 r (λk hk=>?_),λj hj=>(v j hj).trans (q j hj),λk hk=>?_,t⟩
 ·by_cases hl:k<w.heap.size
  ·left
   rcases m k hl with e|e
   exact .inr e;omega
  omega
 rcases x k hk with e|e
 ·by_cases hl:k<b.heap.size
  ·rcases d k hl with u|u
   omega;omega
  grind
 grind
structure Jv(W:World)(dp gb db yb base m n budget:Nat)(es)(Bb)(vF vB vC vX)(kvs)(bvs cvs)(X):Prop where
 dp:W.heap[dp]? =some (.cells #[P_ gb,P_ yb] 137 (0,0))
 x:Mw W gb db (Ao m n budget es Bb)
 y:RfX W base yb n vF vB vC vX kvs bvs cvs (Ao m n budget es Bb).ks ((Ao m n budget es Bb).bs.map BS.fs) ((Ao m n budget es Bb).bs.map BS.N) X
structure On(m n budget)(es)(Bb)(X:List XS):Prop where
 hm:m+1<=4
 hn:n<=200
 hk:Po m n es Bb
 kn:∀K∈(Ao m n budget es Bb).ks,oe K
 kr:∀K∈(Ao m n budget es Bb).ks,∀x∈K.e.bs,-4294967296<=x
 pm:X.Perm (Ao m n budget es Bb).xs
 so:Fp X
section
variable {w w':World} {dp gb db yb base m n budget:Nat} {es:List ES} {Bb:List (List Nat)} {vF vB vC vX:Value} {kvs:List (Value×Value)} {bvs cvs:List Value} {X:List XS}
def Jv.below(h:Jv w dp gb db yb base m n budget es Bb vF vB vC vX kvs bvs cvs X)(hb:Below w.heap.size w w'):Jv w' dp gb db yb base m n budget es Bb vF vB vC vX kvs bvs cvs X:=
 ⟨(hb.block _ (Qb h.dp).1).trans h.dp,h.x.below hb,h.y.keep (.of_below hb)⟩
def Jv.cells(h:Jv w dp gb db yb base m n budget es Bb vF vB vC vX kvs bvs cvs X):w.cell? (A_ dp 0)=some (P_ gb)/\w.cell? (A_ dp 1)=some (P_ yb)/\w.cell? (A_ yb 0)=some (I_ n)/\w.cell? (A_ yb 1)=some vF/\w.cell? (A_ yb 2)=some vB:=
 ⟨cq_ 0 _ 137 (0,0) h.dp,cq_ 1 _ 137 (0,0) h.dp,cq_ 0 _ 142 (0,0) h.y.ds,cq_ 1 _ 142 (0,0) h.y.ds,cq_ 2 _ 142 (0,0) h.y.ds⟩
def Zcq g q l c d b x y z t A v D o r u wc s (h:Jv w dp gb db yb base m n budget es Bb vF vB vC vX kvs bvs cvs X)(j:On m n budget es Bb X):C_ 77 #[.pointer (some ⟨g,0,none⟩),.pointer (some ⟨dp,0,none⟩),.agg #[.int .i64 8,.int .i64 q,.int .i64 l,.slice z v D,.int .i64 c,.int .i64 d,.int .i64 b,.slice t o r,.slice A u wc,.string s,.int .i64 x,.int .i64 y]] w λe w'=>e=.returned (.bool true)/\Below w.heap.size w w':=by
 have G:=x1_ (Jk (budget:=budget) j.hm j.hn j.hk);have k:Hid (∀W,Below _ w W->_):=λW hW=>h.below hW;clear h j;go_enter Tryz.func77,Tryz.ntmps77;go_upto_region 3 with fail;generalize hw1:w.alloc (.cells #[I_ 8,I_ q,I_ l,.slice z v D,I_ c,I_ d,I_ b,.slice t o r,.slice A u wc,.string s,I_ x,I_ y] 93)=w1;have a:E_ w w1:=(by rw[<- hw1];exact bA_);clear hw1;obtain⟨H,p,B,_,_⟩:=(k w1 a).cells;have C:=Zc6 _ _ n _ _ (k _ a).x G;clear p B;go_wp2_with fail
 refine C.mono ?_;rintro e F ⟨rfl,i⟩;have f:=a.trans (i.mono a.size);obtain⟨_,p,B,_,_⟩:=(k F f).cells;have E:=x1_ f;clear f i a C H;go_wp2;go_ret;exact⟨s_,E⟩
def Zau g j q A f d i x y E r v D z B s u wc C (h:Jv w dp gb db yb base m n budget es Bb vF vB vC vX kvs bvs cvs X)(k:On m n budget es Bb X)(P:j≠8)(O:j≠9)(J:j≠10)(H:j≠11):C_ 77 #[.pointer (some ⟨g,0,none⟩),.pointer (some ⟨dp,0,none⟩),.agg #[.int .i64 j,.int .i64 q,.int .i64 A,.slice E D z,.int .i64 f,.int .i64 d,.int .i64 i,.slice r B s,.slice v u wc,.string C,.int .i64 x,.int .i64 y]] w λe w'=>e=.returned (.bool true)/\Below w.heap.size w w':=by
 have c:=x2_ (Jk (budget:=budget) k.hm k.hn k.hk) k;have p:Hid (∀W,Below _ w W->_):=λW hW=>h.below hW;clear h k;go_enter Tryz.func77,Tryz.ntmps77;go_upto_region 26 with fail;generalize hw1:w.alloc (.cells #[I_ j,I_ q,I_ A,.slice E D z,I_ f,I_ d,I_ i,.slice r B s,.slice v u wc,.string C,I_ x,I_ y] 93)=w1;have a:E_ w w1:=(by rw[<- hw1];exact bA_);clear hw1;obtain⟨I,_,_,_,_⟩:=(p w1 a).cells;have F:=ZaX _ _ n _ _ (p _ a).x c.1 c.2.kn X c.2.pm c.2.so;have t:=x1_ (λW hW=>ZbE c.2.hm c.2.hn c.2.hk c.2.kn c.2.kr c.2.pm _ _ _ _ _ _ _ _ _ W (p W hW).y);generalize strOfNums (Ml (Ao m n budget es Bb) X)=sb at *;go_wp2_with fail
 refine F.mono ?_;rintro e L ⟨rfl,o⟩;have b:=a.trans (o.mono a.size);obtain⟨_,M,_,_,_⟩:=(p L b).cells;clear o a F I;go_wp2_with fail
 refine(t _ b).mono ?_;rintro e N ⟨rfl,l⟩;have G:=x1_ (b.trans (l.mono b.size));clear l b M t;go_wp2;go_ret;exact⟨s_,G⟩
end
def Dd.keep{w f c n e g d S}(h:Dd w c 0 n e g d)(t:Aa S w f)(j:¬S c)(k:c<w.heap.size):Dd f c 0 n e g d:=by have b:=λo=>cb_ (w:=w) (a:=(A_ c o)) (t.block _ k j);exact⟨h.le,λh0=>Qh (h.lt h0) t.size,λi hi=>(b _).trans (h.c0 i hi),λi hi=>(b _).trans (h.c1 i hi),λi hi=>(b _).trans (h.c2 i hi)⟩
section
variable {w w':World} {o o':Nat->Nat} {t ib yb fk fc m:Nat} {wd:Nat->Bool} {sc ct:Nat->Int} {bins:Int} {size budget:Nat} {T b:ByteArray} {cl:Bool}
def Kv(w:World)(o:Nat->Nat)(t yb fk fc m:Nat)(wd:Nat->Bool)(sc ct:Nat->Int)(bins:Int)(size budget:Nat)(T:ByteArray)(cl:Bool):Prop:=
 o yb=t/\o fk=t/\fk≠yb/\fk<w.heap.size/\Dd w fk 0 (m+1) wd sc ct/\∃S z p,mu w yb fk (m+1) fc bins size budget S z p cl/\(cl=false->S=T/\z=(Nr (Me m wd sc T)).1/\p=(Nr (Me m wd sc T)).2)
def Kv.lt(h:Kv w o t yb fk fc m wd sc ct bins size budget T cl):yb<w.heap.size:=by obtain⟨_,_,_,_,_,S,z,p,a,_⟩:=h;exact(Qb a).1
def Kv.keep{S}(h:Kv w o t yb fk fc m wd sc ct bins size budget T cl)(c:Aa S w w')(g:∀k,k<w.heap.size->S k->o k≠t)(r:Dq w o o')(v:t≠99):Kv w' o' t yb fk fc m wd sc ct bins size budget T cl:=by
 have a:=h.lt;obtain⟨i,d,s,b,j,u,z,p,n,l⟩:=h
 have f:∀k,k<w.heap.size->o k=t->o' k=t:=λk hk e=>by rcases r k hk with q|q<;>omega
 exact⟨f _ a i,f _ b d,s,Qh b c.size,j.keep c (λe=>g _ b e d) b,u,z,p,c.at_ n (λe=>g _ a e i),l⟩
def feedY(B:Si m wd sc ct bins size budget)(h:Kv w o t yb fk fc m wd sc ct bins size budget T cl)(v:t≠99)(G:T.size+b.size<=200000000000000):C_ 125 #[.pointer (some ⟨yb,0,none⟩),.string b] w λe w'=>e=.returned (.tuple #[.int .i64 (fdZ m wd sc (Ws m wd sc T b cl) cl).1,.int .i64 (fdZ m wd sc (Ws m wd sc T b cl) cl).2])/\Kv w' (Db w w' o t) t yb fk fc m wd sc ct bins size budget (Ws m wd sc T b cl) cl/\Aa (λk=>o k=t) w w':=by
 have A:=h;have n:=h.lt;obtain⟨C,E,l,j,y,a,z,p,i,D⟩:=h;have H:=B.hm
 cases cl with
 | true=>
  refine(zm _ _ _ _ _ _ _ z p _ b w i).mono ?_;rintro e w' ⟨rfl,rfl⟩;have g:Ws m wd sc T b true=T:=rfl;rw[g];exact⟨rfl,A.keep (S:=λ_=>False) (Aa.refl _ _) (λ_ _ e=>e.elim) (Ep _ _ _ _) v,Aa.refl _ _⟩
 | false=>
  obtain⟨rfl,rfl,rfl⟩:=D rfl
  cases hs2:Me m wd sc a with
  | error q=>
   obtain⟨z,p⟩:=q;have F:=Lh _ _ _ hs2;rw[hs2] at i;refine(ZbG _ _ _ _ _ _ _ z p _ b w i o_).mono ?_;rintro e w' ⟨rfl,x,rfl⟩;have g:Ws m wd sc a b false=a:=(by unfold Ws;rw[hs2];rfl);have r:fdZ m wd sc a false=(z,(p:Int)):=(by unfold fdZ;rw[hs2];rfl);have d:E_ w _:=below_drewN bz_ x;rw[g,r];exact⟨rfl,A.keep (S:=λ_=>False) (.of_below d) (λ_ _ e=>e.elim) (Ep _ _ _ _) v,.of_below d⟩
  | ok s=>
   rw[hs2] at i;have g:Ws m wd sc a b false=a++b:=(by unfold Ws;rw[hs2];rfl);have r:fdZ m wd sc (a++b) false=fdA (a++b) (Jd (a++b) (m+1) wd sc ((a++b).size+1) [] 0):=(by unfold fdZ;rw[ZcT _ _ _ _ o_];rfl);rw[g,r];refine(Zf2 _ _ _ _ _ _ _ _ b _ _ _ w i y l j o_ B.sc w_).mono ?_;rintro e w' ⟨rfl,u,c⟩;have f:Aa (λk=>_=t) w _:=c.mono (λk _ hq=>by subst hq;exact C);refine⟨rfl,⟨(Dz n).trans C,(Dz j).trans E,l,Qh j c.size,y.keep c l j,a++b,_,_,u,λ_=>⟨rfl,?_,?_⟩⟩,f⟩;rw[ZcT _ _ _ _ o_];rfl;rw[ZcT _ _ _ _ o_];rfl
end
def eS(wd:Nat->Bool)(ct:Nat->Int)(bins:Int)(size:Nat)(s:RS)(i:Nat):ES:=Ck Mb (wd i) (ct i) bins size (s.cols i) s.ws
def esS(m:Nat)(wd:Nat->Bool)(ct:Nat->Int)(bins:Int)(size:Nat)(s:RS):List ES:=(List.range (m+1)).map (eS wd ct bins size s)
def bbS(m:Nat)(wd:Nat->Bool)(ct:Nat->Int)(bins:Int)(size:Nat)(s:RS):List (List Nat):=(List.range (m+1)).map (λi=>(s.cols i).map (Dy (eS wd ct bins size s i)))
section
variable {w w':World} {o o':Nat->Nat} {t ib yb fk fc m:Nat} {wd:Nat->Bool} {sc ct:Nat->Int} {bins:Int} {size budget:Nat} {T b:ByteArray} {cl:Bool}
def whole(m:Nat)(wd:Nat->Bool)(sc:Nat->Int)(T:ByteArray)(cl:Bool)(s:RS):Prop:=cl=false/\Me m wd sc T=.ok s/\s.wt=0
def clZ(m:Nat)(wd:Nat->Bool)(sc:Nat->Int)(T:ByteArray)(cl:Bool):Int×Int:=if cl=true then(1,0) else match Me m wd sc T with
 |.error (z,p)=>(z,p)
 |.ok _=>(2,T.size)
def clC(m:Nat)(wd:Nat->Bool)(sc:Nat->Int)(T:ByteArray)(cl:Bool):Bool:=if cl=true then true else match Me m wd sc T with
 |.error _=>false
 |.ok _=>true
def Zme(w:World)(o:Nat->Nat)(t ib m:Nat)(wd:Nat->Bool)(sc ct:Nat->Int)(bins:Int)(size budget:Nat)(T:ByteArray)(cl:Bool)(e:Ending)(w':World):Prop:=
 ((∀s,¬whole m wd sc T cl s)/\e=.returned (.tuple #[.pointer none,I_ (clZ m wd sc T cl).1,I_ (clZ m wd sc T cl).2])/\Oq w' (Db w w' o t) t ib m wd sc ct bins size budget T (clC m wd sc T cl)/\Aa (λk=>o k=t) w w')∨
 (∃s gb db,whole m wd sc T cl s/\e=.returned (.tuple #[P_ gb,I_ 0,I_ 0])/\Ze9 w.heap.size w' gb db (Ao m s.ws.length budget (esS m wd ct bins size s) (bbS m wd ct bins size s))/\Sj w' ib true 0 0/\Aa (λk=>k=ib) w w')
def Zk5(a:Si m wd sc ct bins size budget)(h:Oq w o t ib m wd sc ct bins size budget T cl)(n:t≠99):C_ 50 #[.pointer (some ⟨ib,0,none⟩)] w λe w'=>Zme w o t ib m wd sc ct bins size budget T cl e w':=by
 have r:=h;obtain⟨v,u,A⟩:=h;have d:∀i,_->_->_/\_:=λi hi hw=>⟨(a.sc i hi).1,(a.sc i hi).2 hw⟩;have C:=a.hm
 rcases A with⟨e,z,p,hd⟩|⟨e,z,p,hs2,hd⟩|⟨e,s,K,M,tb,rb,fb,cb,hs2,hx,hk,ht⟩
 subst e;refine(xi _ z p w hd).mono ?_;rintro e w' ⟨rfl,rfl⟩;exact .inl ⟨λs q=>by simp[whole] at q,rfl,r.keep (S:=λ_=>False) (Aa.refl _ _) (λ_ _ e=>e.elim) (Ep _ _ _ _) n,Aa.refl _ _⟩;subst e;have B:=Lh _ _ _ hs2;refine(ZaF _ z p w hd B).mono ?_;rintro e w' ⟨rfl,x,rfl⟩;have c:E_ w _:=below_drewN bz_ x;have g:clZ m wd sc T false=(z,(p:Int)):=(by unfold clZ;rw[hs2];rfl);have l:clC m wd sc T false=false:=(by unfold clC;rw[hs2];rfl);refine .inl ⟨λs q=>(by have:=q.2.1;rw[hs2] at this;cases this),by rw[g],?_,.of_below c⟩;rw[l];exact r.keep (S:=λ_=>False) (.of_below c) (λ_ _ e=>e.elim) (Ep _ _ _ _) n
 subst e;have g:clZ m wd sc T false=(2,(T.size:Int)):=(by unfold clZ;rw[hs2];rfl);have l:clC m wd sc T false=true:=by unfold clC;rw[hs2];rfl
 by_cases hwt:s.wt=0
 have b:=Pw (ct:=ct) d a.b1 a.b2 (by have:=a.b1;have:=a.s1;omega) a.s2 hs2;refine(xj Mb (eS wd ct _ _ s) hx hwt (Ht.takes o_ d _ (Ht.start o_) hs2) C a.bu b.wok (λi=>rfl) b.ok b.num b.ws (by have:=a.b1;have:=a.s1;omega) a.s2 a.b1 a.b2).mono ?_;rintro e w' ⟨D,y,rfl,E,j,f⟩;exact .inr ⟨s,D,y,⟨rfl,hs2,hwt⟩,rfl,E,j,f⟩;refine(ZcJ hx hwt).mono ?_;rintro e w' ⟨rfl,j,f⟩;refine .inl ⟨λs' q=>by have:=q.2.1;rw[hs2] at this;injection this with this;subst this;exact hwt q.2.2,by rw[g],?_,f.mono (λk _ q=>by subst q;exact v)⟩;rw[l];exact⟨(Dz u).trans v,Qh u f.size,.inl ⟨rfl,0,0,j⟩⟩
def Zmf(w:World)(o:Nat->Nat)(t yb fk fc m:Nat)(wd:Nat->Bool)(sc ct:Nat->Int)(bins:Int)(size budget:Nat)(T:ByteArray)(cl:Bool)(e:Ending)(w':World):Prop:=
 ((∀s,¬whole m wd sc T cl s)/\e=.returned (.tuple #[.pointer none,I_ (clZ m wd sc T cl).1,I_ (clZ m wd sc T cl).2])/\Kv w' (Db w w' o t) t yb fk fc m wd sc ct bins size budget T (clC m wd sc T cl)/\Aa (λk=>o k=t) w w')∨
 (∃s yd,whole m wd sc T cl s/\e=.returned (.tuple #[P_ yd,I_ 0,I_ 0])/\Zan w w' yd s.ws.length (Ao m s.ws.length budget (esS m wd ct bins size s) (bbS m wd ct bins size s))/\mu w' yb fk (m+1) fc bins size budget T 0 0 true/\Aa (λk=>k=yb) w w')
def Zhh(b:Si m wd sc ct bins size budget)(h:Kv w o t yb fk fc m wd sc ct bins size budget T cl)(L:t≠99)(Z:T.size<=200000000000000):C_ 126 #[.pointer (some ⟨yb,0,none⟩)] w λe w'=>Zmf w o t yb fk fc m wd sc ct bins size budget T cl e w':=by
 have O:=h;have G:=h.lt;have g:∀i,_->_->_/\_:=λi hi hw=>⟨(b.sc i hi).1,(b.sc i hi).2 hw⟩;obtain⟨J,X,E,B,N,a,z,p,r,P⟩:=h;have W:=b.hm
 cases cl with
 | true=>
  refine(qi _ _ _ _ _ _ _ z p _ w r).mono ?_;rintro e w' ⟨rfl,rfl⟩;exact .inl ⟨λs q=>by simp[whole] at q,rfl,O.keep (S:=λ_=>False) (Aa.refl _ _) (λ_ _ e=>e.elim) (Ep _ _ _ _) L,Aa.refl _ _⟩
 | false =>
  obtain⟨rfl,rfl,rfl⟩:=P rfl
  cases hs2:Me m wd sc a with
  | error q=>
   obtain⟨z,p⟩:=q;have F:=Lh _ _ _ hs2;rw[hs2] at r;have C:clZ m wd sc a false=(z,(p:Int)):=(by unfold clZ;rw[hs2];rfl);have I:clC m wd sc a false=false:=(by unfold clC;rw[hs2];rfl);refine(zl _ _ _ _ _ _ _ z p _ w r (by rcases F with e|e<;>omega)).mono ?_;rintro e w' ⟨rfl,x,rfl⟩;have f:E_ w _:=below_drewN bz_ x;refine .inl ⟨λs q=>(by have:=q.2.1;rw[hs2] at this;cases this),by rw[C],?_,.of_below f⟩;rw[I];exact O.keep (S:=λ_=>False) (.of_below f) (λ_ _ e=>e.elim) (Ep _ _ _ _) L
  | ok s=>
   rw[hs2] at r;have C:clZ m wd sc a false=(2,(a.size:Int)):=(by unfold clZ;rw[hs2];rfl);have I:clC m wd sc a false=true:=(by unfold clC;rw[hs2];rfl);have c:Ca _ _ _ _ _ 0=_:=hs2;have D:=Pw (ct:=ct) g b.b1 b.b2 (by have:=b.b1;have:=b.s1;omega) b.s2 c;have u:=ZbR (S:=a) (n:=m+1) (wd:=wd) (sc:=sc) o_;refine(Zdw yb fk m fc size _ bins a wd sc ct (λi=>Ck Mb (wd i) (ct i) bins size (Bn (Jd a (m+1) wd sc (a.size+1) [] 0).1 i) (Fr (Jd a (m+1) wd sc (a.size+1) [] 0).1)) w r N E B W b.sc o_ b.bu (by have:=b.b1;have:=b.s1;omega) b.s2 b.b1 b.b2 b.ct ?_).mono ?_
   ·rintro R rfl F
    rcases u with⟨s',q1,q2,q3,q4,q5⟩|⟨s',q1,q2,q3,q4⟩|⟨q1,q2,q3⟩
    rw[c] at q1;injection q1 with q1;subst q1;obtain⟨Q,U⟩:=Zf9 g c rfl q5;refine⟨Q,U,λi=>rfl,λi hi=>?_⟩;have y:=D.ok i hi;rw[q5.1,q5.2 i hi] at y;exact y;omega;exact absurd F q2
   rintro e w' ⟨l,A,M⟩;have d:Kv _ (Db w w' o t) t _ _ _ m _ _ _ _ _ _ a _:=⟨(Dz G).trans J,(Dz B).trans X,E,Qh B A.size,N.keep A E B,a,0,0,l,λe=>by cases e⟩
   rcases u with⟨s',q1,q2,q3,q4,q5⟩|⟨s',q1,q2,q3,q4⟩|⟨q1,q2,q3⟩
   ·rw[c] at q1;injection q1 with q1;subst q1
    rcases M with⟨g1,_⟩|⟨_,yd,rfl,hM⟩
    exact absurd q3 g1;refine .inr ⟨s,yd,⟨rfl,hs2,q2⟩,rfl,?_,l,A⟩;have H:s.ws.length=(Jd a (m+1) wd sc (a.size+1) [] 0).1.length:=by rw[q5.1,List.length_map]
    have j:∀i,i<m+1->Ck Mb (wd i) (ct i) bins size (Bn (Jd a (m+1) wd sc (a.size+1) [] 0).1 i) (Fr (Jd a (m+1) wd sc (a.size+1) [] 0).1)=eS wd ct bins size s i:=λi hi=>by unfold eS;rw[q5.1,q5.2 i hi];rfl
    have V:Ou m (λi=>Ck Mb (wd i) (ct i) bins size (Bn (Jd a (m+1) wd sc (a.size+1) [] 0).1 i) (Fr (Jd a (m+1) wd sc (a.size+1) [] 0).1))=esS m wd ct bins size s:=by unfold Ou esS;exact List.map_congr_left (λi hi=>j i (by simpa using hi))
    have Y:Ih m (Jd a (m+1) wd sc (a.size+1) [] 0).1 (λi=>Ck Mb (wd i) (ct i) bins size (Bn (Jd a (m+1) wd sc (a.size+1) [] 0).1 i) (Fr (Jd a (m+1) wd sc (a.size+1) [] 0).1))=bbS m wd ct bins size s:=by
     unfold Ih bbS;refine List.map_congr_left (λi hi=>?_)
     have v:i<m+1:=by simpa using hi
     unfold Mr;show List.map (Dy (Ck Mb (wd i) (ct i) bins size (Bn (Jd a (m+1) wd sc (a.size+1) [] 0).1 i) (Fr (Jd a (m+1) wd sc (a.size+1) [] 0).1))) (Bn (Jd a (m+1) wd sc (a.size+1) [] 0).1 i)=_;rw[j i v,q5.2 i v];rfl
    rw[V,Y,<- H] at hM;exact hM
   ·rw[c] at q1;injection q1 with q1;subst q1
    rcases M with⟨_,rfl⟩|⟨g1,_⟩
    rw[q3,q4];refine .inl ⟨λs' q=>by have:=q.2.1;rw[hs2] at this;injection this with this;subst this;exact q2 q.2.2,by rw[C],?_,A.mono (λk _ q=>by subst q;exact J)⟩;rw[I];exact d;omega
   rw[c] at q1
   cases q1
end
def vi.startB{w a s o u q r n x t v j g c}(h:vi w a s o u q r n x t v j g c):∃K M,InX w K M s o q u r n x t v j g c RS.start 0/\(∀k,K k∨M k->a<=k/\k<w.heap.size)/\a<=s/\a<=o:=by
 have m:=h.tx.rd;unfold RB at m;refine⟨λk=>a<=k/\∃b f,w.heap[k]? =some (.cells b f (0,0))/\(f=3∨f=261∨f=263),λk=>k=q∨k=r,⟨h.ik,h.tx.tx,⟨.slice none 0 0,.slice none 0 0,.slice none 0 0,λ_=>.slice none 0 0,?_⟩,?_,?_⟩,?_,h.lo,h.tx.lo.1⟩
 ·refine⟨h.tx.rd,rn_,rn_,rn_,⟨_,h.tx.cl,?_,λi hi=>?_⟩,λ_ _=>rn_,Ta.of_made _ h.tx.fs ⟨h.tx.lo.2.1,?_⟩ (λk b f d l p=>⟨d,b,f,l,w_⟩),λ_ _ _ _ _=>.inl rfl,λ_ _=>.inl rfl,.inl rfl,.inr rfl,?_,?_,?_,?_,?_,?_⟩;simp[madeCells]
  ·rw[<- Array.getElem?_toList,Qu]
   grind
  ·obtain⟨b,y,_⟩:=h.tx.fs
   grind
  intro k d;simp[Value.ownBlock] at d;intro k d;simp[Value.ownBlock] at d;intro k d;simp[Value.ownBlock] at d;intro i k _ d;simp[Value.ownBlock] at d
  ·rintro k ⟨_,b,f,l,p⟩;refine⟨(Qb l).1,?_⟩;rintro(e|e)
   ·grind
   rw[e,h.tx.cl] at l;grind
  rintro k (e|e)
  ·grind
  rw[e];exact(Qb h.tx.cl).1
 refine⟨?_,?_⟩;rintro⟨_,b,f,l,p⟩;rw[h.ik] at l;grind;rintro(e|e);have:=h.ik;grind;have:=h.ik;rw[e,h.tx.cl] at this;simp at this;refine⟨?_,?_⟩;rintro⟨_,b,f,l,p⟩;rw[h.tx.tx] at l;grind;rintro(e|e);have:=h.tx.tx;grind;have:=h.tx.tx;rw[e,h.tx.cl] at this;simp at this;rintro k (e|e|e)
 ·grind
 rw[e];exact⟨h.tx.lo.2.2.1,(Qb m).1⟩;rw[e];exact⟨h.tx.lo.2.2.2,(Qb h.tx.cl).1⟩
section
variable {w:World} {o:Nat->Nat} {t m:Nat} {wd:Nat->Bool} {sc ct:Nat->Int} {bins:Int} {size budget:Nat}
def Si.of(h:Hz (m+1) bins size budget wd sc ct=true):Si m wd sc ct bins size budget:=by
 obtain⟨_,a,d,b,c,e,_,g,f⟩:=La h;refine⟨a,λi hi=>?_,λi hi hw=>?_,d,b,c,o_,o_⟩
 ·grind [Lc]
 grind [Lc]
def Zkq b c x (n:Dd w b c (m+1) wd sc ct)(u:Hz (m+1) bins size budget wd sc ct=true):C_ 31 #[.agg #[.slice (some ⟨b,c,none⟩) (m+1:Nat) x,.int .i64 bins,.int .i64 size,.int .i64 budget]] w λe w'=>∃ib,e=.returned (.tuple #[.pointer (some ⟨ib,0,none⟩),.int .i64 0])/\w.heap.size<=ib/\Oq w' (Db w w' o t) t ib m wd sc ct bins size budget ⟨#[]⟩ false/\Below w.heap.size w w':=by refine(ZdA b _ _ _ _ _ _ _ _ _ w n u).mono ?_;rintro e w' ⟨ib,v,p,j,l,rfl,s,i⟩;obtain⟨K,M,f,g,h,r⟩:=s.startB;have a:=(Qb f.ik).1;have d:=(Qb f.tx).1;exact⟨ib,rfl,h,⟨Kp h a,a,.inr (.inr ⟨rfl,RS.start,K,M,v,j,p,l,rfl,f,λk q=>⟨(g k q).2,Kp (g k q).1 (g k q).2⟩,Kp r d⟩)⟩,i⟩
def Zkr b a q (k:Dd w b a (m+1) wd sc ct)(l:Hz (m+1) bins size budget wd sc ct=true):C_ 123 #[.agg #[.slice (some ⟨b,a,none⟩) (m+1:Nat) q,.int .i64 bins,.int .i64 size,.int .i64 budget]] w λe w'=>∃yb fk c,e=.returned (.tuple #[.pointer (some ⟨yb,0,none⟩),.int .i64 0])/\w.heap.size<=yb/\Kv w' (Db w w' o t) t yb fk c m wd sc ct bins size budget ⟨#[]⟩ false/\Below w.heap.size w w':=by refine(ZbK b _ _ _ _ _ _ _ _ _ w k l).mono ?_;rintro e w' ⟨yb,fk,c,rfl,g,n,d,p,h,i,j⟩;have f:=(Qb g).1;exact⟨yb,fk,c,rfl,h,⟨Kp h f,Kp p i,d,i,n,⟨#[]⟩,0,0,g,λ_=>⟨rfl,rfl,rfl⟩⟩,j⟩
end
section
variable {w w':World} {dp gb db yb base m n budget:Nat} {es:List ES} {Bb:List (List Nat)} {vF vB vC vX:Value} {kvs:List (Value×Value)} {bvs cvs:List Value} {X:List XS}
def ZfL x y (c:On m n budget es Bb X):∃R E:Int,∀W,Jv W dp gb db yb base m n budget es Bb vF vB vC vX kvs bvs cvs X->(C_ 44 #[.pointer (some ⟨gb,0,none⟩),.int .i64 x,.int .i64 y] W λe w'=>e=.returned (.tuple #[.int .i64 R,.int .i64 E])/\Below W.heap.size W w')/\(C_ 138 #[.pointer (some ⟨yb,0,none⟩),.int .i64 x,.int .i64 y] W λe w'=>e=.returned (.tuple #[.int .i64 R,.int .i64 E])/\Below W.heap.size W w'):=by
 have a:=Jk (budget:=budget) c.hm c.hn c.hk;have o:(Ao m n budget es Bb).ks.length=_:=yy;have j:=(a.bok _ (a.mem a.b0)).len;have w:=c.hn;have u:=c.hm
 by_cases hb:0<=x/\x<(n:Int)/\0<=y/\y<((Ao m n budget es Bb).ks.length:Int)
 ·obtain⟨r,p⟩:∃r:Nat,x=r:=⟨x.toNat,o_⟩;obtain⟨f,s⟩:∃f:Nat,y=f:=⟨y.toNat,o_⟩;subst p s;have g:r<n:=o_;have i:f<m+1:=o_;refine⟨((Bb.getD f _).getD r 0:Nat),0,λW hW=>⟨ZaY _ _ f r m n _ _ _ W hW.x c.hm c.hn c.hk i g,?_⟩⟩;have q:X.length<=1000000:=(by rw[c.pm.length_eq];have:=a.xl;omega);have l:=jr yb n r f _ _ _ X W hW.y.view ⟨s_,by simp;have:=a.b4;omega,λb hb=>?_,λb hb r=>?_,λb hb=>?_,λb hb=>?_⟩ g o_ q;rw[ZiX c.hk c.pm i g] at l;exact l
  all_goals
   simp only[List.length_map] at hb;have d:=a.mem hb
  have e:((Ao m n budget es Bb).bs.map BS.N).getD b []=((Ao m n budget es Bb).bs.getD b Dx).N:=w_;rw[e];exact(a.bok _ d).len
  ·have e:((Ao m n budget es Bb).bs.map BS.N).getD b []=((Ao m n budget es Bb).bs.getD b Dx).N:=w_;rw[e,Qc]
   rcases Nat.lt_or_ge r ((Ao m n budget es Bb).bs.getD b Dx).N.length with k|k
   ·rw[Qd k];have v:=(a.bok _ d).le _ (Qf k);have t:=a.g40 _ d
    grind
   grind
  have e:((Ao m n budget es Bb).bs.map BS.fs).getD b []=((Ao m n budget es Bb).bs.getD b Dx).fs:=w_;rw[e];have:=a.f4 _ d;omega;have e:((Ao m n budget es Bb).bs.map BS.fs).getD b []=((Ao m n budget es Bb).bs.getD b Dx).fs:=w_;rw[e];exact a.fk _ d
 refine⟨0,1,λW hW=>⟨Zc5 _ _ n x y _ W hW.x hb o_ a.b0 j o_,?_⟩⟩;exact(ZbH _ n x y _ W hW.y.view.dk hb).mono (λ_ _ h=>⟨h.1,by rw[h.2];exact bz_⟩)
def Zcp g B L i f j x y P D I O J M F G wc N (h:Jv w dp gb db yb base m n budget es Bb vF vB vC vX kvs bvs cvs X)(C:On m n budget es Bb X):C_ 77 #[.pointer (some ⟨g,0,none⟩),.pointer (some ⟨dp,0,none⟩),.agg #[.int .i64 9,.int .i64 B,.int .i64 L,.slice P O J,.int .i64 i,.int .i64 f,.int .i64 j,.slice D M F,.slice I G wc,.string N,.int .i64 x,.int .i64 y]] w λe w'=>e=.returned (.bool true)/\Below w.heap.size w w':=by
 obtain⟨R,E,k⟩:=ZfL (dp:=dp) (gb:=gb) (db:=db) (yb:=yb) (base:=base) (vF:=vF) (vB:=vB) (vC:=vC) (vX:=vX) (kvs:=kvs) (bvs:=bvs) (cvs:=cvs) x y C;have H:Hid (∀W,Below _ w W->_):=λW hW=>h.below hW;have T:Hid (∀W,_->Calls _ _ _ W λe _=>_/\_/\_):=λW hW=>(k W (h.below hW)).1.mono (λ_ _ h=>⟨h.1,hW.trans (h.2.mono hW.size),h.2⟩);have S:Hid (∀W,_->Calls _ _ _ W λe _=>_/\_/\_):=λW hW=>(k W (h.below hW)).2.mono (λ_ _ h=>⟨h.1,hW.trans (h.2.mono hW.size),h.2⟩);clear h C k;go_enter Tryz.func77,Tryz.ntmps77;go_upto_region 6 with fail;generalize hw1:w.alloc (.cells #[I_ 9,I_ B,I_ L,.slice P O J,I_ i,I_ f,I_ j,.slice D M F,.slice I G wc,.string N,I_ x,I_ y] 93)=w1;have c:E_ w w1:=by rw[<- hw1];exact bA_
 have q:w1.cell? (A_ w.heap.size 10)=some (I_ x):=(by rw[<- hw1];simp[go_sem]);have p:w1.cell? (A_ w.heap.size 11)=some (I_ y):=(by rw[<- hw1];simp[go_sem]);have Y:w.heap.size<w1.heap.size:=(by rw[<- hw1];simp);clear hw1;obtain⟨r,_,_,_,_⟩:=(H w1 c).cells;go_cut [8,9] (λv1 v2 wx=>v1=.int .i64 R/\v2=.int .i64 E/\Hid (E_ w1 wx))
 case first=>
  go_region_held3 (λw'=>w'.cell? (A_ dp 0)=some (P_ gb)/\w'.cell? (A_ w.heap.size 10)=some (I_ x)/\w'.cell? (A_ w.heap.size 11)=some (I_ y)) (first|exact⟨r,q,p⟩|exact⟨Ac a r,Ac a q,Ac a p⟩) (first|(go_at_call 44;refine(T _ c.drew).mono ?_;rintro e t ⟨rfl,b,l⟩;have a:Below w1.heap.size _ _:=bz_.drew.trans l))
  all_goals go_wp2
  all_goals go_meet
  all_goals exact⟨rfl,rfl,a⟩
 case rest=>
 obtain⟨rfl,rfl,d⟩:=hcut;have u:=Ac d q;have s:=Ac d p;have b:=c.trans (d.mono c.size);obtain⟨_,A,_,_,_⟩:=(H wc b).cells;clear r q p c d;generalize wc=t at *;go_upto_region 7 with fail;go_cut [10,11] (λv1 v2 wx=>v1=.int .i64 R/\v2=.int .i64 E/\Hid (E_ t wx))
 case first=>
  go_region_held3 (λw'=>w'.cell? (A_ dp 1)=some (P_ yb)/\w'.cell? (A_ w.heap.size 10)=some (I_ x)/\w'.cell? (A_ w.heap.size 11)=some (I_ y)) (first|exact⟨A,u,s⟩|exact⟨Ac a A,Ac a u,Ac a s⟩) (first|(go_at_call 138;refine(S _ b.drew).mono ?_;rintro e Z ⟨rfl,U,l⟩;have a:Below t.heap.size _ _:=bz_.drew.trans l))
  all_goals go_wp2
  all_goals go_meet
  all_goals exact⟨rfl,rfl,a⟩
 case rest=>
 obtain⟨rfl,rfl,o⟩:=hcut;have Q:=x1_ (b.trans (o.mono b.size));clear A u s b o;have V:(R==R)=true:=s_;go_wp2_with fail
 refine(Kb _ _).mono ?_;rintro e w4 ⟨rfl,v⟩;obtain rfl:=v.symm;go_wp2_with fail
 refine(Kb _ _).mono ?_;rintro e w5 ⟨rfl,z⟩;obtain rfl:=z.symm;go_wp2;go_ret;exact⟨s_,Q⟩
end
def Lr.behind{w f l o a g N c m}(p:Dq w o a)(n:Aa (λk=>o k<=13∨o k=99) w f)(r:∀j,j<4->m[j]? =c[j]?)(A:∀k,w.heap.size<=k->a k<=13∨a k=99)(v:∀k,k<w.heap.size->o k=99->a k<=13∨a k=99)(h:Lr f l a g N m):Lr w l o g N c:=by
 obtain⟨d,q,u,i,t,z,B,x⟩:=h;have s:=n.size
 have b:∀k,a k<=13∨a k=99->d k<=13∨d k=99:=λk hk=>by
  by_cases hl:k<f.heap.size
  ·rcases hk with e|e
   ·rcases i k hl with y|y
    omega;omega
   exact x k hl e
  grind
 refine⟨d,q,u,p.trans s i,n.trans2 t (λk hk=>?_),λj hj=>(z j hj).trans (r j hj),λk hk=>b k (A k hk),λk hk h9=>b k (v k hk h9)⟩
 by_cases hl:k<w.heap.size
 ·left
  rcases p k hl with e|e
  exact .inr e;omega
 omega
def Zci.q2{w a o g N c v}(h:Zci w a o g N v c)(f:∀k,v.ownBlock=some k->o k=99):Lr w a o g (N+1) c:=by obtain⟨i,j,d,l,p,n,m,q,b⟩:=h;exact⟨i,j,d,l,p.mono (λk _ e=>e.imp id (f k)),n,m,b⟩
section
variable {w w':World} {dp gb db yb base m n budget:Nat} {es:List ES} {Bb:List (List Nat)} {vF vB vC vX:Value} {kvs:List (Value×Value)} {bvs cvs:List Value} {X:List XS}
def BdQ(b:Nat)(W:World)(LI:List Int)(LS:List ByteArray)(E:Int)(e:Ending)(w':World):Prop:=∃a1 c1 a2 c2,e=.returned (.tuple #[.slice a1 LI.length c1,.slice a2 LS.length c2,I_ E])/\Ag w' b (.slice a1 LI.length c1) LI/\Cc w' b (.slice a2 LS.length c2) LS/\Below W.heap.size W w'
def Zax x (h:On m n budget es Bb X):∃LI LS E,LI.length<=1000/\LS.length<=1000/\∀W,Jv W dp gb db yb base m n budget es Bb vF vB vC vX kvs bvs cvs X->(C_ 27 #[.pointer (some ⟨gb,0,none⟩),.int .i64 x] W λe w'=>BdQ W.heap.size W LI LS E e w')/\(C_ 139 #[.pointer (some ⟨yb,0,none⟩),.int .i64 x] W λe w'=>BdQ 0 W LI LS E e w'):=by
 have r:=Jk (budget:=budget) h.hm h.hn h.hk;have v:(Ao m n budget es Bb).ks.length=_:=yy;have C:=h.hm
 by_cases hb:0<=x/\x<((Ao m n budget es Bb).ks.length:Int)
 ·obtain⟨f,z⟩:∃f:Nat,x=f:=⟨x.toNat,o_⟩;subst z;have a:f<(Ao m n budget es Bb).ks.length:=o_;have d:=r.edg f a;refine⟨bdI ((Ao m n budget es Bb).ks.getD f Ay).e,bdS ((Ao m n budget es Bb).ks.getD f Ay).e,0,?_,?_,λW hW=>⟨?_,?_⟩⟩
  ·unfold bdI;split
   ·grind
   exact d.lb
  ·unfold bdS;split;exact d.lw
   grind
  refine(yl _ _ f n _ W hW.x r a).mono ?_;rintro e w' ⟨B,A,rfl,c⟩;obtain⟨o,p,rfl⟩:=c.nb.shape;obtain⟨j,l,rfl⟩:=c.nw.form;exact⟨o,p,j,l,rfl,c.nb,c.nw,c.low⟩;refine(ZcQ f hW.y a).mono ?_;rintro e w' ⟨rfl,k,rfl⟩;obtain⟨g,i⟩:=hW.y.fe.each f a;have s:=hW.y.one f a;have u:bdI ((Ao m n budget es Bb).ks.getD f Ay).e=((Ao m n budget es Bb).ks.getD f Ay).e.bs:=(by unfold bdI;split;rename_i hw;exact(s.2.2.1 hw).symm;rfl);have w:bdS ((Ao m n budget es Bb).ks.getD f Ay).e=((Ao m n budget es Bb).ks.getD f Ay).e.ww:=by unfold bdS;split;rfl;rename_i hw;exact(s.2.2.2 (by simpa using hw)).symm
  rw[<- u] at g;rw[<- w] at i;obtain⟨o,p,t⟩:=g.shape;obtain⟨j,l,q⟩:=i.form;rw[t] at g;rw[q] at i;have b:E_ W _:=below_drewN bz_ k;exact⟨o,p,j,l,by rw[t,q],Ag.below (base:=0) (Dt g qg_) b,Cc.below (base:=0) (Dt i qg_) b,b⟩
 refine⟨[],[],1,qg_,qg_,λW hW=>⟨?_,?_⟩⟩;refine(Zc3 _ _ x _ W hW.x hb o_).mono ?_;rintro e w' ⟨rfl,rfl⟩;exact⟨none,0,none,0,rfl,Ag.nil _ _,Cc.nil _ _,bz_⟩;refine(ZaM x hW.y.view.dk hb).mono ?_;rintro e w' ⟨rfl,rfl⟩;exact⟨none,0,none,0,rfl,Ag.nil _ _,Cc.nil _ _,bz_⟩
def we{o g N c} pk bb A z G x y fa va wa fl fc vl vc wl wc st (hB:Hx w o g c N)(h9:∀k,w.heap.size<=k->o k=99)(hN:N<=10000000)(h:Jv w dp gb db yb base m n budget es Bb vF vB vC vX kvs bvs cvs X)(hs:On m n budget es Bb X):C_ 77 #[.pointer (some ⟨g,0,none⟩),.pointer (some ⟨dp,0,none⟩),.agg #[.int .i64 10,.int .i64 pk,.int .i64 bb,.slice fa fl fc,.int .i64 A,.int .i64 z,.int .i64 G,.slice va vl vc,.slice wa wl wc,.string st,.int .i64 x,.int .i64 y]] w λe w'=>e=.returned (.bool true)/\Lr w w' o g (N+2) c:=by
 obtain⟨LI,LS,E,a7,aA,L⟩:=Zax (dp:=dp) (gb:=gb) (db:=db) (yb:=yb) (base:=base) (vF:=vF) (vB:=vB) (vC:=vC) (vX:=vX) (kvs:=kvs) (bvs:=bvs) (cvs:=cvs) x hs;have p:=x2_ hB h9;have HP:Hid (∀W,Below _ w W->_):=λW hW=>h.below hW;have HX:=x1_ (λW hW=>(L W (h.below hW)).1);have HY:=x1_ (λW hW=>(L W (h.below hW)).2);obtain⟨li,F⟩:=ey_ LI.length;obtain⟨Q,D⟩:=ey_ LS.length;have a:=x4_ F D a7 aA;clear h hs L hB h9 F D a7 aA;go_enter Tryz.func77,Tryz.ntmps77;go_upto_region 10 with fail;generalize hw1:w.alloc (.cells #[I_ 10,I_ pk,I_ bb,.slice fa fl fc,I_ A,I_ z,I_ G,.slice va vl vc,.slice wa wl wc,.string st,I_ x,I_ y] 93)=w1;have d:E_ w w1:=(by rw[<- hw1];exact bA_);have x0:w1.cell? (A_ w.heap.size 10)=some (I_ x):=by rw[<- hw1];simp[go_sem]
 clear hw1;obtain⟨c0,_,_,_,_⟩:=(HP w1 d).cells;go_cut [12,13,14] (λv1 v2 v3 wx=>∃T U C c2,v1=.slice T li U/\v2=.slice C Q c2/\v3=.int .i64 E/\Hid (Ag wx w.heap.size (.slice T li U) LI/\Cc wx w.heap.size (.slice C Q c2) LS/\E_ w1 wx))
 case first=>
  go_region_held3 (λw'=>w'.cell? (A_ dp 0)=some (P_ gb)/\w'.cell? (A_ w.heap.size 10)=some (I_ x)) (first|exact⟨c0,x0⟩|exact⟨Ac f c0,Ac f x0⟩) (first|(go_at_call 27;refine(HX _ d.drew).mono ?_;rintro e w2 ⟨T,d1,C,Y,rfl,O,H,P⟩;have f:Below w1.heap.size _ _:=bz_.drew.trans P))
  all_goals go_wp2
  all_goals go_meet
  all_goals exact⟨T,d1,C,Y,by rw[a.1],by rw[a.2.1],rfl,by rw[<- a.1];exact Dt O d.size,by rw[<- a.2.1];exact Dt H d.size,f⟩
 case rest=>
 obtain⟨T,d1,C,Y,rfl,rfl,rfl,j⟩:=hcut;have y0:=Ac j.2.2 x0;have q:=d.trans (j.2.2.mono d.size);obtain⟨_,U,_,_,_⟩:=(HP wc q).cells;have I:=x2_ j.1 j.2.1;clear c0 x0 d j;generalize wc=w2 at *;go_upto_region 11 with fail;go_cut [15,16,17] (λv1 v2 v3 wx=>∃a3 c3 a4 c4,v1=.slice a3 li c3/\v2=.slice a4 Q c4/\v3=.int .i64 E/\Hid (Ag wx 0 (.slice a3 li c3) LI/\Cc wx 0 (.slice a4 Q c4) LS/\E_ w2 wx))
 case first=>
  go_region_held3 (λw'=>w'.cell? (A_ dp 1)=some (P_ yb)/\w'.cell? (A_ w.heap.size 10)=some (I_ x)) (first|exact⟨U,y0⟩|exact⟨Ac f U,Ac f y0⟩) (first|(go_at_call 139;refine(HY _ q.drew).mono ?_;rintro e w3 ⟨a3,d3,a4,d4,rfl,O,H,P⟩;have f:Below w2.heap.size _ _:=bz_.drew.trans P))
  all_goals go_wp2
  all_goals go_meet
  all_goals exact⟨a3,d3,a4,d4,by rw[a.1],by rw[a.2.1],rfl,by rw[<- a.1];exact O,by rw[<- a.2.1];exact H,f⟩
 case rest=>
 obtain⟨a3,d3,a4,d4,rfl,rfl,rfl,i⟩:=hcut;have u:=x2_ (I.1.below i.2.2) (I.2.below i.2.2);have R:=x1_ (q.trans (i.2.2.mono q.size));have S1:=Ra _ 0 _ _ _ _ u.1 i.1 (by have:=a.2.2.1;omega);have V:=x1_ i.2.1;clear U y0 q i I HX HY;generalize wc=w3 at *;go_wp2_with fail
 refine S1.mono ?_;rintro e w4 ⟨rfl,k4,a6⟩;have l:E_ w3 w4:=(by rw[a6];exact below_drewN bz_ _);have M:=x1_ (R.trans (l.mono R.size));have v:=x2_ (u.1.below l) (u.2.below l);have S2:=zt _ 0 _ _ _ _ v.2 (V.below l) (by have:=a.2.2.2;omega);clear a6 l S1 u V R;go_wp2_with fail
 refine S2.mono ?_;rintro e w5 ⟨rfl,k5,a8⟩;have r:E_ w4 w5:=(by rw[a8];exact below_drewN bz_ _);have s:=x1_ (M.trans (r.mono M.size));have b:=x2_ (v.1.below r) (v.2.below r);have B:=p.1.keep (S:=λ_=>False) (.of_below s) (λ_ _ e=>e.elim) (Dq.refl _ _);have a0:=λk hk=>p.2 k (rl_ b.1 k hk).1;have a5:=λk hk=>p.2 k (rl_ b.2 k hk).1;have C1:=B.ownN (Dt b.1 qg_:Ag _ 0 _ _) a0 (by have:=a.2.2.1;omega) o_;clear a8 r S2 v M B;go_wp2_with fail
 refine C1.mono ?_;rintro e w6 ⟨rfl,hq⟩;obtain⟨o6,c6,b1,b2,b3,b4,b5,b6,b7⟩:=hq
 have Z:∀k,(Value.slice C Q Y).ownBlock=some k->(Value.slice T li d1).ownBlock≠some k:=λk hk e=>by
  obtain⟨q1,h1⟩:=Ad b.1 e;obtain⟨q2,h2⟩:=Ad b.2 hk
  grind
 have a9:Cc w6 0 (.slice C Q Y) LS:=b3.row (Dt b.2 qg_) (λk hk e=>w_);have J:=λk hk=>b6 k (rl_ b.2 k hk).2 (a5 k hk) (Z k hk);have C2:=b1.ownT a9 J (by have:=a.2.2.2;omega) o_
 have HF:Hid (∀w7,Zci w6 w7 o6 g (N+1) (.slice C Q Y) c6->Lr w w7 o g (N+2) c):=λw7 q7=>by
  have q8:=q7.q2 J;have aD:=s.size;have t:=(Aa.of_below (S:=λk=>o k<=13∨o k=99) s).trans2 b3 (λk hk=>w_);refine Lr.behind (λk hk=>b2 k o_) t b4 (λk hk=>?_) (λk hk h9=>b7 k o_ h9) q8
  by_cases hl:k<w5.heap.size
  exact b7 k hl (p.2 k hk)
  grind
 clear b1 b2 b3 b4 b5 b6 b7 a9 J C1 Z a0 a5 b s p HP;go_wp2_with fail
 refine C2.mono ?_;rintro e w7 ⟨rfl,hq⟩;have HE:=x1_ (HF _ hq);clear hq C2 HF;go_wp2_with fail
 refine(Kb _ _).mono ?_;rintro e w8 ⟨rfl,aB⟩;obtain rfl:=aB.symm;go_wp2_with fail
 refine(Kb _ _).mono ?_;rintro e w9 ⟨rfl,aC⟩;obtain rfl:=aC.symm;go_wp2;go_ret;exact⟨s_,HE⟩
end
def Ku.row{w b q n a}(h:Ku w b q n n a)(f:b<=q)(p:n<=1000):∃vals:List Value,vals.length=n/\w.ownsRow b 25 1 (L_ q n n) n vals/\(∀j,j<n->Ag w b (vals.getD j Hm) (a.getD j []))/\∀i j,i<j->j<n->∀k,(vals.getD i Hm).ownBlock=some k->(vals.getD j Hm).ownBlock≠some k:=by
 obtain⟨c,d,e,o,l⟩:=h.cur;have g:c.toList.length=n:=by simp[e]
 have m:∀j,j<n->c[j]? =some (c.toList.getD j Hm):=λj hj=>w_
 refine⟨c.toList,g,⟨o_,.inr ⟨q,n,c,rfl,f,d,qa_,m_,o_,w_⟩⟩,λj hj=>?_,λi j hij hj k hk=>?_⟩
 ·grind
 grind
section
variable {w w':World} {dp gb db yb base m n budget:Nat} {es:List ES} {Bb:List (List Nat)} {vF vB vC vX:Value} {kvs:List (Value×Value)} {bvs cvs:List Value} {X:List XS}
def oy{o g N c} pk bb H G I x y fa va wa fl fc vl vc wl wc st (hB:Hx w o g c N)(h9:∀k,w.heap.size<=k->o k=99)(hN:N<=10000000)(h:Jv w dp gb db yb base m n budget es Bb vF vB vC vX kvs bvs cvs X)(hs:On m n budget es Bb X):C_ 77 #[.pointer (some ⟨g,0,none⟩),.pointer (some ⟨dp,0,none⟩),.agg #[.int .i64 11,.int .i64 pk,.int .i64 bb,.slice fa fl fc,.int .i64 H,.int .i64 G,.int .i64 I,.slice va vl vc,.slice wa wl wc,.string st,.int .i64 x,.int .i64 y]] w λe w'=>e=.returned (.bool true)/\Lr w w' o g (N+5) c:=by
 have hd:=Jk (budget:=budget) hs.hm hs.hn hs.hk;have O:=x1_ hd;have s:=x2_ hB h9;have Y:Hid (∀W,Below _ w W->_):=λW hW=>h.below hW;obtain⟨C,B⟩:=ey_ ((Ao m n budget es Bb).bs.length);have M:=x1_ B;have aE:C<=4:=(by rw[<- B];exact hd.b4);obtain⟨aB,cB,Z⟩:=h.y.bu.shape;rw[List.length_map,List.length_map,B] at Z;subst Z;clear h hs hB h9 B hd;go_enter Tryz.func77,Tryz.ntmps77;go_upto_region 18 with fail;generalize hw1:w.alloc (.cells #[I_ 11,I_ pk,I_ bb,.slice fa fl fc,I_ H,I_ G,I_ I,.slice va vl vc,.slice wa wl wc,.string st,I_ x,I_ y] 93)=w1;have r:E_ w w1:=(by rw[<- hw1];exact bA_);clear hw1;obtain⟨c0,_,_,_,_⟩:=(Y w1 r).cells;have HC:=ph _ _ n _ _ (Y _ r).x O;go_wp2_with fail
 refine HC.mono ?_;rintro e t ⟨q,rfl,U,hL,a8⟩;have L:=r.trans (a8.mono r.size);rw[M] at hL;obtain⟨z,a0,F,u,T⟩:=hL.row U o_;have l:=x4_ a0 F u T;have f:=x2_ L r.size;obtain⟨_,c1,_,_,c4⟩:=(Y t L).cells;rw[M];clear c0 HC hL r a8 L U a0 F u T;go_upto_region 21 with fail;go_loopw [21,22] (λt21 t22 wr=>∃(i k:Nat),t21=.bool true/\t22=.int .i64 i/\i<=C/\Hid (wr=t.drewN k)) (λ_ t22 _=>C-(intOf t22).toNat)
 case atStart=>exact⟨0,0,s_,rfl,qg_,rfl⟩
 case round=>
  obtain⟨i,k,rfl,rfl,hi,HW⟩:=hrel;have hw:=HW.out;subst hw;clear HW
  by_cases hin:i<C
  ·have i0:0<=(i:Int):=o_;have i1:i<(C:Int):=o_;have b:E_ t _:=below_drewN bz_ k;have d:=f.1.trans (b.mono f.1.size);have hp:=Y _ d;obtain⟨_,e1,_,_,e4⟩:=hp.cells;have v:=l.2.1;have D:=l.2.2.1 i hin;have x0:_=some (z.getD i Hm):=Ac b (Qy v (by rw[Qc,Qd (by rw[l.1];exact hin)];rfl));obtain⟨qB,aF,a,kk,eB,xB,_,eV,_,_⟩:=hp.y.bu.at (i:=i) (by rw[List.length_map,List.length_map,M];exact hin);have aC:aB=some ⟨qB,0,none⟩:=(by injection eB);subst aC;have E:((Ao m n budget es Bb).bs.map BS.fs|>.map Av).getD i []=(Xg (Ao m n budget es Bb)).getD i []:=(by grind [Vh]);have A:=hp.y.bu.each i w_;rw[eV] at A;rw[E] at xB A
   have R:((Xg (Ao m n budget es Bb)).getD i []).length<=1000000:=(by have P:i<(Ao m n budget es Bb).bs.length:=w_;rw[Vh P,Aw];have:=O.f4 _ (O.mem P);omega);obtain⟨a5,c5,h5⟩:=D.shape;rw[h5] at x0 D
   have a9:Hid (∀e,C_ 140 #[.slice a5 ((Xg (Ao m n budget es Bb)).getD i []).length c5,.slice a ((Xg (Ao m n budget es Bb)).getD i []).length kk] ((t.drewN k).drewN e) λe' w'=>e'=.returned (.bool true)/\∃j,w'=(t.drewN k).drewN j):=λe=>by
    have Q:Below (t.drewN k).heap.size (t.drewN k) _:=below_drewN bz_ e;refine(Ra _ _ _ _ _ _ ((D.below b).below Q) (A.below Q) R).mono ?_
    grind [World.drewN_drewN]
   clear D A hp eV eB E h5 v d R;generalize ((Xg (Ao m n budget es Bb)).getD i []).length=ll at *;generalize hW3:t.drewN k=w3 at *;have aA:=x1_ hW3;clear hW3 b;go_upto_region 23 with fail;go_quiet (first|(go_at_call 140;exact(a9 _).mono (λ_ _ h=>⟨h.1,h.2⟩)));go_wp2;go_roundw;case rel=>exact⟨i+1,_,rfl,g_,o_,by rw[<- aA];exact World.drewN_drewN _ _ _⟩
   case measure=>exact z_
  have aD:¬i<(C:Int):=o_;have b:E_ t _:=below_drewN bz_ k;have d:=f.1.trans (b.mono f.1.size);have V:=f.2;have a7:=s.1.keep (S:=λ_=>False) (.of_below d) (λ_ _ e=>e.elim) (Dq.refl _ _);have v:(t.drewN k).ownsRow 0 25 1 (L_ q C C) z.length z:=by rw[l.1];exact(Aa.of_below (S:=λ_=>False) b).row (Dt l.2.1 qg_) (λ_ _=>id)
  have C1:=a7.ownL (Ls:=λj=>(Xg _).getD j []) v (λk' hk'=>s.2 k' (Nat.le_trans V (rl_ l.2.1 k' hk').1)) (λj J=>by
   have hO:=l.2.2.1 j (by rw[<- l.1];exact J)
   exact⟨Ag.below (base:=0) (Dt hO qg_) b,λk' hk'=>s.2 _ (Nat.le_trans V (rl_ hO _ hk').1)⟩) (λj=>by
   rcases Nat.lt_or_ge j (Ao m n budget es Bb).bs.length with J|J
   rw[Vh J,Aw];have:=O.f4 _ (O.mem J);omega
   grind [Xg]) (λi j hij J k' hk'=>l.2.2.2 i j hij (by rw[<- l.1];exact J) k' hk') (by rw[l.1];omega) hN (λk' hk'=>s.2 k' (Nat.le_trans d.size hk'))
  rw[l.1] at C1
  have HF:Hid (∀w7,Lr (t.drewN k) w7 o g (N+C+1) c->Lr w w7 o g (N+5) c):=λw7 q7=>by obtain⟨o',c',a1,a2,a3,a4,a5,a6⟩:=q7;exact Lr.behind (Dq.refl _ _) (.of_below d) (λ_ _=>rfl) (λk' hk'=>.inr (s.2 _ hk')) (λk' _ h9=>.inr h9) ⟨o',c',a1.more o_,a2,a3,a4,a5,a6⟩
  clear a7 v b d s Y l f O;generalize t.drewN k=w3 at *;go_wp2_with fail
  refine C1.mono ?_;rintro e w7 ⟨rfl,hq⟩;have HE:=x1_ (HF _ hq);clear hq C1 HF;go_wp2;go_ret;exact⟨rfl,HE⟩
end
def Fx.more{w b o g N a c}(h:Fx w b o g N c)(i:N<=a):Fx w b o g a c:=by obtain⟨l,m,n,d,k,e,f,j⟩:=h;exact⟨l,m,n.more i,d,k,e,f,j⟩
section
variable {w w' wr:World} {dp gb db yb base m n budget:Nat} {es:List ES} {Bb:List (List Nat)} {vF vB vC vX:Value} {kvs:List (Value×Value)} {bvs cvs:List Value} {X:List XS}
def rl{o g N c} b t r d l a x y C z D B E s u A wc v (f:Hx w o g c N)(j:∀k,w.heap.size<=k->o k=99)(p:N<=10000000)(h:Jv w dp gb db yb base m n budget es Bb vF vB vC vX kvs bvs cvs X)(i:On m n budget es Bb X):C_ 77 #[.pointer (some ⟨g,0,none⟩),.pointer (some ⟨dp,0,none⟩),.agg #[.int .i64 b,.int .i64 t,.int .i64 r,.slice C B E,.int .i64 d,.int .i64 l,.int .i64 a,.slice z s u,.slice D A wc,.string v,.int .i64 x,.int .i64 y]] w λe w'=>e=.returned (.bool true)/\Fx w w' o g (N+5) c:=by
 by_cases h8:b=8
 subst h8;exact(Zcq g _ _ _ _ _ x y _ _ _ _ _ _ _ _ _ _ h i).mono (λ_ _ q=>⟨q.1,.of_below f q.2 j o_⟩)
 by_cases h9':b=9
 subst h9';exact(Zcp g _ _ _ _ _ x y _ _ _ _ _ _ _ _ _ _ h i).mono (λ_ _ q=>⟨q.1,.of_below f q.2 j o_⟩)
 by_cases h10:b=10
 subst h10;exact(we _ _ _ _ _ x y _ _ _ _ _ _ _ _ _ _ f j p h i).mono (λ_ _ q=>⟨q.1,.of_q2 q.2 o_⟩)
 by_cases h11:b=11
 subst h11;exact(oy _ _ _ _ _ x y _ _ _ _ _ _ _ _ _ _ f j p h i).mono (λ_ _ q=>⟨q.1,.of_q2 q.2 o_⟩);exact(Zau g _ _ _ _ _ _ x y _ _ _ _ _ _ _ _ _ _ h i h8 h9' h10 h11).mono (λ_ _ q=>⟨q.1,.of_below f q.2 j o_⟩)
def Fx.part{o g N t c Q}(h:Fx w w' o g N c)(a:Ii w o t Q)(m:13<t)(d:t≠99):Q w':=by obtain⟨i,l,f,j,b,_⟩:=h;exact a _ (b.mono (λk _ e=>o_))
def Zco{o g N t c} k i D b a d x y M l B J E F u z wc I (f:Fx w wr o g N c)(A:N<=10000000)(h:Ii w o t (λW=>Jv W dp gb db yb base m n budget es Bb vF vB vC vX kvs bvs cvs X))(r:13<t)(L:t≠99)(j:On m n budget es Bb X):C_ 77 #[.pointer (some ⟨g,0,none⟩),.pointer (some ⟨dp,0,none⟩),.agg #[.int .i64 k,.int .i64 i,.int .i64 D,.slice M J E,.int .i64 b,.int .i64 a,.int .i64 d,.slice l F u,.slice B z wc,.string I,.int .i64 x,.int .i64 y]] wr λe w'=>e=.returned (.bool true)/\Fx w w' o g (N+5) c:=by have s:=f.part h r L;obtain⟨P,Q,G,v,C,p,O,H⟩:=f;exact(rl _ _ _ _ _ _ x y _ _ _ _ _ _ _ _ _ _ G H A s j).mono (λ_ _ q=>⟨q.1,Fx.trans v C p O q.2⟩)
def Zjo{o g N t c}(G:Fx w wr o g N c)(Z:N<=9000000)(u:Ii w o t (λW=>Jv W dp gb db yb base m n budget es Bb vF vB vC vX kvs bvs cvs X))(z:13<t)(E:t≠99)(A:On m n budget es Bb X):C_ 42 #[.pointer (some ⟨g,0,none⟩),.pointer (some ⟨dp,0,none⟩)] wr λe w'=>e=.returned (.bool true)/\Fx w w' o g (N+6000) c:=by
 have L:Hid (∀(_ x y:_) (W:_) (M:_),Fx w W o g M c->_):=λkd x y W M hW hM=>Zco kd 0 0 0 0 0 x y none none none 0 0 0 0 0 0 ⟨#[]⟩ hW hM u z E A;obtain⟨U,P,q⟩:=(G.part u z E).y.fe.view.1;rw[yy] at q;subst q
 have I:Hid (∀W M,Fx w W o g M c->W.cell? (A_ dp 1)=some (P_ yb)/\W.cell? (A_ yb 0)=some (I_ n)/\W.cell? (A_ yb 1)=some (.slice U (m+1) P)):=λW M hW=>by
  obtain⟨_,v,B,D,_⟩:=(hW.part u z E).cells
  grind
 have T:=A.hm;have hn:=A.hn;have a:Hid (Fx w _ o g (N+30*(8-8)) c):=G;obtain⟨l,s⟩:=ex_ (m+1);rw[<- s] at I T;clear u z E A G s;generalize wr=w0 at *;go_enter Tryz.func42,Tryz.ntmps42;go_upto_region 2 with fail;go_loopw [5] (λtk wr=>∃k:Nat,8<=k/\k<=13/\tk=.int .i64 k/\Hid (Fx w wr o g (N+30*(k-8)) c)) (λtk _=>13-(intOf tk).toNat)
 case atStart=>grind
 case round=>
  clear a;obtain⟨k,V,J,rfl,a⟩:=hrel
  by_cases hk:k<=12
  ·have O:(k:Int)<=12:=o_;have d:Hid (Fx w _ o g (N+_+5*0) c):=a;clear a;generalize wr=wa at *;go_upto_region 5 with fail;go_loopw [6] (λtj wr=>∃j:Nat,j<=6/\tj=.int .i64 ((j:Int)-1)/\Hid (Fx w wr o g (N+30*(k-8)+5*j) c)) (λtj _=>6-(intOf tj+1).toNat)
   case atStart=>grind
   case round=>
    clear d;obtain⟨j,Q,rfl,a⟩:=hrel
    by_cases hj:j<=5
    ·have F:(j:Int)-1<=4:=o_;have C:=L (k:Nat) ((j:Int)-1) 0 _ _ a o_;have q1:IntKind.i64.wrap (j-1+1)=(j+1:Nat)-1:=(by rw[Cb o_ o_];omega);have Y:j-1+1=((j+1:Nat):Int)-1:=o_;go_wp2_with fail
     refine C.mono ?_;rintro e S ⟨rfl,i⟩;have b:Hid (Fx w _ o g (_+5*(j+1)) c):=i;clear i C a;go_wp2;go_roundw;case rel=>exact⟨j+1,o_,w_,b⟩
     case measure=>exact z_
    have H:j=6:=o_;subst H;have F:¬((6:Nat):Int)-1<=4:=o_;have b:Hid (Fx w wr o g (N+30*(k+1-8)) c):=a.more o_;clear a;go_wp2;go_roundw;case rel=>exact⟨k+1,o_,o_,g_,b⟩
    case measure=>exact z_
  have gk:¬(k:Int)<=12:=o_;have d:Hid (Fx w _ o g (N+150+25*0) c):=a.more o_;clear a;generalize wr=wa at *;go_upto_region 11 with fail;go_loopw [8] (λtr wr=>∃r:Nat,r<=n+1/\tr=.int .i64 r/\Hid (Fx w wr o g (N+150+25*r) c)) (λtr _=>n+1-(intOf tr).toNat)
  case atStart=>grind
  case round=>
   clear d;obtain⟨r,hr,rfl,a⟩:=hrel;obtain⟨v,B,D⟩:=I _ _ a
   by_cases hrn:r<=n
   ·have O:r<=(n:Int):=o_;have d:Hid (Fx w _ o g (_+_+5*0) c):=a;clear a;go_upto_region 14 with fail;clear v B D;generalize wr=wb at *;go_loopw [9] (λtf wr=>∃f:Nat,f<=l+1/\tf=.int .i64 f/\Hid (Fx w wr o g (N+150+25*r+5*f) c)) (λtf _=>l+1-(intOf tf).toNat)
    case atStart=>grind
    case round=>
     clear d;obtain⟨f,hf,rfl,a⟩:=hrel;obtain⟨v,B,D⟩:=I _ _ a
     by_cases hfm:f<=l
     ·have F:f<=(l:Int):=o_;have C:=L 9 (r:Nat) (f:Nat) _ _ a o_;go_wp2_with fail
      refine C.mono ?_;rintro e S ⟨rfl,i⟩;have b:Hid (Fx w _ o g (_+5*(f+1)) c):=i;clear i C a v B D;go_wp2;go_roundw;case rel=>exact⟨f+1,o_,g_,b⟩
      case measure=>exact z_
     have F:¬f<=(l:Int):=o_;have b:Hid (Fx w wr o g (N+150+25*(r+1)) c):=a.more o_;clear a;go_wp2;go_roundw;case rel=>exact⟨r+1,o_,g_,b⟩
     case measure=>exact z_
   have O:¬r<=(n:Int):=o_;have R:Hid (Fx w _ o g (N+6000) c):=a.more o_;clear a;go_wp2;go_ret;exact⟨rfl,R⟩
end
def Zlg:(Tryz.prog.info? 96).map (λi=>(i.zero,i.size,i.bytes))=some (some (.pointer none),1,8):=k_
def ZjP:(Tryz.prog.info? 208).map (λi=>(i.zero,i.size,i.bytes))=some (some (.pointer none),1,8):=k_
structure Yh(w w':World)(g j tp ty:Nat)(c:Array Value)(v:Value)(ps)(p1 p2)(dp)(v'):Prop where
 lo:w.heap.size<=dp
 pr:w'.heap[dp]? =some (.cells #[p1,p2] tp (0,0))
 wb:WB w' g (c.setIfInBounds j v')
 row:w'.ownsRow 0 ty 1 v' (ps.length+1) (ps++[P_ dp])
 own:∀k,v'.ownBlock=some k->v.ownBlock=some k∨w.heap.size<=k
 tch:Aa (λk=>k=g∨v.ownBlock=some k) w w'
def WB.ne{w g c}(h:WB w g c){base ty size n:Nat}{v xs}(hr:w.ownsRow base ty size v n xs)(ht:ty≠90):v.ownBlock≠some g:=λe=>by
 obtain⟨cur,hc⟩:=Ad hr e;rw[h] at hc
 grind
def Zck g w:C_ 127 #[.pointer (some ⟨g,0,none⟩),.pointer none,.pointer none] w λe w'=>e=.returned (.bool true)/\w'=w:=by go_enter Tryz.func127,Tryz.ntmps127;go_wp2;go_ret;exact⟨rfl,rfl⟩
def Zbx(w:World)(a b:Nat) c p:∀j u,[p][j]? =some u->((w.alloc (.cells c a)).alloc (.cells #[p] b)).cell? (((A_ (w.heap.size+1) 0):Addr).add j)=some u:=by have:=Am (w.alloc (.cells c a)) #[p] b;rw[show(w.alloc (.cells c a)).heap.size=w.heap.size+1 by simp] at this;exact this
def Yh.of{w d}{g j m b:Nat}{c v n p1 l i}(p:WB w g c)(s:w.ownsRow 0 b 1 v i.length i)(h:b≠90)(t:d.ownsRow 0 b 1 n (i.length+1) (i++[P_ w.heap.size]))(o:((w.alloc (.cells #[p1,l] m)).alloc (.cells #[P_ w.heap.size] b)).grownBy d v.ownBlock)(y:∀k,n.ownBlock=some k->v.ownBlock=some k∨w.heap.size<=k):WB d g c/\Yh w (d.setCell (A_ g j) n) g j m b c v i p1 l w.heap.size n:=by
 have q:=p.ne s h;have z:=p.lt;have u:Aa (λk=>k=g∨_) w _:=(((Aa.refl _ w).alloc _).alloc _).grown o (λk e _=>.inr e);have a:=((p.alloc _).alloc _).grown o (λe=>q e.symm);have x:d.heap[w.heap.size]? =some (.cells #[p1,l] m (0,0)):=(by have r:((w.alloc (.cells #[p1,l] m)).alloc (.cells #[P_ w.heap.size] b)).heap[_]? =_:=(hc_ s_).trans (ha_ w _);refine(o.block _ (Qb r).1 (λe=>?_)).trans r;have:=(rl_ s _ e.symm).2;omega);have f:=a.ne t h;refine⟨a,qa_,?_,a.set j _,?_,y,u.setCell (λ_=>.inl rfl) _⟩
 ·grind [Below.heap_setCell]
 exact(Aa.setCell (S:=λk=>k=g) (Aa.refl _ _) (λ_=>rfl) _).row t (λk hk e=>f w_)
def Zcl g t s c v f w (d:WB w g c)(b:c[2]? =some v)(l:w.ownsRow 0 96 1 v f.length f)(L:f.length<=10000000):C_ 127 #[.pointer (some ⟨g,0,none⟩),.pointer (some ⟨t,0,none⟩),.pointer (some ⟨s,0,none⟩)] w λe w'=>e=.returned (.bool true)/\∃dp v',Yh w w' g 2 137 96 c v f (.pointer (some ⟨t,0,none⟩)) (.pointer (some ⟨s,0,none⟩)) dp v':=by
 obtain⟨H,h,n,i,m⟩:=info_parts Zlg;have A:=x1_ d;have q:=x1_ l;have z:=x1_ (d.ne l d_);have J:=x1_ d.lt;have F:w.cell? (A_ g 2)=some v:=(by rw[d.cell];exact b);have G:=λo=>d.frozen o;have I:=x1_ b;clear d l b;go_enter Tryz.func127,Tryz.ntmps127;go_wp2_with (at_builtin;refine Ab rfl _ _ 82 rfl 0 96 H _ 1 8 Tryz.underlying82 h n i m rfl d_ v _ f rfl (ra_ (ra_ q _) _) _ 1 1 _ rfl rfl (Zbx w 137 96 _ _) (by intro u p;simp only[List.mem_cons,List.not_mem_nil,or_false] at p;subst p;rfl) d_ m_ o_ qg_ ?_)
 intro v' y D;obtain⟨r,b,B,_,O,M,rfl⟩:=D;obtain⟨a,x⟩:=Yh.of (j:=2) A q d_ r b (λk hk=>w_);have C:Hid (Yh w _ g 2 _ 96 c v _ _ _ _ _):=x;have N:y.cell? (A_ g 2)=some v:=(by rw[a.cell];exact I);have E:=λo=>a.frozen o;clear r b B a x F G;go_wp2;go_ret;exact⟨rfl,_,_,C⟩
structure RP where
 pb:Nat
 ib:Nat
 yb:Nat
 fk:Nat
 fc:Nat
 m:Nat
 wd:Nat->Bool
 sc:Nat->Int
 ct:Nat->Int
 bins:Int
 size:Nat
 budget:Nat
 T:ByteArray
 cl:Bool
def ptR(r:RP):Value:=P_ r.pb
def ptD(d:Nat):Value:=P_ d
structure ZgR(w:World)(o:Nat->Nat)(t)(r:RP):Prop where
 pr:w.heap[r.pb]? =some (.cells #[P_ r.ib,P_ r.yb] 210 (0,0))
 po:o r.pb=16
 cf:Si r.m r.wd r.sc r.ct r.bins r.size r.budget
 x:Oq w o t r.ib r.m r.wd r.sc r.ct r.bins r.size r.budget r.T r.cl
 y:Kv w o (t+1) r.yb r.fk r.fc r.m r.wd r.sc r.ct r.bins r.size r.budget r.T r.cl
def Zji(w:World)(o:Nat->Nat)(dp:Nat):Prop:=∃gb db yb base m n budget es Bb vF vB vC vX kvs bvs cvs X,Ii w o 17 (λW=>Jv W dp gb db yb base m n budget es Bb vF vB vC vX kvs bvs cvs X)/\On m n budget es Bb X
structure Es(Z:Nat->Prop)(w)(o)(g)(c)(N L)(v1 v2)(rs:List RP)(ds:List Nat):Prop where
 bk:Hx w o g c N
 n9:∀k,w.heap.size<=k->o k=99
 c1:c[1]? =some v1
 r1:w.ownsRow 0 208 1 v1 (rs.map ptR).length (rs.map ptR)
 o1:∀k,v1.ownBlock=some k->o k=14
 c2:c[2]? =some v2
 r2:w.ownsRow 0 96 1 v2 (ds.map ptD).length (ds.map ptD)
 o2:∀k,v2.ownBlock=some k->o k=15
 rd:∀i r,rs[i]? =some r->ZgR w o (100+2*i) r
 sz:∀r∈rs,r.T.size<=L
 dt:∀d∈ds,Zji w o d
 lo:∀k,Z k->k<w.heap.size/\o k=98
def Fa(Z:Nat->Prop)(w w':World):Prop:=Aa (λk=>¬Z k) w w'
def Fa.of_below{Z w w'}(h:Below w.heap.size w w'):Fa Z w w':=Aa.of_below h
def Fa.trans{Z w w' w2}(h:Fa Z w w')(h':Fa Z w' w2):Fa Z w w2:=Aa.trans h h'
section
variable {w w':World} {o o':Nat->Nat} {g N N' L L' t:Nat} {c c':Array Value} {v1 v2 v1' v2':Value} {rs:List RP} {ds:List Nat} {r:RP} {S Z:Nat->Prop}
def Dq.at(h:Dq w o o'){k a}(b:k<w.heap.size)(e:o k=a)(d:a≠99):o' k=a:=by rcases h k b with c|c<;>omega
def ZgR.keep(h:ZgR w o t r)(b:Aa S w w')(a:∀k,k<w.heap.size->S k->o k≠16/\o k≠t/\o k≠t+1)(c:Dq w o o')(f:100<=t):ZgR w' o' t r:=by have d:=(Qb h.pr).1;exact⟨b.at_ h.pr (λe=>(a _ d e).1 h.po),c.at d h.po d_,h.cf,h.x.keep b (λk hk e=>(a k hk e).2.1) c o_,h.y.keep b (λk hk e=>(a k hk e).2.2) c o_⟩
def Zji.keep{d}(h:Zji w o d)(l:Aa S w w')(x:∀k,k<w.heap.size->S k->o k≠17)(u:Dq w o o'):Zji w' o' d:=by obtain⟨s,g,q,b,m,n,a,v,i,z,t,j,p,c,f,e,X,y,r⟩:=h;exact⟨s,g,q,b,m,n,a,v,i,z,t,j,p,c,f,e,X,y.step l x u,r⟩
def Hx.put(h:Hx w o g c N)(b:Aa S w w')(m:∀k,k<w.heap.size->S k->k=g∨13<o k)(n:WB w' g c')(a:Dq w o o')(e:∀j,4<=j->c'[j]? =c[j]?)(d:c'.size=13):Hx w' o' g c' N:=by
 have l:∀k,k<w.heap.size->S k->o k=0∨13<o k:=λk hk e=>by
  rcases m k hk e with rfl|e
  exact .inl h.og;exact .inr e
 obtain⟨z,p,f,i⟩:=h.nx;refine⟨n,a.at h.wb.lt h.og d_,d,⟨z,(e _ d_).trans p,f,i⟩,?_,?_,?_,?_⟩;exact h.es.keep b (λk hk e=>w_) a d_ (e 4 d_) (e 5 d_) qa_;exact h.ns.keep b (λk hk e=>w_) a d_ (e 6 d_) (e 7 d_) qa_;exact h.ss.keep b (λk hk e=>w_) a d_ (e 8 d_) (e 9 d_) qa_;exact h.ls.keep b (λk hk e=>w_) a d_ (e _ d_) (e _ d_) qa_
def Jn{ty n a:Nat}{v xs}(h:w.ownsRow 0 ty 1 v n xs)(hc:∀k,v.ownBlock=some k->o k=a)(tc:Aa S w w')(hs:∀k,k<w.heap.size->S k->o k≠a)(ho:Dq w o o')(h9:a≠99):w'.ownsRow 0 ty 1 v n xs/\∀k,v.ownBlock=some k->o' k=a:=
 ⟨tc.row h (λk hk e=>hs k (rl_ h k hk).2 e (hc k hk)),λk hk=>ho.at (rl_ h k hk).2 (hc k hk) h9⟩
def Es.old(h:Es Z w o g c N L v1 v2 rs ds)(ho:Dq w o o')(hs:w.heap.size<=w'.heap.size):∀k,Z k->k<w'.heap.size/\o' k=98:=λk hk=>⟨Qh (h.lo k hk).1 hs,ho.at (h.lo k hk).1 (h.lo k hk).2 d_⟩
def Es.low(h:Es Z w o g c N L v1 v2 rs ds)(tc:Aa S w w')(hs:∀k,k<w.heap.size->S k->o k≠98):Fa Z w w':=tc.mono (λk hk e hz=>hs k hk e (h.lo k hz).2)
def Es.book(h:Es Z w o g c N L v1 v2 rs ds)(q:Fx w w' o g N' c):(∃o' c',Es Z w' o' g c' N' L v1 v2 rs ds)/\Fa Z w w':=by
 obtain⟨o',c',m,f,b,l,u,s⟩:=q
 have j:∀{a},13<a->a≠99->∀k,k<w.heap.size->(o k<=13∨o k=99)->o k≠a:=λh1 h2 k _ e=>o_
 obtain⟨p1,n⟩:=Jn h.r1 h.o1 b (j d_ d_) f d_;obtain⟨t,p⟩:=Jn h.r2 h.o2 b (j d_ d_) f d_;refine⟨⟨o',c',m,s,(l 1 d_).trans h.c1,p1,n,(l 2 d_).trans h.c2,t,p,λi r hr=>(h.rd i r hr).keep b (λk _ e=>o_) f o_,h.sz,λd hd=>(h.dt d hd).keep b (λk _ e=>o_) f,h.old f b.size⟩,h.low b (λk _ e=>o_)⟩
def Es.part{i r f}(h:Es Z w o g c N L v1 v2 rs ds)(l:rs[i]? =some r)(a:Aa (λk=>o k=100+2*i∨o k=100+2*i+1) w w')(b:Dq w o o')(n:∀k,w'.heap.size<=k->o' k=99)(y:ZgR w' o' (100+2*i) f)(e:f.pb=r.pb)(u:L<=L')(x:f.T.size<=L'):Es Z w' o' g c N L' v1 v2 (rs.set i f) ds/\Fa Z w w':=by
 have v:=(List.getElem?_eq_some_iff.1 l).1
 have s:(rs.set i f).map ptR=rs.map ptR:=by
  apply List.ext_getElem?
  grind [ptR]
 obtain⟨p1,m⟩:=Jn h.r1 h.o1 a (λk _ e=>o_) b d_;obtain⟨t,p⟩:=Jn h.r2 h.o2 a (λk _ e=>o_) b d_;refine⟨⟨h.bk.keep a (λk _ e=>o_) b,n,h.c1,by rw[s];exact p1,m,h.c2,t,p,λj q hq=>?_,λq hq=>?_,λd hd=>(h.dt d hd).keep a (λk _ e=>o_) b,h.old b a.size⟩,h.low a (λk _ e=>o_)⟩
 ·rw[List.getElem?_set] at hq;split at hq
  ·grind
  exact(h.rd j q hq).keep a (λk _ e=>o_) b o_
 rcases List.mem_or_eq_of_mem_set hq with e|e
 exact Nat.le_trans (h.sz q e) u
 grind
end
end Go.Proofs.YtfcgnpchbcmdeaaGreat
