import Derived.Test.YtfcgnpchbcmdeaaGreatZrbp
import Derived.Test.YtfcgnpchbcmdeaaGreatZrbr
namespace Go.Proofs.YtfcgnpchbcmdeaaGreat
set_option linter.all false
set_option maxRecDepth 100000
set_option maxHeartbeats 32000000
open Go.RowKit
theorem jz{a b:ByteArray}:a.data.toList=b.data.toList↔a=b:=by
 constructor
 ·intro h
  cases a;cases b
  simp at h;rw[h]
 intro h;rw[h]
theorem ZhQ v s:Qo v s.data.toList=(!v.miss&&decide (v.word=s)):=by grind [Qo,jz]
def Zi5:∀(L:List (Int×List VS)) (i:Nat) (s:ByteArray),Pn L i s=Jq ((Bn L i).zip (Fr L)) s.data.toList
  |[],_,_=>rfl
  | r::L,i,s=>by
    have ih:=Zi5 L i s
    grind [Jq,Bn,Fr,ZhQ,Pn]
abbrev fy(T:List ByteArray)(Wt:ByteArray->Int)(ct:Int)(v:VS):Prop:=v.miss=false/\Lib.containsS T v.word=false/\ct<=Wt v.word
abbrev Zeb(Wt:ByteArray->Int)(s:ByteArray×Int)(v:VS):Prop:=s.2<Wt v.word∨Wt v.word=s.2/\If v.word s.1
def pkS(T:List ByteArray)(Wt:ByteArray->Int)(ct:Int)(s:ByteArray×Int)(v:VS):ByteArray×Int:=if fy T Wt ct v/\Zeb Wt s v then(v.word,Wt v.word) else s
def pkF(T:List ByteArray)(Wt:ByteArray->Int)(ct:Int)(vs:List VS):ByteArray×Int:=vs.foldl (pkS T Wt ct) (⟨#[]⟩,0)
def Zbz T a b c v:pkF T a b (c++[v])=pkS T a b (pkF T a b c) v:=by
 unfold pkF
 grind
def Zir T Wt {ct}(hc:1<=ct):∀n vs,vs.length=n->(pkF T Wt ct vs=(⟨#[]⟩,0)/\∀v∈vs,¬fy T Wt ct v)∨((∃v∈vs,fy T Wt ct v/\pkF T Wt ct vs=(v.word,Wt v.word))/\∀v∈vs,fy T Wt ct v->¬Zeb Wt (pkF T Wt ct vs) v)
 |0,vs,h=>by obtain rfl:=List.eq_nil_of_length_eq_zero h;exact .inl ⟨rfl,s_⟩
 | n+1,vs,h=>by
  obtain⟨us,v,rfl⟩:∃us v,vs=us++[v]:=⟨vs.dropLast,vs.getLast w_,(List.dropLast_concat_getLast _).symm⟩;have ih:=Zir T Wt hc n _ (by simpa using h);rw[Zbz];have hirr:∀x,¬If x x:=λx=>List.lt_irrefl _
  by_cases hb:fy T Wt ct v/\Zeb Wt (pkF T Wt ct us) v
  ·grind [pkS]
  grind [pkS]
section
variable {L:List (Int×List VS)} {i:Nat} {ct:Int}
def ZeK{x}:x∈Tl (Bn L i) (Fr L) ct↔(∃v∈Bn L i,v.miss=false/\v.word=x.wd)/\x.wt=Pn L i x.wd/\ct<=x.wt:=by
 rw[Zh8,Zi5];refine and_congr_left λ_=>?_;unfold Sh;rw[List.any_eq_true];constructor;rintro⟨p,c,a⟩;simp only[Qo,Bool.and_eq_true,Bool.not_eq_true',decide_eq_true_eq,jz] at a;exact⟨p.1,(List.of_mem_zip c).1,a⟩;rintro⟨v,d,f,e⟩;obtain⟨j,b,rfl⟩:=List.getElem_of_mem d;refine⟨((Bn L i)[j],(Fr L)[j]'(by simpa [Bn,Fr] using b)),?_,?_⟩
 ·grind [Bn,Fr]
 grind [Qo]
def ZfY(r:1<=ct){k}(A:k<=(Tl (Bn L i) (Fr L) ct).length):pkF (((Tl (Bn L i) (Fr L) ct).take k).map WS.wd) (Pn L i) ct (Bn L i)=if h:k<(Tl (Bn L i) (Fr L) ct).length then((Tl (Bn L i) (Fr L) ct)[k].wd,(Tl (Bn L i) (Fr L) ct)[k].wt) else(⟨#[]⟩,0):=by
 have B:=ZaP (Bn L i) (Fr L) ct;have s:=ZcR (Bn L i) (Fr L) ct;have d:∀x,x∈Tl (Bn L i) _ ct↔_:=λx=>ZeK;generalize Tl (Bn L i) (Fr L) ct=D at *
 have a:∀h,D[k].wd ∉ (D.take k).map WS.wd:=λh hin=>by
  obtain⟨y,t,e⟩:=List.mem_map.1 hin;obtain⟨j,p,rfl⟩:=List.getElem_of_mem t;rw[List.length_take] at p;rw[List.getElem_take] at e;have l:=((d D[j]).1 (Qf _)).2.1;have g:=((d D[k]).1 (Qf _)).2.1
  have:D[j]=D[k]:=by
   cases c:D[j];cases hz:D[k]
   rw[c,hz] at e;rw[c] at l;rw[hz] at g;simp only at e l g;rw[l,g,e]
  have:=(List.getElem_inj s).1 this;omega
 have n:∀h,∃v∈Bn L i,fy ((D.take k).map WS.wd) (Pn L i) ct v/\v.word=D[k].wd:=λh=>by obtain⟨⟨v,o,b,f⟩,q,z⟩:=(d D[k]).1 (Qf _);exact⟨v,o,⟨b,by rw[f,<- Bool.not_eq_true,Lib.containsS_iff];exact a h,w_⟩,f⟩
 rcases Zir ((D.take k).map WS.wd) (Pn L i) r _ (Bn L i) rfl with⟨b,f⟩|⟨⟨v,o,b,q⟩,f⟩
 ·grind
 have c:⟨v.word,Pn L i v.word⟩∈D:=(d _).2 ⟨⟨v,o,b.1,rfl⟩,rfl,b.2.2⟩;obtain⟨j,p,C⟩:=List.getElem_of_mem c
 have w:k<=j:=by
  apply Nat.le_of_not_lt;intro h;have u:=b.2.1;rw[<- Bool.not_eq_true,Lib.containsS_iff] at u
  grind [List.mem_iff_getElem]
 have m:k<D.length:=o_;rw[dif_pos m,q]
 by_cases e:k=j
 ·grind
 grind [List.pairwise_iff_getElem,Ve]
end
def aq(w:World)(b:Nat)(wd:Bool)(vb vd:Value)(d:Int):Prop:=w.heap[b]? =some (.cells #[.bool wd,vb,vd,I_ d] 227 (0,0))
def aq.cells{w b wd vb vd d}(h:aq w b wd vb vd d):(w.cell? (A_ b 0)=some (.bool wd)/\w.cell? (A_ b 1)=some vb/\w.cell? (A_ b 2)=some vd/\w.cell? (A_ b 3)=some (I_ d))/\(∀j,w.frozen? (A_ b j)=false)/\b<w.heap.size:=
 ⟨⟨cq_ 0 _ 227 (0,0) h,cq_ 1 _ 227 (0,0) h,cq_ 2 _ 227 (0,0) h,cq_ 3 _ 227 (0,0) h⟩,λj=>fq_ j _ 227 h,(Qb h).1⟩
def Cc.add{w a v b}{x:ByteArray}(h:w.ownsRow a 9 1 v (b.length+1) (b.map Value.string++[.string x])):Cc w a v (b++[x]):=by
 unfold Cc
 simpa using h
def gr(w:World)(b:Nat):Nat:=(w.cell? (A_ b 2)).elim 0 yr
structure WdI(w w3 W:World)(b k)(da)(dc)(T):Prop where
 blk:aq W b true (.slice none 0 0) (.slice da k dc) 0
 own:Cc W w3.heap.size (.slice da k dc) T
 len:T.length=k
 tch:Aa (λq=>q=b) w3 W
def WdI.below{w w3 W W' b k dc da T}(h:WdI w w3 W b k da dc T)(hb:Below W.heap.size W W'):WdI w w3 W' b k da dc T:=⟨(hb.block _ h.blk.cells.2.2).trans h.blk,h.own.below hb,h.len,h.tch.below hb⟩
def Zhb{p:Prop}(h:p:=by
 obtain⟨⟨e0,e1,e2,e3⟩,_,_⟩:=hI.blk.cells;have h6:aq _ _ _ _ _ 0:=hI.tch.at_ HA3.2.2 o_;obtain⟨⟨k0,k1,k2,k3⟩,hfz,_⟩:=h6.cells;have p0:=hfz 0;have p1:=hfz 1;have p2:=hfz 2;have p3:=hfz 3;have hbe:=HA3.1.trans (hI.tch.to_below HA3.1.size (λq hq=>o_));have HF:Hid (aq wr (w.heap.size+1) false (.slice none 0 0) (.slice none 0 0) 0/\Cc wr w.heap.size (.slice da k dc) B/\E_ w wr):=(by refine⟨h6,?_,hbe⟩;rw[<- HTB];exact hI.own.monoW HA3.1.size);have hkB:k=B.length:=(by rw[<- HTB];exact hI.len.symm);clear hI h6 hfz hbe HI;subst hkB;go_wp2;refine bodyPost_ret (v:=.agg #[.bool true,.slice none 0 0,.slice da B.length dc,I_ 0]) (by simp[results,Tryz.results238,go_sem, *]) rfl ?_;have tt:=Aa.set4 wr (w.heap.size+1) (.bool true) (.slice none 0 0) (.slice da B.length dc) (I_ 0)
 exact⟨da,dc,rfl,tt.row HF.2.1 (λk hk e=>Au HF.2.1 hk HF.1 d_ e),HF.2.2.trans (tt.to_below HF.2.2.size (λk hk=>o_))⟩):p:=h
def Zdy a O P c i d size x3 j fk cv L w (h:Sn w a O P L)(hi:i<P)(aK:Yj L)(hn:O<=200)(bD:2<=d)(b9:d<=16)(hc:w.cell? (A_ fk (i*3+2))=some (I_ j))(aZ:1<=j):C_ 238 #[.agg #[.slice (some ⟨fk,0,none⟩) P cv,.int .i64 d,.int .i64 size,.int .i64 x3],.slice a O c,.int .i64 i] w λe w'=>∃ad cd,e=.returned (.agg #[.bool true,.slice none 0 0,.slice ad (Mb (Bn L i) (Fr L) j d).ww.length cd,.int .i64 0])/\Cc w' w.heap.size (.slice ad (Mb (Bn L i) (Fr L) j d).ww.length cd) (Mb (Bn L i) (Fr L) j d).ww/\Below w.heap.size w w':=by
 have HV:=x1_ h
 have aM:∀r∈L,0<=r.1/\r.1<=99:=λr hr=>by have:=(aK r hr).1;omega
 have aS:=x1_ aM;have a0:=x1_ h.1;obtain⟨B,hB⟩:=ez_ ((Mb (Bn L i) (Fr L) j d).ww);rw[hB.out];have a8:Hid (B=((Tl _ _ _).take _).map _):=hB.out.symm;have aE:Hid (∀k,k<=_->_):=λk hk=>ZfY (L:=L) (i:=i) aZ hk;obtain⟨D,hD⟩:=ey_ (Tl (Bn L i) (Fr L) j);rw[hD] at a8 aE
 have aQ:Hid (∀x∈D,_):=λx hx=>by rw[<- hD] at hx;exact((ZeK.1 hx).2.2)
 obtain⟨H,A⟩:=ex_ (((w.alloc (.cells #[L_ fk P cv,I_ d,I_ size,I_ x3] 37)).alloc (.cells #[.bool false,.slice none 0 0,.slice none 0 0,I_ 0] 227)).alloc (.cells #[.bool true,.slice none 0 0,.slice none 0 0,I_ 0] 227));have aD:E_ w H:=(by rw[A];exact(bA_.alloc s_ _).alloc t_ _);have aA:H.heap.size=w.heap.size+1+1+1:=by rw[A];simp
 have s:H.heap[w.heap.size]? =some (.cells #[L_ fk P cv,I_ d,I_ size,I_ x3] 37 (0,0))/\aq H (w.heap.size+1) false (.slice none 0 0) (.slice none 0 0) 0/\aq H (w.heap.size+1+1) true (.slice none 0 0) (.slice none 0 0) 0:=by
  rw[A];refine⟨?_,?_,?_⟩;exact((hc_ t_).trans (hc_ s_)).trans hn_;exact(hc_ s_).trans (by have e:=ha_ (w.alloc (.cells #[L_ fk P cv,I_ d,I_ size,I_ x3] 37)) (.cells #[.bool false,.slice none 0 0,.slice none 0 0,I_ 0] 227);simpa using e);have e:=ha_ ((w.alloc (.cells #[L_ fk P cv,I_ d,I_ size,I_ x3] 37)).alloc (.cells #[.bool false,.slice none 0 0,.slice none 0 0,I_ 0] 227)) (.cells #[.bool true,.slice none 0 0,.slice none 0 0,I_ 0] 227)
  simpa [aq] using e
 have bB:=x1_ aA;have HA3:=x3_ aD s.1 s.2.1;have aJ:Hid (WdI w _ _ _ 0 _ 0 _):=⟨s.2.2,Cc.nil _ _,rfl,Aa.refl _ _⟩;have aF:=x1_ A;have a5:=World.block_lt_of_cell? _ _ hc;simp only at a5;have b7:=x1_ a5;clear h aK aM hB A aD aA s a5 hD;go_enter Tryz.func238,Tryz.ntmps238;go_upto_region 2 with fail;rw[<- aF];clear aF;go_loopw [8] (λ_ wr=>∃(k:Nat) (da:Option Addr) (dc:Nat),k<=D.length/\(k:Int)<=d/\Hid (WdI w H wr (w.heap.size+1+1) k da dc ((D.take k).map WS.wd))) (λ_ wr=>d.toNat-gr wr (w.heap.size+1+1))
 case atStart=>exact⟨0,none,0,qg_,o_,aJ⟩
 case round=>
  clear aJ;obtain⟨k,da,dc,aN,bC,HI⟩:=hrel;obtain⟨⟨c0,c1,c2,c3⟩,_,bA⟩:=HI.blk.cells;have Z:=HI.tch.at_ HA3.2.1 o_;have y0:=cR_ 0 Z;have y1:=cR_ 1 Z;have R:=HA3.1.trans (HI.tch.to_below HA3.1.size (λq hq=>o_));clear Z
  by_cases hk2:(k:Int)<d
  ·obtain ⟨wo, aY⟩:=ex_ wr;subst aY;obtain⟨T,hT⟩:=ey_ ((D.take k).map WS.wd);have HP:Hid (pkF T (Pn L i) j (Bn L i)=if h:k<D.length then(D[k].wd,D[k].wt) else(⟨#[]⟩,0)):=(by rw[<- hT];exact aE k aN);have HT:=x1_ hT;rw[hT] at HI;clear hT;go_wp2_with fail
   go_loopw [8,9,10] (λt8 t9 t10 wz=>∃r:Nat,t10=.int .i64 r/\r<=O/\t8=.string (pkF T (Pn L i) j ((Bn L i).take r)).1/\t9=.int .i64 (pkF T (Pn L i) j ((Bn L i).take r)).2/\E_ wo wz) (λ_ _ t10 _=>O-(intOf t10).toNat)
   case atStart=>exact⟨0,rfl,qg_,rfl,rfl,bz_⟩
   case round=>
    obtain⟨r,rfl,bE,rfl,rfl,z⟩:=hrel;have E:=R.trans (z.mono R.size)
    by_cases hin:r<O
    ·rcases(HV.below E).2 with h0|⟨q,rfl,hq⟩
     omega;obtain⟨_,g,cc,a1,_,hC⟩:=hq r hin;obtain⟨a2,a3,a4⟩:=hC i hi;have aG:r<(Bn L i).length:=by unfold Bn;rw[List.length_map,a0];exact hin
     have aI:pkF T (Pn L i) j ((Bn L i).take (r+1))=pkS T (Pn L i) j (pkF T (Pn L i) j ((Bn L i).take r)) ((L.getD r Sf).2.getD i Ax):=by have aO:r<L.length:=(by rw[a0];exact hin);rw[lq _ aG,Zbz];congr 1;simp[Bn,List.getD,aO]
     have J:=x1_ aI;clear hq hC aI aG;generalize (L.getD r Sf).2.getD i Ax=x at *;generalize pkF T (Pn L i) j ((Bn L i).take r)=p at *;obtain⟨xm,xn,l⟩:=x;obtain⟨f,b⟩:=p;simp only at a2 a3 a4 ⊢;have b1:0<=(r:Int):=o_;have b2:r<(O:Int):=o_;have b3:0<=(i:Int):=o_;have b4:i<(P:Int):=o_;have x2:=Ac z c2;obtain⟨y,hy⟩:=ex_ (wr.alloc (.cells #[.bool xm,I_ xn,.string l] 335));have M:E_ wr y:=(by rw[hy];exact bA_);have U:y.heap[wr.heap.size]? =some (.cells #[.bool xm,I_ xn,.string l] 335 (0,0)):=(by rw[hy];exact hn_);have z0:=cR_ 0 U;have z2:=cR_ 2 U;have z3:=Ac M x2;have HY:=x1_ hy;have u:=z.trans (M.mono z.size);clear hy U;go_upto_region 9 with fail;rw[<- HY];clear HY a1 a2 a3 a4;go_wp2_with fail
     refine(Ziw H.heap.size k dc da T l _ ((HI.below u).own) HI.len o_).mono ?_;rintro e w1 ⟨rfl,aH⟩;obtain rfl:=aH.symm;clear aH;obtain⟨tk,Y⟩:=ey_ (Lib.containsS T l);rw[Y];have a6:=x1_ Y;clear Y
     by_cases hgo:xm=true∨tk=true
     ·have n:Hid (pkF T (Pn L i) j ((Bn L i).take (r+1))=(f,b)):=by
       show _=_;rw[J];refine if_neg (λh=>?_);have V:=h.1.1;have X:=h.1.2.1;simp only[a6.out] at V X
       rcases hgo with e|e
       rw[e] at V;cases V;rw[e] at X;cases X
      clear J
      cases xm<;>cases tk
      ·rcases hgo with e|e<;>cases e
      all_goals
       go_wp2;go_roundw;case rel=>exact⟨r+1,g_,o_,by rw[n],by rw[n],u⟩
       case measure=>exact z_
     obtain⟨rfl,rfl⟩:xm=false/\tk=false:=⟨by cases xm;rfl;exact absurd (.inl rfl) hgo,by cases tk;rfl;exact absurd (.inr rfl) hgo⟩;clear hgo;go_wp2_with fail
     refine(ZbO (some ⟨q,0,none⟩) O P c i L l _ (HV.below (E.trans (M.mono E.size))) hi aS o_).mono ?_;rintro e w2 ⟨rfl,m,aB⟩;obtain rfl:=aB.symm;clear aB;have n:Hid (pkF T (Pn L i) j ((Bn L i).take (r+1))=if j<=Pn L i l/\(b<Pn L i l∨Pn L i l=b/\If l f) then(l,Pn L i l) else(f,b)):=(by show _=_;rw[J];unfold pkS fy Zeb;simp only[a6.out,true_and]);have aR:=E.trans (M.mono E.size);have f0:=Ac u y0;have f1:=Ac aR hc;have Q:=below_drewN u m;clear J a6;generalize Pn L i l=W at *;go_upto_region 12 with fail;go_cut [73] (λt wx=>t=.bool (decide (j<=W/\(b<W∨W=b/\If l f)))/\wx=y.drewN m)
     case first=>
      by_cases V:j<=W
      ·by_cases X:b<W
       ·go_wp2;go_meet
        exact⟨by rw[decide_eq_true (p:=_/\_) ⟨V,.inl X⟩],rfl⟩
       by_cases h3:W=b
       ·have e3:=beq_iff_eq.2 h3
        by_cases h4:If l f
        ·have e4:Op.bytesLess l.toList f.toList=true:=(by rw[yu];exact decide_eq_true h4);have S:Hid (_/\(b<W∨_/\_)):=⟨V,.inr ⟨h3,h4⟩⟩;clear h3 h4;go_wp2;go_meet
         exact⟨by rw[decide_eq_true S.out],rfl⟩
        have e4:Op.bytesLess l.toList f.toList=false:=by rw[yu];exact decide_eq_false h4
        have S:Hid (¬(j<=W/\(b<W∨W=b/\If l f))):=λh=>by rcases h.2 with h|h;exact X h;exact h4 h.2
        clear h3 h4;go_wp2;go_meet
        exact⟨by rw[decide_eq_false S],rfl⟩
       have e3:=beq_eq_false_iff_ne.2 h3
       have S:Hid (¬(j<=W/\(b<W∨W=b/\If l f))):=λh=>by rcases h.2 with h|h;exact X h;exact h3 h.1
       clear h3;go_wp2;go_meet
       exact⟨by rw[decide_eq_false S],rfl⟩
      have S:Hid (¬(_/\(b<W∨W=b/\If l f))):=λh=>V h.1;go_wp2;go_meet
      exact⟨by rw[decide_eq_false S],rfl⟩
     case rest=>
     obtain⟨rfl,hw⟩:=hcut;obtain rfl:=hw.symm;clear hw
     by_cases hb:j<=W/\(b<W∨W=b/\If l f)
     ·rw[decide_eq_true hb];have C:Hid (pkF T (Pn L i) j ((Bn L i).take (r+1))=(l,W)):=(by show _=_;rw[n,if_pos hb]);clear hb n;go_wp2;go_roundw;case rel=>exact⟨r+1,g_,o_,by rw[C],by rw[C],Q⟩
      case measure=>exact z_
     rw[decide_eq_false hb];have C:Hid (pkF T (Pn L i) j ((Bn L i).take (r+1))=(f,b)):=(by show _=_;rw[n,if_neg hb]);clear hb n;go_wp2;go_roundw;case rel=>exact⟨r+1,g_,o_,by rw[C],by rw[C],Q⟩
     case measure=>exact z_
    have g2:¬r<(O:Int):=o_;have a7:(Bn L i).take r=_:=List.take_of_length_le (by unfold Bn;rw[List.length_map,a0];omega);rw[a7,HP]
    by_cases hkl:k<D.length
    ·rw[dif_pos hkl];have aV:=aQ _ (Qf hkl);have aP:Hid ((D.take (k+1)).map WS.wd=T++[D[k].wd]):=(by show _=_;rw[Qi hkl,List.map_append,HT];rfl);generalize D[k]=x at *;obtain⟨l,xt⟩:=x;simp only at aV ⊢;have e0:(xt==0)=_:=beq_eq_false_iff_ne.2 o_;have hI:=HI.below z;obtain⟨⟨_,_,x2,_⟩,_,b5⟩:=hI.blk.cells;obtain⟨i0,aL,aW,aT,aX⟩:=info_parts Zc8;have G:Hid (∀o,WdI w _ (wr.alloc o) _ k _ _ T):=λo=>hI.below bA_;have b6:=hI.tch.size;have F:=HI.len
     have I:Hid (∀o,(wr.alloc o).ownsRow H.heap.size 9 1 (.slice da k dc) k (T.map Value.string)):=λo=>by have:=(G o).own;unfold Cc at this;rw[F] at this;exact this
     clear hI HI HP;go_wp2_with (at_builtin;refine Ab rfl (.tmp 81) (.tmp 83) 47 rfl H.heap.size 9 i0 _ 1 16 Tryz.underlying47 aL aW aT aX rfl d_ (.slice da k dc) k _ rfl (I _) _ 1 1 [.string l] rfl rfl ?_ ?_ ?_ ?_ ?_ ?_ ?_)
     rfl;unfold maxLen;omega;omega;omega;intro v7 w7 H7;obtain⟨r7,g7,_,_,q7,p7,aC⟩:=H7;have t7:=(Aa.refl _ _).grown g7 (λk hk _=>hk);have N:aq _ _ _ _ _ 0:=t7.at_ (G _).blk (λe=>Au (I (.cells #[] 9)) e (G _).blk d_ rfl);have HF:Hid (WdI w H (w7.setCell (A_ (w.heap.size+1+1) 2) v7) (w.heap.size+1+1) (k+1) (some ⟨q7,0,none⟩) p7 (T++[l])):=by subst aC;refine⟨ht_ 2 _ _ _ N,?_,by rw[Qe,F];rfl,?_⟩;have ho:=Cc.add (by rw[F];exact r7);exact As ho N d_;exact((G _).tch.grown g7 (λx hx hlt=>by have:=(rl_ (I (.cells #[] 9)) x hx).1;omega)).setCell (p:=(A_ (w.heap.size+1+1) 2)) (λ_=>rfl) _
     obtain⟨⟨_,_,b8,_⟩,hfz,_⟩:=N.cells;have p2:=hfz 2;have aU:Hid (gr wo (w.heap.size+1+1)=k):=by show _=_;unfold gr;rw[c2];rfl
     have a9:Hid (gr (w7.setCell (A_ (w.heap.size+1+1) 2) v7) (w.heap.size+1+1)=k+1):=by show _=_;unfold gr;rw[HF.blk.cells.1.2.2.1];rfl
     subst aC;clear r7 g7 t7 N hfz G I x2 c0 c1 c2 c3;go_wp2;go_roundw;case rel=>exact⟨k+1,_,_,o_,o_,by rw[aP];exact HF⟩
     case measure=>rw[aU,a9];omega
    rw[dif_neg hkl];have HTB:Hid (T=B):=(by show _=_;rw[a8,<- HT,List.take_of_length_le o_,List.take_of_length_le o_]);have hI:=HI.below z;exact Zhb
  have g2:=hk2;have HTB:Hid ((D.take k).map WS.wd=B):=(by show _=_;rw[a8,show d.toNat=k by omega]);have hI:=HI.out;exact Zhb
def Mr(L:List (Int×List VS))(E:Nat->ES)(i:Nat):List Nat:=(Bn L i).map (Dy (E i))
def Ou(m:Nat)(E:Nat->ES):List ES:=(List.range (m+1)).map E
def Ih(m:Nat)(L:List (Int×List VS))(E:Nat->ES):List (List Nat):=(List.range (m+1)).map (Mr L E)
def bv{m E i}(h:i<m+1):(Ou m E).getD i Ph=E i:=by simp[Ou,List.getD,h]
def Uh{m L E i}(h:i<m+1):(Ih m L E).getD i []=Mr L E i:=by simp[Ih,List.getD,h]
def Lt{L E}{i}:(Mr L E i).length=L.length:=by simp[Mr,Bn]
def Zhc{L E i r}(h:r<L.length):(Mr L E i).getD r 0=Dy (E i) ((L.getD r Sf).2.getD i Ax):=by simp[Mr,Bn,List.getD,h]
def CfB(w:World)(cb:Nat)(fk n fc:Nat)(bins:Int)(size budget:Nat):Prop:=w.heap[cb]? =some (.cells #[L_ fk n fc,I_ bins,I_ size,I_ budget] 37 (0,0))
def CfB.cells{w cb fk n fc bins size budget}(h:CfB w cb fk n fc bins size budget):w.cell? (A_ cb 0)=some (L_ fk n fc)/\w.cell? (A_ cb 1)=some (I_ bins)/\w.cell? (A_ cb 2)=some (I_ size)/\w.cell? (A_ cb 3)=some (I_ budget):=
 ⟨cq_ 0 _ 37 (0,0) h,cq_ 1 _ 37 (0,0) h,cq_ 2 _ 37 (0,0) h,cq_ 3 _ 37 (0,0) h⟩
def aq.fill{w b m a j i e c d f}(h:aq w b m j i d):aq ((((w.setCell (A_ b 0) (.bool a)).setCell (A_ b 1) e).setCell (A_ b 2) c).setCell (A_ b 3) (I_ f)) b a e c f:=by have k:=hs_ w b 0 _ 227 (.bool a) h;have g:=hs_ _ b 1 _ 227 e k;have l:=hs_ _ b 2 _ 227 c g;exact hs_ _ b 3 _ 227 (I_ f) l
section
variable {P:Program} {ops:Array Oper} {Q:Exit->Act->World->Prop} {md:Region.Mode} {S:World->Prop} {stop:Nat}
def Zf{e:Oper}{v:Value}{d:Nat}{b:Array Bool}{a g:Act}{w:World}(i:Nat)(h:Dg P md ops Q S stop d (b.setIfInBounds i true) g w)(j:ops.toList[i]? =some e:=by rfl)(hs:Region.noSelect ops=true:=by kernel_rfl)(hf:Region.free md ops b i=true:=by kernel_rfl)(hr:(Region.ready md ops b).contains i=true:=by kernel_rfl)(hstop:(ZeD md ops b i).contains stop=true:=by kernel_rfl)(hL:iu md ops b i (ZeD md ops b i)=true:=by kernel_rfl)(hg:Region.wanted e (yielded ops a.tmps)=true:=by rfl)(hS:S w:=by assumption)(y:∀w,S w->(execOp a.eval e).run P w=.ok (.value v) w:=by intro w f;(first|obtain⟨_,_,_,_,_,_,_,_⟩:=f|obtain⟨_,_,_,_,_,_⟩:=f);go_simp;try with_reducible rfl)(ha:a.put e.dst v=g:=by(try simp only[Act.put,List.setIfInBounds_toArray,List.set_cons_succ,List.set_cons_zero]);exact rfl)
  (hQ:∀c a w,Q (.panic c) (a.put e.dst v) w->Q (.panic c) a w:=by exact λ_ _ _ h=>h):Dg P md ops Q S stop (d+1) b a w:=Kh _ j hs hf hr hstop hL hQ (Or.inl ⟨hg,y⟩) hS (ha ▸ h)
end
def ZjR:(Tryz.prog.info? 227).map (λi=>(i.zero,i.size,i.bytes))=some (some (.agg #[.bool false,.slice none 0 0,.slice none 0 0,I_ 0]),4,64):=k_
def xz p b r:∀i,(ng p b r i).length<=i
 |0=>by simp[ng]
 |i+1=>by have:=xz p b r i;simp only[ng,Qe,exC];split<;>simp<;>omega
def Zep p b M:∀r,(Uq p b M r).length<=r*M
 |0=>by simp[Uq]
 |r+1=>by have:=Zep p b M r;have:=xz p b r M;simp only[Uq,Qe,Nat.add_mul];omega
def Zan(w w':World)(yb n:Nat)(D:Zh):Prop:=∃vF vB vC vX kvs bvs cvs X,RfX w' w.heap.size yb n vF vB vC vX kvs bvs cvs D.ks (D.bs.map BS.fs) (D.bs.map BS.N) X/\X.Perm D.xs/\Fp X
structure MaI(w wr:World)(fk fc n m)(bins)(size budget k)(L)(E)(vF vb vo)(kvs)(bbs):Prop where
 my:rg wr w.heap.size (w.heap.size+1+1) (w.heap.size+1) n vF Cz Cz Cz vb vo kvs bbs (Eb (Ou m E) (Ih m L E) k) ((Ih m L E).take k) ((List.range k).map (De (Gh (Ou m E) (Ih m L E) (m+1))))
 cf:CfB wr w.heap.size fk (m+1) fc bins size budget
 lo:E_ w wr
def Zf3(fk fc n c m A l:Nat) a s wd sc ct L E w (hF:Dd w fk 0 (m+1) wd sc ct)(hR:Sn w a n (m+1) L)(fV:Yj L)(hn:n<=200)(hm:m+1<=4)(jX:l<=20)(hs:2<=A)(kH:A<=32)(j3:2<=s)(iJ:s<=16)(jQ:∀i,i<m+1->wd i=true->1<=ct i)(hE:∀i,E i=Ck Mb (wd i) (ct i) s A (Bn L i) (Fr L))(jC:∀i,i<m+1->Ol (E i)/\(E i).wd=wd i/\(E i).cnt<=16):C_ 179 #[.agg #[.slice (some ⟨fk,0,none⟩) (m+1) fc,.int .i64 s,.int .i64 A,.int .i64 l],.slice a n c] w λe w'=>∃yb,e=.returned (.pointer (some ⟨yb,0,none⟩))/\Zan w w' yb n (Ao m n l (Ou m E) (Ih m L E))/\Below w.heap.size w w':=by
 have HF:Hid (Dd w fk 0 (m+1) wd sc ct):=hF;have HR:Hid (Sn w a n (m+1) L):=hR;have j8:Hid (Yj L):=fV;have HE:Hid ((∀i,E i=Ck Mb (wd i) (ct i) s A (Bn L i) (Fr L))/\(∀i,i<m+1->Ol (E i)/\(E i).wd=wd i/\(E i).cnt<=16)/\∀i,i<m+1->wd i=true->1<=ct i):=⟨hE,jC,jQ⟩;have iX:L.length=n:=hR.1;have bK:Hid (L.length=n):=iX;obtain⟨w3,bY⟩:=ex_ (((w.alloc (.cells #[L_ fk (m+1) fc,I_ s,I_ A,I_ l] 37)).alloc (.cells #[I_ n,Cz,Cz,Cz,Cz] 142)).alloc (.cells #[P_ (w.heap.size+1),Cz,Cz] 331))
 have j5:Hid (MaI w w3 fk fc n m s A l 0 L E Cz Cz Cz [] []):=by
  have hb:E_ w w3:=(by rw[bY];exact(bA_.alloc s_ _).alloc t_ _);refine⟨⟨?_,?_,dx.nil _ _,Mg.nil _ _,Ag.nil _ _,λi O=>by simp at O,λi O=>by simp[Eb] at O⟩,?_,hb⟩
  ·rw[bY];have e:=ha_ ((w.alloc (.cells #[L_ fk (m+1) fc,I_ s,I_ A,I_ l] 37)).alloc (.cells #[I_ (n:Nat),Cz,Cz,Cz,Cz] 142)) (.cells #[P_ (w.heap.size+1),Cz,Cz] 331)
   simpa [MaB] using e
  rw[bY];exact(hc_ s_).trans (by have e:=ha_ (w.alloc (.cells #[L_ fk (m+1) fc,I_ s,I_ A,I_ l] 37)) (.cells #[I_ (n:Nat),Cz,Cz,Cz,Cz] 142);simpa [Ty] using e);rw[bY];exact((hc_ t_).trans (hc_ s_)).trans hn_
 have iL:Hid (w3=_):=bY;obtain⟨M,hM⟩:=ex_ (m+1);have aK:Hid (M=m+1):=hM;have l1:M<=4:=o_;clear hF hR fV hE jC jQ bY iX;go_enter Tryz.func179,Tryz.ntmps179;go_upto_region 3 with fail;rw[<- iL];clear iL;rw[<- hM];clear hM;go_loopw [6] (λt6 wr=>∃(k:Nat) (vF vb vo:Value) (U:List (Value×Value)) (X:List Value),t6=.int .i64 k/\k<=M/\Hid (MaI w wr fk fc n m s A l k L E vF vb vo U X)) (λt6 _=>M-(intOf t6).toNat)
 case atStart=>exact⟨0,Cz,Cz,Cz,[],[],rfl,qg_,j5⟩
 case round=>
  clear j5;obtain⟨k,vF,vb,vo,U,X,rfl,hk,HI⟩:=hrel;obtain⟨y0,y1,y2,y3⟩:=HI.cf.cells;rw[<- aK] at y0;have b8:=HI.lo;have dA:=b8.size
  by_cases hkM:k<M
  ·have Z:k<m+1:=(by have:=aK.out;omega);have g1:k<(M:Int):=o_;have g0:0<=(k:Int):=o_;have iW:=HF.lt o_;have f0:wr.cell? (A_ fk (k*3))=some (.bool (wd k)):=(b8.cell (p:=(A_ fk _)) iW).trans (by have:=HF.c0 k Z;rwa [Nat.zero_add] at this);have f2:wr.cell? (A_ fk (k*3+2))=some (I_ (ct k)):=(b8.cell (p:=(A_ fk _)) iW).trans (by have:=HF.c2 k Z;rwa [Nat.zero_add] at this);have gC:=zn a n (m+1) c k A s l (some ⟨fk,0,none⟩) (m+1) fc L wr (HR.below b8) Z j8 hn hs kH j3 iJ;rw[<- aK] at gC;have b7:=HI.cf;have dH:w.heap.size<wr.heap.size:=(Qb b7).1;obtain⟨Y,hL⟩:=ex_ wr;subst hL;clear b7;go_wp2_with fail
   refine gC.mono ?_;rintro e w1 ⟨av,cb,rfl,jO,dB⟩;have iG:=dB.size;obtain⟨y,hy⟩:=ex_ (w1.alloc (.cells #[.bool false,.slice av (Co (Bn L k) (Fr L) s A).length cb,Cz,I_ 0] 227));have cR:E_ w1 y:=(by rw[hy];exact bA_);have P:E_ Y y:=dB.trans (cR.mono iG);have bD:Hid (aq y w1.heap.size false (.slice av (Co (Bn L k) (Fr L) s A).length cb) Cz 0/\Ag y Y.heap.size (.slice av (Co (Bn L k) (Fr L) s A).length cb) (Co (Bn L k) (Fr L) s A)):=⟨by rw[hy];exact hn_,jO.below cR⟩;have HY:Hid (y=w1.alloc (.cells #[.bool false,.slice av (Co (Bn L k) (Fr L) s A).length cb,Cz,I_ 0] 227)):=hy;have jP:=HE.1 k;obtain⟨aD,aI,kZ⟩:=HE.2.1 k Z;have jY:Hid (wd k=true->1<=ct k):=HE.2.2 k Z
   have bZ:Hid (E k=Ck Mb (wd k) (ct k) s A (Bn L k) (Fr L)):=jP;clear hy gC jO dB jP;have z0:=Ac P y0;have z1:=Ac P y1;have z2:=Ac P y2;have z3:=Ac P y3;have z4:=Ac P f0;go_upto_region 6 with fail;rw[<- HY];clear HY;go_upto_if 40 with fail
   go_cut [7] (λt wx=>t=.pointer (some ⟨w1.heap.size,0,none⟩)/\∃vb' vw,Hid (aq wx w1.heap.size (E k).wd vb' vw 0/\Ag wx Y.heap.size vb' (E k).bs/\Cc wx Y.heap.size vw (E k).ww/\E_ Y wx))
   case first=>
    cases hw:wd k with
    | false=>
     rw[hw] at z4 f0;have aV:Hid (aq y w1.heap.size (E k).wd (.slice av (Co (Bn L k) (Fr L) s A).length cb) Cz 0/\Ag y Y.heap.size (.slice av (Co (Bn L k) (Fr L) s A).length cb) (E k).bs/\Cc y Y.heap.size Cz (E k).ww/\E_ Y y):=(by have e:E k=⟨false,Co (Bn L k) (Fr L) s A,[]⟩:=(by rw[bZ,hw];rfl);rw[e];exact⟨bD.1,bD.2,Cc.nil _ _,P⟩);clear bD cR P bZ;go_wp2;go_meet
     exact⟨rfl,_,_,aV⟩
    | true=>
     rw[hw] at z4 f0;have h9:=Zdy a n (m+1) c k s A l (ct k) fk fc L y (HR.below (b8.trans (P.mono dA))) Z j8 hn j3 iJ (Ac P f2) (jY hw);rw[<- aK] at h9;have he:E k=Mb (Bn L k) (Fr L) (ct k) s:=(by rw[bZ,hw];rfl);have k1:Hid (E k=Mb (Bn L k) (Fr L) (ct k) s):=he;clear he;go_wp2_with fail
     refine h9.mono ?_;rintro e w4 ⟨ad,cd,rfl,iI,gO⟩;have hU:aq w4 w1.heap.size false (.slice av (Co (Bn L k) (Fr L) s A).length cb) Cz 0:=(gO.block _ bD.1.cells.2.2).trans bD.1;obtain⟨⟨q0,q1,q2,q3⟩,dP,_⟩:=hU.cells;have p0:=dP 0;have p1:=dP 1;have p2:=dP 2;have p3:=dP 3;have aV:Hid (aq w4 w1.heap.size false (.slice av (Co (Bn L k) (Fr L) s A).length cb) Cz 0/\Cc w4 Y.heap.size (.slice ad (Mb (Bn L k) (Fr L) (ct k) s).ww.length cd) (Mb (Bn L k) (Fr L) (ct k) s).ww/\E_ Y w4):=⟨hU,iI.monoW P.size,P.trans (gO.mono P.size)⟩;clear dP hU iI gO bD h9 cR P z0 z1 z2 z3 z4;generalize (Co (Bn L k) (Fr L) s A).length=nl at *;generalize hgw:(Mb (Bn L k) (Fr L) (ct k) s).ww.length=nw at *;go_wp2;go_meet
     have tt:=Aa.set4 w4 w1.heap.size (.bool true) Cz (.slice ad nw cd) (I_ 0);refine⟨rfl,Cz,.slice ad nw cd,?_⟩;rw[k1];exact⟨aV.1.fill,Ag.nil _ _,tt.row aV.2.1 (λk hk e=>Au aV.2.1 hk aV.1 d_ e),aV.2.2.trans (tt.to_below aV.2.2.size (λk hk=>o_))⟩
   case rest=>
   obtain⟨rfl,l2,l3,HC⟩:=hcut;obtain⟨fb,h4⟩:=ex_ w1.heap.size;rw[<- h4] at HC ⊢;have jE:Y.heap.size<=fb:=(by rw[h4];exact iG);clear h4;obtain⟨i1,iS,jJ,hP⟩:=HC.out;obtain⟨ab,F,rfl⟩:=iS.shape;obtain⟨aw,cw,rfl⟩:=jJ.form;have k7:=HI.my.below hP;obtain⟨⟨s0,s1,s2,s3⟩,_,jN⟩:=i1.cells;have aE:Hid (aq wc fb (E k).wd (.slice ab (E k).bs.length F) (.slice aw (E k).ww.length cw) 0/\Ag wc Y.heap.size (.slice ab (E k).bs.length F) (E k).bs/\Cc wc Y.heap.size (.slice aw (E k).ww.length cw) (E k).ww/\E_ Y wc):=HC.out;have gR:E_ w wc:=b8.trans (hP.mono dA);have kR:Hid (E_ w wc):=gR
   have bF:Hid (od ⟨E k,0⟩):=(by have:=aD.lb;have:=aD.lw;refine⟨a_,a_,λe=>?_,λe=>?_⟩;have e2:wd k=true:=aI ▸ e;rw[bZ];unfold Ck;rw[e2,if_pos rfl];rfl;have e2:wd k=false:=aI ▸ e;rw[bZ];unfold Ck;rw[e2,if_neg d_]);clear aI;have aU:∀W v,E_ wc W->C_ 239 #[.agg #[.bool (E k).wd,.slice ab (E k).bs.length F,.slice aw (E k).ww.length cw,.int .i64 0],.agg #[.bool v.miss,.int .i64 v.num,.string v.word]] W λz w'=>z=.returned (.int .i64 (Dy (E k) v:Nat))/\E_ W w':=λW v hW=>Ziu Y.heap.size _ _ 0 (E k) v W (aE.2.1.below hW) (aE.2.2.1.below hW) aD bF.2.2.1 bF.2.2.2;have fF:Hid _:=aU;have k9:=Ko n o_;have dG:=Nu (λr=>((Dy (E k) ((L.getD r Sf).2.getD k Ax):Nat):Int)) n
   have dF:Hid (Eu (λr=>(Dy (E k) ((L.getD r Sf).2.getD k Ax):Nat)) n n=Av (Mr L E k)):=(by show _=_;rw[Nt];apply List.ext_getElem;simp[Av,Lt,bK.out];intro r h1 h2;have hr:r<L.length:=(by simp at h1;have:=bK.out;omega);have:=Zhc (E:=E) (i:=k) hr;simp only[List.getElem_map,List.getElem_range,Av];rw[<- this];simp[List.getD,show r<(Mr L E k).length by rw[Lt];exact hr]);clear HC i1 iS jJ hP aU y cR P bD y0 y1 y2 y3 f0 f2 z0 z1 z2 z3 z4;go_wp2_with fail
   go_loopw [9] (λt9 wr=>∃r:Nat,t9=.int .i64 r/\r<=n/\Hid (Ag wr wc.heap.size (.slice (some ⟨wc.heap.size,0,none⟩) n n) (Eu (λr=>((Dy (E k) ((L.getD r Sf).2.getD k Ax):Nat):Int)) n r))/\Hid (E_ wc wr)) (λt9 _=>n-(intOf t9).toNat)
   case atStart=>
    refine⟨0,rfl,qg_,?_,bA_⟩;rw[dG];exact Kn n wc wc.heap.size o_ qa_
   case round=>
    clear k9 dG;obtain⟨r,rfl,hN,HO,HB⟩:=hrel
    by_cases hin:r<n
    ·rcases(HR.below gR).2 with h0|⟨q,rfl,hq⟩
     omega;obtain⟨_,g,cc,a1,_,hC⟩:=hq r hin;obtain⟨a2,a3,a4⟩:=hC k Z;have hB:=HB.out;have hZ:Hid (n=(Eu (λr=>(Dy (E k) ((L.getD r Sf).2.getD k Ax):Nat)) n r).length):=(Mz _ o_).symm;have jA:Hid ((Eu (λr=>(Dy (E k) ((L.getD r Sf).2.getD k Ax):Nat)) n r).set r (Dy (E k) ((L.getD r Sf).2.getD k Ax):Nat)=Eu (λr=>(Dy (E k) ((L.getD r Sf).2.getD k Ax):Nat)) n (r+1)):=Rk (λr=>((Dy (E k) ((L.getD r Sf).2.getD k Ax):Nat):Int)) hin;have gG:=λW hW=>fF W ((L.getD r Sf).2.getD k Ax) hW;clear hq hC;generalize Dy (E k) ((L.getD r Sf).2.getD k Ax)=bx at *;generalize (L.getD r Sf).2.getD k Ax=x at *;obtain⟨xm,xn,xw⟩:=x;simp only at a2 a3 a4 gG
     generalize hoo:Eu (λr=>((Dy (E k) ((L.getD r Sf).2.getD k Ax):Nat):Int)) n r=out at *;clear hoo;generalize (E k).wd=ewd at *;generalize (E k).bs.length=enb at *;generalize (E k).ww.length=enw at *;have jV:Hid (∀W,E_ wc W->C_ 239 #[.agg #[.bool ewd,.slice ab enb F,.slice aw enw cw,.int .i64 0],.agg #[.bool xm,.int .i64 xn,.string xw]] W λz w'=>z=.returned (.int .i64 bx)/\E_ W w'):=gG;have b1:0<=(r:Int):=o_;have b2:r<(n:Int):=o_;have b4:k<((m+1:Nat):Int):=o_;have b5:k<(m:Int)+1:=o_;clear gG;go_upto_region 12 with fail
     refine Al (λw'=>w'.cell? (A_ fb 0)=some (.bool ewd)/\w'.cell? (A_ fb 1)=some (.slice ab enb F)/\w'.cell? (A_ fb 2)=some (.slice aw enw cw)/\w'.cell? (A_ fb 3)=some (I_ 0)/\w'.cell? (A_ q (r*2+1))=some (L_ g (m+1) cc)/\w'.cell? (A_ g (k*3))=some (.bool xm)/\w'.cell? (A_ g (k*3+1))=some (I_ xn)/\w'.cell? (A_ g (k*3+2))=some (.string xw)) 13 k_ ⟨Ac hB s0,Ac hB s1,Ac hB s2,Ac hB s3,Ac hB a1,Ac hB a2,Ac hB a3,Ac hB a4⟩ (λhHeld=>?_);refine Zf 0 ?_;refine Zf 1 ?_;refine Zf 2 ?_;refine Zf 3 ?_;refine Zf 4 ?_;refine Zf 5 ?_;refine Zf 6 ?_;refine Zf 7 ?_;refine Zf 8 ?_;refine Zf 9 ?_;refine Zf 10 ?_;refine Af (i:=11) k_ rfl (λKK hK=>?_);go_simp;refine(jV _ hB.drew).mono ?_;rintro e w2 ⟨rfl,gY⟩
     have aN:E_ wc w2:=hB.drew.trans (gY.mono hB.size);have aO:=HO.below (bz_.drew.trans gY);obtain⟨x0,x1⟩:=Ag.cellK aO hZ hin;have kM:Hid (Ag (w2.setCell (A_ wc.heap.size r) (I_ bx)) wc.heap.size (L_ wc.heap.size n n) (out.set r bx)):=(Ag.put aO hZ (bx:Nat)).1;have kO:Hid (E_ wc w2):=aN;have t0:=Ac aN s0;have t1:=Ac aN s1;have t2:=Ac aN s2;have t3:=Ac aN s3;have t4:=Ac aN a1;have t5:=Ac aN a2;have t6:=Ac aN a3;have t7:=Ac aN a4;clear aO gY;go_simp;refine hK _ _ ⟨t0,t1,t2,t3,t4,t5,t6,t7⟩ (λhHeld=>?_);clear hK KK;try simp only[Act.put,tA,tB,tC]
     refine Zf 12 ?_;refine Ai (i:=13) k_ rfl k_ (λKK hK=>?_);go_simp;refine hK _ _ ?_;clear hK KK;try simp only[Act.put,tA,tB,tC]
     refine Ak k_ ?_ _;clear t0 t1 t2 t3 t4 t5 t6 t7 hHeld;go_wp2;go_roundw;case rel=>exact⟨r+1,g_,o_,by rw[<- jA];exact kM,kO.setCell qa_ _⟩
     case measure=>exact z_
    have b2:¬r<(n:Int):=o_;have gE:Hid (Ag wr wc.heap.size (L_ wc.heap.size n n) (Av (Mr L E k))):=(by have:=HO.out;rw[show r=n by omega,dF] at this;exact this);have hB:=HB.out;have aS:(Mr L E k).length=n:=(by rw[Lt];exact bK);obtain⟨S,hI⟩:=ex_ (Zm (E k) (Mr L E k));have iY:Hid (S=Zm (E k) (Mr L E k)):=hI;have jI:(Tz (Mr L E k) ((E k).bs.length+(E k).ww.length+2)).1=S:=(by have bH:=bF.many;simp only[KS.many] at bH;rw[hI,bH];unfold Zm;rw[Zkl _ o_];simp);have iC:=Nk ab aw (E k).bs.length (E k).ww.length F cw (E k).wd 0 wr bF.1 bF.2.1
    have iP:∀W,E_ wr W->C_ 240 #[.slice (some ⟨wc.heap.size,0,none⟩) n n,.int .i64 ((E k).bs.length+(E k).ww.length+2:Nat)] W λe w'=>e=.returned (.int .i64 S)/\w'=W:=λW hW=>by have:=ZbJ (some ⟨wc.heap.size,0,none⟩) n n ((E k).bs.length+(E k).ww.length+2) (Mr L E k) W ((gE.below hW).mono qg_) aS hn (by have:=bF.many;simp only[KS.many] at this;omega);rw[jI] at this;exact this
    have j1:Hid _:=iP;have gJ:Hid (aq wr fb (E k).wd (.slice ab (E k).bs.length F) (.slice aw (E k).ww.length cw) 0):=(hB.block _ jN).trans aE.1;have dV:Hid ((Mr L E k).length=n):=aS;have fZ:Hid (∀W,E_ wr W->E_ Y W):=λW hW=>(aE.2.2.2.trans (hB.mono aE.2.2.2.size)).trans (hW.mono (Nat.le_trans aE.2.2.2.size hB.size));have h7:Hid (∀W,E_ wr W->Ag W Y.heap.size (.slice ab (E k).bs.length F) (E k).bs/\Cc W Y.heap.size (.slice aw (E k).ww.length cw) (E k).ww):=λW hW=>⟨(aE.2.1.below hB).below hW,(aE.2.2.1.below hB).below hW⟩;have t0:=Ac hB s0;have t1:=Ac hB s1;have t2:=Ac hB s2;have t3:=Ac hB s3;obtain⟨wl,kA⟩:=ex_ wr;subst kA;clear iP hI jI HO fF;go_wp2_with fail
    refine iC.mono ?_;rintro e w2 ⟨rfl,H⟩;go_wp2_with fail
    refine(j1 _ H).mono ?_;rintro e l8 ⟨rfl,i9⟩;obtain rfl:=i9.symm;have bO:aq w2 fb (E k).wd (.slice ab (E k).bs.length F) (.slice aw (E k).ww.length cw) 0:=(H.block _ gJ.cells.2.2).trans gJ;have q3:=bO.cells.1.2.2.2;have p3:=bO.cells.2.1 3;obtain⟨w6,cA⟩:=ex_ (w2.setCell (A_ fb 3) (I_ S));have hH:aq w6 fb (E k).wd (.slice ab (E k).bs.length F) (.slice aw (E k).ww.length cw) S:=by rw[cA];exact hs_ _ fb 3 _ 227 _ bO
    have hV:Hid (Ag w6 wc.heap.size (L_ wc.heap.size n n) (Av (Mr L E k))):=(by show Ag _ _ _ _;rw[cA];exact As (gE.below H) bO d_);have gF:Hid (E_ Y w6):=(by show Below _ _ _;rw[cA];exact(fZ _ H).setCell jE _);have bV:Hid (Ag w6 Y.heap.size (.slice ab (E k).bs.length F) (E k).bs/\Cc w6 Y.heap.size (.slice aw (E k).ww.length cw) (E k).ww):=by rw[cA];exact⟨As (h7 _ H).1 bO d_,As (h7 _ H).2 bO d_⟩
    have h5:Hid (aq w6 fb (E k).wd (.slice ab (E k).bs.length F) (.slice aw (E k).ww.length cw) S):=hH;obtain⟨⟨u0,u1,u2,u3⟩,_,_⟩:=hH.cells;have i5:Hid (w6=w2.setCell (A_ fb 3) (I_ S)):=cA;clear i9 iC H bO hH cA t0 t1 t2 t3 j1 gJ gE HB hB fZ h7;go_upto_region 16 with fail;rw[<- i5];clear i5;go_loopw [10,11] (λcG t11 wz=>∃(r d:Nat),t11=.int .i64 r/\r<=n/\cG=.int .i64 (Dj ((Dc (Mr L E k) S).take r):Nat)/\wz=w6.drewN d) (λ_ t11 _=>n-(intOf t11).toNat)
    case atStart=>exact⟨0,0,rfl,qg_,rfl,rfl⟩
    case round=>
     obtain⟨r2,d2,rfl,l0,rfl,k5⟩:=hrel;subst k5
     by_cases hin2:r2<n
     ·obtain⟨q9,e9,_,_,c9,_⟩:=hV.atK (by rw[Aw];exact dV) hin2;injection e9 with e9;injection e9 with e9;subst e9;rw[Cv] at c9;have gW:r2<(Dc (Mr L E k) S).length:=(by simp[Dc];rw[dV];exact hin2);have h6:=My ((Dc (Mr L E k) S).take r2) ((Dc (Mr L E k) S).getD r2 false);rw[<- Oe _ gW,show(Dc (Mr L E k) S).getD r2 false=decide ((Mr L E k).getD r2 0≠S) by simp[Dc,List.getD,show r2<(Mr L E k).length by rw[dV];exact hin2]] at h6;have lB:Dj ((Dc (Mr L E k) S).take r2)<=r2:=(by have:=Rj ((Dc (Mr L E k) S).take r2);rw[List.length_take] at this;omega);have jB:Hid _:=h6;clear h6;generalize (Mr L E k).getD r2 0=x at *;generalize Dj ((Dc (Mr L E k) S).take r2)=cr at *;have b3:0<=(r2:Int):=o_
      have b4:r2<(n:Int):=o_
      by_cases hx:x=S
      ·have HD:Hid (Dj ((Dc (Mr L E k) S).take (r2+1))=cr):=(by show _=_;rw[jB];simp[hx]);have e1:(x==(S:Int))=true:=beq_iff_eq.2 o_;have e2:(x !=(S:Int))=false:=(by simp[bne,e1]);clear hx;go_upto_region 18 with fail;go_quiet (fail);go_wp2;go_roundw;case rel=>exact⟨r2+1,_,g_,o_,by rw[HD],by first|rfl|simp⟩
       case measure=>exact z_
      have HD:Hid (Dj ((Dc (Mr L E k) S).take (r2+1))=cr+1):=(by show _=_;rw[jB];simp[hx]);have e1:(x==(S:Int))=false:=beq_eq_false_iff_ne.2 o_;have e2:(x !=(S:Int))=true:=(by simp[bne,e1]);go_upto_region 18 with fail;go_quiet (fail);go_wp2;go_roundw;case rel=>exact⟨r2+1,_,g_,o_,by rw[HD];go_num,by first|rfl|simp⟩
      case measure=>exact z_
     have b3:¬r2<(n:Int):=o_;have hz:Dj ((Dc (Mr L E k) S).take r2)=De (Gh (Ou m E) (Ih m L E) (m+1)) k:=(by rw[List.take_of_length_le (by simp[Dc];rw[dV];omega)];unfold De;rw[Lg _ _ Z];unfold oF;rw[bv Z,Uh Z,<- iY]);rw[hz];have l9:De (Gh (Ou m E) (Ih m L E) (m+1)) k<=200:=by rw[<- hz];have:=Rj ((Dc (Mr L E k) S).take r2);rw[List.length_take] at this;omega
     clear hz;generalize hzz:De (Gh (Ou m E) (Ih m L E) (m+1)) k=z at *;have jR:Hid (De (Gh (Ou m E) (Ih m L E) (m+1)) k=z):=hzz;clear hzz;obtain⟨w7,gM⟩:=ex_ (w6.drewN d2);rw[<- gM];have aG:E_ w6 w7:=(by rw[gM];exact below_drewN bz_ _);have bS:E_ Y w7:=gF.trans (aG.mono gF.size);have cC:=HI.my.below bS;have hS:Hid (rg w7 w.heap.size (w.heap.size+1+1) (w.heap.size+1) n vF Cz Cz Cz vb vo U X (Eb (Ou m E) (Ih m L E) k) ((Ih m L E).take k) ((List.range k).map (De (Gh (Ou m E) (Ih m L E) (m+1))))):=cC;have x0:=cR_ 0 cC.blk;obtain⟨aF,cF,jD⟩:=cC.fe.row.shape;rw[cC.fe.zlen,Dh] at jD;subst jD;have x1:=cR_ 1 cC.ds;have v0:=Ac aG u0;have v1:=Ac aG u1;have v2:=Ac aG u2;have v3:=Ac aG u3
     have iM:Hid (∀x,(Value.slice aF k cF).ownBlock=some x->x<Y.heap.size):=λx hx=>(rl_ HI.my.fe.row.row x hx).2;have gP:Hid (aq w7 fb (E k).wd (.slice ab (E k).bs.length F) (.slice aw (E k).ww.length cw) S):=(aG.block _ h5.cells.2.2).trans h5;have bC:Hid (CfB w7 w.heap.size fk (m+1) fc s A l):=(bS.block _ dH).trans HI.cf;have dD:Hid (Ag w7 w.heap.size (.slice ab (E k).bs.length F) (E k).bs/\Cc w7 w.heap.size (.slice aw (E k).ww.length cw) (E k).ww):=⟨(bV.1.below aG).mono dA,(bV.2.below aG).monoW dA⟩;have gB:Hid (Ag w7 w.heap.size (L_ wc.heap.size n n) (Av (Mr L E k))):=(hV.below aG).mono (by have:=kR.size;exact this)
     have fB:∀u v:Value,(∀x,u.ownBlock=some x->x<Y.heap.size)->(∀x,v.ownBlock=some x->Y.heap.size<=x)->Ch u v:=λu v hu hv=>by
      cases hk2:u.ownBlock with
      |none=>exact .inl hk2
      | some x=>
       cases hk3:v.ownBlock with
       |none=>exact .inr (.inl hk3)
       |some x'=>exact .inr (.inr (by rw[hk2,hk3];have:=hu x hk2;have:=hv x' hk3;simp;omega))
     have gN:Hid (Ch vo (.slice ab (E k).bs.length F)/\Ch vo (L_ wc.heap.size n n)/\∀i,i<((Ih m L E).take k).length->Ch (X.getD i Cz) (L_ wc.heap.size n n)):=by
      have hq:∀x,(L_ wc.heap.size n n).ownBlock=some x->Y.heap.size<=x:=λx hx=>by simp[Value.ownBlock] at hx;rw[<- hx];exact aE.2.2.2.size
      have ho:=λx hx=>(rl_ HI.my.ou x hx).2;exact⟨fB _ _ ho (λx hx=>(rl_ bV.1 x hx).1),fB _ _ ho hq,λi O=>fB _ _ (λx hx=>(rl_ (HI.my.bb.each i (by rw[List.length_map];exact O)) x hx).2) hq⟩
     have gS:Hid (E_ w w7):=b8.trans (bS.mono dA);have kV:Hid (kF (Ou m E) (Ih m L E) k=⟨E k,S⟩):=(by show _=_;unfold kF;rw[bv Z,Uh Z,iY]);obtain⟨i0,jK,kI,k3,kS⟩:=info_parts ZjR;clear cC aG bS gM fB hV gF bV h5 u0 u1 u2 u3 HI aE bF bZ aD k7 s0 s1 s2 s3 gR;generalize hwe:(E k).wd=ewd at *;have k6:Hid ((E k).wd=ewd):=hwe;generalize gT:(E k).bs.length=enb at *;generalize hlw:(E k).ww.length=enw at *;clear gT hlw hwe;obtain⟨W1,a0⟩:=ex_ ((w7.alloc (.cells #[.bool ewd,.slice ab enb F,.slice aw enw cw,I_ S] 227)).drew);have aC:E_ w7 W1:=(by rw[a0];exact bA_.drew);have gV:=hS.below aC
     have iN:W1.ownsRow w.heap.size 227 4 (.slice aF k cF) k ((List.zipWith Cf (Eb (Ou m E) (Ih m L E) k) U).flatten):=(by have:=gV.fe.row.row;rw[gV.fe.zlen,Dh] at this;exact this);have dM:Hid (W1.ownsRow w.heap.size 227 4 (.slice aF k cF) k ((List.zipWith Cf (Eb (Ou m E) (Ih m L E) k) U).flatten)):=iN;have aY:∀j u,[Value.bool ewd,.slice ab enb F,.slice aw enw cw,I_ S][j]? =some u->W1.cell? (((A_ w7.heap.size 0):Addr).add j)=some u:=by rw[a0];exact Am w7 #[.bool ewd,.slice ab enb F,.slice aw enw cw,I_ (S:Nat)] 227
     have b9:Hid _:=aY;have cE:w.heap.size<=W1.heap.size:=Nat.le_trans gS.size aC.size;have T:Hid (W1=(w7.alloc (.cells #[.bool ewd,.slice ab enb F,.slice aw enw cw,I_ S] 227)).drew/\E_ w7 W1):=⟨a0,aC⟩;clear aY iN gV a0 aC;go_upto_region 20 with fail;refine Al (λw'=>w'.cell? (A_ (w.heap.size+1+1) 0)=some (P_ (w.heap.size+1))/\w'.cell? (A_ (w.heap.size+1) 1)=some (.slice aF k cF)/\w'.cell? (A_ fb 0)=some (.bool ewd)/\w'.cell? (A_ fb 1)=some (.slice ab enb F)/\w'.cell? (A_ fb 2)=some (.slice aw enw cw)/\w'.cell? (A_ fb 3)=some (I_ (S:Nat))) 16 k_ ⟨x0,x1,v0,v1,v2,v3⟩ (λhHeld=>?_);refine Zf 0 ?_;refine Zf 1 ?_;refine Zf 2 ?_;refine Zf 3 ?_;refine Zf 4 ?_;refine Zf 5 ?_;refine Zf 6 ?_;refine Zf 7 ?_;refine Zf 8 ?_;refine Zf 9 ?_;refine Zf 10 ?_
     refine Zf 11 ?_;refine Af (i:=12) k_ rfl (λKK hK=>?_);go_simp;refine hK _ _ ⟨Ac bA_ x0,Ac bA_ x1,Ac bA_ v0,Ac bA_ v1,Ac bA_ v2,Ac bA_ v3⟩ (λhHeld=>?_);clear hK KK;try simp only[Act.put,tA,tB,tC]
     refine Af (i:=13) k_ rfl (λKK hK=>?_);rw[<- T.1];refine Az rfl (.tmp 97) (.tmp 99) 139 rfl w.heap.size 227 i0 (.agg #[.bool false,.slice none 0 0,.slice none 0 0,I_ 0]) 4 64 Tryz.underlying139 jK kI k3 kS rfl d_ (.slice aF k cF) k ((List.zipWith Cf (Eb (Ou m E) (Ih m L E) k) U).flatten) j_ dM (A_ w7.heap.size 0) 1 1 [.bool ewd,.slice ab enb F,.slice aw enw cw,I_ (S:Nat)] j_ rfl b9 ?_ d_ m_ o_ cE ?_
     ·intro u hu;simp at hu;rcases hu with rfl|rfl|rfl|rfl<;>rfl
     intro v9 w9 H9;obtain⟨r9,g9,d9,_,q9,p9,kQ⟩:=H9;have iV:=hS.below T.2
     obtain⟨hQ,bQ,fO⟩:=iV.feat (k:=⟨E k,S⟩) (u:=(.slice ab enb F,.slice aw enw cw)) (vF':=v9) (dD.1.below T.2) (dD.2.below T.2) gN.1 g9 (by
      have e:Cf ⟨E k,S⟩ (.slice ab enb F,.slice aw enw cw)=[.bool ewd,.slice ab enb F,.slice aw enw cw,I_ S]:=(by unfold Cf;rw[k6]);rw[Dh,e]
      exact r9)
     rw[<- kV,<- Za8] at hQ;have t9:Aa (λx=>(Value.slice aF k cF).ownBlock=some x) W1 w9:=(Aa.refl _ _).grown g9 (λx hx _=>hx);have g2:E_ w w9:=gS.trans ((T.2.mono gS.size).trans (t9.to_below cE (λx hx=>(rl_ dM x hx).1)));have dN:Hid (rg (w9.setCell (A_ (w.heap.size+1) 1) v9) w.heap.size (w.heap.size+1+1) (w.heap.size+1) n v9 Cz Cz Cz vb vo (U++[(.slice ab enb F,.slice aw enw cw)]) X (Eb (Ou m E) (Ih m L E) (k+1)) ((Ih m L E).take k) ((List.range k).map (De (Gh (Ou m E) (Ih m L E) (m+1))))):=hQ;have jM:aq w9 fb ewd (.slice ab enb F) (.slice aw enw cw) S:=t9.at_ ((T.2.block _ gP.cells.2.2).trans gP) (λe=>by have:=iM _ e;omega)
     have fP:Hid (CfB w9 w.heap.size fk (m+1) fc s A l):=t9.at_ ((T.2.block _ (Qb bC).1).trans bC) (λe=>Au dM e ((T.2.block _ (Qb bC).1).trans bC) d_ rfl)
     have hD:Hid (Ag w9 w.heap.size (L_ wc.heap.size n n) (Av (Mr L E k))):=t9.row (gB.below T.2) (λx hx e=>by
      obtain⟨c5,jS⟩:=Ad dM e
      exact Au (gB.below T.2) hx jS d_ rfl)
     have e0:=cR_ 0 fO;have e1:=cR_ 1 bQ;have e2:=fq_ 1 _ 142 bQ;obtain⟨⟨e3,e4,e5,e6⟩,_,_⟩:=jM.cells;have iF:Hid (E_ w w9):=g2;have i7:Hid (Ty w9 (w.heap.size+1) n (.slice aF k cF) Cz Cz Cz):=bQ;subst kQ;clear r9 g9 d9 iV hQ bQ fO t9 g2 jM x0 x1 v0 v1 v2 v3 hS T dM b9 gP iM bC gB dD;refine hK _ _ ⟨e0,e1,e3,e4,e5,e6⟩ (λhHeld=>?_);clear hK KK;try simp only[Act.put,tA,tB,tC]
     refine Zf 14 ?_;refine Zf 15 ?_;refine Ai (i:=16) k_ rfl k_ (λKK hK=>?_);go_simp;refine hK _ _ ?_;clear hK KK;try simp only[Act.put,tA,tB,tC]
     refine Ak k_ ?_ _;clear e0 e1 e2 e3 e4 e5 e6 hHeld;obtain⟨bB,bW⟩:=ex_ (w9.setCell (A_ (w.heap.size+1) 1) (L_ q9 (k+1) p9));rw[<- bW] at dN ⊢;have dO:Hid (E_ w bB):=(by show Below _ _ _;rw[bW];exact iF.setCell (Nat.le_succ _) _);have cG:Aa (λx=>x=w.heap.size+1) w9 bB:=(by rw[bW];exact(Aa.refl (λx=>x=w.heap.size+1) w9).setCell (p:=(A_ (w.heap.size+1) 1)) (λ_=>rfl) _);have fR:Hid (Ag bB w.heap.size (L_ wc.heap.size n n) (Av (Mr L E k))):=cG.row hD (λx hx e=>Au hD hx i7 d_ e);have cY:Hid (CfB bB w.heap.size fk (m+1) fc s A l):=cG.at_ fP o_;have gT:=dN.bb.shape;obtain⟨a8,c8,dJ⟩:=gT;rw[List.length_map,List.length_take,show(Ih m L E).length=m+1 by simp[Ih],Nat.min_eq_left o_] at dJ
     subst dJ;have x0:=cR_ 1 dN.blk;have iT:=dO.size;have d5:Hid (∀o,rg (bB.alloc o) w.heap.size (w.heap.size+1+1) (w.heap.size+1) n (L_ q9 (k+1) p9) Cz Cz Cz (.slice a8 k c8) vo (U++[(.slice ab enb F,.slice aw enw cw)]) X (Eb (Ou m E) (Ih m L E) (k+1)) ((Ih m L E).take k) ((List.range k).map (De (Gh (Ou m E) (Ih m L E) (m+1))))):=λo=>dN.below bA_
     have aP:Hid (∀o,(bB.alloc o).ownsRow w.heap.size 25 1 (.slice a8 k c8) k X):=λo=>by have:=(d5 o).bb.row;rw[List.length_map,List.length_take,show(Ih m L E).length=m+1 by simp[Ih],Nat.min_eq_left o_] at this;exact this
     obtain⟨j0,aW,dQ,cP,cJ⟩:=info_parts cm;clear bW cG dN iF hD fP i7;go_wp2_with (at_builtin;refine Ab rfl (.tmp 107) (.tmp 109) 84 rfl w.heap.size 25 j0 Cz 1 24 Tryz.underlying84 aW dQ cP cJ rfl d_ (.slice a8 k c8) k X rfl (aP _) (A_ bB.heap.size 0) 1 1 [L_ wc.heap.size n n] rfl rfl ?_ ?_ ?_ ?_ ?_ ?_ ?_)
     rfl;unfold maxLen;omega;omega;omega;intro gL bL jT;obtain⟨jL,d7,k2,_,gI,gD,iE⟩:=jT;have g3:((Ih m L E).take k).length=k:=(by rw[List.length_take,show(Ih m L E).length=m+1 by simp[Ih],Nat.min_eq_left o_]);obtain⟨fY,aM⟩:=(d5 _).bins (vb':=gL) (B:=Mr L E k) (fR.alloc _) gN.2.2 gN.2.1 d7 (by rw[g3];exact jL);have fU:E_ w bL:=dO.trans ((bz_.alloc iT _).grown d7 t_ (λx hx=>(rl_ (aP (.cells #[] 25)) x hx).1))
     have cN:Hid (CfB bL w.heap.size fk (m+1) fc s A l):=by have hc:=cY.out;have cW:CfB (bB.alloc (.cells #[L_ wc.heap.size n n] 25)) w.heap.size fk (m+1) fc s A l:=(hc_ (Qb hc).1).trans hc;exact((Aa.refl (λx=>(Value.slice a8 k c8).ownBlock=some x) _).grown d7 (λx hx _=>hx)).at_ cW (λe=>Au (aP _) e cW d_ rfl)
     have aT:Hid (rg (bL.setCell (A_ (w.heap.size+1+1) 1) gL) w.heap.size (w.heap.size+1+1) (w.heap.size+1) n (L_ q9 (k+1) p9) Cz Cz Cz gL vo (U++[(.slice ab enb F,.slice aw enw cw)]) (X++[L_ wc.heap.size n n]) (Eb (Ou m E) (Ih m L E) (k+1)) ((Ih m L E).take (k+1)) ((List.range k).map (De (Gh (Ou m E) (Ih m L E) (m+1))))):=by have e:(Ih m L E).take (k+1)=(Ih m L E).take k++[Mr L E k]:=(by rw[Qi (by simp[Ih];omega)];congr 2;simp[Ih]);rw[e];exact fY
     have kB:=cR_ 1 aM;have kE:=fq_ 1 _ 331 aM;have fM:Hid (E_ w bL):=fU;have kK:Hid (MaB bL (w.heap.size+1+1) (w.heap.size+1) (.slice a8 k c8) vo):=aM;subst iE;clear jL d7 k2 fY aM fU d5 aP fR cY dO x0;go_upto_region 22 with fail;obtain⟨c4,bR⟩:=ex_ (bL.setCell (A_ (w.heap.size+1+1) 1) (L_ gI (k+1) gD));rw[<- bR] at aT ⊢;have d8:Hid (E_ w c4):=by show Below _ _ _;rw[bR];exact fM.setCell (by show _<=w.heap.size+1+1;omega) _
     have bI:Hid (CfB c4 w.heap.size fk (m+1) fc s A l):=by show CfB _ _ _ _ _ _ _ _;rw[bR];exact((Aa.refl (λx=>x=w.heap.size+1+1) bL).setCell (p:=(A_ (w.heap.size+1+1) 1)) (λ_=>rfl) _).at_ cN o_
     obtain⟨a6,c6,j4⟩:=aT.ou.shape;rw[Aw,List.length_map,List.length_range] at j4;subst j4;have x2:=cR_ 2 aT.blk;have jG:=d8.size;have gW:(Av ((List.range k).map (De (Gh (Ou m E) (Ih m L E) (m+1))))).length<=1000000000:=(by rw[Aw,List.length_map,List.length_range];omega);have dC:Hid (∀o,rg (c4.alloc o) w.heap.size (w.heap.size+1+1) (w.heap.size+1) n (L_ q9 (k+1) p9) Cz Cz Cz (L_ gI (k+1) gD) (.slice a6 k c6) (U++[(.slice ab enb F,.slice aw enw cw)]) (X++[L_ wc.heap.size n n]) (Eb (Ou m E) (Ih m L E) (k+1)) ((Ih m L E).take (k+1)) ((List.range k).map (De (Gh (Ou m E) (Ih m L E) (m+1))))):=λo=>aT.below bA_
     have bT:Hid (∀o,Ag (c4.alloc o) w.heap.size (.slice a6 k c6) (Av ((List.range k).map (De (Gh (Ou m E) (Ih m L E) (m+1)))))):=λo=>(dC o).ou;clear bR aT fM cN kK kB kE;go_wp2_with (at_builtin;refine Bu rfl (.tmp 117) (.tmp 119) rfl w.heap.size _ (Av ((List.range k).map (De (Gh (Ou m E) (Ih m L E) (m+1))))) (z:Nat) rfl (bT _) c4.heap.size 1 rfl ?_ ?_ ?_ ?_)
     ·simp[go_sem]
     exact gW;simp;omega;intro dX f8 kN;obtain⟨jH,fA,j6⟩:=kN
     obtain⟨fQ,bG⟩:=(dC _).outm (vo':=dX) (z:=z) fA jH (by
      rcases j6 with e|e
      exact .inl e
      exact .inr (by simpa using e.1))
     have fX:Hid (MaI w (f8.setCell (A_ (w.heap.size+1+1) 2) dX) fk fc n m s A l (k+1) L E (L_ q9 (k+1) p9) (L_ gI (k+1) gD) dX (U++[(.slice ab enb F,.slice aw enw cw)]) (X++[L_ wc.heap.size n n])):=by
      have iZ:E_ w f8:=d8.trans ((bz_.alloc jG _).grown fA t_ (λx hx=>(rl_ (bT (.cells #[] 3)) x hx).1));have cW:CfB (c4.alloc (.cells #[I_ z] 3)) w.heap.size fk (m+1) fc s A l:=(hc_ (Qb bI).1).trans bI;have jW:CfB f8 w.heap.size fk (m+1) fc s A l:=((Aa.refl (λx=>(Value.slice a6 k c6).ownBlock=some x) _).grown fA (λx hx _=>hx)).at_ cW (λe=>Au (bT _) e cW d_ rfl);refine⟨?_,((Aa.refl (λx=>x=w.heap.size+1+1) f8).setCell (p:=(A_ (w.heap.size+1+1) 2)) (λ_=>rfl) _).at_ jW o_,iZ.setCell (by show _<=w.heap.size+1+1;omega) _⟩;rw[List.range_succ,List.map_append];simp only[List.map_cons,List.map_nil,jR.out];exact fQ
     have lC:=cR_ 2 bG;have l5:=fq_ 2 _ 331 bG;clear jH fA j6 fQ bG dC bT bI d8 x2;obtain⟨l7,kY,jF⟩:∃a c,dX=.slice a (k+1) c:=by obtain⟨a,c,e⟩:=fX.my.ou.shape;rw[Aw,List.length_map,List.length_range] at e;exact⟨a,c,e⟩
     subst jF;go_wp2;go_roundw;case rel=>exact⟨k+1,_,_,_,_,_,g_,o_,fX⟩
     case measure=>exact z_
  have g1:¬k<(M:Int):=o_;have Z:k=m+1:=(by have:=aK.out;omega);obtain⟨I,cH⟩:=ey_ (Eb (Ou m E) (Ih m L E) (m+1));obtain⟨Os,dU⟩:=ey_ (Gh (Ou m E) (Ih m L E) (m+1));obtain⟨J,cM⟩:=ey_ (Ih m L E)
  have cS:∀i,i<m+1->I.getD i Ay=⟨E i,Zm (E i) (Mr L E i)⟩:=λi O=>by rw[<- cH,Fi _ _ O];unfold kF;rw[bv O,Uh O]
  have dK:∀i,i<m+1->J.getD i []=Mr L E i:=λi O=>by rw[<- cM];exact Uh O
  have cD:I.length=m+1:=(by rw[<- cH];exact Dh _ _ _);have aS:J.length=m+1:=by rw[<- cM];simp[Ih]
  have gH:∀i,i<m+1->Os.getD i []=Dc (Mr L E i) (Zm (E i) (Mr L E i)):=λi O=>by rw[<- dU,Lg _ _ O];unfold oF;rw[bv O,Uh O]
  have fG:∀i,i<m+1->od (I.getD i Ay):=λi O=>by rw[cS i O];obtain⟨aD,aI,_⟩:=HE.2.1 i O;refine⟨aD.lb,aD.lw,λe=>?_,λe=>?_⟩;have e2:wd i=true:=aI ▸ e;show(E i).bs=[];rw[HE.1];unfold Ck;rw[e2,if_pos rfl];rfl;have e2:wd i=false:=aI ▸ e;show(E i).ww=[];rw[HE.1];unfold Ck;rw[e2,if_neg d_]
  have bH:∀i,i<m+1->(I.getD i Ay).many<=18:=λi O=>by rw[cS i O];have:=(HE.2.1 i O).2.2;show(E i).cnt+2<=18;omega
  have aU:∀i,i<m+1->∀r,(J.getD i []).getD r 0<(I.getD i Ay).many:=λi O r=>by
   rw[cS i O,dK i O]
   by_cases hr:r<L.length
   rw[Zhc hr];exact wi _ _;rw[Qc,List.getElem?_eq_none (by rw[Lt];omega)];show 0<(E i).cnt+2;omega
  have f6:∀i,i<m+1->(Os.getD i []).length=n:=λi O=>by rw[gH i O];simp[Dc,Lt,bK.out]
  have hO:∀r,r<n->∀g,g<I.length->(Os.getD g []).getD r false=sO I J g r:=λr hr g hg=>by rw[cD] at hg;unfold sO;rw[gH g hg,dK g hg,cS g hg];simp[Dc,List.getD,show r<(Mr L E g).length by rw[Lt,bK];exact hr]
  have hX:MkX wr w.heap.size (w.heap.size+1+1) (w.heap.size+1) n vF Cz Cz Cz vb vo U X I J ((List.range (m+1)).map (De Os)):=(by have:=HI.my;rw[Z,cH,dU,cM,List.take_of_length_le (by rw[aS];exact qa_)] at this;exact this.whole (by rw[aS,cD]) (λi O=>by rw[aS] at O;rw[dK i O,Lt];exact bK) (λi O=>by rw[cD] at O;exact fG i O));have dI:=Zix w.heap.size (w.heap.size+1+1) (w.heap.size+1) n m l vF Cz Cz vb vo U X I J Os wr hX cD hn hm jX (λi O=>by have:=bH i O;omega) f6 hO;have R:=iv (l:=l) f6 (I:=I) (λi O=>by have:=bH i O;omega);have h8:Hid (Ao m n l (Ou m E) (Ih m L E)=Ew Os J n I (Ha m I Os n l)):=by show _=_;unfold Ao;rw[cH,dU,cM]
  obtain⟨C,hY⟩:=ey_ (Ha m I Os n l);have cQ:Hid ((Fh C).Perm (List.range (m+1))/\(Fh C).Nodup):=(by rw[<- hY];exact⟨Nd m I Os n l,Tq m I Os n l⟩);rw[hY] at dI R h8;have HP:Hid ((∀i,i<m+1->(I.getD i Ay).many<=18)/\(∀i,i<m+1->∀r,(J.getD i []).getD r 0<(I.getD i Ay).many)/\(∀i,i<m+1->(Os.getD i []).length=n)/\(∀r,r<n->∀g,g<I.length->(Os.getD g []).getD r false=sO I J g r)/\I.length=m+1/\J.length=m+1/\(∀i,i<m+1->(J.getD i []).length=n)):=⟨bH,aU,f6,hO,cD,aS,λi O=>by rw[dK i O,Lt];exact bK⟩;have HX:Hid (MkX wr w.heap.size (w.heap.size+1+1) (w.heap.size+1) n vF Cz Cz Cz vb vo U X I J ((List.range (m+1)).map (De Os))):=hX
  have bP:Hid ((∀G∈C,nh m n (m+1) I G)/\C.length<=m+1):=R;have bX:Hid (CfB wr w.heap.size fk (m+1) fc s A l/\E_ w wr):=⟨HI.cf,b8⟩;obtain⟨Y,hL⟩:=ex_ wr;subst hL;clear cH dU cM cS dK gH fG bH aU f6 hO hX R hY HI cD aS;go_wp2_with fail
  refine dI.mono ?_;rintro e w1 ⟨rfl,vB,gQ,aR,cO,dT⟩;obtain⟨aB,cB,iU⟩:=cO.shape;rw[show((Dp C).map Av).length=C.length by simp[Dp]] at iU;subst iU;have dY:Hid (MkX w1 w.heap.size (w.heap.size+1+1) (w.heap.size+1) n vF (.slice aB C.length cB) Cz Cz vb vo U X I J ((List.range (m+1)).map (De Os))):=HX.dbw dT aR;have H1:Hid (Ty w1 (w.heap.size+1) n vF (.slice aB C.length cB) Cz Cz/\Mg w1 Y.heap.size (.slice aB C.length cB) gQ ((Dp C).map Av)/\Aa (λq=>q=w.heap.size+1) Y w1):=⟨aR,cO,dT⟩;have i8:Hid (CoI w1 w1 (w.heap.size+1) n vF (.slice aB C.length cB) Cz Cz [] (((Dp C).map (λfs=>He I J fs n)).take 0)):=⟨Aa.refl _ _,aR,Mg.nil _ _,aR.lt⟩;have l6:C.length<=4:=(by have:=bP.2;omega);have iQ:Y.heap.size<=w1.heap.size:=dT.size
  clear aR cO dT dI HX;go_wp2_with fail
  go_loopw [12] (λt12 wr=>∃(b:Nat) (vC:Value) (aH:List Value),t12=.int .i64 b/\b<=C.length/\Hid (CoI w1 wr (w.heap.size+1) n vF (.slice aB C.length cB) vC Cz aH (((Dp C).map (λfs=>He I J fs n)).take b))) (λt12 _=>C.length-(intOf t12).toNat)
  case atStart=>exact⟨0,Cz,[],rfl,qg_,i8⟩
  case round=>
   clear i8;obtain⟨b,vC,aH,rfl,hb,HC⟩:=hrel;have V:=dY.dbw HC.tch HC.ds;have x0:=cR_ 0 V.blk;have x2:=cR_ 2 V.ds;have aZ:=H1.2.1.dbw H1.1 HC.tch
   by_cases b7:b<C.length
   ·have iO:b<((Dp C).map Av).length:=(by simp[Dp];exact b7);obtain⟨qB,l4,a5,kk,e,cb,_,ev,_,_⟩:=aZ.at iO;have f7:((Dp C).map Av).getD b []=Av (C.getD b Fq).fs:=(by simp[Dp,List.getD,b7]);have hE:=aZ.each b iO;rw[ev] at hE;rw[f7,Aw] at cb hE;rw[show((Dp C).map Av).length=C.length by simp[Dp]] at e;injection e with e1 _ e3;subst e1 e3;have bU:C.getD b Fq∈C:=(by simp[List.getD,b7]);have R:=bP.1 _ bU;have fC:∀f∈(C.getD b Fq).fs,f<m+1:=R.fs;have fH:=ZbF (w.heap.size+1+1) (w.heap.size+1) n kk a5 (C.getD b Fq).fs I J wr V.view (hE.nums rfl) (λf hf=>by rw[HP.2.2.2.2.1];exact fC f hf) hn (by have:=R.len;omega) (λf hf r=>by have h1:=HP.1 f (fC f hf);have h2:=HP.2.1 f (fC f hf) r;exact⟨o_,o_⟩)
    have k0:Hid (((Dp C).map (λfs=>He I J fs n)).take (b+1)=((Dp C).map (λfs=>He I J fs n)).take b++[He I J (C.getD b Fq).fs n]):=(by show _=_;rw[Qi (by simp[Dp];exact b7)];congr 2;simp[Dp,List.getD,b7]);have dH:(((Dp C).map (λfs=>He I J fs n)).take b).length=b:=(by rw[List.length_take];simp[Dp];omega);have kT:(He I J (C.getD b Fq).fs n).length=n:=(by simp[He]);generalize He I J (C.getD b Fq).fs n=N at *;generalize (C.getD b Fq).fs.length=fl at *;generalize ((Dp C).map (λfs=>He I J fs n)).take b=Cs at *;have g5:b<(C.length:Int):=o_;have g6:0<=(b:Int):=o_;clear V aZ hE f7 ev R fC bU;go_wp2_with fail
    refine fH.mono ?_;rintro e w2 ⟨v,rfl,aO,H⟩;obtain⟨av,cv,rfl⟩:=aO.shape;rw[Aw,kT] at aO ⊢;obtain⟨a7,c7,i3⟩:=HC.co.shape;rw[List.length_map,dH] at i3;subst i3;have dL:=HC.below H;have fK:=dY.dbw dL.tch dL.ds;have z0:=cR_ 0 fK.blk;have z3:=cR_ 3 dL.ds;obtain⟨W1,a0⟩:=ex_ ((w2.alloc (.cells #[.slice av n cv] 25)).drew);have aC:E_ w2 W1:=(by rw[a0];exact bA_.drew);have iR:w1.heap.size<=wr.heap.size:=HC.tch.size;have kW:=H.size
    have bM:Hid (CoI w1 W1 (w.heap.size+1) n vF (L_ qB C.length cB) (.slice a7 b c7) Cz aH Cs/\Ag W1 w1.heap.size (.slice av n cv) (Av N)/\(∀i,i<Cs.length->Ch (aH.getD i Cz) (.slice av n cv))):=by
     refine⟨dL.below aC,(aO.mono iR).below aC,λi O=>?_⟩
     cases hk2:(aH.getD i Cz).ownBlock with
     |none=>exact .inl hk2
     | some x=>
      cases hk3:(Value.slice av n cv).ownBlock with
      |none=>exact .inr (.inl hk3)
      | some x'=>
       refine .inr (.inr ?_);rw[hk2,hk3];have h1:=(rl_ (HC.co.each i (by rw[List.length_map];exact O)) x hk2).2;have h2:=(rl_ aO x' hk3).1;simp;omega
    have bE:Hid (W1.ownsRow w1.heap.size 25 1 (.slice a7 b c7) b aH):=(by have:=bM.1.co.row;rw[List.length_map,dH] at this;exact this);have aY:∀j u,[Value.slice av n cv][j]? =some u->W1.cell? (((A_ w2.heap.size 0):Addr).add j)=some u:=by rw[a0];exact Am w2 #[.slice av n cv] 25
    have b9:Hid _:=aY;have cE:w1.heap.size<=W1.heap.size:=(by have:=aC.size;omega);have T:Hid (W1=(w2.alloc (.cells #[.slice av n cv] 25)).drew):=a0;obtain⟨j0,aW,dQ,cP,cJ⟩:=info_parts cm;clear aY a0 aC aO H dL fK fH x0 x2 HC cb;go_upto_region 28 with fail;refine Al (λw'=>w'.cell? (A_ (w.heap.size+1+1) 0)=some (P_ (w.heap.size+1))/\w'.cell? (A_ (w.heap.size+1) 3)=some (.slice a7 b c7)) 16 k_ ⟨z0,z3⟩ (λhHeld=>?_);refine Ah 0 ?_;refine Ah 1 ?_;refine Ah 2 ?_;refine Ah 3 ?_;refine Ah 4 ?_;refine Ah 5 ?_;refine Ah 6 ?_;refine Ah 7 ?_;refine Ah 8 ?_;refine Ah 9 ?_;refine Ah 10 ?_;refine Ah 11 ?_;refine Af (i:=12) k_ rfl (λKK hK=>?_);go_simp;refine hK _ _ ⟨Ac bA_ z0,Ac bA_ z3⟩ (λhHeld=>?_);clear hK KK
    try simp only[Act.put,tA,tB,tC]
    refine Af (i:=13) k_ rfl (λKK hK=>?_);rw[<- T];refine Az rfl (.tmp 161) (.tmp 163) 84 rfl w1.heap.size 25 j0 Cz 1 24 Tryz.underlying84 aW dQ cP cJ rfl d_ (.slice a7 b c7) b aH j_ bE (A_ w2.heap.size 0) 1 1 [.slice av n cv] j_ rfl b9 ?_ d_ m_ o_ cE ?_;intro u hu;simp at hu;rw[hu];rfl;intro v6 w6 H6;obtain⟨r6,g6,d6,_,q6,p6,gU⟩:=H6;obtain⟨hA,cT⟩:=bM.1.more (vC':=v6) (N:=N) bM.2.1 bM.2.2 g6 (by rw[dH];exact r6);rw[<- k0] at hA;have kP:Hid (CoI w1 (w6.setCell (A_ (w.heap.size+1) 3) v6) (w.heap.size+1) n vF (L_ qB C.length cB) v6 Cz (aH++[.slice av n cv]) (((Dp C).map (λfs=>He I J fs n)).take (b+1))):=hA;have cL:=dY.dbw bM.1.tch bM.1.ds
    have t6:Aa (λx=>(Value.slice a7 b c7).ownBlock=some x) W1 w6:=(Aa.refl _ _).grown g6 (λx hx _=>hx);have e0:w6.cell? (A_ (w.heap.size+1+1) 0)=some (P_ (w.heap.size+1)):=cq_ 0 _ 331 (0,0) (t6.at_ cL.blk (λe=>Au bE e cL.blk d_ rfl));have e3:=cR_ 3 cT;have ez:w6.frozen? (A_ (w.heap.size+1) 3)=false:=fq_ 3 _ 142 cT;subst gU;clear r6 g6 d6 hA cT cL t6 z0 z3 bM bE b9 T;refine hK _ _ ⟨e0,e3⟩ (λhHeld=>?_);clear hK KK;try simp only[Act.put,tA,tB,tC]
    refine Ah 14 ?_;refine Ah 15 ?_;refine Ai (i:=16) k_ rfl k_ (λKK hK=>?_);go_simp;refine hK _ _ ?_;clear hK KK;try simp only[Act.put,tA,tB,tC]
    refine Ak k_ ?_ _;clear e0 e3 ez hHeld;go_wp2;go_roundw;case rel=>exact⟨b+1,_,_,g_,o_,kP⟩
    case measure=>exact z_
   have g5:¬b<(C.length:Int):=o_;obtain⟨Cg,dE⟩:∃Cg,(Dp C).map (λfs=>He I J fs n)=Cg:=⟨_,rfl⟩;have hJ:Hid ((Dp C).map (λfs=>He I J fs n)=Cg):=dE;have aQ:Hid (CoI w1 wr (w.heap.size+1) n vF (.slice aB C.length cB) vC Cz aH Cg):=(by have:=HC.out;rw[List.take_of_length_le (by simp[Dp];omega),dE] at this;exact this);have b6:(Dp C).length=C.length:=by simp[Dp]
   have cI:∀j,j<C.length->(Dp C).getD j []=(C.getD j Fq).fs:=λj hj=>by simp[Dp,List.getD,hj]
   have dR:∀j,j<C.length->Cg.getD j []=He I J (C.getD j Fq).fs n:=λj hj=>by rw[<- dE];simp[Dp,List.getD,hj]
   have aL:∀j,j<C.length->C.getD j Fq∈C:=λj hj=>by simp[List.getD,hj]
   have f9:Cg.length=C.length:=by rw[<- dE];simp[Dp]
   have kG:Hid (ZkX n I (Dp C) Cg):=by
    refine⟨by rw[f9,b6],by rw[b6];omega,λj hj=>?_,λj hj r=>?_,λj hj=>?_,λj hj f hf=>?_⟩;rw[f9] at hj;rw[dR j hj];simp[He]
    ·rw[f9] at hj;rw[dR j hj];have R:=bP.1 _ (aL j hj)
     by_cases hr:r<n
     have h1:=(ZcP (I:=I) (J:=J) (r:=r) (fs:=(C.getD j Fq).fs) (λf hf=>⟨by have h1:=HP.2.1 f (R.fs f hf) r;have h2:=HP.1 f (R.fs f hf);omega,by have h2:=HP.1 f (R.fs f hf);omega⟩) _ qa_).1;rw[List.take_length] at h1;have h3:=R.len;have e:(He I J (C.getD j Fq).fs n).getD r 0=(mz I J r (C.getD j Fq).fs).1:=(by simp[He,List.getD,hr]);rw[e];omega;rw[Qc,List.getElem?_eq_none (by simp[He];omega)];simp
    rw[b6] at hj;rw[cI j hj];have:=(bP.1 _ (aL j hj)).len;omega;rw[b6] at hj;rw[cI j hj] at hf;rw[HP.2.2.2.2.1];exact(bP.1 _ (aL j hj)).fs f hf
   have bA:Hid (MkX wr w.heap.size (w.heap.size+1+1) (w.heap.size+1) n vF (.slice aB C.length cB) vC Cz vb vo U X I J ((List.range (m+1)).map (De Os))/\Mg wr Y.heap.size (.slice aB C.length cB) gQ ((Dp C).map Av)/\Aa (λq=>q=w.heap.size+1) Y wr):=⟨V,aZ,H1.2.2.trans aQ.tch⟩;have i2:Hid (∀W,Aa (λq=>q=w.heap.size+1) wr W->CfB W w.heap.size fk (m+1) fc s A l):=λW hW=>(bA.2.2.trans hW).at_ bX.1 o_
   have g4:Hid (∀i,i<m+1->∀r,r<n->∃qb cq gb cg,∀W,Aa (λq=>q=w.heap.size+1) wr W->W.cell? (A_ (w.heap.size+1+1) 0)=some (P_ (w.heap.size+1))/\W.cell? (A_ (w.heap.size+1+1) 1)=some (L_ qb J.length cq)/\W.cell? (A_ qb i)=some (L_ gb n cg)/\W.cell? (A_ gb r)=some (I_ ((J.getD i []).getD r 0:Nat))):=λi O r hr=>by
    have dZ:i<(J.map Av).length:=(by rw[List.length_map,HP.2.2.2.2.2.1];exact O);have hd:=V.ds;obtain⟨qb,cq,ag,cg,dJ,c1,_,ev,⟨iA,hq⟩,_⟩:=V.bb.at dZ;have f7:(J.map Av).getD i []=Av (J.getD i []):=(by simp[List.getD,show i<J.length by rw[List.length_map] at dZ;exact dZ]);have dW:=V.bb.each i dZ;rw[ev] at dW;rw[f7,Aw,HP.2.2.2.2.2.2 i O] at c1 dW;rw[List.length_map] at dJ;obtain⟨gb,e5,_,_,c3,_⟩:=dW.atK (by rw[Aw];exact HP.2.2.2.2.2.2 i O) hr;rw[Cv] at c3;subst e5;obtain⟨kX,jZ⟩:=Ad dW (k:=gb) rfl;have x1:=cR_ 1 V.blk;rw[dJ] at x1
    have aJ:∀W p v,Aa (λq=>q=w.heap.size+1) wr W->wr.cell? p=some v->p.block≠w.heap.size+1->W.cell? p=some v:=λW p v hT hp hne=>(cb_ (hT.block _ (World.block_lt_of_cell? _ _ hp) hne)).trans hp;exact⟨qb,cq,gb,cg,λW hT=>⟨aJ W _ _ hT x0 s_,aJ W _ _ hT x1 s_,aJ W _ _ hT c1 (hd.ne hq d_),aJ W _ _ hT c3 (hd.ne jZ d_)⟩⟩
   obtain⟨Q,iH⟩:∃Q:Nat->Nat->Bool,Q=λr i=>decide (Jp I (Dp C) Cg r i≠(J.getD i []).getD r 0):=⟨_,rfl⟩;obtain⟨D,fJ⟩:∃D:Nat->Nat->Nat,D=λr i=>(J.getD i []).getD r 0:=⟨_,rfl⟩
   have gX:Hid (∀r i,Q r i=decide (Jp I (Dp C) Cg r i≠(J.getD i []).getD r 0)/\D r i=(J.getD i []).getD r 0):=λr i=>by rw[iH,fJ];exact⟨rfl,rfl⟩
   have dF:Hid ((Uq Q D (m+1) n).Perm (Ao m n l (Ou m E) (Ih m L E)).xs/\Fp (Uq Q D (m+1) n)/\(Ao m n l (Ou m E) (Ih m L E)).ks=I/\(Ao m n l (Ou m E) (Ih m L E)).bs.map BS.fs=Dp C/\(Ao m n l (Ou m E) (Ih m L E)).bs.map BS.N=Cg):=by have cU:=jb m n l (Ou m E) (Ih m L E);rw[h8] at cU ⊢;have hp:=Zhy (p:=Q) (b:=D) (M:=m+1) (r:=n) cU (λx=>by rw[Zas HP.2.2.2.2.1 cQ.1 cQ.2 HP.2.1 HP.2.2.2.1 x,hJ,(gX x.row x.f).1,(gX x.row x.f).2]);refine⟨hp.1,hp.2,vx Os J n C ⟨I,[],[]⟩,by have:=bo Os J n I C ⟨I,[],[]⟩;unfold Ew;simpa using this,?_⟩;rw[<- hJ];exact Zar (λG hG f hf=>by rw[HP.2.2.2.2.1];exact(bP.1 G hG).fs f hf) (λi O=>by rw[HP.2.2.2.2.1] at O;exact HP.2.1 i O) HP.2.2.2.1
   have iB:Hid (ExI wr wr (w.heap.size+1) n vF (.slice aB C.length cB) vC Cz (Uq Q D (m+1) 0)):=⟨Aa.refl _ _,aQ.ds,Yk.nil _ _ _ _,aQ.ds.lt⟩;obtain⟨wC,kC⟩:=ex_ wr;subst kC;clear iH fJ dE b6 cI dR aL f9 V aZ HC H1 dY h8 cQ bP hJ Z g1;go_wp2_with fail
   go_loopw [14] (λt14 wr=>∃(r:Nat) (vX:Value),t14=.int .i64 r/\r<=n/\Hid (ExI wC wr (w.heap.size+1) n vF (.slice aB C.length cB) vC vX (Uq Q D (m+1) r))) (λt14 _=>n-(intOf t14).toNat)
   case atStart=>exact⟨0,Cz,rfl,qg_,iB⟩
   case round=>
    clear iB x0 x2;obtain⟨r,vX,rfl,hr,aA⟩:=hrel
    by_cases hN:r<n
    ·have g7:r<(n:Int):=o_;have g8:0<=(r:Int):=o_
     have fI:Hid (ExI wC wr (w.heap.size+1) n vF (.slice aB C.length cB) vC vX (Uq Q D (m+1) r++ng Q D r 0)):=(by rw[show Uq Q D (m+1) r++ng Q D r 0=Uq Q D (m+1) r from List.append_nil _];exact aA);have y0:wr.cell? (A_ w.heap.size 0)=some (L_ fk M fc):=(by have:=(i2 wr aA.tch).cells.1;rw[aK];exact this);clear aA;go_wp2_with fail
     rename_i wold;go_loopw [15] (λt15 wr=>∃(i:Nat) (vX:Value),t15=.int .i64 i/\i<=M/\Hid (ExI wC wr (w.heap.size+1) n vF (.slice aB C.length cB) vC vX (Uq Q D (m+1) r++ng Q D r i))) (λt15 _=>M-(intOf t15).toNat)
     case atStart=>exact⟨0,vX,rfl,qg_,fI⟩
     case round=>
      clear fI y0;obtain⟨i,fD,rfl,O,a9⟩:=hrel;have y0:wr.cell? (A_ w.heap.size 0)=some (L_ fk M fc):=by have:=(i2 wr a9.tch).cells.1;rw[aK];exact this
      by_cases hiM:i<M
      ·have i6:i<m+1:=(by have:=aK.out;omega);have V:=bA.1.dbw a9.tch a9.ds;have j2:DaV wr (w.heap.size+1) n I (Dp C) Cg (Uq Q D (m+1) r++ng Q D r i):=⟨V.view.dk,⟨_,cq_ 2 _ 142 (0,0) a9.ds,(bA.2.1.dbw aQ.ds a9.tch).view⟩,⟨_,cq_ 3 _ 142 (0,0) a9.ds,(aQ.co.dbw aQ.ds a9.tch).view⟩,⟨_,cq_ 4 _ 142 (0,0) a9.ds,XsV.of a9.xs⟩⟩;have kJ:(Uq Q D (m+1) r++ng Q D r i).length<=1000000:=(by rw[Qe];have h1:=Zep Q D (m+1) r;have h2:=xz Q D r i;have h3:r*(m+1)<=200*4:=Nat.mul_le_mul o_ hm;omega);have gK:=jr (w.heap.size+1) n r i I (Dp C) Cg _ wr j2 kG hN (by rw[HP.2.2.2.2.1];exact i6) kJ
       rw[rx (λj hj hat=>by
        have bU:(Uq Q D (m+1) r++ng Q D r i).getD j Fk∈Uq Q D (m+1) r++ng Q D r i:=by rw[Qc,Qd hj];exact Qf hj
        rcases List.mem_append.1 bU with h|h
        have:=(de r).1 h;have:=hat.1;omega
        have:=(Vj i).1 h;have:=hat.2;omega)] at gK
       obtain⟨qb,cq,gb,cg,bN⟩:=g4 i i6 r hN;obtain⟨x0,e1,c1,c3⟩:=bN wr a9.tch;have iD:Hid _:=bN;have gA:=gX r i;have i4:Hid (Uq Q D (m+1) r++ng Q D r (i+1)=Uq Q D (m+1) r++ng Q D r i++exC Q D r i):=by show _=_;simp[ng,List.append_assoc]
       have fT:exC Q D r i=if Jp I (Dp C) Cg r i≠(J.getD i []).getD r 0 then[⟨r,i,(J.getD i []).getD r 0⟩] else[]:=by
        unfold exC;rw[gA.1,gA.2]
        by_cases h:Jp I (Dp C) Cg r i≠(J.getD i []).getD r 0
        rw[if_pos h,if_pos (decide_eq_true h)];rw[if_neg h,if_neg (by rw[decide_eq_false h];decide)]
       have j9:Hid _:=fT;have kL:i<(J.length:Int):=(by have:=HP.2.2.2.2.2.1;omega);have d7:0<=(i:Int):=o_;have lA:i<(M:Int):=o_;generalize hX0:Uq Q D (m+1) r++ng Q D r i=X0 at *;generalize Jp I (Dp C) Cg r i=tl at *;generalize (J.getD i []).getD r 0=bx at *;clear hX0 j2 gA fT V bN;go_wp2_with fail
       refine gK.mono ?_;rintro e w2 ⟨rfl,H⟩;have z0:=Ac H x0;have z1:=Ac H e1;have z2:=Ac H c1;have z3:=Ac H c3;have cV:Hid (ExI wC w2 (w.heap.size+1) n vF (.slice aB C.length cB) vC fD X0):=a9.below H;clear H gK x0 e1 c1 c3 a9 y0
       by_cases htl:tl=bx
       ·have HN:Hid (exC Q D r i=[]):=(by show _=_;rw[j9,if_neg (by simp[htl])]);have q1:(tl==(bx:Int))=true:=beq_iff_eq.2 o_;have q2:(tl !=(bx:Int))=false:=(by simp[bne,q1]);clear htl;go_wp2;go_roundw;case rel=>exact⟨i+1,fD,g_,o_,by rw[i4,HN,List.append_nil];exact cV⟩
        case measure=>exact z_
       have HN:Hid (exC Q D r i=[⟨r,i,bx⟩]):=(by show _=_;rw[j9,if_pos htl]);have q1:(tl==(bx:Int))=false:=beq_eq_false_iff_ne.2 o_;have q2:(tl !=(bx:Int))=true:=(by simp[bne,q1]);obtain⟨aX,cX,iK⟩:=cV.xs.shape;rw[List.length_map] at iK;subst iK;have z4:=cR_ 4 cV.ds;obtain⟨W1,a0⟩:=ex_ ((w2.alloc (.cells #[I_ r,I_ i,I_ bx] 231)).drew);have aC:E_ w2 W1:=(by rw[a0];exact bA_.drew);have cZ:Hid (ExI wC W1 (w.heap.size+1) n vF (.slice aB C.length cB) vC (.slice aX X0.length cX) X0):=cV.below aC;have bE:Hid (W1.ownsRow wC.heap.size 231 3 (.slice aX X0.length cX) X0.length ((X0.map Dn).flatten)):=by have:=cZ.xs.row;rw[List.length_map] at this;exact this
       have aY:∀j u,[I_ r,I_ i,I_ bx][j]? =some u->W1.cell? (((A_ w2.heap.size 0):Addr).add j)=some u:=by rw[a0];exact Am w2 #[I_ (r:Nat),I_ (i:Nat),I_ (bx:Nat)] 231
       have b9:Hid _:=aY;have cE:wC.heap.size<=W1.heap.size:=cZ.tch.size;have T:Hid (W1=(w2.alloc (.cells #[I_ r,I_ i,I_ bx] 231)).drew):=a0;obtain⟨j0,aW,dQ,cP,cJ⟩:=info_parts ZjS;clear aY a0 aC cV;go_upto_region 37 with fail;refine Al (λw'=>w'.cell? (A_ (w.heap.size+1+1) 0)=some (P_ (w.heap.size+1))/\w'.cell? (A_ (w.heap.size+1) 4)=some (.slice aX X0.length cX)/\w'.cell? (A_ (w.heap.size+1+1) 1)=some (L_ qb J.length cq)/\w'.cell? (A_ qb i)=some (L_ gb n cg)/\w'.cell? (A_ gb r)=some (I_ (bx:Nat))) 28 k_ ⟨z0,z4,z1,z2,z3⟩ (λhHeld=>?_);refine Ah 0 ?_;refine Ah 1 ?_;refine Ah 2 ?_;refine Ah 3 ?_;refine Ah 4 ?_;refine Ah 5 ?_;refine Ah 6 ?_;refine Ah 7 ?_;refine Ah 8 ?_;refine Ah 9 ?_;refine Ah 10 ?_;refine Ah 11 ?_;refine Ah 12 ?_
       refine Ah 13 ?_;refine Ah 14 ?_;refine Ah 15 ?_;refine Ah 16 ?_;refine Ah 17 ?_;refine Ah 18 ?_;refine Ah 19 ?_;refine Ah 20 ?_;refine Ah 21 ?_;refine Ah 22 ?_;refine Ah 23 ?_;refine Af (i:=24) k_ rfl (λKK hK=>?_);go_simp;refine hK _ _ ⟨Ac bA_ z0,Ac bA_ z4,Ac bA_ z1,Ac bA_ z2,Ac bA_ z3⟩ (λhHeld=>?_);clear hK KK;try simp only[Act.put,tA,tB,tC]
       refine Af (i:=25) k_ rfl (λKK hK=>?_);rw[<- T];refine Az rfl (.tmp 212) (.tmp 226) 140 rfl wC.heap.size 231 j0 (.agg #[I_ 0,I_ 0,I_ 0]) 3 24 Tryz.underlying140 aW dQ cP cJ rfl d_ (.slice aX X0.length cX) X0.length ((X0.map Dn).flatten) j_ bE (A_ w2.heap.size 0) 1 1 [I_ (r:Nat),I_ (i:Nat),I_ (bx:Nat)] j_ rfl b9 ?_ d_ m_ o_ cE ?_
       ·intro u hu;simp at hu;rcases hu with rfl|rfl|rfl<;>rfl
       intro v6 w6 H6;obtain⟨r6,g6,d6,_,q6,p6,gU⟩:=H6;obtain⟨j7,dS⟩:=cZ.more (vX':=v6) (x:=⟨r,i,bx⟩) g6 r6;have jU:Hid (ExI wC (w6.setCell (A_ (w.heap.size+1) 4) v6) (w.heap.size+1) n vF (.slice aB C.length cB) vC v6 (Uq Q D (m+1) r++ng Q D r (i+1))):=(by rw[i4,HN];exact j7);obtain⟨s0,s1,s2,s3⟩:=iD w6 (cZ.tch.grown g6 (λk hk hlt=>by have:=(rl_ bE k hk).1;omega));have s4:=cR_ 4 dS;have s5:w6.frozen? (A_ (w.heap.size+1) 4)=false:=fq_ 4 _ 142 dS;subst gU;clear r6 g6 d6 j7 dS z0 z1 z2 z3 z4 cZ bE b9 T iD;refine hK _ _ ⟨s0,s4,s1,s2,s3⟩ (λhHeld=>?_);clear hK KK;try simp only[Act.put,tA,tB,tC]
       refine Ah 26 ?_;refine Ah 27 ?_;refine Ai (i:=28) k_ rfl k_ (λKK hK=>?_);go_simp;refine hK _ _ ?_;clear hK KK;try simp only[Act.put,tA,tB,tC]
       refine Ak k_ ?_ _;clear s0 s1 s2 s3 s4 s5 hHeld;go_wp2;go_roundw;case rel=>exact⟨i+1,_,g_,o_,jU⟩
       case measure=>exact z_
      have kL:¬i<(M:Int):=o_;have kU:Hid (ExI wC wr (w.heap.size+1) n vF (.slice aB C.length cB) vC fD (Uq Q D (m+1) (r+1))):=by have:=a9.out;rw[show i=m+1 by have:=aK.out;omega] at this;exact this
      clear a9;go_wp2;go_roundw;case rel=>exact⟨r+1,fD,g_,o_,kU⟩
      case measure=>exact z_
    have g7:¬r<(n:Int):=o_;have x0:wr.cell? (A_ (w.heap.size+1+1) 0)=some (P_ (w.heap.size+1)):=cq_ 0 _ 331 (0,0) (bA.1.dbw aA.tch aA.ds).blk
    have fW:Hid (Zan w wr (w.heap.size+1) n (Ao m n l (Ou m E) (Ih m L E))/\E_ w wr):=by
     obtain⟨f1,f2,f3,f4,f5⟩:=dF;have kD:w.heap.size<=wC.heap.size:=Nat.le_trans bX.2.size bA.2.2.size;have V:=bA.1.dbw aA.tch aA.ds;refine⟨⟨vF,.slice aB C.length cB,vC,vX,U,gQ,aH,Uq Q D (m+1) n,?_,f1,f2⟩,?_⟩
     ·rw[f3,f4,f5];have hX:=aA.xs;rw[show r=n by omega] at hX;refine⟨aA.ds,V.fe,((bA.2.1.dbw aQ.ds aA.tch).mono bX.2.size),((aQ.co.dbw aQ.ds aA.tch).mono ?_),⟨⟨hX.row.1,?_⟩,hX.wid⟩,V.one,Nat.le_succ _⟩;exact Nat.le_trans bX.2.size iQ
      rcases hX.row.2 with e|⟨g,k8,iA,e,hg,rr⟩
      exact .inl e;exact .inr ⟨g,k8,iA,e,Nat.le_trans kD hg,rr⟩
     exact bX.2.trans ((bA.2.2.trans aA.tch).to_below bX.2.size (λq hq=>o_))
    clear aA;go_wp2;go_ret;exact⟨_,rfl,fW.1,fW.2⟩
section
variable {w:World} {base db n:Nat} {vF vB vC vX:Value} {kvs:List (Value×Value)} {bvs cvs:List Value} {Ks:List KS} {Fs Cs:List (List Nat)} {X:List XS}
def RfX.mono{b}(h:RfX w base db n vF vB vC vX kvs bvs cvs Ks Fs Cs X)(c:b<=base):RfX w b db n vF vB vC vX kvs bvs cvs Ks Fs Cs X:=by
 have a:∀{ty sz m:Nat} {v xs},w.ownsRow base ty sz v m xs->w.ownsRow b ty sz v m xs:=λhr=>⟨hr.1,by
  rcases hr.2 with e|⟨g,f,d,e,j,r⟩
  exact .inl e
  exact .inr ⟨g,f,d,e,Nat.le_trans c j,r⟩⟩
 exact⟨h.ds,⟨⟨a h.fe.row.row,h.fe.row.wid⟩,h.fe.len,λi hi=>⟨a (h.fe.each i hi).1,a (h.fe.each i hi).2⟩⟩,h.bu.mono c,h.co.mono c,⟨a h.xs.row,h.xs.wid⟩,h.one,Nat.le_trans c h.lo⟩
def ZcQ i (h:RfX w base db n vF vB vC vX kvs bvs cvs Ks Fs Cs X)(a:i<Ks.length):C_ 139 #[.pointer (some ⟨db,0,none⟩),.int .i64 i] w λe w'=>e=.returned (.tuple #[(kvs.getD i Oi).1,(kvs.getD i Oi).2,.int .i64 0])/\∃m,w'=w.drewN m:=by
 obtain⟨q,c,e,_,_,_,_,b⟩:=h.fe.row.at (i:=i) (by rw[h.fe.zlen];exact a);rw[h.fe.zlen] at e;subst e;have x:=cR_ 1 h.ds;have d:(List.zipWith Cf Ks kvs).getD i []=Cf (Ks.getD i Ay) (kvs.getD i Oi):=by simp[List.getD,List.getElem?_zipWith,a,show i<kvs.length by rw[h.fe.len];exact a]
 rw[d] at b;have r:=b 1 o_ _ rfl;have o:=b 2 o_ _ rfl;obtain⟨k,j,f⟩:=(h.fe.each i a).1.shape;obtain⟨p,l,g⟩:=(h.fe.each i a).2.form;generalize kvs.getD i Oi=u at *;obtain⟨u1,u2⟩:=u;simp only at f g r o ⊢;subst f g;have z:¬(i:Int)<0:=o_;have y:¬Ks.length<=(i:Int):=o_;have s:0<=(i:Int):=o_;have t:i<(Ks.length:Int):=o_;generalize (Ks.getD i Ay).e.bs.length=nb at *;generalize (Ks.getD i Ay).e.ww.length=nw at *;clear h b d;go_enter Tryz.func139,Tryz.ntmps139;go_upto_region 3 with fail;go_quiet (fail);go_wp2;refine bodyPost_ret (v:=.tuple #[.slice k nb j,.slice p nw l,I_ 0]) (by simp[results,Tryz.results139,go_sem]) rfl ?_
 grind
def ZaM f (h:DkV w db n Ks)(d:¬(0<=f/\f<(Ks.length:Int))):C_ 139 #[.pointer (some ⟨db,0,none⟩),.int .i64 f] w λe w'=>e=.returned (.tuple #[Cz,Cz,.int .i64 1])/\w'=w:=by
 obtain⟨g,b,a⟩:=h.d1;obtain⟨c,j,rfl⟩:=a.1;clear h a;go_enter Tryz.func139,Tryz.ntmps139
 by_cases g1:f<0
 ·go_wp2;refine bodyPost_ret (v:=.tuple #[Cz,Cz,I_ 1]) (by simp[results,Tryz.results139,go_sem]) rfl ?_
  grind
 have i:Ks.length<=f:=o_;go_wp2;refine bodyPost_ret (v:=.tuple #[Cz,Cz,I_ 1]) (by simp[results,Tryz.results139,go_sem]) rfl ?_
 grind
end
def qi a c n f d b g z p S w (h:mu w a c n f d b g S z p true):C_ 126 #[.pointer (some ⟨a,0,none⟩)] w λe w'=>e=.returned (.tuple #[.pointer none,.int .i64 1,.int .i64 0])/\w'=w:=by
 have i:=h.cells.2.2.2;clear h;go_enter Tryz.func126,Tryz.ntmps126;go_wp2;go_ret3
 exact⟨rfl,rfl⟩
def zl a d n i g c j z p S w (h:mu w a d n i g c j S z p false)(b:z≠0):C_ 126 #[.pointer (some ⟨a,0,none⟩)] w λe w'=>e=.returned (.tuple #[.pointer none,.int .i64 z,.int .i64 p])/\∃m,w'=w.drewN m:=by
 obtain⟨_,l,o,k⟩:=h.cells;have f:=bne_iff_ne.2 b;clear h;go_enter Tryz.func126,Tryz.ntmps126;go_upto_region 4 with fail;go_quiet (fail);go_wp2;go_ret3
 exact⟨rfl,_,rfl⟩
def RcP(w:World)(ib fk m fc:Nat)(bins:Int)(size budget:Nat)(S:ByteArray)(E:Nat->ES)(R:List (Int×List VS)×Nat×Int)(e:Ending)(w':World):Prop:=
 mu w' ib fk (m+1) fc bins size budget S 0 0 true/\Aa (λq=>q=ib) w w'/\
 ((R.2.2≠0/\e=.returned (.tuple #[.pointer none,I_ R.2.2,I_ R.2.1]))∨(R.2.2=0/\∃yb,e=.returned (.tuple #[P_ yb,I_ 0,I_ 0])/\Zan w w' yb R.1.length (Ao m R.1.length budget (Ou m E) (Ih m R.1 E))))
def Zdw(j l m x d b:Nat) f S s I ct E w (h:mu w j l (m+1) x f d b S 0 0 false)(N:Dd w l 0 (m+1) s I ct)(F:l≠j)(t:l<w.heap.size)(hn:m+1<=4)(a2:∀i,i<m+1->0<=I i/\(s i=false->I i<=3))(hk:S.size<=1000000000000000)(a4:b<=20)(hs:2<=d)(a0:d<=32)(V:2<=f)(r:f<=16)(a5:∀i,i<m+1->s i=true->1<=ct i)(hr:∀R,R=Jd S (m+1) s I (S.size+1) [] 0->R.2.2=0->Yj R.1/\(∀p∈R.1,p.2.length=m+1)/\(∀i,E i=Ck Mb (s i) (ct i) f d (Bn R.1 i) (Fr R.1))/\∀i,i<m+1->Ol (E i)/\(E i).wd=s i/\(E i).cnt<=16):C_ 126 #[.pointer (some ⟨j,0,none⟩)] w λe w'=>RcP w j l m x f d b S E (Jd S (m+1) s I (S.size+1) [] 0) e w':=by
 obtain⟨⟨_,_,_,_,_⟩,c5,_,c7⟩:=h.cells;have f7:=fq_ 7 _ _ h;obtain⟨U,v⟩:=ex_ (w.setCell (A_ j 7) (.bool true));have C:Aa (λq=>q=j) w U:=(by rw[v];exact(Aa.refl (λq=>q=j) w).setCell (p:=(A_ j 7)) (λ_=>rfl) _);have h1:mu U j l (m+1) x f d b S 0 0 true:=(by rw[v];exact ht_ 7 _ _ _ h);have B:Dd U _ 0 _ s I _:=⟨N.le,λh0=>Qh (N.lt h0) C.size,λi hi=>by rw[<- N.c0 i hi];simp[World.cell?,C.block l t F],λi hi=>by rw[<- N.c1 i hi];simp[World.cell?,C.block l t F],λi hi=>by rw[<- N.c2 i hi];simp[World.cell?,C.block l t F]⟩;have y:=Qh t C.size
 have T:=x1_ (λW hW=>uq _ _ x S f d b _ _ _ W (B.below hW) (Qh y hW.size) hn a2 hk);have O:=hr _ rfl;generalize Jd S (m+1) s I (S.size+1) [] 0=R at *;have A:=x1_ (λW a c n hW hz hn2 hv=>Zf3 _ x n c m _ _ a _ _ _ _ _ E W (B.below hW) hv (O hz).1 hn2 hn a4 hs a0 V r a5 (O hz).2.2.1 (O hz).2.2.2);have z:=x1_ (λhz=>(O hz).2.1);have P:=x1_ v;have J:=x2_ h1 C;obtain⟨M,hM⟩:=ex_ (m+1);have G:=x1_ hM;rw[<- hM] at T A z J;clear h N B v h1 C hk hr O a5 a2 hM hn a4 hs a0 V r y;go_enter Tryz.func126,Tryz.ntmps126;go_upto_region 6 with fail;rw[<- P];clear P c5 c7 f7;have hc:=J.1.cells.1
 refine Al (λw'=>w'.cell? _=some _/\w'.cell? _=some _/\w'.cell? _=some _/\w'.cell? _=some _/\w'.cell? _=some _) 9 k_ hc (λhHeld=>?_);refine Ah 0 ?_;refine Ah 1 ?_;refine Ah 2 ?_;refine Ah 3 ?_;refine Ah 4 ?_;refine Ah 5 ?_;refine Ah 6 ?_;refine Ah 7 ?_;refine Af (i:=8) k_ rfl (λKK hK=>?_);go_simp;refine(T _ bz_.drew).mono ?_;rintro e o ⟨tb,vR,L,rfl,aA,hx,hL,u,Q,r⟩;have k:Below U.heap.size _ _:=bz_.drew.trans r;have h2:mu _ _ _ M _ _ _ _ S 0 0 _:=(k.block _ (Qb J.1).1).trans J.1;have t2:=J.2.below k;obtain⟨ra,rc,rfl⟩:=hL.shape
 have g:Hid (Fb o tb S R.2.1 R.2.2 (.slice ra L.length rc)/\mu o j l M x f d b S 0 0 true/\Aa (λq=>q=j) w o/\w.heap.size<=o.heap.size/\E_ U o/\L.length=R.1.length/\L.length<=200/\(R.2.2=0->Sn o ra L.length M R.1)):=⟨hx,h2,t2,t2.size,k,by rw[<- u];simp,Q,λhz=>by
  rw[<- u]
  refine hL.view rfl (λp hp=>z hz _ (by rw[<- u];exact List.mem_map_of_mem hp)) (by rw[G];omega)⟩
 have Y:=h2.cells.1;clear hx h2 t2 r k J hc hL u Q;go_simp;refine hK _ _ Y (λhHeld=>?_);clear hK KK;try simp only[Act.put,List.setIfInBounds_toArray,List.set_cons_succ,List.set_cons_zero]
 refine Ai (i:=9) k_ rfl k_ (λKK hK=>?_);go_simp;refine hK _ _ ?_;clear hK KK;try simp only[Act.put,List.setIfInBounds_toArray,List.set_cons_succ,List.set_cons_zero]
 refine Ak k_ ?_ _;obtain⟨_,e1,e2,_⟩:=g.1.cells
 by_cases hz:R.2.2=0
 ·have a6:(R.2.2 !=0)=false:=(by rw[hz];rfl);rw[hz] at e2;go_upto_region 9 with fail;have a1:o.cell? (A_ j 0)=some (L_ l M x)/\o.cell? (A_ j 1)=some (I_ f)/\o.cell? (A_ j 2)=some (I_ d)/\o.cell? (A_ j 3)=some (I_ b)/\o.cell? (A_ tb 3)=some (.slice ra L.length rc):=w_
  clear e1 e2 Y;refine Al (λw'=>w'.cell? _=some _/\w'.cell? _=some _/\w'.cell? _=some _/\w'.cell? _=some _/\w'.cell? _=some _) 8 k_ a1 (λhHeld=>?_);refine Ah 0 ?_;refine Ah 1 ?_;refine Ah 2 ?_;refine Ah 3 ?_;refine Ah 4 ?_;refine Ah 5 ?_;refine Ah 6 ?_;refine Ah 7 ?_;refine Ai (i:=8) k_ rfl k_ (λKK hK=>?_);go_simp;refine(A _ _ _ _ (g.2.2.2.2.1.trans (bz_.drew)) hz g.2.2.2.2.2.2.1 ((g.2.2.2.2.2.2.2 hz).below bz_.drew)).mono ?_;rintro e w3 ⟨yb,rfl,H,k⟩
  have a3:Hid (RcP w j l m x f d b S E R (.returned (.tuple #[P_ yb,I_ 0,I_ 0])) w3):=(by have Z:Below o.heap.size _ _:=bz_.drew.trans k;have D:=g.2.1;rw[G] at D;rw[g.2.2.2.2.2.1] at H;obtain⟨vF,vB,vC,vX,a9,a7,a8,X,g1,g2,g3⟩:=H;exact⟨(Z.block _ (Qb D).1).trans D,g.2.2.1.below Z,.inr ⟨hz,yb,rfl,vF,vB,vC,vX,a9,a7,a8,X,g1.mono g.2.2.2.1,g2,g3⟩⟩);clear H k a1 g A;go_simp;refine hK _ _ ?_;clear hK KK;try simp only[Act.put,List.setIfInBounds_toArray,List.set_cons_succ,List.set_cons_zero]
  refine Ai (i:=9) k_ rfl k_ (λKK hK=>?_);go_simp;refine hK _ _ ?_;clear hK KK;try simp only[Act.put,List.setIfInBounds_toArray,List.set_cons_succ,List.set_cons_zero]
  refine Ai (i:=10) k_ rfl k_ (λKK hK=>?_);go_simp;refine hK _ _ ?_;clear hK KK;try simp only[Act.put,List.setIfInBounds_toArray,List.set_cons_succ,List.set_cons_zero]
  refine Ai (i:=11) k_ rfl k_ (λKK hK=>?_);go_simp;refine hK _ _ ?_;clear hK KK;try simp only[Act.put,List.setIfInBounds_toArray,List.set_cons_succ,List.set_cons_zero]
  refine Ak k_ ?_ _;go_wp2;go_ret3
  exact a3
 have a6:=bne_iff_ne.2 hz;go_upto_region 8 with fail;go_quiet (fail);go_wp2;go_ret3
 rw[G] at g;exact⟨g.2.1,g.2.2.1.drewN _,.inl ⟨hz,rfl⟩⟩
def Zh2 m:∀k,k<=4->Ba (m+4294967296) k=Ba m k:=λk hk=>by
 rcases(show k=0∨k=1∨k=2∨k=3∨k=4 by omega) with rfl|rfl|rfl|rfl|rfl
 rfl
 all_goals
  simp only[Ba,Vx,List.nil_append,List.cons_append]
  grind [Ba,Vx]
def ZbI m k w (a:k<=4)(b: -4294967296<=m)(c:m<=1000000000000):C_ 135 #[.int .i64 m,.int .i64 (k:Nat)] w λe w'=>e=.returned (.string (strOfNums (Ba m k)))/\Below w.heap.size w w':=by
 by_cases h:0<=m
 have e:m.toNat=m:=o_;have:=Qw m m.toNat k w o_ o_ (.inl ⟨h,e.symm⟩);rw[e] at this;exact this;have e:(m+4294967296).toNat=m+4294967296:=o_;have:=Qw m (m+4294967296).toNat k w o_ o_ (.inr ⟨o_,o_⟩);rw[e,Zh2 m k a] at this;exact this
def Ea{w W}(hW:Below w.heap.size w W) m k (hk:k<=4)(h1: -4294967296<=m)(h2:m<=1000000000000):C_ 135 #[.int .i64 m,.int .i64 (k:Nat)] W λe w'=>e=.returned (.string (strOfNums (Ba m k)))/\Below w.heap.size w w':=
 (ZbI m k W hk h1 h2).mono (λ_ _ h=>⟨h.1,hW.trans (h.2.mono hW.size)⟩)
def ZcH{l}(h:Dv l):Aq (strOfNums l)=l:=by
 unfold Aq strOfNums;simp only[List.map_map]
 conv=>rhs;rw[<- List.map_id l]
 refine List.map_congr_left λx hx=>?_;have:=h x hx
 grind [UInt8.toNat_ofNat']
def ZkQ:∀(l:List Int) {z:Nat},z<4294967296->Dv l->nF z l<4294967296
 |[],z,hz,_=>by simpa [nF,nJ,Zb6] using hz
 |b::l,z,hz,h=>by have hb:=h b s_;rw[za z hb];exact ZkQ l (Zbk (Nat.xor_lt_two_pow (n:=32) hz o_) 8) (λx hx=>h x (by simp[hx]))
def Zk8{l}(h:Dv l):0<=Jt l/\Jt l<4294967296:=by
 have b:Zhs l=_:=gq l (z:=4294967295) d_ h;have a:=ZkQ l (z:=4294967295) d_ h;unfold Jt;rw[b];have e:=Uk 4294967295 _ d_ a;have c:4294967295^^^_<_:=Nat.xor_lt_two_pow (n:=32) d_ a
 grind
def ZbL l w (h:Dv l)(d:l.length<=1000000):C_ 134 #[.string (strOfNums l)] w λe w'=>e=.returned (.string (strOfNums (l++Ba (Jt l) 4)))/\Below w.heap.size w w':=by
 have b:=Ziv _ w (by rw[Br];exact d);rw[ZcH h] at b;have n:=Zk8 h;have j:Hid (∀W,Calls _ _ #[_,.int _ 4] W λe _=>_):=λW=>ZbI (Jt l) 4 W o_ o_ o_;have f:Hid (strOfNums (l++Ba (Jt l) 4)=_):=(Cl _ _).symm;have m:¬9223372036854775807<(strOfNums l).size+(strOfNums (Ba (Jt l) 4)).size:=(by rw[Br,Br,Gc];omega);generalize strOfNums l=S at *;generalize strOfNums (Ba (Jt l) 4)=s4 at *;generalize Jt l=c at *;go_enter Tryz.func134,Tryz.ntmps134;go_wp2_with fail
 refine b.mono ?_;rintro e k ⟨rfl,g⟩;obtain rfl:=g.symm;go_wp2_with fail
 refine(j _).mono ?_;rintro e o ⟨rfl,a⟩;have i:=x1_ a;clear a;go_wp2;go_ret;exact⟨by rw[f];rfl,i⟩
structure KnR(k):Prop where
 one:od k
 bs:∀x∈k.e.bs,-4294967296<=x/\x<=1000000000000
 ww:∀s∈k.e.ww,s.size<=1000
 d:k.d<=1000000
structure BuR(n)(Ks:List KS)(b:BS):Prop where
 len:b.N.length=n
 few:b.fs.length<=1000
 fk:∀f∈b.fs,f<Ks.length
 fl:∀k,b.fs.getD k 0<=1000000
 gs:b.g=Du Ks b.fs
 g6:b.g<64
 val:∀r,b.N.getD r 0<=1000000
def ZfF(wd:Bool):List Int:=if wd=true then[119] else[110]
def Zlh{k}(h:od k):Pj k=ZfF k.e.wd++[(k.d:Int)%256]++[(((k.e.bs.length+k.e.ww.length:Nat)):Int)%256]++Jz k.e.bs++Ki k.e.ww:=by
 unfold Pj ZfF
 cases hw:k.e.wd
 rw[h.2.2.2 hw];simp[knB,ES.cnt,Ky,hw,Ki];rw[h.2.2.1 hw];simp[yo,ES.cnt,Ky,hw,Jz]
def Se(n:Nat)(Ks:List KS)(Bs:List BS)(X:List XS):List Int:=[71,82,(n:Int)%256,Ks.length%256]++Ks.flatMap Pj++[(Bs.length:Int)%256]++Bs.flatMap Gw++Ba X.length 2++X.flatMap xB
def dx.get{w b v f a}(h:dx w b v f a){i}(g:i<a.length):∃q c ab cb aw cw,v=L_ q a.length c/\w.cell? (A_ q (i*4))=some (.bool (a.getD i Ay).e.wd)/\w.cell? (A_ q (i*4+1))=some (.slice ab (a.getD i Ay).e.bs.length cb)/\w.cell? (A_ q (i*4+2))=some (.slice aw (a.getD i Ay).e.ww.length cw)/\w.cell? (A_ q (i*4+3))=some (I_ (a.getD i Ay).d)/\Ag w b (.slice ab (a.getD i Ay).e.bs.length cb) (a.getD i Ay).e.bs/\Cc w b (.slice aw (a.getD i Ay).e.ww.length cw) (a.getD i Ay).e.ww:=by
 obtain⟨q,m,k,_,_,_,_,j⟩:=h.row.at (i:=i) (by rw[h.zlen];exact g);rw[h.zlen] at k;have e:=h.each i g;obtain⟨ab,cb,n⟩:=(h.each i g).1.shape;obtain⟨aw,cw,o⟩:=(h.each i g).2.form;have l:(List.zipWith Cf a f).getD i []=Cf (a.getD i Ay) (f.getD i Oi):=(by simp[List.getD,List.getElem?_zipWith,g,show i<f.length by rw[h.len];exact g]);rw[l] at j;exact⟨q,m,ab,cb,aw,cw,k,j 0 o_ _ rfl,j 1 o_ _ (by rw[<- n];rfl),j 2 o_ _ (by rw[<- o];rfl),j 3 o_ _ rfl,w_,w_⟩
def Na{α:Type}{L:List α}{k} d (h:k<L.length):L.getD k d∈L:=w_
def zx b:strOfNums (Aq b)=b:=by
 cases b with
 | mk d=>
  unfold strOfNums Aq;congr 1;apply Array.ext';simp[List.map_map,Function.comp_def]
def Rl{α:Type}(f:α->List Int)(L:List α) i:((L.take i).flatMap f).length<=(L.flatMap f).length:=by
 conv=>rhs;rw[<- List.take_append_drop i L,List.flatMap_append,Qe]
 omega
def Ex m k:(strOfNums (Ba m k)).size=k:=by rw[Br,Gc]
local macro "bw" :tactic=>`(tactic|repeat(first|assumption|with_reducible apply Below.drew))
def Zdu db a1 n vF vB vC vX cO cX dE q l X w (h:RfX w a1 db n vF vB vC vX cO cX dE q (l.map BS.fs) (l.map BS.N) X)(hk:∀K∈q,KnR K)(hb:∀b∈l,BuR n q b)(d5:q.length<=1000)(cZ:l.length<=1000)(dA:X.length<=100000)(hx:∀x∈X,x.row<=1000000/\x.f<=1000000/\x.bin<=1000000)(hn:n<=200)(aY:(Se n q l X).length<=1000000)(bN:Dv (Se n q l X)):C_ 76 #[.pointer (some ⟨db,0,none⟩)] w λe w'=>e=.returned (.string (strOfNums (Se n q l X++Ba (Jt (Se n q l X)) 4)))/\Below w.heap.size w w':=by
 have HV:Hid (DaV w db n q (l.map BS.fs) (l.map BS.N) X):=h.view;have aM:Hid (dx w a1 vF cO q):=h.fe;have HK:Hid (∀K∈q,KnR K):=hk;have cV:Hid (∀b∈l,BuR n q b):=hb;have HX:Hid (∀x∈X,x.row<=1000000/\x.f<=1000000/\x.bin<=1000000):=hx;have O:Hid ((Se n q l X).length<=1000000):=aY;have dD:Hid (∀W,C_ 134 #[.string (strOfNums (Se n q l X))] W λe w'=>e=.returned (.string (strOfNums (Se n q l X++Ba (Jt (Se n q l X)) 4)))/\E_ W w'):=λW=>ZbL _ W bN aY;have r:Hid (Se n q l X=[71,82,(n:Int)%256,q.length%256]++q.flatMap Pj++[(l.length:Int)%256]++l.flatMap Gw++Ba X.length 2++X.flatMap xB):=rfl;obtain⟨af,cf,dC⟩:=aM.view.1;subst dC;have d0:=cR_ 0 h.ds;have d1:=cR_ 1 h.ds;obtain⟨v2,d2,h2⟩:=HV.d2;obtain⟨v3,d3,h3⟩:=HV.d3
 obtain⟨v4,d4,h4⟩:=HV.d4;obtain⟨a2,c2,cM⟩:=h2.1;obtain⟨a3,c3,bY⟩:=h3.1;obtain⟨a4,c4,d7⟩:=h4.1;rw[List.length_map] at cM bY;subst cM bY d7;have aT:Hid (LiV w (.slice a2 l.length c2) (l.map BS.fs)):=h2;have aW:Hid (LiV w (.slice a3 l.length c3) (l.map BS.N)):=h3;have bQ:Hid (XsV w (.slice a4 X.length c4) X):=h4;obtain⟨V,bA⟩:=ey_ q.length;obtain⟨Y,aV⟩:=ey_ l.length;obtain⟨lx,b7⟩:=ey_ X.length;have a9:Hid (q.length=V/\l.length=Y/\X.length=lx):=⟨bA,aV,b7⟩;rw[bA] at d1 d5 r aM;rw[aV] at d2 d3 cZ r aT aW;rw[b7] at d4 dA r bQ;clear h hk hb hx h2 h3 h4 aY bN bA aV b7;generalize strOfNums (Se n q l X++Ba (Jt (Se n q l X)) 4)=SR at *
 have c7:Hid (∀W,E_ w W->C_ 135 #[.int .i64 n,.int .i64 1] W λe w'=>e=.returned (.string (strOfNums (Ba n 1)))/\E_ w w'):=λW hW=>Ea hW _ 1 o_ o_ o_;have cJ:Hid (∀W,E_ w W->C_ 135 #[.int .i64 V,.int .i64 1] W λe w'=>e=.returned (.string (strOfNums (Ba V 1)))/\E_ w w'):=λW hW=>Ea hW _ 1 o_ o_ o_;have cE:Hid (({data:=#[71,82]}:ByteArray)++strOfNums (Ba n 1)++strOfNums (Ba V 1)=strOfNums [71,82,n%256,V%256]):=by show _=_;rw[show({data:=#[71,82]}:ByteArray)=strOfNums [71,82] from rfl,Cl,Cl];rfl
 have bT:E_ w w:=bz_;have L:=Ex (n:Nat) 1;have l2:=Ex (V:Nat) 1;have F:¬9223372036854775807<2+(strOfNums (Ba n 1)).size:=o_;have z2:¬9223372036854775807<2+(strOfNums (Ba n 1)).size+(strOfNums (Ba V 1)).size:=o_;clear L l2;go_enter Tryz.func76,Tryz.ntmps76;go_upto_region 1 with fail;generalize strOfNums (Ba (n:Nat) 1)=s1 at *;generalize strOfNums (Ba (V:Nat) 1)=s2 at *;go_cut [3] (λv wx=>v=.string (({data:=#[71,82]}:ByteArray)++s1++s2)/\Hid (E_ w wx))
 case first=>
  refine Al (λw'=>w'.cell? (A_ db 0)=some (I_ (n:Nat))/\w'.cell? (A_ db 1)=some (.slice af V cf)) 13 k_ ⟨d0,d1⟩ (λhHeld=>?_);refine Ah 0 ?_;refine Ah 1 ?_;refine Ah 2 ?_;refine Ah 3 ?_;refine Ah 6 ?_;refine Ah 7 ?_;refine Ah 8 ?_;refine Ah 9 ?_;refine Ah 10 ?_;refine Af (i:=4) k_ rfl (λKK hK=>?_);go_simp;refine(c7 _ bT.drew).mono ?_;rintro e w2 ⟨rfl,o⟩;go_simp;refine hK _ _ ⟨Ac o d0,Ac o d1⟩ (λhHeld=>?_);clear hK KK;try simp only[Act.put,sA,sB,sC]
  refine Ah 5 ?_;refine Af (i:=11) k_ rfl (λKK hK=>?_);go_simp;refine(cJ _ o).mono ?_;rintro e w3 ⟨rfl,y⟩;go_simp;refine hK _ _ ⟨Ac y d0,Ac y d1⟩ (λhHeld=>?_);clear hK KK;try simp only[Act.put,sA,sB,sC]
  refine Ah 12 ?_;refine Ai (i:=13) k_ rfl k_ (λKK hK=>?_);go_simp;refine hK _ _ ?_;clear hK KK;try simp only[Act.put,sA,sB,sC]
  refine Ak k_ ?_ _;go_wp2;go_meet
  exact⟨rfl,y⟩
 case rest=>
 obtain⟨rfl,aE⟩:=hcut;rw[cE];clear c7 cJ cE bT F z2;obtain⟨H0,bU⟩:∃H0:List Int,H0=[71,82,(n:Int)%256,V%256]:=⟨_,rfl⟩;rw[<- bU] at r ⊢;clear bU
 have cG:Hid (∀i,(H0++(q.take i).flatMap Pj).length<=1000000):=λi=>by have A:=O.out;rw[r] at A;simp only[Qe] at A ⊢;have:=Rl Pj q i;omega
 go_upto_region 3 with fail;go_loopw [3,4] (λt3 t4 wr=>∃(i:Nat) (S:ByteArray),t3=.string S/\t4=.int .i64 i/\i<=V/\Hid (S=strOfNums (H0++(q.take i).flatMap Pj))/\Hid (E_ w wr)) (λ_ t4 _=>V-(intOf t4).toNat)
 case atStart=>exact⟨0,_,rfl,rfl,qg_,by show _=_;simp,aE⟩
 case round=>
  clear aE;obtain⟨i,S,rfl,rfl,hi,c,C⟩:=hrel;have a:=C.out;have y1:=Ac a d1
  by_cases hil:i<V
  ·have g0:0<=(i:Int):=o_;have g1:i<(V:Int):=o_;have aZ:i<q.length:=(by rw[a9.1];exact hil);obtain⟨qf,dO,ab,cb,aw,cw,e2,f0,f1,f2,f3,oI,oS⟩:=aM.get aZ;have dB:af=some ⟨qf,0,none⟩:=(by injection e2);subst dB;clear e2;have P:=HK _ (Na Ay aZ);have HT:Hid ((q.take (i+1)).flatMap Pj=(q.take i).flatMap Pj++Pj (q.getD i Ay)):=Kl Pj q Ay aZ;obtain⟨K,hK⟩:=ey_ (q.getD i Ay);rw[hK] at f0 f1 f2 f3 oI oS P HT;have a7:Hid (Pj K=ZfF K.e.wd++[(K.d:Int)%256]++[(((K.e.bs.length+K.e.ww.length:Nat)):Int)%256]++Jz K.e.bs++Ki K.e.ww):=Zlh P.one;clear hK;generalize Pj K=kA at *;obtain⟨⟨wd,T,G⟩,dd⟩:=K;simp only at f0 f1 f2 f3 oI oS a7;have dF:Hid (∀x∈T,-4294967296<=x/\x<=1000000000000):=P.bs
   have cQ:Hid (∀s∈G,s.size<=1000):=P.ww;have dP:dd<=1000000:=P.d;have c9:T.length<=1000:=P.one.1;have bH:G.length<=1000:=P.one.2.1;clear P;have z0:=Ac a f0;have F:=Ac a f1;have z2:=Ac a f2;have z3:=Ac a f3;have aK:Hid (Ag w a1 (.slice ab T.length cb) T/\Cc w a1 (.slice aw G.length cw) G):=⟨oI,oS⟩;clear f0 f1 f2 f3 oI oS;obtain⟨nb,aJ⟩:=ey_ T.length;obtain⟨nw,b8⟩:=ey_ G.length;have a6:Hid (T.length=nb/\G.length=nw):=⟨aJ,b8⟩;rw[aJ] at F aK a7 c9;rw[b8] at z2 aK a7 bH;clear aJ b8;go_upto_region 6 with fail;obtain⟨D,Z⟩:=ex_ (wr.alloc (.cells #[.bool wd,.slice ab nb cb,.slice aw nw cw,I_ dd] 227));rw[<- Z];have aQ:E_ w D:=by rw[Z];exact a.alloc a.size _
   have x0:D.cell? (A_ wr.heap.size 0)=some (.bool wd):=(by rw[Z];simp[go_sem]);have x1:D.cell? (A_ wr.heap.size 1)=some (.slice ab nb cb):=(by rw[Z];simp[go_sem]);have x2:D.cell? (A_ wr.heap.size 2)=some (.slice aw nw cw):=(by rw[Z];simp[go_sem]);have x3:D.cell? (A_ wr.heap.size 3)=some (I_ dd):=(by rw[Z];simp[go_sem]);clear Z y1 z0 F z2 z3 C;generalize wr.heap.size=fb at *;have a5:Hid (E_ w D):=aQ;clear a aQ;obtain⟨kd,aN⟩:∃kd:ByteArray,kd=strOfNums (ZfF wd):=⟨_,rfl⟩;have aU:Hid (kd=strOfNums (ZfF wd)):=aN;go_upto_if 42 with fail
   go_cut [6] (λv wx=>v=.string kd/\wx=D)
   case first=>
    cases wd
    ·have aX:kd={data:=#[110]}:=aN;subst aX;go_wp2;go_meet
     exact⟨rfl,rfl⟩
    have aX:kd={data:=#[119]}:=aN;subst aX;go_wp2;go_meet
    exact⟨rfl,rfl⟩
   case rest=>
   obtain⟨rfl,hw⟩:=hcut;obtain rfl:=hw.symm;clear aN x0;have aF:Hid (∀W,E_ D W->C_ 135 #[.int .i64 dd,.int .i64 1] W λe w'=>e=.returned (.string (strOfNums (Ba dd 1)))/\E_ D w'):=λW hW=>Ea hW _ 1 o_ o_ o_;obtain⟨nn,bO⟩:∃nn:Nat,nn=nb+nw:=⟨_,rfl⟩;rw[<- bO] at a7;have q1:nb+nw=(nn:Int):=o_;have dI:nn<=2000:=o_;clear bO;have aH:Hid (∀W,E_ D W->C_ 135 #[.int .i64 nn,.int .i64 1] W λe w'=>e=.returned (.string (strOfNums (Ba nn 1)))/\E_ D w'):=λW hW=>Ea hW _ 1 o_ o_ o_;obtain⟨H1,b5⟩:∃H1:List Int,H1=H0++(q.take i).flatMap Pj++ZfF wd++[(dd:Int)%256]++[(nn:Int)%256]:=⟨_,rfl⟩
   have cN:Hid (S++kd++strOfNums (Ba dd 1)++strOfNums (Ba nn 1)=strOfNums H1):=(by show _=_;rw[b5,c,aU,Cl,Cl,Cl];rfl);have bC:Hid (H0++(q.take (i+1)).flatMap Pj=H1++Jz T++Ki G):=(by show _=_;rw[HT,a7,b5];simp only[List.append_assoc]);have u:S.size<=1000000:=by rw[c,Br];exact cG i
   have d9:kd.size=1:=by
    rw[aU,Br]
    cases wd<;>rfl
   have L:=Ex (dd:Nat) 1;have l2:=Ex (nn:Nat) 1;have F:¬9223372036854775807<S.size+kd.size:=o_;have z2:¬9223372036854775807<S.size+kd.size+(strOfNums (Ba dd 1)).size:=o_;have z3:¬9223372036854775807<S.size+kd.size+(strOfNums (Ba dd 1)).size+(strOfNums (Ba nn 1)).size:=o_;have aC:Hid ((H1++Jz T++Ki G).length<=1000000):=(by rw[<- bC];exact cG (i+1));have d6:IntKind.i64.wrap nn=nn:=Cb o_ o_;clear b5 HT a7 aU c d9 L l2;have cD:E_ D D:=bz_;go_upto_region 9 with fail;generalize strOfNums (Ba (dd:Nat) 1)=s1 at *;generalize strOfNums (Ba (nn:Nat) 1)=s2 at *;go_cut [3] (λv wx=>v=.string (S++kd++s1++s2)/\Hid (E_ D wx))
   case first=>
    refine Al (λw'=>w'.cell? (A_ fb 1)=some (.slice ab nb cb)/\w'.cell? (A_ fb 2)=some (.slice aw nw cw)/\w'.cell? (A_ fb 3)=some (I_ (dd:Nat))) 16 k_ ⟨x1,x2,x3⟩ (λhHeld=>?_);refine Ah 0 ?_;refine Ah 1 ?_;refine Ah 2 ?_;refine Ah 3 ?_;refine Ah 4 ?_;refine Ah 7 ?_;refine Ah 8 ?_;refine Ah 9 ?_;refine Ah 10 ?_;refine Ah 11 ?_;refine Ah 12 ?_;refine Ah 13 ?_;refine Af (i:=5) k_ rfl (λKK hK=>?_);go_simp;refine(aF _ cD.drew).mono ?_;rintro e w2 ⟨rfl,o⟩;go_simp;refine hK _ _ ⟨Ac o x1,Ac o x2,Ac o x3⟩ (λhHeld=>?_);clear hK KK;try simp only[Act.put,sA,sB,sC]
    refine Ah 6 ?_;refine Af (i:=14) k_ rfl (λKK hK=>?_);go_simp;refine(aH _ o).mono ?_;rintro e w3 ⟨rfl,y⟩;go_simp;refine hK _ _ ⟨Ac y x1,Ac y x2,Ac y x3⟩ (λhHeld=>?_);clear hK KK;try simp only[Act.put,sA,sB,sC]
    refine Ah 15 ?_;refine Ai (i:=16) k_ rfl k_ (λKK hK=>?_);go_simp;refine hK _ _ ?_;clear hK KK;try simp only[Act.put,sA,sB,sC]
    refine Ak k_ ?_ _;go_wp2;go_meet
    exact⟨rfl,y⟩
   case rest=>
   obtain⟨rfl,aE⟩:=hcut;rw[cN];clear aF aH cN cD x3 q1 d6 F z2 z3 u;go_upto_region 11 with fail;go_loopw [3,7] (λt3 t7 wr=>∃(k:Nat) (S:ByteArray),t3=.string S/\t7=.int .i64 k/\k<=nb/\Hid (S=strOfNums (H1++Jz (T.take k)))/\Hid (E_ D wr)) (λ_ t7 _=>nb-(intOf t7).toNat)
   case atStart=>exact⟨0,_,rfl,rfl,qg_,by show _=_;simp[Jz],aE⟩
   case round=>
    clear aE;obtain⟨k,S2,rfl,rfl,bV,c,C⟩:=hrel;have a:=C.out;have y1:=Ac a x1
    by_cases hkb:k<nb
    ·have k0:0<=(k:Int):=o_;have k1:k<(nb:Int):=o_;have H:k<T.length:=(by rw[a6.1];exact hkb);obtain⟨qb,rfl,_,_,cx⟩:=aK.1.atK a6.1 (k:=k) hkb;have y2:=Ac a (Ac a5 cx.1);have cW:=dF _ (Na 0 H);have J:Hid (Jz (T.take (k+1))=Jz (T.take k)++Ba (T.getD k 0) 4):=rt H;clear cx;generalize T.getD k 0=x at *;have Q:Hid (C_ 135 #[.int .i64 x,.int .i64 4] wr λe w'=>e=.returned (.string (strOfNums (Ba x 4)))/\E_ D w'):=Ea a _ 4 o_ o_ o_;have U:Hid (S2++strOfNums (Ba x 4)=strOfNums (H1++Jz (T.take (k+1)))):=by show _=_;rw[J,c,Cl,List.append_assoc]
     have u:S2.size<=1000000:=(by rw[c,Br];have A:=aC.out;simp only[Qe,fh,List.length_take] at A ⊢;omega);have L:=Ex x 4;have F:¬9223372036854775807<S2.size+(strOfNums (Ba x 4)).size:=o_;clear J c C cW L u;generalize strOfNums (Ba x 4)=s3 at *;go_wp2_with fail
     refine Q.mono ?_;rintro e w2 ⟨rfl,o⟩;have M:Hid (E_ D w2):=o;clear o Q a;go_wp2;go_roundw;case rel=>exact⟨k+1,_,rfl,g_,o_,U,M⟩
     case measure=>exact z_
    have bF:k=nb:=o_;subst bF;have bK:¬k<(k:Int):=o_;rw[List.take_of_length_le (by rw[a6.1];omega)] at c;obtain⟨H2,c6⟩:∃H2:List Int,H2=H1++Jz T:=⟨_,rfl⟩;rw[<- c6] at c bC aC;clear c6;generalize wr=wa at *;go_upto_region 15 with fail;clear y1 a;go_loopw [3,8] (λt3 t8 wr=>∃(j:Nat) (S:ByteArray),t3=.string S/\t8=.int .i64 j/\j<=nw/\Hid (S=strOfNums (H2++Ki (G.take j)))/\Hid (E_ D wr)) (λ_ t8 _=>nw-(intOf t8).toNat)
    case atStart=>exact⟨0,_,rfl,rfl,qg_,by show _=_;rw[c];simp[Ki],C⟩
    case round=>
     clear c C;obtain⟨j,R,rfl,rfl,dN,c,C⟩:=hrel;have a:=C.out;have y2:=Ac a x2
     by_cases hjw:j<nw
     ·have j0:0<=(j:Int):=o_;have j1:j<(nw:Int):=o_;have bI:j<G.length:=(by rw[a6.2];exact hjw);obtain⟨qw,rfl,_,cx⟩:=aK.2.atW a6.2 hjw ByteArray.empty;have x4:=Ac a5 cx;have y3:=Ac a x4;have cY:=cQ _ (Na ByteArray.empty bI);have J:Hid (Ki (G.take (j+1))=Ki (G.take j)++((G.getD j ByteArray.empty).size:Int)%256::Aq (G.getD j ByteArray.empty)):=uy bI _;clear cx;generalize G.getD j ByteArray.empty=t at *;have Q:Hid (∀W,E_ D W->C_ 135 #[.int .i64 t.size,.int .i64 1] W λe w'=>e=.returned (.string (strOfNums (Ba t.size 1)))/\E_ D w'):=λW hW=>Ea hW _ 1 o_ o_ o_
      have U:Hid (R++strOfNums (Ba t.size 1)++t=strOfNums (H2++Ki (G.take (j+1)))):=(by show _=_;have h3:=Cl (H2++Ki (G.take j)++Ba (t.size:Nat) 1) (Aq t);rw[zx] at h3;rw[J,c,Cl,h3,ja];simp only[List.append_assoc];rfl);have u:R.size<=1000000:=by rw[c,Br];have A:=aC.out;have h2:=Rl (λs=>((s.size:Nat):Int)%256::Aq s) G j;simp only[Qe,Ki] at A h2 ⊢;omega
      have L:=Ex (t.size:Nat) 1;have F:¬9223372036854775807<R.size+(strOfNums (Ba t.size 1)).size:=o_;have z2:¬9223372036854775807<R.size+(strOfNums (Ba t.size 1)).size+t.size:=o_;clear J c C cY L u;generalize strOfNums (Ba (t.size:Nat) 1)=s3 at *;go_upto_region 17 with fail;refine Al (λw'=>w'.cell? (A_ fb 2)=some (L_ qw nw cw)/\w'.cell? (A_ qw j)=some (.string t)) 15 k_ ⟨y2,y3⟩ (λhHeld=>?_);refine Ah 0 ?_;refine Ah 1 ?_;refine Ah 2 ?_;refine Ah 3 ?_;refine Ah 4 ?_;refine Ah 5 ?_;refine Ah 6 ?_;refine Ah 9 ?_;refine Ah 10 ?_;refine Ah 11 ?_;refine Ah 12 ?_;refine Ah 13 ?_;refine Af (i:=7) k_ rfl (λKK hK=>?_);go_simp;refine(Q _ a.drew).mono ?_;rintro e w2 ⟨rfl,o⟩;go_simp
      refine hK _ _ ⟨Ac o x2,Ac o x4⟩ (λhHeld=>?_);clear hK KK;try simp only[Act.put,sA,sB,sC]
      refine Ah 8 ?_;refine Ah 14 ?_;refine Ai (i:=15) k_ rfl k_ (λKK hK=>?_);go_simp;refine hK _ _ ?_;clear hK KK;try simp only[Act.put,sA,sB,sC]
      refine Ak k_ ?_ _;have M:Hid (E_ D w2):=o;clear o hHeld;clear Q a y2 y3;go_wp2;go_roundw;case rel=>exact⟨j+1,_,rfl,g_,o_,U,M⟩
      case measure=>exact z_
     have cL:j=nw:=o_;subst cL;have dK:¬j<(j:Int):=o_;rw[List.take_of_length_le (by rw[a6.2];omega),<- bC] at c;have M:Hid (E_ w wr):=a5.trans (a.mono a5.size);clear C a;go_wp2;go_roundw;case rel=>exact⟨i+1,_,rfl,g_,o_,c,M⟩
     case measure=>exact z_
  have bG:i=V:=o_;subst bG;have dR:¬i<(i:Int):=o_;rw[List.take_of_length_le (by rw[a9.1];omega)] at c;obtain⟨H3,bZ⟩:∃H3:List Int,H3=H0++q.flatMap Pj:=⟨_,rfl⟩;rw[<- bZ] at c r;clear bZ aM HK;have y2:=Ac a d2;have Q:Hid (C_ 135 #[.int .i64 Y,.int .i64 1] wr λe w'=>e=.returned (.string (strOfNums (Ba Y 1)))/\E_ w w'):=Ea a _ 1 o_ o_ o_;obtain⟨H4,aO⟩:∃H4:List Int,H4=H3++[(Y:Int)%256]:=⟨_,rfl⟩;have c5:Hid (S++strOfNums (Ba Y 1)=strOfNums H4):=(by show _=_;rw[aO,c,Cl];rfl);rw[<- aO] at r
  have u:S.size<=1000000:=by
   rw[c,Br];have A:=O.out;rw[r,aO] at A
   grind
  have L:=Ex (Y:Nat) 1;have F:¬9223372036854775807<S.size+(strOfNums (Ba Y 1)).size:=o_
  have cF:Hid (∀b,(H4++(l.take b).flatMap Gw).length<=1000000):=λb=>by have A:=O.out;rw[r] at A;simp only[Qe] at A ⊢;have:=Rl Gw l b;omega
  clear aO c L u;generalize strOfNums (Ba (Y:Nat) 1)=s1 at *;go_wp2_with fail
  refine Q.mono ?_;rintro e w2 ⟨rfl,o⟩;have M:Hid (E_ w w2):=o;clear o Q C a y1 y2;go_upto_region 20 with fail;clear F;rw[c5];clear c5;go_loopw [3,9] (λt3 t9 wr=>∃(b:Nat) (S:ByteArray),t3=.string S/\t9=.int .i64 b/\b<=Y/\Hid (S=strOfNums (H4++(l.take b).flatMap Gw))/\Hid (E_ w wr)) (λ_ t9 _=>Y-(intOf t9).toNat)
  case atStart=>exact⟨0,_,rfl,rfl,qg_,by show _=_;simp,M⟩
  case round=>
   clear M;obtain⟨b,S2,rfl,rfl,hb,c,C⟩:=hrel;have a:=C.out;have y2:=Ac a d2
   by_cases hbb:b<Y
   ·have b0:0<=(b:Int):=o_;have b1:b<(Y:Int):=o_;have aA:b<l.length:=(by rw[a9.2.1];exact hbb);obtain⟨q2,k2,ag,cg,e2,cB,aD⟩:=aT.2 b (by rw[List.length_map];exact aA);obtain⟨q3,k3,ac,cc,e3,cC,aP⟩:=aW.2 b (by rw[List.length_map];exact aA);have dG:a2=some ⟨q2,0,none⟩:=(by injection e2);have d8:a3=some ⟨q3,0,none⟩:=(by injection e3);subst dG d8;have eF:(l.map BS.fs).getD b []=(l.getD b Dx).fs:=(by simp[List.getD,aA]);have eN:(l.map BS.N).getD b []=(l.getD b Dx).N:=(by simp[List.getD,aA]);rw[eF] at cB aD;rw[eN] at cC aP;have I:=cV _ (Na Dx aA);have HT:Hid ((l.take (b+1)).flatMap Gw=(l.take b).flatMap Gw++Gw (l.getD b Dx)):=Kl Gw l Dx aA;clear e2 e3 eF eN;generalize l.getD b Dx=B at *;obtain⟨E,N,g⟩:=B
    have aS:Hid (Gw ⟨E,N,g⟩=[(E.length:Int)%256]++Wl E++Kz N g):=rfl;simp only at cB aD cC aP;have b3:N.length=n:=I.len;have c8:E.length<=1000:=I.few;have dH:Hid (∀k,E.getD k 0<=1000000):=I.fl
    have b9:Hid (∀W,E_ w W->C_ 137 #[.pointer (some ⟨db,0,none⟩),.slice ag E.length cg] W λe w'=>e=.returned (.int .i64 g)/\E_ w w'):=λW hW=>by have A:=uj db n cg ag E q W (HV.dk.below hW) (aD.below hW) I.fk c8;have h2:g=Du q E:=I.gs;rw[<- h2] at A;exact A.mono (λ_ _ h=>⟨h.1,hW.trans (h.2.mono hW.size)⟩)
    have aR:Hid (∀W,E_ w W->C_ 136 #[.slice ac N.length cc,.int .i64 g] W λe w'=>e=.returned (.string (strOfNums (Kz N g)))/\E_ w w'):=λW hW=>(Zf1 ac cc g N W (aP.below hW) (by rw[b3];exact hn) I.g6 I.val).mono (λ_ _ h=>⟨h.1,hW.trans (h.2.mono hW.size)⟩);have cR:Hid (NuV w ag E):=aD;clear aD aP I;have a8:=Ac a cB;obtain⟨fl,aI⟩:=ey_ E.length;have bD:Hid (E.length=fl):=aI;rw[aI] at cB c8 b9 aS a8;rw[b3] at cC aR;clear aI b3;have Q:Hid (C_ 135 #[.int .i64 fl,.int .i64 1] wr λe w'=>e=.returned (.string (strOfNums (Ba fl 1)))/\E_ w w'):=Ea a _ 1 o_ o_ o_;obtain⟨H5,bB⟩:∃H5:List Int,H5=H4++(l.take b).flatMap Gw++[(fl:Int)%256]:=⟨_,rfl⟩
    have cI:Hid (S2++strOfNums (Ba fl 1)=strOfNums H5):=(by show _=_;rw[bB,c,Cl];rfl);have cA:Hid (H4++(l.take (b+1)).flatMap Gw=H5++Wl E++Kz N g):=(by show _=_;rw[HT,aS,bB];simp only[List.append_assoc]);have u:S2.size<=1000000:=(by rw[c,Br];exact cF b);have L:=Ex (fl:Nat) 1;have F:¬9223372036854775807<S2.size+(strOfNums (Ba fl 1)).size:=o_;have aC:Hid ((H5++Wl E++Kz N g).length<=1000000):=(by rw[<- cA];exact cF (b+1));clear bB c HT aS L u;generalize strOfNums (Ba (fl:Nat) 1)=s1 at *;go_wp2_with fail
    refine Q.mono ?_;rintro e w3 ⟨rfl,y⟩;have aG:Hid (E_ w w3):=y;clear y Q C a y2 a8;go_upto_region 24 with fail;clear F;rw[cI];clear cI;go_loopw [3,10] (λt3 t10 wr=>∃(k:Nat) (S:ByteArray),t3=.string S/\t10=.int .i64 k/\k<=fl/\Hid (S=strOfNums (H5++Wl (E.take k)))/\Hid (E_ w wr)) (λ_ t10 _=>fl-(intOf t10).toNat)
    case atStart=>exact⟨0,_,rfl,rfl,qg_,by show _=_;simp[Wl],aG⟩
    case round=>
     clear aG;obtain⟨k,R,rfl,rfl,bV,c,C⟩:=hrel;have a:=C.out;have y2:=Ac a d2;have a8:=Ac a cB
     by_cases hkf:k<fl
     ·have k0:0<=(k:Int):=o_;have k1:k<(fl:Int):=o_;have H:k<E.length:=(by rw[bD];exact hkf);obtain⟨qg,rfl,cx⟩:=cR k H;have y4:=Ac a cx;have dQ:=dH k;have J:Hid (Wl (E.take (k+1))=Wl (E.take k)++[((E.getD k 0:Nat):Int)%256]):=ZaA H;clear cx;generalize E.getD k 0=f at *;have Q:Hid (C_ 135 #[.int .i64 f,.int .i64 1] wr λe w'=>e=.returned (.string (strOfNums (Ba f 1)))/\E_ w w'):=Ea a _ 1 o_ o_ o_;have U:Hid (R++strOfNums (Ba f 1)=strOfNums (H5++Wl (E.take (k+1)))):=(by show _=_;rw[J,c,Cl,List.append_assoc];rfl);have u:R.size<=1000000:=by rw[c,Br];have A:=aC.out;simp only[Qe,Wl,List.length_map,List.length_take] at A ⊢;omega
      have L:=Ex (f:Nat) 1;have F:¬9223372036854775807<R.size+(strOfNums (Ba f 1)).size:=o_;clear J c C L u;generalize strOfNums (Ba (f:Nat) 1)=s3 at *;go_wp2_with fail
      refine Q.mono ?_;rintro e w4 ⟨rfl,m⟩;have a0:Hid (E_ w w4):=m;clear m Q a y2 a8 y4;go_wp2;go_roundw;case rel=>exact⟨k+1,_,rfl,g_,o_,U,a0⟩
      case measure=>exact z_
     have bE:k=fl:=o_;subst bE;have bK:¬k<(k:Int):=o_;rw[List.take_of_length_le (by rw[bD];omega)] at c;have cP:Hid (R++strOfNums (Kz N g)=strOfNums (H4++(l.take (b+1)).flatMap Gw)):=(by show _=_;rw[cA,c,Cl]);have F:¬9223372036854775807<R.size+(strOfNums (Kz N g)).size:=by rw[c,Br,Br];have A:=aC.out;simp only[Qe] at A ⊢;omega
     clear c;generalize strOfNums (Kz N g)=s4 at *;go_upto_region 27 with fail;have y3:=Ac a d3;have bR:=Ac a cC;refine Al (λw'=>w'.cell? (A_ db 2)=some (L_ q2 Y c2)/\w'.cell? (A_ db 3)=some (L_ q3 Y c3)/\w'.cell? (A_ q2 b)=some (.slice ag k cg)/\w'.cell? (A_ q3 b)=some (.slice ac n cc)) 19 k_ ⟨y2,y3,a8,bR⟩ (λhHeld=>?_);refine Ah 0 ?_;refine Ah 1 ?_;refine Ah 2 ?_;refine Ah 3 ?_;refine Ah 4 ?_;refine Ah 5 ?_;refine Ah 6 ?_;refine Ah 7 ?_;refine Ah 8 ?_;refine Ah 9 ?_;refine Ah 10 ?_;refine Ah 11 ?_;refine Ah 12 ?_;refine Ah 13 ?_;refine Ah 14 ?_;refine Ah 15 ?_;refine Af (i:=16) k_ rfl (λKK hK=>?_);go_simp;refine(b9 _ a.drew).mono ?_;rintro e w4 ⟨rfl,m⟩;go_simp;refine hK _ _ ⟨Ac m d2,Ac m d3,Ac m cB,Ac m cC⟩ (λhHeld=>?_)
     clear hK KK;try simp only[Act.put,sA,sB,sC]
     refine Af (i:=17) k_ rfl (λKK hK=>?_);go_simp;refine(aR _ m).mono ?_;rintro e w5 ⟨rfl,z⟩;go_simp;refine hK _ _ ⟨Ac z d2,Ac z d3,Ac z cB,Ac z cC⟩ (λhHeld=>?_);clear hK KK;try simp only[Act.put,sA,sB,sC]
     refine Ah 18 ?_;refine Ai (i:=19) k_ rfl k_ (λKK hK=>?_);go_simp;refine hK _ _ ?_;clear hK KK;try simp only[Act.put,sA,sB,sC]
     refine Ak k_ ?_ _;have a0:Hid (E_ w w5):=z;clear z hHeld;clear m b9 aR C a y2 a8 y3 bR;go_wp2;go_roundw;case rel=>exact⟨b+1,_,rfl,g_,o_,cP,a0⟩
     case measure=>exact z_
   have bM:b=Y:=o_;subst bM;have aJ:¬b<(b:Int):=o_;rw[List.take_of_length_le (by rw[a9.2.1];omega)] at c;obtain⟨H6,bP⟩:∃H6:List Int,H6=H4++l.flatMap Gw:=⟨_,rfl⟩;rw[<- bP] at c r;clear bP aT aW;have y4:=Ac a d4;have Q:Hid (C_ 135 #[.int .i64 lx,.int .i64 2] wr λe w'=>e=.returned (.string (strOfNums (Ba lx 2)))/\E_ w w'):=Ea a _ 2 o_ o_ o_;obtain⟨H7,aL⟩:∃H7:List Int,H7=H6++Ba lx 2:=⟨_,rfl⟩;have cH:Hid (S2++strOfNums (Ba lx 2)=strOfNums H7):=(by show _=_;rw[aL,c,Cl]);rw[<- aL] at r;have u:S2.size<=1000000:=by rw[c,Br];have A:=O.out;rw[r,aL] at A;simp only[Qe] at A ⊢;omega
   have L:=Ex (lx:Nat) 2;have F:¬9223372036854775807<S2.size+(strOfNums (Ba lx 2)).size:=o_
   have cS:Hid (∀k,(H7++(X.take k).flatMap xB).length<=1000000):=λk=>by have A:=O.out;rw[r] at A;simp only[Qe] at A ⊢;have:=Rl xB X k;omega
   clear aL c L u;generalize strOfNums (Ba (lx:Nat) 2)=s1 at *;go_wp2_with fail
   refine Q.mono ?_;rintro e w3 ⟨rfl,y⟩;have aG:Hid (E_ w w3):=y;clear y Q C a y2 y4;go_upto_region 30 with fail;clear F;rw[cH];clear cH;go_loopw [3,11] (λt3 t11 wr=>∃(k:Nat) (S:ByteArray),t3=.string S/\t11=.int .i64 k/\k<=lx/\Hid (S=strOfNums (H7++(X.take k).flatMap xB))/\Hid (E_ w wr)) (λ_ t11 _=>lx-(intOf t11).toNat)
   case atStart=>exact⟨0,_,rfl,rfl,qg_,by show _=_;simp,aG⟩
   case round=>
    clear aG;obtain⟨k,R,rfl,rfl,bV,c,C⟩:=hrel;have a:=C.out;have y4:=Ac a d4
    by_cases hkx:k<lx
    ·have k0:0<=(k:Int):=o_;have k1:k<(lx:Int):=o_;have b6:k<X.length:=(by rw[a9.2.2];exact hkx);obtain⟨qx,cx,ex,x0,x1,x2⟩:=bQ.2 k b6;have cU:a4=some ⟨qx,0,none⟩:=(by injection ex);subst cU;clear ex;have bW:=HX _ (Na Fk b6);have HT:Hid ((X.take (k+1)).flatMap xB=(X.take k).flatMap xB++xB (X.getD k Fk)):=Kl xB X Fk b6;generalize X.getD k Fk=x at *;obtain⟨xr,xf,xb⟩:=x;simp only at x0 x1 x2 bW;obtain⟨dM,dJ,dL⟩:=bW;have z0:=Ac a x0;have F:=Ac a x1;have z2:=Ac a x2;have aF:Hid (∀W,E_ w W->C_ 135 #[.int .i64 xr,.int .i64 1] W λe w'=>e=.returned (.string (strOfNums (Ba xr 1)))/\E_ w w'):=λW hW=>Ea hW _ 1 o_ o_ o_
     have aH:Hid (∀W,E_ w W->C_ 135 #[.int .i64 xf,.int .i64 1] W λe w'=>e=.returned (.string (strOfNums (Ba xf 1)))/\E_ w w'):=λW hW=>Ea hW _ 1 o_ o_ o_;have bS:Hid (∀W,E_ w W->C_ 135 #[.int .i64 xb,.int .i64 1] W λe w'=>e=.returned (.string (strOfNums (Ba xb 1)))/\E_ w w'):=λW hW=>Ea hW _ 1 o_ o_ o_;have U:Hid (R++strOfNums (Ba xr 1)++strOfNums (Ba xf 1)++strOfNums (Ba xb 1)=strOfNums (H7++(X.take (k+1)).flatMap xB)):=by show _=_;rw[HT,c,Cl,Cl,Cl];simp only[List.append_assoc];rfl
     have u:R.size<=1000000:=(by rw[c,Br];exact cS k);have L:=Ex (xr:Nat) 1;have l2:=Ex (xf:Nat) 1;have l3:=Ex (xb:Nat) 1;have u1:¬9223372036854775807<R.size+(strOfNums (Ba xr 1)).size:=o_;have u2:¬9223372036854775807<R.size+(strOfNums (Ba xr 1)).size+(strOfNums (Ba xf 1)).size:=o_;have u3:¬9223372036854775807<R.size+(strOfNums (Ba xr 1)).size+(strOfNums (Ba xf 1)).size+(strOfNums (Ba xb 1)).size:=o_;clear HT c L l2 l3 u;generalize strOfNums (Ba (xr:Nat) 1)=t1 at *;generalize strOfNums (Ba (xf:Nat) 1)=t2 at *;generalize strOfNums (Ba (xb:Nat) 1)=t3 at *;go_upto_region 32 with fail
     refine Al (λw'=>w'.cell? (A_ db 4)=some (L_ qx lx c4)/\w'.cell? (A_ qx (k*3))=some (I_ (xr:Nat))/\w'.cell? (A_ qx (k*3+1))=some (I_ (xf:Nat))/\w'.cell? (A_ qx (k*3+2))=some (I_ (xb:Nat))) 31 k_ ⟨y4,z0,F,z2⟩ (λhHeld=>?_);refine Ah 0 ?_;refine Ah 1 ?_;refine Ah 2 ?_;refine Ah 3 ?_;refine Ah 4 ?_;refine Ah 5 ?_;refine Ah 6 ?_;refine Ah 7 ?_;refine Ah 8 ?_;refine Ah 11 ?_;refine Ah 12 ?_;refine Ah 13 ?_;refine Ah 14 ?_;refine Ah 15 ?_;refine Ah 16 ?_;refine Ah 17 ?_;refine Ah 18 ?_;refine Ah 21 ?_;refine Ah 22 ?_;refine Ah 23 ?_;refine Ah 24 ?_;refine Ah 25 ?_;refine Ah 26 ?_;refine Ah 27 ?_;refine Ah 28 ?_;refine Af (i:=9) k_ rfl (λKK hK=>?_);go_simp;refine(aF _ a.drew).mono ?_;rintro e w4 ⟨rfl,m⟩;go_simp
     refine hK _ _ ⟨Ac m d4,Ac m x0,Ac m x1,Ac m x2⟩ (λhHeld=>?_);clear hK KK;try simp only[Act.put,sA,sB,sC]
     refine Ah 10 ?_;refine Af (i:=19) k_ rfl (λKK hK=>?_);go_simp;refine(aH _ m).mono ?_;rintro e w5 ⟨rfl,z⟩;go_simp;refine hK _ _ ⟨Ac z d4,Ac z x0,Ac z x1,Ac z x2⟩ (λhHeld=>?_);clear hK KK;try simp only[Act.put,sA,sB,sC]
     refine Ah 20 ?_;refine Af (i:=29) k_ rfl (λKK hK=>?_);go_simp;refine(bS _ z).mono ?_;rintro e w6 ⟨rfl,aB⟩;go_simp;refine hK _ _ ⟨Ac aB d4,Ac aB x0,Ac aB x1,Ac aB x2⟩ (λhHeld=>?_);clear hK KK;try simp only[Act.put,sA,sB,sC]
     refine Ah 30 ?_;refine Ai (i:=31) k_ rfl k_ (λKK hK=>?_);go_simp;refine hK _ _ ?_;clear hK KK;try simp only[Act.put,sA,sB,sC]
     refine Ak k_ ?_ _;have a0:Hid (E_ w w6):=aB;clear aB hHeld;clear m z aF aH bS C a y4 z0 F z2;go_wp2;go_roundw;case rel=>exact⟨k+1,_,rfl,g_,o_,U,a0⟩
     case measure=>exact z_
    have bX:k=lx:=o_;subst bX;have bK:¬k<(k:Int):=o_;rw[List.take_of_length_le (by rw[a9.2.2];omega),<- r] at c;have cT:=c.out;subst cT;clear c r;have bL:=dD wr;go_wp2_with fail
    refine bL.mono ?_;rintro e w4 ⟨rfl,m⟩;have a0:Hid (E_ w w4):=a.trans (m.mono a.size);clear m bL C a y4;go_wp2;go_ret;exact⟨rfl,a0⟩
section
variable {m n budget:Nat} {es:List ES} {Bb:List (List Nat)}
def ZgX(c:Po m n es Bb){g}(b:g<m+1) r:(Bb.getD g []).getD r 0<((Eb es Bb (m+1)).getD g Ay).many:=by
 rw[Fi es Bb b];show _<(es.getD g Ph).cnt+2;rw[Qc]
 rcases Nat.lt_or_ge r (Bb.getD g []).length with a|a
 rw[Qd a];exact c.bin g b _ (Qf _)
 grind
def ZlU(c:Po m n es Bb){r}(d:r<n){g}(a:g<m+1):((Gh es Bb (m+1)).getD g []).getD r false=sO (Eb es Bb (m+1)) Bb g r:=by unfold sO;rw[Lg es Bb a,Fi es Bb a];have b:r<(Bb.getD g []).length:=(by rw[c.lb g a];exact d);unfold oF Dc;rw[Qc,List.getElem?_map,Qd b,Qc (l:=Bb.getD g []),Qd b];rfl
def ZeI:(Ao m n budget es Bb).ks=Eb es Bb (m+1):=Kw _ _ _ _ _
def yy:(Ao m n budget es Bb).ks.length=m+1:=by rw[ZeI];exact Dh _ _ _
def Zkd:(Ao m n budget es Bb).bs.map BS.fs=Dp (Ha m (Eb es Bb (m+1)) (Gh es Bb (m+1)) n budget):=by
  have:=bo (Gh es Bb (m+1)) Bb n (Eb es Bb (m+1)) (Ha m (Eb es Bb (m+1)) (Gh es Bb (m+1)) n budget) ⟨Eb es Bb (m+1),[],[]⟩;unfold Ao Ew
  simpa using this
def Zke{G}(b:G∈Ha m (Eb es Bb (m+1)) (Gh es Bb (m+1)) n budget){f}(a:f∈G.fs):f<m+1:=by
 have c:f∈Fh (Ha m (Eb es Bb (m+1)) (Gh es Bb (m+1)) n budget):=by grind [Fh]
 grind [Nd]
def ZiY(j:Po m n es Bb){X}(p:X.Perm (Ao m n budget es Bb).xs){f r}(k:f<m+1)(l:r<n):xbF X f r (Jp (Ao m n budget es Bb).ks ((Ao m n budget es Bb).bs.map BS.fs) ((Ao m n budget es Bb).bs.map BS.N) r f)=(Bb.getD f []).getD r 0:=by
 have h:=Dh es Bb (m+1);have o:∀r,_->∀g,g<(Eb es Bb (m+1)).length->_=sO _ _ g r:=λr l g hg=>ZlU j l o_;have d:=Zas (n:=n) h (Nd m (Eb es Bb (m+1)) _ n _) (Tq m _ (Gh es Bb (m+1)) n budget) (λi hi r=>ZgX j hi r) o;have b:=Zar (n:=n) (Gs:=Ha m (Eb es Bb _) _ n budget) (λG hG f k=>by rw[h];exact Zke hG k) (λi hi r=>ZgX j o_ r) o;have a:(Ao m n _ _ _).bs.map _=_:=b;rw[ZeI,Zkd,a];have c:=λx=>p.mem_iff.trans (d x);unfold xbF
 cases hfd:X.find? (λy=>decide (rp r f y)) with
 | some y=>
  grind
 | none=>
  rw[List.find?_eq_none] at hfd
  by_cases e:Jp (Eb es Bb (m+1)) (Dp (Ha m (Eb es Bb (m+1)) (Gh es Bb (m+1)) n budget)) ((Dp (Ha m (Eb es Bb (m+1)) (Gh es Bb (m+1)) n budget)).map (λfs=>He (Eb es Bb (m+1)) Bb fs n)) r f=(Bb.getD f []).getD r 0
  exact e;exact absurd (decide_eq_true (show rp r f _ from⟨rfl,rfl⟩)) (hfd _ ((c ⟨r,f,(Bb.getD f _).getD r 0⟩).2 ⟨l,k,decide_eq_true e,rfl⟩))
end
def ce{α:Type}(f:α->List Int) c:∀(L:List α),(∀x∈L,(f x).length<=c)->(L.flatMap f).length<=L.length*c
 |[],_=>s_
 |x::L,h=>by have h1:=h x s_;have h2:=ce f c L (λy hy=>h y (by simp[hy]));rw[List.flatMap_cons,Qe,List.length_cons,Nat.succ_mul];omega
def Zil{n D}(a:Mt n D)(c:∀K∈D.ks,oe K){X}(e:X.Perm D.xs):(Ob D X).length<=100000:=by have i:=ce Pj _ _ (λK hK=>ZeC (c K hK));have j:=ce _ _ _ (λb hb=>(a.bun b hb).2.2.2.2);have h:=ce xB 3 X (λx _=>qa_);have g:=a.k4;have f:=a.b4;have d:=a.xl;rw[<- e.length_eq] at d;unfold Ob;simp only[Qe,List.length_cons,List.length_nil,Gc];omega
def ZbE{m n a d c}(J:m+1<=4)(F:n<=200)(g:Po m n d c)(j:∀K∈(Ao m n a d c).ks,oe K)(y:∀K∈(Ao m n a d c).ks,∀x∈K.e.bs,-4294967296<=x){X}(u:X.Perm (Ao m n a d c).xs) E t H P Q M D B C w (h:RfX w t E n H P Q M D B C (Ao m n a d c).ks ((Ao m n a d c).bs.map BS.fs) ((Ao m n a d c).bs.map BS.N) X):C_ 76 #[.pointer (some ⟨E,0,none⟩)] w λe w'=>e=.returned (.string (strOfNums (Ml (Ao m n a d c) X)))/\Below w.heap.size w w':=by
 have f:=Jk (a:=a) J F g;have o:=Zil f j u;have p:=ZeT (Ao m n a d c) X;have q:=(f.bok _ (f.mem f.b0)).len;have v:Ml (Ao m n a d c) X=Se n (Ao m n a d c).ks (Ao m n a d c).bs X++Ba (Jt (Se n (Ao m n a d c).ks (Ao m n a d c).bs X)) 4:=(by unfold Ml Ob Se;rw[q]);have A:Ob (Ao m n a d c) X=Se n (Ao m n a d c).ks (Ao m n a d c).bs X:=(by unfold Ob Se;rw[q]);rw[A] at o p;rw[v];have L:=f.mn;have I:=f.k4;refine Zdu _ _ n _ _ _ _ _ _ _ _ _ X w h (λK hK=>?_) (λb hb=>?_) o_ (by have:=f.b4;omega) (by rw[u.length_eq];have:=f.xl;omega) (λx hx=>?_) F o_ p
 ·obtain⟨i,z,rfl⟩:=List.getElem_of_mem hK;have e:(Ao m n a d c).ks.getD i Ay=(Ao m n a d c).ks[i]:=w_;have l:=h.one i z;have G:=f.mn i z;have O:=f.dn i z;rw[e] at l G O;refine⟨l,λx hx=>⟨y _ hK x hx,?_⟩,λs hs=>?_,o_⟩
  ·rcases j _ hK with h|h
   ·grind
   grind
  rcases j _ hK with h|h
  ·grind
  grind
 ·have l:=f.bok b hb;have G:=f.g40 b hb;refine⟨l.len,by have:=f.f4 b hb;omega,f.fk b hb,λk=>?_,l.sum,o_,λr=>?_⟩
  ·rw[Qc]
   rcases Nat.lt_or_ge k b.fs.length with g|g
   ·rw[Qd g];have:=f.fk b hb _ (Qf g)
    grind
   grind
  rw[Qc]
  rcases Nat.lt_or_ge r b.N.length with g|g
  ·rw[Qd g];have:=l.le _ (Qf g)
   grind
  grind
 have:=f.xin x (u.subset hx);omega
def Fx(w w':World)(o:Nat->Nat)(g N:Nat)(c:Array Value):Prop:=∃o' c',Hx w' o' g c' N/\Dq w o o'/\Aa (λk=>o k<=13∨o k=99) w w'/\(∀j,j<4->c'[j]? =c[j]?)/\(∀k,w.heap.size<=k∨o k=99->o' k<=13∨o' k=99)/\∀k,w'.heap.size<=k->o' k=99
def Hx.norm{w o g N c}(h:Hx w o g c N):Hx w (λk=>if k<w.heap.size then o k else 99) g c N:=
 h.keep (S:=λ_=>False) (Aa.refl _ _) (λ_ _ e=>e.elim) (λk hk=>.inr (by simp[hk]))
def Hx.more{w o g N b c}(h:Hx w o g c N)(a:N<=b):Hx w o g c b:=by obtain⟨z,d,f,i⟩:=h.nx;exact⟨h.wb,h.og,h.sz,⟨z,d,f,o_⟩,h.es.keep (S:=λ_=>False) (Aa.refl _ _) (λ_ _ e=>e.elim) (Dq.refl _ _) d_ rfl rfl a,h.ns.keep (S:=λ_=>False) (Aa.refl _ _) (λ_ _ e=>e.elim) (Dq.refl _ _) d_ rfl rfl a,h.ss.keep (S:=λ_=>False) (Aa.refl _ _) (λ_ _ e=>e.elim) (Dq.refl _ _) d_ rfl rfl a,h.ls.keep (S:=λ_=>False) (Aa.refl _ _) (λ_ _ e=>e.elim) (Dq.refl _ _) d_ rfl rfl a⟩
def Fx.of_q2{w b o g N c}(h:Lr w b o g N c){a}(m:N<=a):Fx w b o g a c:=by
 obtain⟨p,i,j,l,d,f,r,n⟩:=h;have q:=d.size;refine⟨_,i,j.norm.more m,λk hk=>?_,d,f,λk hk=>?_,λk hk=>w_⟩
 ·rcases l k hk with e|e
  exact .inl e
  grind
 grind
def Fx.of_below{w w' o g N c}(h:Hx w o g c N)(hb:Below w.heap.size w w')(h9:∀k,w.heap.size<=k->o k=99){N'}(hN:N<=N'):Fx w w' o g N' c:=
 ⟨o,c,(h.keep (S:=λ_=>False) (.of_below hb) (λ_ _ e=>e.elim) (Dq.refl _ _)).more hN,Dq.refl _ _,.of_below hb,λ_ _=>rfl,λk hk=>.inr (hk.elim (h9 k) id),λk hk=>h9 k (Nat.le_trans hb.size hk)⟩
def Fx.trans{w b i o a g N c f}(l:Dq w o a)(m:Aa (λk=>o k<=13∨o k=99) w b)(v:∀j,j<4->f[j]? =c[j]?)(q:∀k,w.heap.size<=k∨o k=99->a k<=13∨a k=99)(h:Fx b i a g N f):Fx w i o g N c:=by
 obtain⟨t,r,p,d,x,s,y,u⟩:=h;refine⟨t,r,p,l.trans m.size d,m.trans2 x (λk hk=>?_),λj hj=>(s j hj).trans (v j hj),λk hk=>?_,u⟩
 ·by_cases hl:k<w.heap.size
  ·left
   rcases l k hl with e|e
   exact .inr e;omega
  omega
 rcases q k hk with e|e
 ·by_cases hl:k<b.heap.size
  ·rcases d k hl with n|n
   omega;omega
  grind
 grind
structure Jv(W:World)(dp gb db yb base m n budget:Nat)(es)(Bb)(vF vB vC vX)(kvs)(bvs cvs)(X):Prop where
 dp:W.heap[dp]? =some (.cells #[P_ gb,P_ yb] 137 (0,0))
 x:Mw W gb db (Ao m n budget es Bb)
 y:RfX W base yb n vF vB vC vX kvs bvs cvs (Ao m n budget es Bb).ks ((Ao m n budget es Bb).bs.map BS.fs) ((Ao m n budget es Bb).bs.map BS.N) X
structure On(m n budget)(es)(Bb)(X:List XS):Prop where
 hm:m+1<=4
 hn:n<=200
 hk:Po m n es Bb
 kn:∀K∈(Ao m n budget es Bb).ks,oe K
 kr:∀K∈(Ao m n budget es Bb).ks,∀x∈K.e.bs,-4294967296<=x
 pm:X.Perm (Ao m n budget es Bb).xs
 so:Fp X
section
variable {w w':World} {dp gb db yb base m n budget:Nat} {es:List ES} {Bb:List (List Nat)} {vF vB vC vX:Value} {kvs:List (Value×Value)} {bvs cvs:List Value} {X:List XS}
def Jv.below(h:Jv w dp gb db yb base m n budget es Bb vF vB vC vX kvs bvs cvs X)(hb:Below w.heap.size w w'):Jv w' dp gb db yb base m n budget es Bb vF vB vC vX kvs bvs cvs X:=
 ⟨(hb.block _ (Qb h.dp).1).trans h.dp,h.x.below hb,h.y.keep (.of_below hb)⟩
def Jv.cells(h:Jv w dp gb db yb base m n budget es Bb vF vB vC vX kvs bvs cvs X):w.cell? (A_ dp 0)=some (P_ gb)/\w.cell? (A_ dp 1)=some (P_ yb)/\w.cell? (A_ yb 0)=some (I_ n)/\w.cell? (A_ yb 1)=some vF/\w.cell? (A_ yb 2)=some vB:=
 ⟨cq_ 0 _ 137 (0,0) h.dp,cq_ 1 _ 137 (0,0) h.dp,cq_ 0 _ 142 (0,0) h.y.ds,cq_ 1 _ 142 (0,0) h.y.ds,cq_ 2 _ 142 (0,0) h.y.ds⟩
def Zcq g u r c d b x y A v D s B C q o wc l (h:Jv w dp gb db yb base m n budget es Bb vF vB vC vX kvs bvs cvs X)(j:On m n budget es Bb X):C_ 77 #[.pointer (some ⟨g,0,none⟩),.pointer (some ⟨dp,0,none⟩),.agg #[.int .i64 8,.int .i64 u,.int .i64 r,.slice A s B,.int .i64 c,.int .i64 d,.int .i64 b,.slice v C q,.slice D o wc,.string l,.int .i64 x,.int .i64 y]] w λe w'=>e=.returned (.bool true)/\Below w.heap.size w w':=by
 have F:=x1_ (Jk (budget:=budget) j.hm j.hn j.hk);have k:Hid (∀W,Below _ w W->_):=λW hW=>h.below hW;clear h j;go_enter Tryz.func77,Tryz.ntmps77;go_upto_region 3 with fail;generalize hw1:w.alloc (.cells #[I_ 8,I_ u,I_ r,.slice A s B,I_ c,I_ d,I_ b,.slice v C q,.slice D o wc,.string l,I_ x,I_ y] 93)=w1;have a:E_ w w1:=(by rw[<- hw1];exact bA_);clear hw1;obtain⟨H,p,z,_,_⟩:=(k w1 a).cells;have t:=Zc6 _ _ n _ _ (k _ a).x F;clear p z;go_wp2_with fail
 refine t.mono ?_;rintro e E ⟨rfl,i⟩;have f:=a.trans (i.mono a.size);obtain⟨_,p,z,_,_⟩:=(k E f).cells;have G:=x1_ f;clear f i a t H;go_wp2;go_ret;exact⟨s_,G⟩
def Zau g j B z f d i x y D C F A t u r v wc q (h:Jv w dp gb db yb base m n budget es Bb vF vB vC vX kvs bvs cvs X)(l:On m n budget es Bb X)(N:j≠8)(P:j≠9)(J:j≠10)(L:j≠11):C_ 77 #[.pointer (some ⟨g,0,none⟩),.pointer (some ⟨dp,0,none⟩),.agg #[.int .i64 j,.int .i64 B,.int .i64 z,.slice D A t,.int .i64 f,.int .i64 d,.int .i64 i,.slice C u r,.slice F v wc,.string q,.int .i64 x,.int .i64 y]] w λe w'=>e=.returned (.bool true)/\Below w.heap.size w w':=by
 have c:=x2_ (Jk (budget:=budget) l.hm l.hn l.hk) l;have p:Hid (∀W,Below _ w W->_):=λW hW=>h.below hW;clear h l;go_enter Tryz.func77,Tryz.ntmps77;go_upto_region 26 with fail;generalize hw1:w.alloc (.cells #[I_ j,I_ B,I_ z,.slice D A t,I_ f,I_ d,I_ i,.slice C u r,.slice F v wc,.string q,I_ x,I_ y] 93)=w1;have b:E_ w w1:=(by rw[<- hw1];exact bA_);clear hw1;obtain⟨H,_,_,_,_⟩:=(p w1 b).cells;have E:=ZaX _ _ n _ _ (p _ b).x c.1 c.2.kn X c.2.pm c.2.so;have s:=x1_ (λW hW=>ZbE c.2.hm c.2.hn c.2.hk c.2.kn c.2.kr c.2.pm _ _ _ _ _ _ _ _ _ W (p W hW).y);generalize strOfNums (Ml (Ao m n budget es Bb) X)=sb at *;go_wp2_with fail
 refine E.mono ?_;rintro e M ⟨rfl,k⟩;have a:=b.trans (k.mono b.size);obtain⟨_,I,_,_,_⟩:=(p M a).cells;clear k b E H;go_wp2_with fail
 refine(s _ a).mono ?_;rintro e O ⟨rfl,o⟩;have G:=x1_ (a.trans (o.mono a.size));clear o a I s;go_wp2;go_ret;exact⟨s_,G⟩
end
def Dd.keep{w e c n g d f S}(h:Dd w c 0 n g d f)(t:Aa S w e)(k:¬S c)(j:c<w.heap.size):Dd e c 0 n g d f:=by have b:=λo=>cb_ (w:=w) (a:=(A_ c o)) (t.block _ j k);exact⟨h.le,λh0=>Qh (h.lt h0) t.size,λi hi=>(b _).trans (h.c0 i hi),λi hi=>(b _).trans (h.c1 i hi),λi hi=>(b _).trans (h.c2 i hi)⟩
section
variable {w w':World} {o o':Nat->Nat} {t ib yb fk fc m:Nat} {wd:Nat->Bool} {sc ct:Nat->Int} {bins:Int} {size budget:Nat} {T b:ByteArray} {cl:Bool}
def Kv(w:World)(o:Nat->Nat)(t yb fk fc m:Nat)(wd:Nat->Bool)(sc ct:Nat->Int)(bins:Int)(size budget:Nat)(T:ByteArray)(cl:Bool):Prop:=
 o yb=t/\o fk=t/\fk≠yb/\fk<w.heap.size/\Dd w fk 0 (m+1) wd sc ct/\∃S z p,mu w yb fk (m+1) fc bins size budget S z p cl/\(cl=false->S=T/\z=(Nr (Me m wd sc T)).1/\p=(Nr (Me m wd sc T)).2)
def Kv.lt(h:Kv w o t yb fk fc m wd sc ct bins size budget T cl):yb<w.heap.size:=by obtain⟨_,_,_,_,_,S,z,p,a,_⟩:=h;exact(Qb a).1
def Kv.keep{S}(h:Kv w o t yb fk fc m wd sc ct bins size budget T cl)(c:Aa S w w')(f:∀k,k<w.heap.size->S k->o k≠t)(u:Dq w o o')(v:t≠99):Kv w' o' t yb fk fc m wd sc ct bins size budget T cl:=by
 have a:=h.lt;obtain⟨g,i,s,b,q,n,z,p,r,l⟩:=h
 have d:∀k,k<w.heap.size->o k=t->o' k=t:=λk hk e=>by rcases u k hk with j|j<;>omega
 exact⟨d _ a g,d _ b i,s,Qh b c.size,q.keep c (λe=>f _ b e i) b,n,z,p,c.at_ r (λe=>f _ a e g),l⟩
def feedY(v:Si m wd sc ct bins size budget)(h:Kv w o t yb fk fc m wd sc ct bins size budget T cl)(y:t≠99)(G:T.size+b.size<=200000000000000):C_ 125 #[.pointer (some ⟨yb,0,none⟩),.string b] w λe w'=>e=.returned (.tuple #[.int .i64 (fdZ m wd sc (Ws m wd sc T b cl) cl).1,.int .i64 (fdZ m wd sc (Ws m wd sc T b cl) cl).2])/\Kv w' (Db w w' o t) t yb fk fc m wd sc ct bins size budget (Ws m wd sc T b cl) cl/\Aa (λk=>o k=t) w w':=by
 have B:=h;have n:=h.lt;obtain⟨C,E,r,j,A,a,z,p,g,D⟩:=h;have H:=v.hm
 cases cl with
 | true=>
  refine(zm _ _ _ _ _ _ _ z p _ b w g).mono ?_;rintro e w' ⟨rfl,rfl⟩;have d:Ws m wd sc T b true=T:=rfl;rw[d];exact⟨rfl,B.keep (S:=λ_=>False) (Aa.refl _ _) (λ_ _ e=>e.elim) (Ep _ _ _ _) y,Aa.refl _ _⟩
 | false=>
  obtain⟨rfl,rfl,rfl⟩:=D rfl
  cases hs2:Me m wd sc a with
  | error q=>
   obtain⟨z,p⟩:=q;have F:=Lh _ _ _ hs2;rw[hs2] at g;refine(ZbG _ _ _ _ _ _ _ z p _ b w g o_).mono ?_;rintro e w' ⟨rfl,x,rfl⟩;have d:Ws m wd sc a b false=a:=(by unfold Ws;rw[hs2];rfl);have l:fdZ m wd sc a false=(z,(p:Int)):=(by unfold fdZ;rw[hs2];rfl);have f:E_ w _:=below_drewN bz_ x;rw[d,l];exact⟨rfl,B.keep (S:=λ_=>False) (.of_below f) (λ_ _ e=>e.elim) (Ep _ _ _ _) y,.of_below f⟩
  | ok s=>
   rw[hs2] at g;have d:Ws m wd sc a b false=a++b:=(by unfold Ws;rw[hs2];rfl);have l:fdZ m wd sc (a++b) false=fdA (a++b) (Jd (a++b) (m+1) wd sc ((a++b).size+1) [] 0):=(by unfold fdZ;rw[ZcT _ _ _ _ o_];rfl);rw[d,l];refine(Zf2 _ _ _ _ _ _ _ _ b _ _ _ w g A r j o_ v.sc w_).mono ?_;rintro e w' ⟨rfl,u,c⟩;have i:Aa (λk=>_=t) w _:=c.mono (λk _ hq=>by subst hq;exact C);refine⟨rfl,⟨(Dz n).trans C,(Dz j).trans E,r,Qh j c.size,A.keep c r j,a++b,_,_,u,λ_=>⟨rfl,?_,?_⟩⟩,i⟩;rw[ZcT _ _ _ _ o_];rfl;rw[ZcT _ _ _ _ o_];rfl
end
def eS(wd:Nat->Bool)(ct:Nat->Int)(bins:Int)(size:Nat)(s:RS)(i:Nat):ES:=Ck Mb (wd i) (ct i) bins size (s.cols i) s.ws
def esS(m:Nat)(wd:Nat->Bool)(ct:Nat->Int)(bins:Int)(size:Nat)(s:RS):List ES:=(List.range (m+1)).map (eS wd ct bins size s)
def bbS(m:Nat)(wd:Nat->Bool)(ct:Nat->Int)(bins:Int)(size:Nat)(s:RS):List (List Nat):=(List.range (m+1)).map (λi=>(s.cols i).map (Dy (eS wd ct bins size s i)))
section
variable {w w':World} {o o':Nat->Nat} {t ib yb fk fc m:Nat} {wd:Nat->Bool} {sc ct:Nat->Int} {bins:Int} {size budget:Nat} {T b:ByteArray} {cl:Bool}
def whole(m:Nat)(wd:Nat->Bool)(sc:Nat->Int)(T:ByteArray)(cl:Bool)(s:RS):Prop:=cl=false/\Me m wd sc T=.ok s/\s.wt=0
def clZ(m:Nat)(wd:Nat->Bool)(sc:Nat->Int)(T:ByteArray)(cl:Bool):Int×Int:=if cl=true then(1,0) else match Me m wd sc T with
 |.error (z,p)=>(z,p)
 |.ok _=>(2,T.size)
def clC(m:Nat)(wd:Nat->Bool)(sc:Nat->Int)(T:ByteArray)(cl:Bool):Bool:=if cl=true then true else match Me m wd sc T with
 |.error _=>false
 |.ok _=>true
def Zmc(w:World)(o:Nat->Nat)(t ib m:Nat)(wd:Nat->Bool)(sc ct:Nat->Int)(bins:Int)(size budget:Nat)(T:ByteArray)(cl:Bool)(e:Ending)(w':World):Prop:=
 ((∀s,¬whole m wd sc T cl s)/\e=.returned (.tuple #[.pointer none,I_ (clZ m wd sc T cl).1,I_ (clZ m wd sc T cl).2])/\Oq w' (Db w w' o t) t ib m wd sc ct bins size budget T (clC m wd sc T cl)/\Aa (λk=>o k=t) w w')∨
 (∃s gb db,whole m wd sc T cl s/\e=.returned (.tuple #[P_ gb,I_ 0,I_ 0])/\Ze9 w.heap.size w' gb db (Ao m s.ws.length budget (esS m wd ct bins size s) (bbS m wd ct bins size s))/\Sj w' ib true 0 0/\Aa (λk=>k=ib) w w')
def Zk6(a:Si m wd sc ct bins size budget)(h:Oq w o t ib m wd sc ct bins size budget T cl)(n:t≠99):C_ 50 #[.pointer (some ⟨ib,0,none⟩)] w λe w'=>Zmc w o t ib m wd sc ct bins size budget T cl e w':=by
 have r:=h;obtain⟨u,v,E⟩:=h;have c:∀i,_->_->_/\_:=λi hi hw=>⟨(a.sc i hi).1,(a.sc i hi).2 hw⟩;have B:=a.hm
 rcases E with⟨e,z,p,hd⟩|⟨e,z,p,hs2,hd⟩|⟨e,s,K,M,tb,rb,fb,cb,hs2,hx,hk,ht⟩
 subst e;refine(xi _ z p w hd).mono ?_;rintro e w' ⟨rfl,rfl⟩;exact .inl ⟨λs q=>by simp[whole] at q,rfl,r.keep (S:=λ_=>False) (Aa.refl _ _) (λ_ _ e=>e.elim) (Ep _ _ _ _) n,Aa.refl _ _⟩;subst e;have y:=Lh _ _ _ hs2;refine(ZaF _ z p w hd y).mono ?_;rintro e w' ⟨rfl,x,rfl⟩;have d:E_ w _:=below_drewN bz_ x;have j:clZ m wd sc T false=(z,(p:Int)):=(by unfold clZ;rw[hs2];rfl);have g:clC m wd sc T false=false:=(by unfold clC;rw[hs2];rfl);refine .inl ⟨λs q=>(by have:=q.2.1;rw[hs2] at this;cases this),by rw[j],?_,.of_below d⟩;rw[g];exact r.keep (S:=λ_=>False) (.of_below d) (λ_ _ e=>e.elim) (Ep _ _ _ _) n
 subst e;have j:clZ m wd sc T false=(2,(T.size:Int)):=(by unfold clZ;rw[hs2];rfl);have g:clC m wd sc T false=true:=by unfold clC;rw[hs2];rfl
 by_cases hwt:s.wt=0
 have b:=Pw (ct:=ct) c a.b1 a.b2 (by have:=a.b1;have:=a.s1;omega) a.s2 hs2;refine(xj Mb (eS wd ct _ _ s) hx hwt (Ht.takes o_ c _ (Ht.start o_) hs2) B a.bu b.wok (λi=>rfl) b.ok b.num b.ws (by have:=a.b1;have:=a.s1;omega) a.s2 a.b1 a.b2).mono ?_;rintro e w' ⟨C,A,rfl,D,l,f⟩;exact .inr ⟨s,C,A,⟨rfl,hs2,hwt⟩,rfl,D,l,f⟩;refine(ZcJ hx hwt).mono ?_;rintro e w' ⟨rfl,l,f⟩;refine .inl ⟨λs' q=>by have:=q.2.1;rw[hs2] at this;injection this with this;subst this;exact hwt q.2.2,by rw[j],?_,f.mono (λk _ q=>by subst q;exact u)⟩;rw[g];exact⟨(Dz v).trans u,Qh v f.size,.inl ⟨rfl,0,0,l⟩⟩
def Zmd(w:World)(o:Nat->Nat)(t yb fk fc m:Nat)(wd:Nat->Bool)(sc ct:Nat->Int)(bins:Int)(size budget:Nat)(T:ByteArray)(cl:Bool)(e:Ending)(w':World):Prop:=
 ((∀s,¬whole m wd sc T cl s)/\e=.returned (.tuple #[.pointer none,I_ (clZ m wd sc T cl).1,I_ (clZ m wd sc T cl).2])/\Kv w' (Db w w' o t) t yb fk fc m wd sc ct bins size budget T (clC m wd sc T cl)/\Aa (λk=>o k=t) w w')∨
 (∃s yd,whole m wd sc T cl s/\e=.returned (.tuple #[P_ yd,I_ 0,I_ 0])/\Zan w w' yd s.ws.length (Ao m s.ws.length budget (esS m wd ct bins size s) (bbS m wd ct bins size s))/\mu w' yb fk (m+1) fc bins size budget T 0 0 true/\Aa (λk=>k=yb) w w')
def Zhh(b:Si m wd sc ct bins size budget)(h:Kv w o t yb fk fc m wd sc ct bins size budget T cl)(L:t≠99)(Z:T.size<=200000000000000):C_ 126 #[.pointer (some ⟨yb,0,none⟩)] w λe w'=>Zmd w o t yb fk fc m wd sc ct bins size budget T cl e w':=by
 have N:=h;have E:=h.lt;have l:∀i,_->_->_/\_:=λi hi hw=>⟨(b.sc i hi).1,(b.sc i hi).2 hw⟩;obtain⟨O,Y,I,B,M,a,z,p,y,P⟩:=h;have U:=b.hm
 cases cl with
 | true=>
  refine(qi _ _ _ _ _ _ _ z p _ w y).mono ?_;rintro e w' ⟨rfl,rfl⟩;exact .inl ⟨λs q=>by simp[whole] at q,rfl,N.keep (S:=λ_=>False) (Aa.refl _ _) (λ_ _ e=>e.elim) (Ep _ _ _ _) L,Aa.refl _ _⟩
 | false =>
  obtain⟨rfl,rfl,rfl⟩:=P rfl
  cases hs2:Me m wd sc a with
  | error q=>
   obtain⟨z,p⟩:=q;have C:=Lh _ _ _ hs2;rw[hs2] at y;have F:clZ m wd sc a false=(z,(p:Int)):=(by unfold clZ;rw[hs2];rfl);have D:clC m wd sc a false=false:=(by unfold clC;rw[hs2];rfl);refine(zl _ _ _ _ _ _ _ z p _ w y (by rcases C with e|e<;>omega)).mono ?_;rintro e w' ⟨rfl,x,rfl⟩;have r:E_ w _:=below_drewN bz_ x;refine .inl ⟨λs q=>(by have:=q.2.1;rw[hs2] at this;cases this),by rw[F],?_,.of_below r⟩;rw[D];exact N.keep (S:=λ_=>False) (.of_below r) (λ_ _ e=>e.elim) (Ep _ _ _ _) L
  | ok s=>
   rw[hs2] at y;have F:clZ m wd sc a false=(2,(a.size:Int)):=(by unfold clZ;rw[hs2];rfl);have D:clC m wd sc a false=true:=(by unfold clC;rw[hs2];rfl);have c:Ca _ _ _ _ _ 0=_:=hs2;have H:=Pw (ct:=ct) l b.b1 b.b2 (by have:=b.b1;have:=b.s1;omega) b.s2 c;have v:=ZbR (S:=a) (n:=m+1) (wd:=wd) (sc:=sc) o_;refine(Zdw yb fk m fc size _ bins a wd sc ct (λi=>Ck Mb (wd i) (ct i) bins size (Bn (Jd a (m+1) wd sc (a.size+1) [] 0).1 i) (Fr (Jd a (m+1) wd sc (a.size+1) [] 0).1)) w y M I B U b.sc o_ b.bu (by have:=b.b1;have:=b.s1;omega) b.s2 b.b1 b.b2 b.ct ?_).mono ?_
   ·rintro R rfl C
    rcases v with⟨s',q1,q2,q3,q4,q5⟩|⟨s',q1,q2,q3,q4⟩|⟨q1,q2,q3⟩
    rw[c] at q1;injection q1 with q1;subst q1;obtain⟨X,V⟩:=Zf9 l c rfl q5;refine⟨X,V,λi=>rfl,λi hi=>?_⟩;have u:=H.ok i hi;rw[q5.1,q5.2 i hi] at u;exact u;omega;exact absurd C q2
   rintro e w' ⟨j,A,J⟩;have d:Kv _ (Db w w' o t) t _ _ _ m _ _ _ _ _ _ a _:=⟨(Dz E).trans O,(Dz B).trans Y,I,Qh B A.size,M.keep A I B,a,0,0,j,λe=>by cases e⟩
   rcases v with⟨s',q1,q2,q3,q4,q5⟩|⟨s',q1,q2,q3,q4⟩|⟨q1,q2,q3⟩
   ·rw[c] at q1;injection q1 with q1;subst q1
    rcases J with⟨g1,_⟩|⟨_,yd,rfl,hM⟩
    exact absurd q3 g1;refine .inr ⟨s,yd,⟨rfl,hs2,q2⟩,rfl,?_,j,A⟩;have G:s.ws.length=(Jd a (m+1) wd sc (a.size+1) [] 0).1.length:=by rw[q5.1,List.length_map]
    have g:∀i,i<m+1->Ck Mb (wd i) (ct i) bins size (Bn (Jd a (m+1) wd sc (a.size+1) [] 0).1 i) (Fr (Jd a (m+1) wd sc (a.size+1) [] 0).1)=eS wd ct bins size s i:=λi hi=>by unfold eS;rw[q5.1,q5.2 i hi];rfl
    have Q:Ou m (λi=>Ck Mb (wd i) (ct i) bins size (Bn (Jd a (m+1) wd sc (a.size+1) [] 0).1 i) (Fr (Jd a (m+1) wd sc (a.size+1) [] 0).1))=esS m wd ct bins size s:=by unfold Ou esS;exact List.map_congr_left (λi hi=>g i (by simpa using hi))
    have W:Ih m (Jd a (m+1) wd sc (a.size+1) [] 0).1 (λi=>Ck Mb (wd i) (ct i) bins size (Bn (Jd a (m+1) wd sc (a.size+1) [] 0).1 i) (Fr (Jd a (m+1) wd sc (a.size+1) [] 0).1))=bbS m wd ct bins size s:=by
     unfold Ih bbS;refine List.map_congr_left (λi hi=>?_)
     have f:i<m+1:=by simpa using hi
     unfold Mr;show List.map (Dy (Ck Mb (wd i) (ct i) bins size (Bn (Jd a (m+1) wd sc (a.size+1) [] 0).1 i) (Fr (Jd a (m+1) wd sc (a.size+1) [] 0).1))) (Bn (Jd a (m+1) wd sc (a.size+1) [] 0).1 i)=_;rw[g i f,q5.2 i f];rfl
    rw[Q,W,<- G] at hM;exact hM
   ·rw[c] at q1;injection q1 with q1;subst q1
    rcases J with⟨_,rfl⟩|⟨g1,_⟩
    rw[q3,q4];refine .inl ⟨λs' q=>by have:=q.2.1;rw[hs2] at this;injection this with this;subst this;exact q2 q.2.2,by rw[F],?_,A.mono (λk _ q=>by subst q;exact O)⟩;rw[D];exact d;omega
   rw[c] at q1
   cases q1
end
def vi.startB{w a p s t q o n v x u j l c}(h:vi w a p s t q o n v x u j l c):∃K M,InX w K M p s q t o n v x u j l c RS.start 0/\(∀k,K k∨M k->a<=k/\k<w.heap.size)/\a<=p/\a<=s:=by
 have m:=h.tx.rd;unfold RB at m;refine⟨λk=>a<=k/\∃b f,w.heap[k]? =some (.cells b f (0,0))/\(f=3∨f=261∨f=263),λk=>k=q∨k=o,⟨h.ik,h.tx.tx,⟨.slice none 0 0,.slice none 0 0,.slice none 0 0,λ_=>.slice none 0 0,?_⟩,?_,?_⟩,?_,h.lo,h.tx.lo.1⟩
 ·refine⟨h.tx.rd,rn_,rn_,rn_,⟨_,h.tx.cl,?_,λi hi=>?_⟩,λ_ _=>rn_,Ta.of_made _ h.tx.fs ⟨h.tx.lo.2.1,?_⟩ (λk b f d g r=>⟨d,b,f,g,w_⟩),λ_ _ _ _ _=>.inl rfl,λ_ _=>.inl rfl,.inl rfl,.inr rfl,?_,?_,?_,?_,?_,?_⟩;simp[madeCells]
  ·rw[<- Array.getElem?_toList,Qu]
   grind
  ·obtain⟨b,y,_⟩:=h.tx.fs
   grind
  intro k d;simp[Value.ownBlock] at d;intro k d;simp[Value.ownBlock] at d;intro k d;simp[Value.ownBlock] at d;intro i k _ d;simp[Value.ownBlock] at d
  ·rintro k ⟨_,b,f,g,r⟩;refine⟨(Qb g).1,?_⟩;rintro(e|e)
   ·grind
   rw[e,h.tx.cl] at g;grind
  rintro k (e|e)
  ·grind
  rw[e];exact(Qb h.tx.cl).1
 refine⟨?_,?_⟩;rintro⟨_,b,f,g,r⟩;rw[h.ik] at g;grind;rintro(e|e);have:=h.ik;grind;have:=h.ik;rw[e,h.tx.cl] at this;simp at this;refine⟨?_,?_⟩;rintro⟨_,b,f,g,r⟩;rw[h.tx.tx] at g;grind;rintro(e|e);have:=h.tx.tx;grind;have:=h.tx.tx;rw[e,h.tx.cl] at this;simp at this;rintro k (e|e|e)
 ·grind
 rw[e];exact⟨h.tx.lo.2.2.1,(Qb m).1⟩;rw[e];exact⟨h.tx.lo.2.2.2,(Qb h.tx.cl).1⟩
section
variable {w:World} {o:Nat->Nat} {t m:Nat} {wd:Nat->Bool} {sc ct:Nat->Int} {bins:Int} {size budget:Nat}
def Si.of(h:Hz (m+1) bins size budget wd sc ct=true):Si m wd sc ct bins size budget:=by
 obtain⟨_,d,c,b,a,f,_,g,e⟩:=La h;refine⟨d,λi hi=>?_,λi hi hw=>?_,c,b,a,o_,o_⟩
 ·grind [Lc]
 grind [Lc]
def Zkq b a u (s:Dd w b a (m+1) wd sc ct)(n:Hz (m+1) bins size budget wd sc ct=true):C_ 31 #[.agg #[.slice (some ⟨b,a,none⟩) (m+1:Nat) u,.int .i64 bins,.int .i64 size,.int .i64 budget]] w λe w'=>∃ib,e=.returned (.tuple #[.pointer (some ⟨ib,0,none⟩),.int .i64 0])/\w.heap.size<=ib/\Oq w' (Db w w' o t) t ib m wd sc ct bins size budget ⟨#[]⟩ false/\Below w.heap.size w w':=by refine(ZdA b _ _ _ _ _ _ _ _ _ w s n).mono ?_;rintro e w' ⟨ib,v,i,l,p,rfl,j,r⟩;obtain⟨K,M,g,d,h,x⟩:=j.startB;have c:=(Qb g.ik).1;have f:=(Qb g.tx).1;exact⟨ib,rfl,h,⟨Kp h c,c,.inr (.inr ⟨rfl,RS.start,K,M,v,l,i,p,rfl,g,λk q=>⟨(d k q).2,Kp (d k q).1 (d k q).2⟩,Kp x f⟩)⟩,r⟩
def Zkr b a q (n:Dd w b a (m+1) wd sc ct)(j:Hz (m+1) bins size budget wd sc ct=true):C_ 123 #[.agg #[.slice (some ⟨b,a,none⟩) (m+1:Nat) q,.int .i64 bins,.int .i64 size,.int .i64 budget]] w λe w'=>∃yb fk c,e=.returned (.tuple #[.pointer (some ⟨yb,0,none⟩),.int .i64 0])/\w.heap.size<=yb/\Kv w' (Db w w' o t) t yb fk c m wd sc ct bins size budget ⟨#[]⟩ false/\Below w.heap.size w w':=by refine(ZbK b _ _ _ _ _ _ _ _ _ w n j).mono ?_;rintro e w' ⟨yb,fk,c,rfl,g,k,d,p,i,h,l⟩;have f:=(Qb g).1;exact⟨yb,fk,c,rfl,i,⟨Kp i f,Kp p h,d,h,k,⟨#[]⟩,0,0,g,λ_=>⟨rfl,rfl,rfl⟩⟩,l⟩
end
section
variable {w w':World} {dp gb db yb base m n budget:Nat} {es:List ES} {Bb:List (List Nat)} {vF vB vC vX:Value} {kvs:List (Value×Value)} {bvs cvs:List Value} {X:List XS}
def ZfL x y (d:On m n budget es Bb X):∃R E:Int,∀W,Jv W dp gb db yb base m n budget es Bb vF vB vC vX kvs bvs cvs X->(C_ 44 #[.pointer (some ⟨gb,0,none⟩),.int .i64 x,.int .i64 y] W λe w'=>e=.returned (.tuple #[.int .i64 R,.int .i64 E])/\Below W.heap.size W w')/\(C_ 138 #[.pointer (some ⟨yb,0,none⟩),.int .i64 x,.int .i64 y] W λe w'=>e=.returned (.tuple #[.int .i64 R,.int .i64 E])/\Below W.heap.size W w'):=by
 have a:=Jk (budget:=budget) d.hm d.hn d.hk;have o:(Ao m n budget es Bb).ks.length=_:=yy;have j:=(a.bok _ (a.mem a.b0)).len;have u:=d.hn;have t:=d.hm
 by_cases hb:0<=x/\x<(n:Int)/\0<=y/\y<((Ao m n budget es Bb).ks.length:Int)
 ·obtain⟨r,s⟩:∃r:Nat,x=r:=⟨x.toNat,o_⟩;obtain⟨f,q⟩:∃f:Nat,y=f:=⟨y.toNat,o_⟩;subst s q;have g:r<n:=o_;have i:f<m+1:=o_;refine⟨((Bb.getD f _).getD r 0:Nat),0,λW hW=>⟨ZaY _ _ f r m n _ _ _ W hW.x d.hm d.hn d.hk i g,?_⟩⟩;have p:X.length<=1000000:=(by rw[d.pm.length_eq];have:=a.xl;omega);have l:=jr yb n r f _ _ _ X W hW.y.view ⟨s_,by simp;have:=a.b4;omega,λb hb=>?_,λb hb r=>?_,λb hb=>?_,λb hb=>?_⟩ g o_ p;rw[ZiY d.hk d.pm i g] at l;exact l
  all_goals
   simp only[List.length_map] at hb;have c:=a.mem hb
  have e:((Ao m n budget es Bb).bs.map BS.N).getD b []=((Ao m n budget es Bb).bs.getD b Dx).N:=w_;rw[e];exact(a.bok _ c).len
  ·have e:((Ao m n budget es Bb).bs.map BS.N).getD b []=((Ao m n budget es Bb).bs.getD b Dx).N:=w_;rw[e,Qc]
   rcases Nat.lt_or_ge r ((Ao m n budget es Bb).bs.getD b Dx).N.length with k|k
   ·rw[Qd k];have w:=(a.bok _ c).le _ (Qf k);have v:=a.g40 _ c
    grind
   grind
  have e:((Ao m n budget es Bb).bs.map BS.fs).getD b []=((Ao m n budget es Bb).bs.getD b Dx).fs:=w_;rw[e];have:=a.f4 _ c;omega;have e:((Ao m n budget es Bb).bs.map BS.fs).getD b []=((Ao m n budget es Bb).bs.getD b Dx).fs:=w_;rw[e];exact a.fk _ c
 refine⟨0,1,λW hW=>⟨Zc5 _ _ n x y _ W hW.x hb o_ a.b0 j o_,?_⟩⟩;exact(ZbH _ n x y _ W hW.y.view.dk hb).mono (λ_ _ h=>⟨h.1,by rw[h.2];exact bz_⟩)
def Zcp g L I i f j x y N M P J D F C H wc B (h:Jv w dp gb db yb base m n budget es Bb vF vB vC vX kvs bvs cvs X)(O:On m n budget es Bb X):C_ 77 #[.pointer (some ⟨g,0,none⟩),.pointer (some ⟨dp,0,none⟩),.agg #[.int .i64 9,.int .i64 L,.int .i64 I,.slice N J D,.int .i64 i,.int .i64 f,.int .i64 j,.slice M F C,.slice P H wc,.string B,.int .i64 x,.int .i64 y]] w λe w'=>e=.returned (.bool true)/\Below w.heap.size w w':=by
 obtain⟨R,E,k⟩:=ZfL (dp:=dp) (gb:=gb) (db:=db) (yb:=yb) (base:=base) (vF:=vF) (vB:=vB) (vC:=vC) (vX:=vX) (kvs:=kvs) (bvs:=bvs) (cvs:=cvs) x y O;have G:Hid (∀W,Below _ w W->_):=λW hW=>h.below hW;have Y:Hid (∀W,_->Calls _ _ _ W λe _=>_/\_/\_):=λW hW=>(k W (h.below hW)).1.mono (λ_ _ h=>⟨h.1,hW.trans (h.2.mono hW.size),h.2⟩);have U:Hid (∀W,_->Calls _ _ _ W λe _=>_/\_/\_):=λW hW=>(k W (h.below hW)).2.mono (λ_ _ h=>⟨h.1,hW.trans (h.2.mono hW.size),h.2⟩);clear h O k;go_enter Tryz.func77,Tryz.ntmps77;go_upto_region 6 with fail;generalize hw1:w.alloc (.cells #[I_ 9,I_ L,I_ I,.slice N J D,I_ i,I_ f,I_ j,.slice M F C,.slice P H wc,.string B,I_ x,I_ y] 93)=w1;have c:E_ w w1:=by rw[<- hw1];exact bA_
 have q:w1.cell? (A_ w.heap.size 10)=some (I_ x):=(by rw[<- hw1];simp[go_sem]);have p:w1.cell? (A_ w.heap.size 11)=some (I_ y):=(by rw[<- hw1];simp[go_sem]);have V:w.heap.size<w1.heap.size:=(by rw[<- hw1];simp);clear hw1;obtain⟨s,_,_,_,_⟩:=(G w1 c).cells;go_cut [8,9] (λv1 v2 wx=>v1=.int .i64 R/\v2=.int .i64 E/\Hid (E_ w1 wx))
 case first=>
  go_region_held3 (λw'=>w'.cell? (A_ dp 0)=some (P_ gb)/\w'.cell? (A_ w.heap.size 10)=some (I_ x)/\w'.cell? (A_ w.heap.size 11)=some (I_ y)) (first|exact⟨s,q,p⟩|exact⟨Ac a s,Ac a q,Ac a p⟩) (first|(go_at_call 44;refine(Y _ c.drew).mono ?_;rintro e z ⟨rfl,b,l⟩;have a:Below w1.heap.size _ _:=bz_.drew.trans l))
  all_goals go_wp2
  all_goals go_meet
  all_goals exact⟨rfl,rfl,a⟩
 case rest=>
 obtain⟨rfl,rfl,d⟩:=hcut;have A:=Ac d q;have r:=Ac d p;have b:=c.trans (d.mono c.size);obtain⟨_,t,_,_,_⟩:=(G wc b).cells;clear s q p c d;generalize wc=z at *;go_upto_region 7 with fail;go_cut [10,11] (λv1 v2 wx=>v1=.int .i64 R/\v2=.int .i64 E/\Hid (E_ z wx))
 case first=>
  go_region_held3 (λw'=>w'.cell? (A_ dp 1)=some (P_ yb)/\w'.cell? (A_ w.heap.size 10)=some (I_ x)/\w'.cell? (A_ w.heap.size 11)=some (I_ y)) (first|exact⟨t,A,r⟩|exact⟨Ac a t,Ac a A,Ac a r⟩) (first|(go_at_call 138;refine(U _ b.drew).mono ?_;rintro e w3 ⟨rfl,T,l⟩;have a:Below z.heap.size _ _:=bz_.drew.trans l))
  all_goals go_wp2
  all_goals go_meet
  all_goals exact⟨rfl,rfl,a⟩
 case rest=>
 obtain⟨rfl,rfl,o⟩:=hcut;have Q:=x1_ (b.trans (o.mono b.size));clear t A r b o;have S:(R==R)=true:=s_;go_wp2_with fail
 refine(Kb _ _).mono ?_;rintro e w4 ⟨rfl,u⟩;obtain rfl:=u.symm;go_wp2_with fail
 refine(Kb _ _).mono ?_;rintro e Z ⟨rfl,v⟩;obtain rfl:=v.symm;go_wp2;go_ret;exact⟨s_,Q⟩
end
def Lr.behind{w d m o a g N c l}(n:Dq w o a)(p:Aa (λk=>o k<=13∨o k=99) w d)(A:∀j,j<4->l[j]? =c[j]?)(t:∀k,w.heap.size<=k->a k<=13∨a k=99)(y:∀k,k<w.heap.size->o k=99->a k<=13∨a k=99)(h:Lr d m a g N l):Lr w m o g N c:=by
 obtain⟨f,u,r,i,s,v,B,z⟩:=h;have x:=p.size
 have b:∀k,a k<=13∨a k=99->f k<=13∨f k=99:=λk hk=>by
  by_cases hl:k<d.heap.size
  ·rcases hk with e|e
   ·rcases i k hl with q|q
    omega;omega
   exact z k hl e
  grind
 refine⟨f,u,r,n.trans x i,p.trans2 s (λk hk=>?_),λj hj=>(v j hj).trans (A j hj),λk hk=>b k (t k hk),λk hk h9=>b k (y k hk h9)⟩
 by_cases hl:k<w.heap.size
 ·left
  rcases n k hl with e|e
  exact .inr e;omega
 omega
def Zci.q2{w a o g N c v}(h:Zci w a o g N v c)(p:∀k,v.ownBlock=some k->o k=99):Lr w a o g (N+1) c:=by obtain⟨m,i,d,l,n,b,f,q,j⟩:=h;exact⟨m,i,d,l,n.mono (λk _ e=>e.imp id (p k)),b,f,j⟩
section
variable {w w':World} {dp gb db yb base m n budget:Nat} {es:List ES} {Bb:List (List Nat)} {vF vB vC vX:Value} {kvs:List (Value×Value)} {bvs cvs:List Value} {X:List XS}
def BdQ(b:Nat)(W:World)(LI:List Int)(LS:List ByteArray)(E:Int)(e:Ending)(w':World):Prop:=∃a1 c1 a2 c2,e=.returned (.tuple #[.slice a1 LI.length c1,.slice a2 LS.length c2,I_ E])/\Ag w' b (.slice a1 LI.length c1) LI/\Cc w' b (.slice a2 LS.length c2) LS/\Below W.heap.size W w'
def Zax x (g:On m n budget es Bb X):∃LI LS E,LI.length<=1000/\LS.length<=1000/\∀W,Jv W dp gb db yb base m n budget es Bb vF vB vC vX kvs bvs cvs X->(C_ 27 #[.pointer (some ⟨gb,0,none⟩),.int .i64 x] W λe w'=>BdQ W.heap.size W LI LS E e w')/\(C_ 139 #[.pointer (some ⟨yb,0,none⟩),.int .i64 x] W λe w'=>BdQ 0 W LI LS E e w'):=by
 have s:=Jk (budget:=budget) g.hm g.hn g.hk;have v:(Ao m n budget es Bb).ks.length=_:=yy;have A:=g.hm
 by_cases hb:0<=x/\x<((Ao m n budget es Bb).ks.length:Int)
 ·obtain⟨f,z⟩:∃f:Nat,x=f:=⟨x.toNat,o_⟩;subst z;have a:f<(Ao m n budget es Bb).ks.length:=o_;have c:=s.edg f a;refine⟨bdI ((Ao m n budget es Bb).ks.getD f Ay).e,bdS ((Ao m n budget es Bb).ks.getD f Ay).e,0,?_,?_,λW hW=>⟨?_,?_⟩⟩
  ·unfold bdI;split
   ·grind
   exact c.lb
  ·unfold bdS;split;exact c.lw
   grind
  refine(yl _ _ f n _ W hW.x s a).mono ?_;rintro e w' ⟨C,B,rfl,d⟩;obtain⟨j,p,rfl⟩:=d.nb.shape;obtain⟨l,o,rfl⟩:=d.nw.form;exact⟨j,p,l,o,rfl,d.nb,d.nw,d.low⟩;refine(ZcQ f hW.y a).mono ?_;rintro e w' ⟨rfl,k,rfl⟩;obtain⟨h,i⟩:=hW.y.fe.each f a;have t:=hW.y.one f a;have w:bdI ((Ao m n budget es Bb).ks.getD f Ay).e=((Ao m n budget es Bb).ks.getD f Ay).e.bs:=(by unfold bdI;split;rename_i hw;exact(t.2.2.1 hw).symm;rfl);have u:bdS ((Ao m n budget es Bb).ks.getD f Ay).e=((Ao m n budget es Bb).ks.getD f Ay).e.ww:=by unfold bdS;split;rfl;rename_i hw;exact(t.2.2.2 (by simpa using hw)).symm
  rw[<- w] at h;rw[<- u] at i;obtain⟨j,p,q⟩:=h.shape;obtain⟨l,o,r⟩:=i.form;rw[q] at h;rw[r] at i;have b:E_ W _:=below_drewN bz_ k;exact⟨j,p,l,o,by rw[q,r],Ag.below (base:=0) (Dt h qg_) b,Cc.below (base:=0) (Dt i qg_) b,b⟩
 refine⟨[],[],1,qg_,qg_,λW hW=>⟨?_,?_⟩⟩;refine(Zc3 _ _ x _ W hW.x hb o_).mono ?_;rintro e w' ⟨rfl,rfl⟩;exact⟨none,0,none,0,rfl,Ag.nil _ _,Cc.nil _ _,bz_⟩;refine(ZaM x hW.y.view.dk hb).mono ?_;rintro e w' ⟨rfl,rfl⟩;exact⟨none,0,none,0,rfl,Ag.nil _ _,Cc.nil _ _,bz_⟩
def we{o g N c} pk bb D A F x y fa va wa fl fc vl vc wl wc st (hB:Hx w o g c N)(h9:∀k,w.heap.size<=k->o k=99)(hN:N<=10000000)(h:Jv w dp gb db yb base m n budget es Bb vF vB vC vX kvs bvs cvs X)(hs:On m n budget es Bb X):C_ 77 #[.pointer (some ⟨g,0,none⟩),.pointer (some ⟨dp,0,none⟩),.agg #[.int .i64 10,.int .i64 pk,.int .i64 bb,.slice fa fl fc,.int .i64 D,.int .i64 A,.int .i64 F,.slice va vl vc,.slice wa wl wc,.string st,.int .i64 x,.int .i64 y]] w λe w'=>e=.returned (.bool true)/\Lr w w' o g (N+2) c:=by
 obtain⟨LI,LS,E,a6,a0,H⟩:=Zax (dp:=dp) (gb:=gb) (db:=db) (yb:=yb) (base:=base) (vF:=vF) (vB:=vB) (vC:=vC) (vX:=vX) (kvs:=kvs) (bvs:=bvs) (cvs:=cvs) x hs;have p:=x2_ hB h9;have HP:Hid (∀W,Below _ w W->_):=λW hW=>h.below hW;have HX:=x1_ (λW hW=>(H W (h.below hW)).1);have HY:=x1_ (λW hW=>(H W (h.below hW)).2);obtain⟨V,B⟩:=ey_ LI.length;obtain⟨Q,C⟩:=ey_ LS.length;have a:=x4_ B C a6 a0;clear h hs H hB h9 B C a6 a0;go_enter Tryz.func77,Tryz.ntmps77;go_upto_region 10 with fail;generalize hw1:w.alloc (.cells #[I_ 10,I_ pk,I_ bb,.slice fa fl fc,I_ D,I_ A,I_ F,.slice va vl vc,.slice wa wl wc,.string st,I_ x,I_ y] 93)=w1;have f:E_ w w1:=(by rw[<- hw1];exact bA_);have x0:w1.cell? (A_ w.heap.size 10)=some (I_ x):=by rw[<- hw1];simp[go_sem]
 clear hw1;obtain⟨c0,_,_,_,_⟩:=(HP w1 f).cells;go_cut [12,13,14] (λv1 v2 v3 wx=>∃U T z c2,v1=.slice U V T/\v2=.slice z Q c2/\v3=.int .i64 E/\Hid (Ag wx w.heap.size (.slice U V T) LI/\Cc wx w.heap.size (.slice z Q c2) LS/\E_ w1 wx))
 case first=>
  go_region_held3 (λw'=>w'.cell? (A_ dp 0)=some (P_ gb)/\w'.cell? (A_ w.heap.size 10)=some (I_ x)) (first|exact⟨c0,x0⟩|exact⟨Ac d c0,Ac d x0⟩) (first|(go_at_call 27;refine(HX _ f.drew).mono ?_;rintro e w2 ⟨U,d1,z,d2,rfl,R,M,P⟩;have d:Below w1.heap.size _ _:=bz_.drew.trans P))
  all_goals go_wp2
  all_goals go_meet
  all_goals exact⟨U,d1,z,d2,by rw[a.1],by rw[a.2.1],rfl,by rw[<- a.1];exact Dt R f.size,by rw[<- a.2.1];exact Dt M f.size,d⟩
 case rest=>
 obtain⟨U,d1,z,d2,rfl,rfl,rfl,j⟩:=hcut;have y0:=Ac j.2.2 x0;have q:=f.trans (j.2.2.mono f.size);obtain⟨_,T,_,_,_⟩:=(HP wc q).cells;have J:=x2_ j.1 j.2.1;clear c0 x0 f j;generalize wc=w2 at *;go_upto_region 11 with fail;go_cut [15,16,17] (λv1 v2 v3 wx=>∃a3 c3 a4 c4,v1=.slice a3 V c3/\v2=.slice a4 Q c4/\v3=.int .i64 E/\Hid (Ag wx 0 (.slice a3 V c3) LI/\Cc wx 0 (.slice a4 Q c4) LS/\E_ w2 wx))
 case first=>
  go_region_held3 (λw'=>w'.cell? (A_ dp 1)=some (P_ yb)/\w'.cell? (A_ w.heap.size 10)=some (I_ x)) (first|exact⟨T,y0⟩|exact⟨Ac d T,Ac d y0⟩) (first|(go_at_call 139;refine(HY _ q.drew).mono ?_;rintro e w3 ⟨a3,d3,a4,d4,rfl,R,M,P⟩;have d:Below w2.heap.size _ _:=bz_.drew.trans P))
  all_goals go_wp2
  all_goals go_meet
  all_goals exact⟨a3,d3,a4,d4,by rw[a.1],by rw[a.2.1],rfl,by rw[<- a.1];exact R,by rw[<- a.2.1];exact M,d⟩
 case rest=>
 obtain⟨a3,d3,a4,d4,rfl,rfl,rfl,i⟩:=hcut;have r:=x2_ (J.1.below i.2.2) (J.2.below i.2.2);have L:=x1_ (q.trans (i.2.2.mono q.size));have S1:=Ra _ 0 _ _ _ _ r.1 i.1 (by have:=a.2.2.1;omega);have a9:=x1_ i.2.1;clear T y0 q i J HX HY;generalize wc=w3 at *;go_wp2_with fail
 refine S1.mono ?_;rintro e w4 ⟨rfl,k4,a7⟩;have l:E_ w3 w4:=(by rw[a7];exact below_drewN bz_ _);have O:=x1_ (L.trans (l.mono L.size));have v:=x2_ (r.1.below l) (r.2.below l);have S2:=zt _ 0 _ _ _ _ v.2 (a9.below l) (by have:=a.2.2.2;omega);clear a7 l S1 r a9 L;go_wp2_with fail
 refine S2.mono ?_;rintro e w5 ⟨rfl,k5,a8⟩;have s:E_ w4 w5:=(by rw[a8];exact below_drewN bz_ _);have u:=x1_ (O.trans (s.mono O.size));have b:=x2_ (v.1.below s) (v.2.below s);have G:=p.1.keep (S:=λ_=>False) (.of_below u) (λ_ _ e=>e.elim) (Dq.refl _ _);have aA:=λk hk=>p.2 k (rl_ b.1 k hk).1;have a5:=λk hk=>p.2 k (rl_ b.2 k hk).1;have C1:=G.ownN (Dt b.1 qg_:Ag _ 0 _ _) aA (by have:=a.2.2.1;omega) o_;clear a8 s S2 v O G;go_wp2_with fail
 refine C1.mono ?_;rintro e w6 ⟨rfl,hq⟩;obtain⟨o6,c6,b1,b2,b3,b4,b5,b6,b7⟩:=hq
 have Z:∀k,(Value.slice z Q d2).ownBlock=some k->(Value.slice U V d1).ownBlock≠some k:=λk hk e=>by
  obtain⟨q1,h1⟩:=Ad b.1 e;obtain⟨q2,h2⟩:=Ad b.2 hk
  grind
 have Y:Cc w6 0 (.slice z Q d2) LS:=b3.row (Dt b.2 qg_) (λk hk e=>w_);have I:=λk hk=>b6 k (rl_ b.2 k hk).2 (a5 k hk) (Z k hk);have C2:=b1.ownT Y I (by have:=a.2.2.2;omega) o_
 have HF:Hid (∀w7,Zci w6 w7 o6 g (N+1) (.slice z Q d2) c6->Lr w w7 o g (N+2) c):=λw7 q7=>by
  have q8:=q7.q2 I;have aD:=u.size;have t:=(Aa.of_below (S:=λk=>o k<=13∨o k=99) u).trans2 b3 (λk hk=>w_);refine Lr.behind (λk hk=>b2 k o_) t b4 (λk hk=>?_) (λk hk h9=>b7 k o_ h9) q8
  by_cases hl:k<w5.heap.size
  exact b7 k hl (p.2 k hk)
  grind
 clear b1 b2 b3 b4 b5 b6 b7 Y I C1 Z aA a5 b u p HP;go_wp2_with fail
 refine C2.mono ?_;rintro e w7 ⟨rfl,hq⟩;have HE:=x1_ (HF _ hq);clear hq C2 HF;go_wp2_with fail
 refine(Kb _ _).mono ?_;rintro e w8 ⟨rfl,aC⟩;obtain rfl:=aC.symm;go_wp2_with fail
 refine(Kb _ _).mono ?_;rintro e w9 ⟨rfl,aB⟩;obtain rfl:=aB.symm;go_wp2;go_ret;exact⟨s_,HE⟩
end
def Ku.row{w b q n a}(h:Ku w b q n n a)(e:b<=q)(m:n<=1000):∃vals:List Value,vals.length=n/\w.ownsRow b 25 1 (L_ q n n) n vals/\(∀j,j<n->Ag w b (vals.getD j Hm) (a.getD j []))/\∀i j,i<j->j<n->∀k,(vals.getD i Hm).ownBlock=some k->(vals.getD j Hm).ownBlock≠some k:=by
 obtain⟨c,f,g,o,l⟩:=h.cur;have d:c.toList.length=n:=by simp[g]
 have p:∀j,j<n->c[j]? =some (c.toList.getD j Hm):=λj hj=>w_
 refine⟨c.toList,d,⟨o_,.inr ⟨q,n,c,rfl,e,f,qa_,m_,o_,w_⟩⟩,λj hj=>?_,λi j hij hj k hk=>?_⟩
 ·grind
 grind
section
variable {w w':World} {dp gb db yb base m n budget:Nat} {es:List ES} {Bb:List (List Nat)} {vF vB vC vX:Value} {kvs:List (Value×Value)} {bvs cvs:List Value} {X:List XS}
def oy{o g N c} pk bb G E I x y fa va wa fl fc vl vc wl wc st (hB:Hx w o g c N)(h9:∀k,w.heap.size<=k->o k=99)(hN:N<=10000000)(h:Jv w dp gb db yb base m n budget es Bb vF vB vC vX kvs bvs cvs X)(hs:On m n budget es Bb X):C_ 77 #[.pointer (some ⟨g,0,none⟩),.pointer (some ⟨dp,0,none⟩),.agg #[.int .i64 11,.int .i64 pk,.int .i64 bb,.slice fa fl fc,.int .i64 G,.int .i64 E,.int .i64 I,.slice va vl vc,.slice wa wl wc,.string st,.int .i64 x,.int .i64 y]] w λe w'=>e=.returned (.bool true)/\Lr w w' o g (N+5) c:=by
 have hd:=Jk (budget:=budget) hs.hm hs.hn hs.hk;have O:=x1_ hd;have r:=x2_ hB h9;have Q:Hid (∀W,Below _ w W->_):=λW hW=>h.below hW;obtain⟨A,B⟩:=ey_ ((Ao m n budget es Bb).bs.length);have L:=x1_ B;have aE:A<=4:=(by rw[<- B];exact hd.b4);obtain⟨aB,cB,T⟩:=h.y.bu.shape;rw[List.length_map,List.length_map,B] at T;subst T;clear h hs hB h9 B hd;go_enter Tryz.func77,Tryz.ntmps77;go_upto_region 18 with fail;generalize hw1:w.alloc (.cells #[I_ 11,I_ pk,I_ bb,.slice fa fl fc,I_ G,I_ E,I_ I,.slice va vl vc,.slice wa wl wc,.string st,I_ x,I_ y] 93)=w1;have s:E_ w w1:=(by rw[<- hw1];exact bA_);clear hw1;obtain⟨c0,_,_,_,_⟩:=(Q w1 s).cells;have HC:=ph _ _ n _ _ (Q _ s).x O;go_wp2_with fail
 refine HC.mono ?_;rintro e t ⟨q,rfl,a7,hL,Y⟩;have M:=s.trans (Y.mono s.size);rw[L] at hL;obtain⟨u,a0,F,z,P⟩:=hL.row a7 o_;have l:=x4_ a0 F z P;have f:=x2_ M s.size;obtain⟨_,c1,_,_,c4⟩:=(Q t M).cells;rw[L];clear c0 HC hL s Y M a7 a0 F z P;go_upto_region 21 with fail;go_loopw [21,22] (λt21 t22 wr=>∃(i k:Nat),t21=.bool true/\t22=.int .i64 i/\i<=A/\Hid (wr=t.drewN k)) (λ_ t22 _=>A-(intOf t22).toNat)
 case atStart=>exact⟨0,0,s_,rfl,qg_,rfl⟩
 case round=>
  obtain⟨i,k,rfl,rfl,hi,HW⟩:=hrel;have hw:=HW.out;subst hw;clear HW
  by_cases hin:i<A
  ·have i0:0<=(i:Int):=o_;have i1:i<(A:Int):=o_;have b:E_ t _:=below_drewN bz_ k;have d:=f.1.trans (b.mono f.1.size);have hp:=Q _ d;obtain⟨_,e1,_,_,e4⟩:=hp.cells;have v:=l.2.1;have D:=l.2.2.1 i hin;have x0:_=some (u.getD i Hm):=Ac b (Qy v (by rw[Qc,Qd (by rw[l.1];exact hin)];rfl));obtain⟨qB,aD,a,kk,eB,xB,_,eV,_,_⟩:=hp.y.bu.at (i:=i) (by rw[List.length_map,List.length_map,L];exact hin);have a9:aB=some ⟨qB,0,none⟩:=(by injection eB);subst a9;have H:((Ao m n budget es Bb).bs.map BS.fs|>.map Av).getD i []=(Xg (Ao m n budget es Bb)).getD i []:=(by grind [Vh]);have C:=hp.y.bu.each i w_;rw[eV] at C;rw[H] at xB C
   have a8:((Xg (Ao m n budget es Bb)).getD i []).length<=1000000:=(by have U:i<(Ao m n budget es Bb).bs.length:=w_;rw[Vh U,Aw];have:=O.f4 _ (O.mem U);omega);obtain⟨a5,c5,h5⟩:=D.shape;rw[h5] at x0 D
   have aA:Hid (∀e,C_ 140 #[.slice a5 ((Xg (Ao m n budget es Bb)).getD i []).length c5,.slice a ((Xg (Ao m n budget es Bb)).getD i []).length kk] ((t.drewN k).drewN e) λe' w'=>e'=.returned (.bool true)/\∃j,w'=(t.drewN k).drewN j):=λe=>by
    have V:Below (t.drewN k).heap.size (t.drewN k) _:=below_drewN bz_ e;refine(Ra _ _ _ _ _ _ ((D.below b).below V) (C.below V) a8).mono ?_
    grind [World.drewN_drewN]
   clear D C hp eV eB H h5 v d a8;generalize ((Xg (Ao m n budget es Bb)).getD i []).length=ll at *;generalize hW3:t.drewN k=w3 at *;have aC:=x1_ hW3;clear hW3 b;go_upto_region 23 with fail;go_quiet (first|(go_at_call 140;exact(aA _).mono (λ_ _ h=>⟨h.1,h.2⟩)));go_wp2;go_roundw;case rel=>exact⟨i+1,_,rfl,g_,o_,by rw[<- aC];exact World.drewN_drewN _ _ _⟩
   case measure=>exact z_
  have aF:¬i<(A:Int):=o_;have b:E_ t _:=below_drewN bz_ k;have d:=f.1.trans (b.mono f.1.size);have R:=f.2;have Z:=r.1.keep (S:=λ_=>False) (.of_below d) (λ_ _ e=>e.elim) (Dq.refl _ _);have v:(t.drewN k).ownsRow 0 25 1 (L_ q A A) u.length u:=by rw[l.1];exact(Aa.of_below (S:=λ_=>False) b).row (Dt l.2.1 qg_) (λ_ _=>id)
  have C1:=Z.ownL (Ls:=λj=>(Xg _).getD j []) v (λk' hk'=>r.2 k' (Nat.le_trans R (rl_ l.2.1 k' hk').1)) (λj J=>by
   have hO:=l.2.2.1 j (by rw[<- l.1];exact J)
   exact⟨Ag.below (base:=0) (Dt hO qg_) b,λk' hk'=>r.2 _ (Nat.le_trans R (rl_ hO _ hk').1)⟩) (λj=>by
   rcases Nat.lt_or_ge j (Ao m n budget es Bb).bs.length with J|J
   rw[Vh J,Aw];have:=O.f4 _ (O.mem J);omega
   grind [Xg]) (λi j hij J k' hk'=>l.2.2.2 i j hij (by rw[<- l.1];exact J) k' hk') (by rw[l.1];omega) hN (λk' hk'=>r.2 k' (Nat.le_trans d.size hk'))
  rw[l.1] at C1
  have HF:Hid (∀w7,Lr (t.drewN k) w7 o g (N+A+1) c->Lr w w7 o g (N+5) c):=λw7 q7=>by obtain⟨o',c',a1,a2,a3,a4,a5,a6⟩:=q7;exact Lr.behind (Dq.refl _ _) (.of_below d) (λ_ _=>rfl) (λk' hk'=>.inr (r.2 _ hk')) (λk' _ h9=>.inr h9) ⟨o',c',a1.more o_,a2,a3,a4,a5,a6⟩
  clear Z v b d r Q l f O;generalize t.drewN k=w3 at *;go_wp2_with fail
  refine C1.mono ?_;rintro e w7 ⟨rfl,hq⟩;have HE:=x1_ (HF _ hq);clear hq C1 HF;go_wp2;go_ret;exact⟨rfl,HE⟩
end
def Fx.more{w a o g N b c}(h:Fx w a o g N c)(l:N<=b):Fx w a o g b c:=by obtain⟨m,i,k,n,j,e,d,f⟩:=h;exact⟨m,i,k.more l,n,j,e,d,f⟩
section
variable {w w' wr:World} {dp gb db yb base m n budget:Nat} {es:List ES} {Bb:List (List Nat)} {vF vB vC vX:Value} {kvs:List (Value×Value)} {bvs cvs:List Value} {X:List XS}
def rl{o g N c} i A u j l a x y C B z v D E t r wc s (f:Hx w o g c N)(d:∀k,w.heap.size<=k->o k=99)(p:N<=10000000)(h:Jv w dp gb db yb base m n budget es Bb vF vB vC vX kvs bvs cvs X)(b:On m n budget es Bb X):C_ 77 #[.pointer (some ⟨g,0,none⟩),.pointer (some ⟨dp,0,none⟩),.agg #[.int .i64 i,.int .i64 A,.int .i64 u,.slice C v D,.int .i64 j,.int .i64 l,.int .i64 a,.slice B E t,.slice z r wc,.string s,.int .i64 x,.int .i64 y]] w λe w'=>e=.returned (.bool true)/\Fx w w' o g (N+5) c:=by
 by_cases h8:i=8
 subst h8;exact(Zcq g _ _ _ _ _ x y _ _ _ _ _ _ _ _ _ _ h b).mono (λ_ _ q=>⟨q.1,.of_below f q.2 d o_⟩)
 by_cases h9':i=9
 subst h9';exact(Zcp g _ _ _ _ _ x y _ _ _ _ _ _ _ _ _ _ h b).mono (λ_ _ q=>⟨q.1,.of_below f q.2 d o_⟩)
 by_cases h10:i=10
 subst h10;exact(we _ _ _ _ _ x y _ _ _ _ _ _ _ _ _ _ f d p h b).mono (λ_ _ q=>⟨q.1,.of_q2 q.2 o_⟩)
 by_cases h11:i=11
 subst h11;exact(oy _ _ _ _ _ x y _ _ _ _ _ _ _ _ _ _ f d p h b).mono (λ_ _ q=>⟨q.1,.of_q2 q.2 o_⟩);exact(Zau g _ _ _ _ _ _ x y _ _ _ _ _ _ _ _ _ _ h b h8 h9' h10 h11).mono (λ_ _ q=>⟨q.1,.of_below f q.2 d o_⟩)
def Fx.part{o g N t c Q}(h:Fx w w' o g N c)(a:Ii w o t Q)(i:13<t)(m:t≠99):Q w':=by obtain⟨l,f,d,j,b,_⟩:=h;exact a _ (b.mono (λk _ e=>o_))
def Zco{o g N t c} F G D b a d x y I H O E p r k C wc h (f:Fx w wr o g N c)(A:N<=10000000)(l:Ii w o t (λW=>Jv W dp gb db yb base m n budget es Bb vF vB vC vX kvs bvs cvs X))(u:13<t)(v:t≠99)(M:On m n budget es Bb X):C_ 77 #[.pointer (some ⟨g,0,none⟩),.pointer (some ⟨dp,0,none⟩),.agg #[.int .i64 F,.int .i64 G,.int .i64 D,.slice I E p,.int .i64 b,.int .i64 a,.int .i64 d,.slice H r k,.slice O C wc,.string h,.int .i64 x,.int .i64 y]] wr λe w'=>e=.returned (.bool true)/\Fx w w' o g (N+5) c:=by have J:=f.part l u v;obtain⟨P,Q,B,j,z,L,i,s⟩:=f;exact(rl _ _ _ _ _ _ x y _ _ _ _ _ _ _ _ _ _ B s A J M).mono (λ_ _ q=>⟨q.1,Fx.trans j z L i q.2⟩)
def Zjp{o g N t c}(F:Fx w wr o g N c)(hN:N<=9000000)(A:Ii w o t (λW=>Jv W dp gb db yb base m n budget es Bb vF vB vC vX kvs bvs cvs X))(D:13<t)(E:t≠99)(B:On m n budget es Bb X):C_ 42 #[.pointer (some ⟨g,0,none⟩),.pointer (some ⟨dp,0,none⟩)] wr λe w'=>e=.returned (.bool true)/\Fx w w' o g (N+6000) c:=by
 have L:Hid (∀(_ x y:_) (W:_) (M:_),Fx w W o g M c->_):=λkd x y W M hW hM=>Zco kd 0 0 0 0 0 x y none none none 0 0 0 0 0 0 ⟨#[]⟩ hW hM A D E B;obtain⟨T,Q,l⟩:=(F.part A D E).y.fe.view.1;rw[yy] at l;subst l
 have G:Hid (∀W M,Fx w W o g M c->W.cell? (A_ dp 1)=some (P_ yb)/\W.cell? (A_ yb 0)=some (I_ n)/\W.cell? (A_ yb 1)=some (.slice T (m+1) Q)):=λW M hW=>by
  obtain⟨_,z,u,v,_⟩:=(hW.part A D E).cells
  grind
 have R:=B.hm;have hn:=B.hn;have a:Hid (Fx w _ o g (N+30*(8-8)) c):=F;obtain⟨q,s⟩:=ex_ (m+1);rw[<- s] at G R;clear A D E B F s;generalize wr=w0 at *;go_enter Tryz.func42,Tryz.ntmps42;go_upto_region 2 with fail;go_loopw [5] (λtk wr=>∃k:Nat,8<=k/\k<=13/\tk=.int .i64 k/\Hid (Fx w wr o g (N+30*(k-8)) c)) (λtk _=>13-(intOf tk).toNat)
 case atStart=>grind
 case round=>
  clear a;obtain⟨k,S,J,rfl,a⟩:=hrel
  by_cases hk:k<=12
  ·have O:(k:Int)<=12:=o_;have d:Hid (Fx w _ o g (N+_+5*0) c):=a;clear a;generalize wr=wa at *;go_upto_region 5 with fail;go_loopw [6] (λtj wr=>∃j:Nat,j<=6/\tj=.int .i64 ((j:Int)-1)/\Hid (Fx w wr o g (N+30*(k-8)+5*j) c)) (λtj _=>6-(intOf tj+1).toNat)
   case atStart=>grind
   case round=>
    clear d;obtain⟨j,V,rfl,a⟩:=hrel
    by_cases hj:j<=5
    ·have H:(j:Int)-1<=4:=o_;have C:=L (k:Nat) ((j:Int)-1) 0 _ _ a o_;have Y:IntKind.i64.wrap (j-1+1)=(j+1:Nat)-1:=(by rw[Cb o_ o_];omega);have Z:j-1+1=((j+1:Nat):Int)-1:=o_;go_wp2_with fail
     refine C.mono ?_;rintro e U ⟨rfl,i⟩;have b:Hid (Fx w _ o g (_+5*(j+1)) c):=i;clear i C a;go_wp2;go_roundw;case rel=>exact⟨j+1,o_,w_,b⟩
     case measure=>exact z_
    have I:j=6:=o_;subst I;have H:¬((6:Nat):Int)-1<=4:=o_;have b:Hid (Fx w wr o g (N+30*(k+1-8)) c):=a.more o_;clear a;go_wp2;go_roundw;case rel=>exact⟨k+1,o_,o_,g_,b⟩
    case measure=>exact z_
  have gk:¬(k:Int)<=12:=o_;have d:Hid (Fx w _ o g (N+150+25*0) c):=a.more o_;clear a;generalize wr=wa at *;go_upto_region 11 with fail;go_loopw [8] (λtr wr=>∃r:Nat,r<=n+1/\tr=.int .i64 r/\Hid (Fx w wr o g (N+150+25*r) c)) (λtr _=>n+1-(intOf tr).toNat)
  case atStart=>grind
  case round=>
   clear d;obtain⟨r,hr,rfl,a⟩:=hrel;obtain⟨z,u,v⟩:=G _ _ a
   by_cases hrn:r<=n
   ·have O:r<=(n:Int):=o_;have d:Hid (Fx w _ o g (_+_+5*0) c):=a;clear a;go_upto_region 14 with fail;clear z u v;generalize wr=wb at *;go_loopw [9] (λtf wr=>∃f:Nat,f<=q+1/\tf=.int .i64 f/\Hid (Fx w wr o g (N+150+25*r+5*f) c)) (λtf _=>q+1-(intOf tf).toNat)
    case atStart=>grind
    case round=>
     clear d;obtain⟨f,hf,rfl,a⟩:=hrel;obtain⟨z,u,v⟩:=G _ _ a
     by_cases hfm:f<=q
     ·have H:f<=(q:Int):=o_;have C:=L 9 (r:Nat) (f:Nat) _ _ a o_;go_wp2_with fail
      refine C.mono ?_;rintro e U ⟨rfl,i⟩;have b:Hid (Fx w _ o g (_+5*(f+1)) c):=i;clear i C a z u v;go_wp2;go_roundw;case rel=>exact⟨f+1,o_,g_,b⟩
      case measure=>exact z_
     have H:¬f<=(q:Int):=o_;have b:Hid (Fx w wr o g (N+150+25*(r+1)) c):=a.more o_;clear a;go_wp2;go_roundw;case rel=>exact⟨r+1,o_,g_,b⟩
     case measure=>exact z_
   have O:¬r<=(n:Int):=o_;have P:Hid (Fx w _ o g (N+6000) c):=a.more o_;clear a;go_wp2;go_ret;exact⟨rfl,P⟩
end
def Zlf:(Tryz.prog.info? 96).map (λi=>(i.zero,i.size,i.bytes))=some (some (.pointer none),1,8):=k_
def ZjQ:(Tryz.prog.info? 208).map (λi=>(i.zero,i.size,i.bytes))=some (some (.pointer none),1,8):=k_
structure Yh(w w':World)(g j tp ty:Nat)(c:Array Value)(v:Value)(ps)(p1 p2)(dp)(v'):Prop where
 lo:w.heap.size<=dp
 pr:w'.heap[dp]? =some (.cells #[p1,p2] tp (0,0))
 wb:WB w' g (c.setIfInBounds j v')
 row:w'.ownsRow 0 ty 1 v' (ps.length+1) (ps++[P_ dp])
 own:∀k,v'.ownBlock=some k->v.ownBlock=some k∨w.heap.size<=k
 tch:Aa (λk=>k=g∨v.ownBlock=some k) w w'
def WB.ne{w g c}(h:WB w g c){base ty size n:Nat}{v xs}(hr:w.ownsRow base ty size v n xs)(ht:ty≠90):v.ownBlock≠some g:=λe=>by
 obtain⟨cur,hc⟩:=Ad hr e;rw[h] at hc
 grind
def Zck g w:C_ 127 #[.pointer (some ⟨g,0,none⟩),.pointer none,.pointer none] w λe w'=>e=.returned (.bool true)/\w'=w:=by go_enter Tryz.func127,Tryz.ntmps127;go_wp2;go_ret;exact⟨rfl,rfl⟩
def Zbx(w:World)(a b:Nat) c p:∀j u,[p][j]? =some u->((w.alloc (.cells c a)).alloc (.cells #[p] b)).cell? (((A_ (w.heap.size+1) 0):Addr).add j)=some u:=by have:=Am (w.alloc (.cells c a)) #[p] b;rw[show(w.alloc (.cells c a)).heap.size=w.heap.size+1 by simp] at this;exact this
def Yh.of{w h}{g j m b:Nat}{c v l p1 n f}(p:WB w g c)(s:w.ownsRow 0 b 1 v f.length f)(i:b≠90)(t:h.ownsRow 0 b 1 l (f.length+1) (f++[P_ w.heap.size]))(q:((w.alloc (.cells #[p1,n] m)).alloc (.cells #[P_ w.heap.size] b)).grownBy h v.ownBlock)(y:∀k,l.ownBlock=some k->v.ownBlock=some k∨w.heap.size<=k):WB h g c/\Yh w (h.setCell (A_ g j) l) g j m b c v f p1 n w.heap.size l:=by
 have o:=p.ne s i;have x:=p.lt;have u:Aa (λk=>k=g∨_) w _:=(((Aa.refl _ w).alloc _).alloc _).grown q (λk e _=>.inr e);have a:=((p.alloc _).alloc _).grown q (λe=>o e.symm);have z:h.heap[w.heap.size]? =some (.cells #[p1,n] m (0,0)):=(by have r:((w.alloc (.cells #[p1,n] m)).alloc (.cells #[P_ w.heap.size] b)).heap[_]? =_:=(hc_ s_).trans (ha_ w _);refine(q.block _ (Qb r).1 (λe=>?_)).trans r;have:=(rl_ s _ e.symm).2;omega);have d:=a.ne t i;refine⟨a,qa_,?_,a.set j _,?_,y,u.setCell (λ_=>.inl rfl) _⟩
 ·grind [Below.heap_setCell]
 exact(Aa.setCell (S:=λk=>k=g) (Aa.refl _ _) (λ_=>rfl) _).row t (λk hk e=>d w_)
def Zcl g r q c v h w (b:WB w g c)(d:c[2]? =some v)(n:w.ownsRow 0 96 1 v h.length h)(M:h.length<=10000000):C_ 127 #[.pointer (some ⟨g,0,none⟩),.pointer (some ⟨r,0,none⟩),.pointer (some ⟨q,0,none⟩)] w λe w'=>e=.returned (.bool true)/\∃dp v',Yh w w' g 2 137 96 c v h (.pointer (some ⟨r,0,none⟩)) (.pointer (some ⟨q,0,none⟩)) dp v':=by
 obtain⟨G,f,l,i,m⟩:=info_parts Zlf;have I:=x1_ b;have p:=x1_ n;have E:=x1_ (b.ne n d_);have L:=x1_ b.lt;have C:w.cell? (A_ g 2)=some v:=(by rw[b.cell];exact d);have y:=λo=>b.frozen o;have F:=x1_ d;clear b n d;go_enter Tryz.func127,Tryz.ntmps127;go_wp2_with (at_builtin;refine Ab rfl _ _ 82 rfl 0 96 G _ 1 8 Tryz.underlying82 f l i m rfl d_ v _ h rfl (ra_ (ra_ p _) _) _ 1 1 _ rfl rfl (Zbx w 137 96 _ _) (by intro u s;simp only[List.mem_cons,List.not_mem_nil,or_false] at s;subst s;rfl) d_ m_ o_ qg_ ?_)
 intro v' B D;obtain⟨x,d,H,_,O,N,rfl⟩:=D;obtain⟨a,t⟩:=Yh.of (j:=2) I p d_ x d (λk hk=>w_);have z:Hid (Yh w _ g 2 _ 96 c v _ _ _ _ _):=t;have J:B.cell? (A_ g 2)=some v:=(by rw[a.cell];exact F);have A:=λo=>a.frozen o;clear x d H a t C y;go_wp2;go_ret;exact⟨rfl,_,_,z⟩
structure RP where
 pb:Nat
 ib:Nat
 yb:Nat
 fk:Nat
 fc:Nat
 m:Nat
 wd:Nat->Bool
 sc:Nat->Int
 ct:Nat->Int
 bins:Int
 size:Nat
 budget:Nat
 T:ByteArray
 cl:Bool
def ptR(r:RP):Value:=P_ r.pb
def ptD(d:Nat):Value:=P_ d
structure ZgR(w:World)(o:Nat->Nat)(t)(r:RP):Prop where
 pr:w.heap[r.pb]? =some (.cells #[P_ r.ib,P_ r.yb] 210 (0,0))
 po:o r.pb=16
 cf:Si r.m r.wd r.sc r.ct r.bins r.size r.budget
 x:Oq w o t r.ib r.m r.wd r.sc r.ct r.bins r.size r.budget r.T r.cl
 y:Kv w o (t+1) r.yb r.fk r.fc r.m r.wd r.sc r.ct r.bins r.size r.budget r.T r.cl
def Zjj(w:World)(o:Nat->Nat)(dp:Nat):Prop:=∃gb db yb base m n budget es Bb vF vB vC vX kvs bvs cvs X,Ii w o 17 (λW=>Jv W dp gb db yb base m n budget es Bb vF vB vC vX kvs bvs cvs X)/\On m n budget es Bb X
structure Es(Z:Nat->Prop)(w)(o)(g)(c)(N L)(v1 v2)(rs:List RP)(ds:List Nat):Prop where
 bk:Hx w o g c N
 n9:∀k,w.heap.size<=k->o k=99
 c1:c[1]? =some v1
 r1:w.ownsRow 0 208 1 v1 (rs.map ptR).length (rs.map ptR)
 o1:∀k,v1.ownBlock=some k->o k=14
 c2:c[2]? =some v2
 r2:w.ownsRow 0 96 1 v2 (ds.map ptD).length (ds.map ptD)
 o2:∀k,v2.ownBlock=some k->o k=15
 rd:∀i r,rs[i]? =some r->ZgR w o (100+2*i) r
 sz:∀r∈rs,r.T.size<=L
 dt:∀d∈ds,Zjj w o d
 lo:∀k,Z k->k<w.heap.size/\o k=98
def Fa(Z:Nat->Prop)(w w':World):Prop:=Aa (λk=>¬Z k) w w'
def Fa.of_below{Z w w'}(h:Below w.heap.size w w'):Fa Z w w':=Aa.of_below h
def Fa.trans{Z w w' w2}(h:Fa Z w w')(h':Fa Z w' w2):Fa Z w w2:=Aa.trans h h'
section
variable {w w':World} {o o':Nat->Nat} {g N N' L L' t:Nat} {c c':Array Value} {v1 v2 v1' v2':Value} {rs:List RP} {ds:List Nat} {r:RP} {S Z:Nat->Prop}
def Dq.at(h:Dq w o o'){k a}(b:k<w.heap.size)(e:o k=a)(d:a≠99):o' k=a:=by rcases h k b with c|c<;>omega
def ZgR.keep(h:ZgR w o t r)(a:Aa S w w')(b:∀k,k<w.heap.size->S k->o k≠16/\o k≠t/\o k≠t+1)(c:Dq w o o')(f:100<=t):ZgR w' o' t r:=by have d:=(Qb h.pr).1;exact⟨a.at_ h.pr (λe=>(b _ d e).1 h.po),c.at d h.po d_,h.cf,h.x.keep a (λk hk e=>(b k hk e).2.1) c o_,h.y.keep a (λk hk e=>(b k hk e).2.2) c o_⟩
def Zjj.keep{d}(h:Zjj w o d)(x:Aa S w w')(r:∀k,k<w.heap.size->S k->o k≠17)(z:Dq w o o'):Zjj w' o' d:=by obtain⟨j,t,l,b,m,n,a,u,p,g,q,s,i,f,c,e,X,v,y⟩:=h;exact⟨j,t,l,b,m,n,a,u,p,g,q,s,i,f,c,e,X,v.step x r z,y⟩
def Hx.put(h:Hx w o g c N)(b:Aa S w w')(i:∀k,k<w.heap.size->S k->k=g∨13<o k)(l:WB w' g c')(a:Dq w o o')(e:∀j,4<=j->c'[j]? =c[j]?)(f:c'.size=13):Hx w' o' g c' N:=by
 have d:∀k,k<w.heap.size->S k->o k=0∨13<o k:=λk hk e=>by
  rcases i k hk e with rfl|e
  exact .inl h.og;exact .inr e
 obtain⟨z,n,p,m⟩:=h.nx;refine⟨l,a.at h.wb.lt h.og d_,f,⟨z,(e _ d_).trans n,p,m⟩,?_,?_,?_,?_⟩;exact h.es.keep b (λk hk e=>w_) a d_ (e 4 d_) (e 5 d_) qa_;exact h.ns.keep b (λk hk e=>w_) a d_ (e 6 d_) (e 7 d_) qa_;exact h.ss.keep b (λk hk e=>w_) a d_ (e 8 d_) (e 9 d_) qa_;exact h.ls.keep b (λk hk e=>w_) a d_ (e _ d_) (e _ d_) qa_
def Jn{ty n a:Nat}{v xs}(h:w.ownsRow 0 ty 1 v n xs)(hc:∀k,v.ownBlock=some k->o k=a)(tc:Aa S w w')(hs:∀k,k<w.heap.size->S k->o k≠a)(ho:Dq w o o')(h9:a≠99):w'.ownsRow 0 ty 1 v n xs/\∀k,v.ownBlock=some k->o' k=a:=
 ⟨tc.row h (λk hk e=>hs k (rl_ h k hk).2 e (hc k hk)),λk hk=>ho.at (rl_ h k hk).2 (hc k hk) h9⟩
def Es.old(h:Es Z w o g c N L v1 v2 rs ds)(ho:Dq w o o')(hs:w.heap.size<=w'.heap.size):∀k,Z k->k<w'.heap.size/\o' k=98:=λk hk=>⟨Qh (h.lo k hk).1 hs,ho.at (h.lo k hk).1 (h.lo k hk).2 d_⟩
def Es.low(h:Es Z w o g c N L v1 v2 rs ds)(tc:Aa S w w')(hs:∀k,k<w.heap.size->S k->o k≠98):Fa Z w w':=tc.mono (λk hk e hz=>hs k hk e (h.lo k hz).2)
def Es.book(h:Es Z w o g c N L v1 v2 rs ds)(s:Fx w w' o g N' c):(∃o' c',Es Z w' o' g c' N' L v1 v2 rs ds)/\Fa Z w w':=by
 obtain⟨o',c',m,f,b,j,u,n⟩:=s
 have l:∀{a},13<a->a≠99->∀k,k<w.heap.size->(o k<=13∨o k=99)->o k≠a:=λh1 h2 k _ e=>o_
 obtain⟨p1,p⟩:=Jn h.r1 h.o1 b (l d_ d_) f d_;obtain⟨q,t⟩:=Jn h.r2 h.o2 b (l d_ d_) f d_;refine⟨⟨o',c',m,n,(j 1 d_).trans h.c1,p1,p,(j 2 d_).trans h.c2,q,t,λi r hr=>(h.rd i r hr).keep b (λk _ e=>o_) f o_,h.sz,λd hd=>(h.dt d hd).keep b (λk _ e=>o_) f,h.old f b.size⟩,h.low b (λk _ e=>o_)⟩
def Es.part{i r f}(h:Es Z w o g c N L v1 v2 rs ds)(v:rs[i]? =some r)(a:Aa (λk=>o k=100+2*i∨o k=100+2*i+1) w w')(b:Dq w o o')(l:∀k,w'.heap.size<=k->o' k=99)(y:ZgR w' o' (100+2*i) f)(e:f.pb=r.pb)(m:L<=L')(x:f.T.size<=L'):Es Z w' o' g c N L' v1 v2 (rs.set i f) ds/\Fa Z w w':=by
 have u:=(List.getElem?_eq_some_iff.1 v).1
 have n:(rs.set i f).map ptR=rs.map ptR:=by
  apply List.ext_getElem?
  grind [ptR]
 obtain⟨p1,p⟩:=Jn h.r1 h.o1 a (λk _ e=>o_) b d_;obtain⟨s,t⟩:=Jn h.r2 h.o2 a (λk _ e=>o_) b d_;refine⟨⟨h.bk.keep a (λk _ e=>o_) b,l,h.c1,by rw[n];exact p1,p,h.c2,s,t,λj q hq=>?_,λq hq=>?_,λd hd=>(h.dt d hd).keep a (λk _ e=>o_) b,h.old b a.size⟩,h.low a (λk _ e=>o_)⟩
 ·rw[List.getElem?_set] at hq;split at hq
  ·grind
  exact(h.rd j q hq).keep a (λk _ e=>o_) b o_
 rcases List.mem_or_eq_of_mem_set hq with e|e
 exact Nat.le_trans (h.sz q e) m
 grind
end
end Go.Proofs.YtfcgnpchbcmdeaaGreat
