import Derived.Test.YtfcgnpchbcmdeaaGreatZrbp
import Derived.Test.YtfcgnpchbcmdeaaGreatZrbr
namespace Go.Proofs.YtfcgnpchbcmdeaaGreat
set_option linter.all false
set_option maxRecDepth 100000
set_option maxHeartbeats 32000000
open Go.RowKit
theorem jz{a b:ByteArray}:a.data.toList=b.data.toList↔a=b:=by
 constructor
 ·intro h
  cases a;cases b
  simp at h;rw[h]
 intro h;rw[h]
theorem ZhQ v s:Qo v s.data.toList=(!v.miss&&decide (v.word=s)):=by grind [Qo,jz]
def Zi5:∀(L:List (Int×List VS)) (i:Nat) (s:ByteArray),Pn L i s=Jq ((Bn L i).zip (Fr L)) s.data.toList
  |[],_,_=>rfl
  | r::L,i,s=>by
    have ih:=Zi5 L i s
    grind [Jq,Bn,Fr,ZhQ,Pn]
abbrev fy(T:List ByteArray)(Wt:ByteArray->Int)(ct:Int)(v:VS):Prop:=v.miss=false/\Lib.containsS T v.word=false/\ct<=Wt v.word
abbrev Zeb(Wt:ByteArray->Int)(s:ByteArray×Int)(v:VS):Prop:=s.2<Wt v.word∨Wt v.word=s.2/\If v.word s.1
def pkS(T:List ByteArray)(Wt:ByteArray->Int)(ct:Int)(s:ByteArray×Int)(v:VS):ByteArray×Int:=if fy T Wt ct v/\Zeb Wt s v then(v.word,Wt v.word) else s
def pkF(T:List ByteArray)(Wt:ByteArray->Int)(ct:Int)(vs:List VS):ByteArray×Int:=vs.foldl (pkS T Wt ct) (⟨#[]⟩,0)
def Zbz T a b c v:pkF T a b (c++[v])=pkS T a b (pkF T a b c) v:=by
 unfold pkF
 grind
def Zir T Wt {ct}(hc:1<=ct):∀n vs,vs.length=n->(pkF T Wt ct vs=(⟨#[]⟩,0)/\∀v∈vs,¬fy T Wt ct v)∨((∃v∈vs,fy T Wt ct v/\pkF T Wt ct vs=(v.word,Wt v.word))/\∀v∈vs,fy T Wt ct v->¬Zeb Wt (pkF T Wt ct vs) v)
 |0,vs,h=>by obtain rfl:=List.eq_nil_of_length_eq_zero h;exact .inl ⟨rfl,s_⟩
 | n+1,vs,h=>by
  obtain⟨us,v,rfl⟩:∃us v,vs=us++[v]:=⟨vs.dropLast,vs.getLast w_,(List.dropLast_concat_getLast _).symm⟩;have ih:=Zir T Wt hc n _ (by simpa using h);rw[Zbz];have hirr:∀x,¬If x x:=λx=>List.lt_irrefl _
  by_cases hb:fy T Wt ct v/\Zeb Wt (pkF T Wt ct us) v
  ·grind [pkS]
  grind [pkS]
section
variable {L:List (Int×List VS)} {i:Nat} {ct:Int}
def ZeK{x}:x∈Tl (Bn L i) (Fr L) ct↔(∃v∈Bn L i,v.miss=false/\v.word=x.wd)/\x.wt=Pn L i x.wd/\ct<=x.wt:=by
 rw[Zh8,Zi5];refine and_congr_left λ_=>?_;unfold Sh;rw[List.any_eq_true];constructor;rintro⟨p,b,a⟩;simp only[Qo,Bool.and_eq_true,Bool.not_eq_true',decide_eq_true_eq,jz] at a;exact⟨p.1,(List.of_mem_zip b).1,a⟩;rintro⟨v,d,e,f⟩;obtain⟨j,c,rfl⟩:=List.getElem_of_mem d;refine⟨((Bn L i)[j],(Fr L)[j]'(by simpa [Bn,Fr] using c)),?_,?_⟩
 ·grind [Bn,Fr]
 grind [Qo]
def ZfY(w:1<=ct){k}(C:k<=(Tl (Bn L i) (Fr L) ct).length):pkF (((Tl (Bn L i) (Fr L) ct).take k).map WS.wd) (Pn L i) ct (Bn L i)=if h:k<(Tl (Bn L i) (Fr L) ct).length then((Tl (Bn L i) (Fr L) ct)[k].wd,(Tl (Bn L i) (Fr L) ct)[k].wt) else(⟨#[]⟩,0):=by
 have z:=ZaP (Bn L i) (Fr L) ct;have t:=ZcR (Bn L i) (Fr L) ct;have c:∀x,x∈Tl (Bn L i) _ ct↔_:=λx=>ZeK;generalize Tl (Bn L i) (Fr L) ct=D at *
 have a:∀h,D[k].wd ∉ (D.take k).map WS.wd:=λh hin=>by
  obtain⟨y,s,e⟩:=List.mem_map.1 hin;obtain⟨j,p,rfl⟩:=List.getElem_of_mem s;rw[List.length_take] at p;rw[List.getElem_take] at e;have l:=((c D[j]).1 (Qf _)).2.1;have m:=((c D[k]).1 (Qf _)).2.1
  have:D[j]=D[k]:=by
   cases d:D[j];cases hz:D[k]
   rw[d,hz] at e;rw[d] at l;rw[hz] at m;simp only at e l m;rw[l,m,e]
  have:=(List.getElem_inj t).1 this;omega
 have o:∀h,∃v∈Bn L i,fy ((D.take k).map WS.wd) (Pn L i) ct v/\v.word=D[k].wd:=λh=>by obtain⟨⟨v,n,b,f⟩,q,B⟩:=(c D[k]).1 (Qf _);exact⟨v,n,⟨b,by rw[f,<- Bool.not_eq_true,Lib.containsS_iff];exact a h,w_⟩,f⟩
 rcases Zir ((D.take k).map WS.wd) (Pn L i) w _ (Bn L i) rfl with⟨b,f⟩|⟨⟨v,n,b,q⟩,f⟩
 ·grind
 have d:⟨v.word,Pn L i v.word⟩∈D:=(c _).2 ⟨⟨v,n,b.1,rfl⟩,rfl,b.2.2⟩;obtain⟨j,p,A⟩:=List.getElem_of_mem d
 have u:k<=j:=by
  apply Nat.le_of_not_lt;intro h;have r:=b.2.1;rw[<- Bool.not_eq_true,Lib.containsS_iff] at r
  grind [List.mem_iff_getElem]
 have g:k<D.length:=o_;rw[dif_pos g,q]
 by_cases e:k=j
 ·grind
 grind [List.pairwise_iff_getElem,Ve]
end
def aq(w:World)(b:Nat)(wd:Bool)(vb vd:Value)(d:Int):Prop:=w.heap[b]? =some (.cells #[.bool wd,vb,vd,I_ d] 227 (0,0))
def aq.cells{w b wd vb vd d}(h:aq w b wd vb vd d):(w.cell? (A_ b 0)=some (.bool wd)/\w.cell? (A_ b 1)=some vb/\w.cell? (A_ b 2)=some vd/\w.cell? (A_ b 3)=some (I_ d))/\(∀j,w.frozen? (A_ b j)=false)/\b<w.heap.size:=
 ⟨⟨cq_ 0 _ 227 (0,0) h,cq_ 1 _ 227 (0,0) h,cq_ 2 _ 227 (0,0) h,cq_ 3 _ 227 (0,0) h⟩,λj=>fq_ j _ 227 h,(Qb h).1⟩
def Cc.add{w a v b}{x:ByteArray}(h:w.ownsRow a 9 1 v (b.length+1) (b.map Value.string++[.string x])):Cc w a v (b++[x]):=by
 unfold Cc
 simpa using h
def gr(w:World)(b:Nat):Nat:=(w.cell? (A_ b 2)).elim 0 yr
structure WdI(w w3 W:World)(b k)(da)(dc)(T):Prop where
 blk:aq W b true (.slice none 0 0) (.slice da k dc) 0
 own:Cc W w3.heap.size (.slice da k dc) T
 len:T.length=k
 tch:Aa (λq=>q=b) w3 W
def WdI.below{w w3 W W' b k dc da T}(h:WdI w w3 W b k da dc T)(hb:Below W.heap.size W W'):WdI w w3 W' b k da dc T:=⟨(hb.block _ h.blk.cells.2.2).trans h.blk,h.own.below hb,h.len,h.tch.below hb⟩
def Zhb{p:Prop}(h:p:=by
 obtain⟨⟨e0,e1,e2,e3⟩,_,_⟩:=hI.blk.cells;have h6:aq _ _ _ _ _ 0:=hI.tch.at_ HA3.2.2 o_;obtain⟨⟨k0,k1,k2,k3⟩,hfz,_⟩:=h6.cells;have p0:=hfz 0;have p1:=hfz 1;have p2:=hfz 2;have p3:=hfz 3;have hbe:=HA3.1.trans (hI.tch.to_below HA3.1.size (λq hq=>o_));have HF:Hid (aq wr (w.heap.size+1) false (.slice none 0 0) (.slice none 0 0) 0/\Cc wr w.heap.size (.slice da k dc) B/\E_ w wr):=(by refine⟨h6,?_,hbe⟩;rw[<- HTB];exact hI.own.monoW HA3.1.size);have hkB:k=B.length:=(by rw[<- HTB];exact hI.len.symm);clear hI h6 hfz hbe HI;subst hkB;go_wp2;refine bodyPost_ret (v:=.agg #[.bool true,.slice none 0 0,.slice da B.length dc,I_ 0]) (by simp[results,Tryz.results238,go_sem, *]) rfl ?_;have tt:=Aa.set4 wr (w.heap.size+1) (.bool true) (.slice none 0 0) (.slice da B.length dc) (I_ 0)
 exact⟨da,dc,rfl,tt.row HF.2.1 (λk hk e=>Au HF.2.1 hk HF.1 d_ e),HF.2.2.trans (tt.to_below HF.2.2.size (λk hk=>o_))⟩):p:=h
def Zdy a J M c i d size x3 j fk cv L w (h:Sn w a J M L)(hi:i<M)(aI:Yj L)(hn:J<=200)(b9:2<=d)(bB:d<=16)(hc:w.cell? (A_ fk (i*3+2))=some (I_ j))(aW:1<=j):C_ 238 #[.agg #[.slice (some ⟨fk,0,none⟩) M cv,.int .i64 d,.int .i64 size,.int .i64 x3],.slice a J c,.int .i64 i] w λe w'=>∃ad cd,e=.returned (.agg #[.bool true,.slice none 0 0,.slice ad (Mb (Bn L i) (Fr L) j d).ww.length cd,.int .i64 0])/\Cc w' w.heap.size (.slice ad (Mb (Bn L i) (Fr L) j d).ww.length cd) (Mb (Bn L i) (Fr L) j d).ww/\Below w.heap.size w w':=by
 have HV:=x1_ h
 have aC:∀r∈L,0<=r.1/\r.1<=99:=λr hr=>by have:=(aI r hr).1;omega
 have aL:=x1_ aC;have Y:=x1_ h.1;obtain⟨B,hB⟩:=ez_ ((Mb (Bn L i) (Fr L) j d).ww);rw[hB.out];have U:Hid (B=((Tl _ _ _).take _).map _):=hB.out.symm;have aK:Hid (∀k,k<=_->_):=λk hk=>ZfY (L:=L) (i:=i) aW hk;obtain⟨D,hD⟩:=ey_ (Tl (Bn L i) (Fr L) j);rw[hD] at U aK
 have aU:Hid (∀x∈D,_):=λx hx=>by rw[<- hD] at hx;exact((ZeK.1 hx).2.2)
 obtain⟨H,C⟩:=ex_ (((w.alloc (.cells #[L_ fk M cv,I_ d,I_ size,I_ x3] 37)).alloc (.cells #[.bool false,.slice none 0 0,.slice none 0 0,I_ 0] 227)).alloc (.cells #[.bool true,.slice none 0 0,.slice none 0 0,I_ 0] 227));have aD:E_ w H:=(by rw[C];exact(bA_.alloc s_ _).alloc t_ _);have a9:H.heap.size=w.heap.size+1+1+1:=by rw[C];simp
 have u:H.heap[w.heap.size]? =some (.cells #[L_ fk M cv,I_ d,I_ size,I_ x3] 37 (0,0))/\aq H (w.heap.size+1) false (.slice none 0 0) (.slice none 0 0) 0/\aq H (w.heap.size+1+1) true (.slice none 0 0) (.slice none 0 0) 0:=by
  rw[C];refine⟨?_,?_,?_⟩;exact((hc_ t_).trans (hc_ s_)).trans hn_;exact(hc_ s_).trans (by have e:=ha_ (w.alloc (.cells #[L_ fk M cv,I_ d,I_ size,I_ x3] 37)) (.cells #[.bool false,.slice none 0 0,.slice none 0 0,I_ 0] 227);simpa using e);have e:=ha_ ((w.alloc (.cells #[L_ fk M cv,I_ d,I_ size,I_ x3] 37)).alloc (.cells #[.bool false,.slice none 0 0,.slice none 0 0,I_ 0] 227)) (.cells #[.bool true,.slice none 0 0,.slice none 0 0,I_ 0] 227)
  simpa [aq] using e
 have b7:=x1_ a9;have HA3:=x3_ aD u.1 u.2.1;have aB:Hid (WdI w _ _ _ 0 _ 0 _):=⟨u.2.2,Cc.nil _ _,rfl,Aa.refl _ _⟩;have aJ:=x1_ C;have a5:=World.block_lt_of_cell? _ _ hc;simp only at a5;have bC:=x1_ a5;clear h aI aC hB C aD a9 u a5 hD;go_enter Tryz.func238,Tryz.ntmps238;go_upto_region 2 with fail;rw[<- aJ];clear aJ;go_loopw [8] (λ_ wr=>∃(k:Nat) (da:Option Addr) (dc:Nat),k<=D.length/\(k:Int)<=d/\Hid (WdI w H wr (w.heap.size+1+1) k da dc ((D.take k).map WS.wd))) (λ_ wr=>d.toNat-gr wr (w.heap.size+1+1))
 case atStart=>exact⟨0,none,0,qg_,o_,aB⟩
 case round=>
  clear aB;obtain⟨k,da,dc,aS,b6,HI⟩:=hrel;obtain⟨⟨c0,c1,c2,c3⟩,_,b8⟩:=HI.blk.cells;have a6:=HI.tch.at_ HA3.2.1 o_;have y0:=cR_ 0 a6;have y1:=cR_ 1 a6;have Q:=HA3.1.trans (HI.tch.to_below HA3.1.size (λq hq=>o_));clear a6
  by_cases hk2:(k:Int)<d
  ·obtain ⟨wo, aN⟩:=ex_ wr;subst aN;obtain⟨T,hT⟩:=ey_ ((D.take k).map WS.wd);have HP:Hid (pkF T (Pn L i) j (Bn L i)=if h:k<D.length then(D[k].wd,D[k].wt) else(⟨#[]⟩,0)):=(by rw[<- hT];exact aK k aS);have HT:=x1_ hT;rw[hT] at HI;clear hT;go_wp2_with fail
   go_loopw [8,9,10] (λt8 t9 t10 wz=>∃r:Nat,t10=.int .i64 r/\r<=J/\t8=.string (pkF T (Pn L i) j ((Bn L i).take r)).1/\t9=.int .i64 (pkF T (Pn L i) j ((Bn L i).take r)).2/\E_ wo wz) (λ_ _ t10 _=>J-(intOf t10).toNat)
   case atStart=>exact⟨0,rfl,qg_,rfl,rfl,bz_⟩
   case round=>
    obtain⟨r,rfl,bA,rfl,rfl,z⟩:=hrel;have A:=Q.trans (z.mono Q.size)
    by_cases hin:r<J
    ·rcases(HV.below A).2 with h0|⟨q,rfl,hq⟩
     omega;obtain⟨_,g,cc,a1,_,hC⟩:=hq r hin;obtain⟨a2,a3,a4⟩:=hC i hi;have a7:r<(Bn L i).length:=by unfold Bn;rw[List.length_map,Y];exact hin
     have aH:pkF T (Pn L i) j ((Bn L i).take (r+1))=pkS T (Pn L i) j (pkF T (Pn L i) j ((Bn L i).take r)) ((L.getD r Sf).2.getD i Ax):=by have aM:r<L.length:=(by rw[Y];exact hin);rw[lq _ a7,Zbz];congr 1;simp[Bn,List.getD,aM]
     have N:=x1_ aH;clear hq hC aH a7;generalize (L.getD r Sf).2.getD i Ax=x at *;generalize pkF T (Pn L i) j ((Bn L i).take r)=p at *;obtain⟨xm,xn,l⟩:=x;obtain⟨f,b⟩:=p;simp only at a2 a3 a4 ⊢;have b1:0<=(r:Int):=o_;have b2:r<(J:Int):=o_;have b3:0<=(i:Int):=o_;have b4:i<(M:Int):=o_;have x2:=Ac z c2;obtain⟨y,hy⟩:=ex_ (wr.alloc (.cells #[.bool xm,I_ xn,.string l] 335));have O:E_ wr y:=(by rw[hy];exact bA_);have S:y.heap[wr.heap.size]? =some (.cells #[.bool xm,I_ xn,.string l] 335 (0,0)):=(by rw[hy];exact hn_);have z0:=cR_ 0 S;have z2:=cR_ 2 S;have z3:=Ac O x2;have HY:=x1_ hy;have s:=z.trans (O.mono z.size);clear hy S;go_upto_region 9 with fail;rw[<- HY];clear HY a1 a2 a3 a4;go_wp2_with fail
     refine(Ziw H.heap.size k dc da T l _ ((HI.below s).own) HI.len o_).mono ?_;rintro e w1 ⟨rfl,aG⟩;obtain rfl:=aG.symm;clear aG;obtain⟨tk,Z⟩:=ey_ (Lib.containsS T l);rw[Z];have a0:=x1_ Z;clear Z
     by_cases hgo:xm=true∨tk=true
     ·have n:Hid (pkF T (Pn L i) j ((Bn L i).take (r+1))=(f,b)):=by
       show _=_;rw[N];refine if_neg (λh=>?_);have h1:=h.1.1;have h2:=h.1.2.1;simp only[a0.out] at h1 h2
       rcases hgo with e|e
       rw[e] at h1;cases h1;rw[e] at h2;cases h2
      clear N
      cases xm<;>cases tk
      ·rcases hgo with e|e<;>cases e
      all_goals
       go_wp2;go_roundw;case rel=>exact⟨r+1,g_,o_,by rw[n],by rw[n],s⟩
       case measure=>exact z_
     obtain⟨rfl,rfl⟩:xm=false/\tk=false:=⟨by cases xm;rfl;exact absurd (.inl rfl) hgo,by cases tk;rfl;exact absurd (.inr rfl) hgo⟩;clear hgo;go_wp2_with fail
     refine(ZbO (some ⟨q,0,none⟩) J M c i L l _ (HV.below (A.trans (O.mono A.size))) hi aL o_).mono ?_;rintro e w2 ⟨rfl,m,aE⟩;obtain rfl:=aE.symm;clear aE;have n:Hid (pkF T (Pn L i) j ((Bn L i).take (r+1))=if j<=Pn L i l/\(b<Pn L i l∨Pn L i l=b/\If l f) then(l,Pn L i l) else(f,b)):=(by show _=_;rw[N];unfold pkS fy Zeb;simp only[a0.out,true_and]);have aV:=A.trans (O.mono A.size);have f0:=Ac s y0;have f1:=Ac aV hc;have R:=below_drewN s m;clear N a0;generalize Pn L i l=W at *;go_upto_region 12 with fail;go_cut [73] (λt wx=>t=.bool (decide (j<=W/\(b<W∨W=b/\If l f)))/\wx=y.drewN m)
     case first=>
      by_cases h1:j<=W
      ·by_cases h2:b<W
       ·go_wp2;go_meet
        exact⟨by rw[decide_eq_true (p:=_/\_) ⟨h1,.inl h2⟩],rfl⟩
       by_cases h3:W=b
       ·have e3:=beq_iff_eq.2 h3
        by_cases h4:If l f
        ·have e4:Op.bytesLess l.toList f.toList=true:=(by rw[yu];exact decide_eq_true h4);have V:Hid (_/\(b<W∨_/\_)):=⟨h1,.inr ⟨h3,h4⟩⟩;clear h3 h4;go_wp2;go_meet
         exact⟨by rw[decide_eq_true V.out],rfl⟩
        have e4:Op.bytesLess l.toList f.toList=false:=by rw[yu];exact decide_eq_false h4
        have V:Hid (¬(j<=W/\(b<W∨W=b/\If l f))):=λh=>by rcases h.2 with h|h;exact h2 h;exact h4 h.2
        clear h3 h4;go_wp2;go_meet
        exact⟨by rw[decide_eq_false V],rfl⟩
       have e3:=beq_eq_false_iff_ne.2 h3
       have V:Hid (¬(j<=W/\(b<W∨W=b/\If l f))):=λh=>by rcases h.2 with h|h;exact h2 h;exact h3 h.1
       clear h3;go_wp2;go_meet
       exact⟨by rw[decide_eq_false V],rfl⟩
      have V:Hid (¬(_/\(b<W∨W=b/\If l f))):=λh=>h1 h.1;go_wp2;go_meet
      exact⟨by rw[decide_eq_false V],rfl⟩
     case rest=>
     obtain⟨rfl,hw⟩:=hcut;obtain rfl:=hw.symm;clear hw
     by_cases hb:j<=W/\(b<W∨W=b/\If l f)
     ·rw[decide_eq_true hb];have G:Hid (pkF T (Pn L i) j ((Bn L i).take (r+1))=(l,W)):=(by show _=_;rw[n,if_pos hb]);clear hb n;go_wp2;go_roundw;case rel=>exact⟨r+1,g_,o_,by rw[G],by rw[G],R⟩
      case measure=>exact z_
     rw[decide_eq_false hb];have G:Hid (pkF T (Pn L i) j ((Bn L i).take (r+1))=(f,b)):=(by show _=_;rw[n,if_neg hb]);clear hb n;go_wp2;go_roundw;case rel=>exact⟨r+1,g_,o_,by rw[G],by rw[G],R⟩
     case measure=>exact z_
    have g2:¬r<(J:Int):=o_;have X:(Bn L i).take r=_:=List.take_of_length_le (by unfold Bn;rw[List.length_map,Y];omega);rw[X,HP]
    by_cases hkl:k<D.length
    ·rw[dif_pos hkl];have aT:=aU _ (Qf hkl);have aO:Hid ((D.take (k+1)).map WS.wd=T++[D[k].wd]):=(by show _=_;rw[Qi hkl,List.map_append,HT];rfl);generalize D[k]=x at *;obtain⟨l,xt⟩:=x;simp only at aT ⊢;have e0:(xt==0)=_:=beq_eq_false_iff_ne.2 o_;have hI:=HI.below z;obtain⟨⟨_,_,x2,_⟩,_,aY⟩:=hI.blk.cells;obtain⟨i0,aA,aR,aX,aQ⟩:=info_parts Zc8;have E:Hid (∀o,WdI w _ (wr.alloc o) _ k _ _ T):=λo=>hI.below bA_;have aZ:=hI.tch.size;have F:=HI.len
     have P:Hid (∀o,(wr.alloc o).ownsRow H.heap.size 9 1 (.slice da k dc) k (T.map Value.string)):=λo=>by have:=(E o).own;unfold Cc at this;rw[F] at this;exact this
     clear hI HI HP;go_wp2_with (at_builtin;refine Ab rfl (.tmp 81) (.tmp 83) 47 rfl H.heap.size 9 i0 _ 1 16 Tryz.underlying47 aA aR aX aQ rfl d_ (.slice da k dc) k _ rfl (P _) _ 1 1 [.string l] rfl rfl ?_ ?_ ?_ ?_ ?_ ?_ ?_)
     rfl;unfold maxLen;omega;omega;omega;intro v7 w7 H7;obtain⟨r7,g7,_,_,q7,p7,a8⟩:=H7;have t7:=(Aa.refl _ _).grown g7 (λk hk _=>hk);have I:aq _ _ _ _ _ 0:=t7.at_ (E _).blk (λe=>Au (P (.cells #[] 9)) e (E _).blk d_ rfl);have HF:Hid (WdI w H (w7.setCell (A_ (w.heap.size+1+1) 2) v7) (w.heap.size+1+1) (k+1) (some ⟨q7,0,none⟩) p7 (T++[l])):=by subst a8;refine⟨ht_ 2 _ _ _ I,?_,by rw[Qe,F];rfl,?_⟩;have ho:=Cc.add (by rw[F];exact r7);exact As ho I d_;exact((E _).tch.grown g7 (λx hx hlt=>by have:=(rl_ (P (.cells #[] 9)) x hx).1;omega)).setCell (p:=(A_ (w.heap.size+1+1) 2)) (λ_=>rfl) _
     obtain⟨⟨_,_,b5,_⟩,hfz,_⟩:=I.cells;have p2:=hfz 2;have aP:Hid (gr wo (w.heap.size+1+1)=k):=by show _=_;unfold gr;rw[c2];rfl
     have aF:Hid (gr (w7.setCell (A_ (w.heap.size+1+1) 2) v7) (w.heap.size+1+1)=k+1):=by show _=_;unfold gr;rw[HF.blk.cells.1.2.2.1];rfl
     subst a8;clear r7 g7 t7 I hfz E P x2 c0 c1 c2 c3;go_wp2;go_roundw;case rel=>exact⟨k+1,_,_,o_,o_,by rw[aO];exact HF⟩
     case measure=>rw[aP,aF];omega
    rw[dif_neg hkl];have HTB:Hid (T=B):=(by show _=_;rw[U,<- HT,List.take_of_length_le o_,List.take_of_length_le o_]);have hI:=HI.below z;exact Zhb
  have g2:=hk2;have HTB:Hid ((D.take k).map WS.wd=B):=(by show _=_;rw[U,show d.toNat=k by omega]);have hI:=HI.out;exact Zhb
def Mr(L:List (Int×List VS))(E:Nat->ES)(i:Nat):List Nat:=(Bn L i).map (Dy (E i))
def Ou(m:Nat)(E:Nat->ES):List ES:=(List.range (m+1)).map E
def Ih(m:Nat)(L:List (Int×List VS))(E:Nat->ES):List (List Nat):=(List.range (m+1)).map (Mr L E)
def bv{m E i}(h:i<m+1):(Ou m E).getD i Ph=E i:=by simp[Ou,List.getD,h]
def Uh{m L E i}(h:i<m+1):(Ih m L E).getD i []=Mr L E i:=by simp[Ih,List.getD,h]
def Lt{L E}{i}:(Mr L E i).length=L.length:=by simp[Mr,Bn]
def Zhc{L E i r}(h:r<L.length):(Mr L E i).getD r 0=Dy (E i) ((L.getD r Sf).2.getD i Ax):=by simp[Mr,Bn,List.getD,h]
def CfB(w:World)(cb:Nat)(fk n fc:Nat)(bins:Int)(size budget:Nat):Prop:=w.heap[cb]? =some (.cells #[L_ fk n fc,I_ bins,I_ size,I_ budget] 37 (0,0))
def CfB.cells{w cb fk n fc bins size budget}(h:CfB w cb fk n fc bins size budget):w.cell? (A_ cb 0)=some (L_ fk n fc)/\w.cell? (A_ cb 1)=some (I_ bins)/\w.cell? (A_ cb 2)=some (I_ size)/\w.cell? (A_ cb 3)=some (I_ budget):=
 ⟨cq_ 0 _ 37 (0,0) h,cq_ 1 _ 37 (0,0) h,cq_ 2 _ 37 (0,0) h,cq_ 3 _ 37 (0,0) h⟩
def aq.fill{w b i a l m c e d f}(h:aq w b i l m d):aq ((((w.setCell (A_ b 0) (.bool a)).setCell (A_ b 1) c).setCell (A_ b 2) e).setCell (A_ b 3) (I_ f)) b a c e f:=by have j:=hs_ w b 0 _ 227 (.bool a) h;have k:=hs_ _ b 1 _ 227 c j;have g:=hs_ _ b 2 _ 227 e k;exact hs_ _ b 3 _ 227 (I_ f) g
section
variable {P:Program} {ops:Array Oper} {Q:Exit->Act->World->Prop} {md:Region.Mode} {S:World->Prop} {stop:Nat}
def Zf{f:Oper}{v:Value}{d:Nat}{b:Array Bool}{a g:Act}{w:World}(i:Nat)(h:Dg P md ops Q S stop d (b.setIfInBounds i true) g w)(j:ops.toList[i]? =some f:=by rfl)(hs:Region.noSelect ops=true:=by kernel_rfl)(hf:Region.free md ops b i=true:=by kernel_rfl)(hr:(Region.ready md ops b).contains i=true:=by kernel_rfl)(hstop:(ZeD md ops b i).contains stop=true:=by kernel_rfl)(hL:iu md ops b i (ZeD md ops b i)=true:=by kernel_rfl)(hg:Region.wanted f (yielded ops a.tmps)=true:=by rfl)(hS:S w:=by assumption)(y:∀w,S w->(execOp a.eval f).run P w=.ok (.value v) w:=by intro w e;(first|obtain⟨_,_,_,_,_,_,_,_⟩:=e|obtain⟨_,_,_,_,_,_⟩:=e);go_simp;try with_reducible rfl)(ha:a.put f.dst v=g:=by(try simp only[Act.put,List.setIfInBounds_toArray,List.set_cons_succ,List.set_cons_zero]);exact rfl)
  (hQ:∀c a w,Q (.panic c) (a.put f.dst v) w->Q (.panic c) a w:=by exact λ_ _ _ h=>h):Dg P md ops Q S stop (d+1) b a w:=Kh _ j hs hf hr hstop hL hQ (Or.inl ⟨hg,y⟩) hS (ha ▸ h)
end
def ZjR:(Tryz.prog.info? 227).map (λi=>(i.zero,i.size,i.bytes))=some (some (.agg #[.bool false,.slice none 0 0,.slice none 0 0,I_ 0]),4,64):=k_
def xz p b r:∀i,(ng p b r i).length<=i
 |0=>by simp[ng]
 |i+1=>by have:=xz p b r i;simp only[ng,Qe,exC];split<;>simp<;>omega
def Zep p b M:∀r,(Uq p b M r).length<=r*M
 |0=>by simp[Uq]
 |r+1=>by have:=Zep p b M r;have:=xz p b r M;simp only[Uq,Qe,Nat.add_mul];omega
def Zan(w w':World)(yb n:Nat)(D:Zh):Prop:=∃vF vB vC vX kvs bvs cvs X,RfX w' w.heap.size yb n vF vB vC vX kvs bvs cvs D.ks (D.bs.map BS.fs) (D.bs.map BS.N) X/\X.Perm D.xs/\Fp X
structure MaI(w wr:World)(fk fc n m)(bins)(size budget k)(L)(E)(vF vb vo)(kvs)(bbs):Prop where
 my:rg wr w.heap.size (w.heap.size+1+1) (w.heap.size+1) n vF Cz Cz Cz vb vo kvs bbs (Eb (Ou m E) (Ih m L E) k) ((Ih m L E).take k) ((List.range k).map (De (Gh (Ou m E) (Ih m L E) (m+1))))
 cf:CfB wr w.heap.size fk (m+1) fc bins size budget
 lo:E_ w wr
def Zf3(fk fc n c m A l:Nat) a s wd sc ct L E w (hF:Dd w fk 0 (m+1) wd sc ct)(hR:Sn w a n (m+1) L)(fY:Yj L)(hn:n<=200)(hm:m+1<=4)(kU:l<=20)(hs:2<=A)(k3:A<=32)(iQ:2<=s)(jC:s<=16)(jL:∀i,i<m+1->wd i=true->1<=ct i)(hE:∀i,E i=Ck Mb (wd i) (ct i) s A (Bn L i) (Fr L))(jD:∀i,i<m+1->Ol (E i)/\(E i).wd=wd i/\(E i).cnt<=16):C_ 179 #[.agg #[.slice (some ⟨fk,0,none⟩) (m+1) fc,.int .i64 s,.int .i64 A,.int .i64 l],.slice a n c] w λe w'=>∃yb,e=.returned (.pointer (some ⟨yb,0,none⟩))/\Zan w w' yb n (Ao m n l (Ou m E) (Ih m L E))/\Below w.heap.size w w':=by
 have HF:Hid (Dd w fk 0 (m+1) wd sc ct):=hF;have HR:Hid (Sn w a n (m+1) L):=hR;have jN:Hid (Yj L):=fY;have HE:Hid ((∀i,E i=Ck Mb (wd i) (ct i) s A (Bn L i) (Fr L))/\(∀i,i<m+1->Ol (E i)/\(E i).wd=wd i/\(E i).cnt<=16)/\∀i,i<m+1->wd i=true->1<=ct i):=⟨hE,jD,jL⟩;have i9:L.length=n:=hR.1;have bH:Hid (L.length=n):=i9;obtain⟨w3,bZ⟩:=ex_ (((w.alloc (.cells #[L_ fk (m+1) fc,I_ s,I_ A,I_ l] 37)).alloc (.cells #[I_ n,Cz,Cz,Cz,Cz] 142)).alloc (.cells #[P_ (w.heap.size+1),Cz,Cz] 331))
 have iG:Hid (MaI w w3 fk fc n m s A l 0 L E Cz Cz Cz [] []):=by
  have hb:E_ w w3:=(by rw[bZ];exact(bA_.alloc s_ _).alloc t_ _);refine⟨⟨?_,?_,dx.nil _ _,Mg.nil _ _,Ag.nil _ _,λi O=>by simp at O,λi O=>by simp[Eb] at O⟩,?_,hb⟩
  ·rw[bZ];have e:=ha_ ((w.alloc (.cells #[L_ fk (m+1) fc,I_ s,I_ A,I_ l] 37)).alloc (.cells #[I_ (n:Nat),Cz,Cz,Cz,Cz] 142)) (.cells #[P_ (w.heap.size+1),Cz,Cz] 331)
   simpa [MaB] using e
  rw[bZ];exact(hc_ s_).trans (by have e:=ha_ (w.alloc (.cells #[L_ fk (m+1) fc,I_ s,I_ A,I_ l] 37)) (.cells #[I_ (n:Nat),Cz,Cz,Cz,Cz] 142);simpa [Ty] using e);rw[bZ];exact((hc_ t_).trans (hc_ s_)).trans hn_
 have jF:Hid (w3=_):=bZ;obtain⟨M,hM⟩:=ex_ (m+1);have aL:Hid (M=m+1):=hM;have l2:M<=4:=o_;clear hF hR fY hE jD jL bZ i9;go_enter Tryz.func179,Tryz.ntmps179;go_upto_region 3 with fail;rw[<- jF];clear jF;rw[<- hM];clear hM;go_loopw [6] (λt6 wr=>∃(k:Nat) (vF vb vo:Value) (U:List (Value×Value)) (V:List Value),t6=.int .i64 k/\k<=M/\Hid (MaI w wr fk fc n m s A l k L E vF vb vo U V)) (λt6 _=>M-(intOf t6).toNat)
 case atStart=>exact⟨0,Cz,Cz,Cz,[],[],rfl,qg_,iG⟩
 case round=>
  clear iG;obtain⟨k,vF,vb,vo,U,V,rfl,hk,HI⟩:=hrel;obtain⟨y0,y1,y2,y3⟩:=HI.cf.cells;rw[<- aL] at y0;have b9:=HI.lo;have cY:=b9.size
  by_cases hkM:k<M
  ·have Z:k<m+1:=(by have:=aL.out;omega);have g1:k<(M:Int):=o_;have g0:0<=(k:Int):=o_;have j2:=HF.lt o_;have f0:wr.cell? (A_ fk (k*3))=some (.bool (wd k)):=(b9.cell (p:=(A_ fk _)) j2).trans (by have:=HF.c0 k Z;rwa [Nat.zero_add] at this);have f2:wr.cell? (A_ fk (k*3+2))=some (I_ (ct k)):=(b9.cell (p:=(A_ fk _)) j2).trans (by have:=HF.c2 k Z;rwa [Nat.zero_add] at this);have hI:=zn a n (m+1) c k A s l (some ⟨fk,0,none⟩) (m+1) fc L wr (HR.below b9) Z jN hn hs k3 iQ jC;rw[<- aL] at hI;have aV:=HI.cf;have cG:w.heap.size<wr.heap.size:=(Qb aV).1;obtain⟨Y,gA⟩:=ex_ wr;subst gA;clear aV;go_wp2_with fail
   refine hI.mono ?_;rintro e w1 ⟨av,cb,rfl,i7,dF⟩;have i1:=dF.size;obtain⟨y,hy⟩:=ex_ (w1.alloc (.cells #[.bool false,.slice av (Co (Bn L k) (Fr L) s A).length cb,Cz,I_ 0] 227));have cZ:E_ w1 y:=(by rw[hy];exact bA_);have P:E_ Y y:=dF.trans (cZ.mono i1);have bN:Hid (aq y w1.heap.size false (.slice av (Co (Bn L k) (Fr L) s A).length cb) Cz 0/\Ag y Y.heap.size (.slice av (Co (Bn L k) (Fr L) s A).length cb) (Co (Bn L k) (Fr L) s A)):=⟨by rw[hy];exact hn_,i7.below cZ⟩;have HY:Hid (y=w1.alloc (.cells #[.bool false,.slice av (Co (Bn L k) (Fr L) s A).length cb,Cz,I_ 0] 227)):=hy;have iY:=HE.1 k;obtain⟨aD,aI,kZ⟩:=HE.2.1 k Z;have jZ:Hid (wd k=true->1<=ct k):=HE.2.2 k Z
   have cC:Hid (E k=Ck Mb (wd k) (ct k) s A (Bn L k) (Fr L)):=iY;clear hy hI i7 dF iY;have z0:=Ac P y0;have z1:=Ac P y1;have z2:=Ac P y2;have z3:=Ac P y3;have z4:=Ac P f0;go_upto_region 6 with fail;rw[<- HY];clear HY;go_upto_if 40 with fail
   go_cut [7] (λt wx=>t=.pointer (some ⟨w1.heap.size,0,none⟩)/\∃vb' vw,Hid (aq wx w1.heap.size (E k).wd vb' vw 0/\Ag wx Y.heap.size vb' (E k).bs/\Cc wx Y.heap.size vw (E k).ww/\E_ Y wx))
   case first=>
    cases hw:wd k with
    | false=>
     rw[hw] at z4 f0;have bB:Hid (aq y w1.heap.size (E k).wd (.slice av (Co (Bn L k) (Fr L) s A).length cb) Cz 0/\Ag y Y.heap.size (.slice av (Co (Bn L k) (Fr L) s A).length cb) (E k).bs/\Cc y Y.heap.size Cz (E k).ww/\E_ Y y):=(by have e:E k=⟨false,Co (Bn L k) (Fr L) s A,[]⟩:=(by rw[cC,hw];rfl);rw[e];exact⟨bN.1,bN.2,Cc.nil _ _,P⟩);clear bN cZ P cC;go_wp2;go_meet
     exact⟨rfl,_,_,bB⟩
    | true=>
     rw[hw] at z4 f0;have gT:=Zdy a n (m+1) c k s A l (ct k) fk fc L y (HR.below (b9.trans (P.mono cY))) Z jN hn iQ jC (Ac P f2) (jZ hw);rw[<- aL] at gT;have he:E k=Mb (Bn L k) (Fr L) (ct k) s:=(by rw[cC,hw];rfl);have jT:Hid (E k=Mb (Bn L k) (Fr L) (ct k) s):=he;clear he;go_wp2_with fail
     refine gT.mono ?_;rintro e w4 ⟨ad,cd,rfl,jP,gL⟩;have gV:aq w4 w1.heap.size false (.slice av (Co (Bn L k) (Fr L) s A).length cb) Cz 0:=(gL.block _ bN.1.cells.2.2).trans bN.1;obtain⟨⟨q0,q1,q2,q3⟩,dL,_⟩:=gV.cells;have p0:=dL 0;have p1:=dL 1;have p2:=dL 2;have p3:=dL 3;have bB:Hid (aq w4 w1.heap.size false (.slice av (Co (Bn L k) (Fr L) s A).length cb) Cz 0/\Cc w4 Y.heap.size (.slice ad (Mb (Bn L k) (Fr L) (ct k) s).ww.length cd) (Mb (Bn L k) (Fr L) (ct k) s).ww/\E_ Y w4):=⟨gV,jP.monoW P.size,P.trans (gL.mono P.size)⟩;clear dL gV jP gL bN gT cZ P z0 z1 z2 z3 z4;generalize (Co (Bn L k) (Fr L) s A).length=nl at *;generalize hgw:(Mb (Bn L k) (Fr L) (ct k) s).ww.length=nw at *;go_wp2;go_meet
     have tt:=Aa.set4 w4 w1.heap.size (.bool true) Cz (.slice ad nw cd) (I_ 0);refine⟨rfl,Cz,.slice ad nw cd,?_⟩;rw[jT];exact⟨bB.1.fill,Ag.nil _ _,tt.row bB.2.1 (λk hk e=>Au bB.2.1 hk bB.1 d_ e),bB.2.2.trans (tt.to_below bB.2.2.size (λk hk=>o_))⟩
   case rest=>
   obtain⟨rfl,l7,l9,HC⟩:=hcut;obtain⟨fb,hY⟩:=ex_ w1.heap.size;rw[<- hY] at HC ⊢;have jI:Y.heap.size<=fb:=(by rw[hY];exact i1);clear hY;obtain⟨j4,jA,iT,gM⟩:=HC.out;obtain⟨ab,F,rfl⟩:=jA.shape;obtain⟨aw,cw,rfl⟩:=iT.form;have kQ:=HI.my.below gM;obtain⟨⟨s0,s1,s2,s3⟩,_,iE⟩:=j4.cells;have aH:Hid (aq wc fb (E k).wd (.slice ab (E k).bs.length F) (.slice aw (E k).ww.length cw) 0/\Ag wc Y.heap.size (.slice ab (E k).bs.length F) (E k).bs/\Cc wc Y.heap.size (.slice aw (E k).ww.length cw) (E k).ww/\E_ Y wc):=HC.out;have gB:E_ w wc:=b9.trans (gM.mono cY);have kK:Hid (E_ w wc):=gB
   have bG:Hid (od ⟨E k,0⟩):=(by have:=aD.lb;have:=aD.lw;refine⟨a_,a_,λe=>?_,λe=>?_⟩;have e2:wd k=true:=aI ▸ e;rw[cC];unfold Ck;rw[e2,if_pos rfl];rfl;have e2:wd k=false:=aI ▸ e;rw[cC];unfold Ck;rw[e2,if_neg d_]);clear aI;have aZ:∀W v,E_ wc W->C_ 239 #[.agg #[.bool (E k).wd,.slice ab (E k).bs.length F,.slice aw (E k).ww.length cw,.int .i64 0],.agg #[.bool v.miss,.int .i64 v.num,.string v.word]] W λz w'=>z=.returned (.int .i64 (Dy (E k) v:Nat))/\E_ W w':=λW v hW=>Ziu Y.heap.size _ _ 0 (E k) v W (aH.2.1.below hW) (aH.2.2.1.below hW) aD bG.2.2.1 bG.2.2.2;have g2:Hid _:=aZ;have kL:=Ko n o_;have cW:=Nu (λr=>((Dy (E k) ((L.getD r Sf).2.getD k Ax):Nat):Int)) n
   have cJ:Hid (Eu (λr=>(Dy (E k) ((L.getD r Sf).2.getD k Ax):Nat)) n n=Av (Mr L E k)):=(by show _=_;rw[Nt];apply List.ext_getElem;simp[Av,Lt,bH.out];intro r h1 h2;have hr:r<L.length:=(by simp at h1;have:=bH.out;omega);have:=Zhc (E:=E) (i:=k) hr;simp only[List.getElem_map,List.getElem_range,Av];rw[<- this];simp[List.getD,show r<(Mr L E k).length by rw[Lt];exact hr]);clear HC j4 jA iT gM aZ y cZ P bN y0 y1 y2 y3 f0 f2 z0 z1 z2 z3 z4;go_wp2_with fail
   go_loopw [9] (λt9 wr=>∃r:Nat,t9=.int .i64 r/\r<=n/\Hid (Ag wr wc.heap.size (.slice (some ⟨wc.heap.size,0,none⟩) n n) (Eu (λr=>((Dy (E k) ((L.getD r Sf).2.getD k Ax):Nat):Int)) n r))/\Hid (E_ wc wr)) (λt9 _=>n-(intOf t9).toNat)
   case atStart=>
    refine⟨0,rfl,qg_,?_,bA_⟩;rw[cW];exact Kn n wc wc.heap.size o_ qa_
   case round=>
    clear kL cW;obtain⟨r,rfl,h8,HO,HB⟩:=hrel
    by_cases hin:r<n
    ·rcases(HR.below gB).2 with h0|⟨q,rfl,hq⟩
     omega;obtain⟨_,g,cc,a1,_,hC⟩:=hq r hin;obtain⟨a2,a3,a4⟩:=hC k Z;have hB:=HB.out;have jE:Hid (n=(Eu (λr=>(Dy (E k) ((L.getD r Sf).2.getD k Ax):Nat)) n r).length):=(Mz _ o_).symm;have iK:Hid ((Eu (λr=>(Dy (E k) ((L.getD r Sf).2.getD k Ax):Nat)) n r).set r (Dy (E k) ((L.getD r Sf).2.getD k Ax):Nat)=Eu (λr=>(Dy (E k) ((L.getD r Sf).2.getD k Ax):Nat)) n (r+1)):=Rk (λr=>((Dy (E k) ((L.getD r Sf).2.getD k Ax):Nat):Int)) hin;have gK:=λW hW=>g2 W ((L.getD r Sf).2.getD k Ax) hW;clear hq hC;generalize Dy (E k) ((L.getD r Sf).2.getD k Ax)=bx at *;generalize (L.getD r Sf).2.getD k Ax=x at *;obtain⟨xm,xn,xw⟩:=x;simp only at a2 a3 a4 gK
     generalize hoo:Eu (λr=>((Dy (E k) ((L.getD r Sf).2.getD k Ax):Nat):Int)) n r=out at *;clear hoo;generalize (E k).wd=ewd at *;generalize (E k).bs.length=enb at *;generalize (E k).ww.length=enw at *;have jX:Hid (∀W,E_ wc W->C_ 239 #[.agg #[.bool ewd,.slice ab enb F,.slice aw enw cw,.int .i64 0],.agg #[.bool xm,.int .i64 xn,.string xw]] W λz w'=>z=.returned (.int .i64 bx)/\E_ W w'):=gK;have b1:0<=(r:Int):=o_;have b2:r<(n:Int):=o_;have b4:k<((m+1:Nat):Int):=o_;have b5:k<(m:Int)+1:=o_;clear gK;go_upto_region 12 with fail
     refine Al (λw'=>w'.cell? (A_ fb 0)=some (.bool ewd)/\w'.cell? (A_ fb 1)=some (.slice ab enb F)/\w'.cell? (A_ fb 2)=some (.slice aw enw cw)/\w'.cell? (A_ fb 3)=some (I_ 0)/\w'.cell? (A_ q (r*2+1))=some (L_ g (m+1) cc)/\w'.cell? (A_ g (k*3))=some (.bool xm)/\w'.cell? (A_ g (k*3+1))=some (I_ xn)/\w'.cell? (A_ g (k*3+2))=some (.string xw)) 13 k_ ⟨Ac hB s0,Ac hB s1,Ac hB s2,Ac hB s3,Ac hB a1,Ac hB a2,Ac hB a3,Ac hB a4⟩ (λhHeld=>?_);refine Zf 0 ?_;refine Zf 1 ?_;refine Zf 2 ?_;refine Zf 3 ?_;refine Zf 4 ?_;refine Zf 5 ?_;refine Zf 6 ?_;refine Zf 7 ?_;refine Zf 8 ?_;refine Zf 9 ?_;refine Zf 10 ?_;refine Af (i:=11) k_ rfl (λKK hK=>?_);go_simp;refine(jX _ hB.drew).mono ?_;rintro e w2 ⟨rfl,hN⟩
     have aO:E_ wc w2:=hB.drew.trans (hN.mono hB.size);have aM:=HO.below (bz_.drew.trans hN);obtain⟨x0,x1⟩:=Ag.cellK aM jE hin;have kA:Hid (Ag (w2.setCell (A_ wc.heap.size r) (I_ bx)) wc.heap.size (L_ wc.heap.size n n) (out.set r bx)):=(Ag.put aM jE (bx:Nat)).1;have kG:Hid (E_ wc w2):=aO;have t0:=Ac aO s0;have t1:=Ac aO s1;have t2:=Ac aO s2;have t3:=Ac aO s3;have t4:=Ac aO a1;have t5:=Ac aO a2;have t6:=Ac aO a3;have t7:=Ac aO a4;clear aM hN;go_simp;refine hK _ _ ⟨t0,t1,t2,t3,t4,t5,t6,t7⟩ (λhHeld=>?_);clear hK KK;try simp only[Act.put,tA,tB,tC]
     refine Zf 12 ?_;refine Ai (i:=13) k_ rfl k_ (λKK hK=>?_);go_simp;refine hK _ _ ?_;clear hK KK;try simp only[Act.put,tA,tB,tC]
     refine Ak k_ ?_ _;clear t0 t1 t2 t3 t4 t5 t6 t7 hHeld;go_wp2;go_roundw;case rel=>exact⟨r+1,g_,o_,by rw[<- iK];exact kA,kG.setCell qa_ _⟩
     case measure=>exact z_
    have b2:¬r<(n:Int):=o_;have hJ:Hid (Ag wr wc.heap.size (L_ wc.heap.size n n) (Av (Mr L E k))):=(by have:=HO.out;rw[show r=n by omega,cJ] at this;exact this);have hB:=HB.out;have bA:(Mr L E k).length=n:=(by rw[Lt];exact bH);obtain⟨S,h4⟩:=ex_ (Zm (E k) (Mr L E k));have j7:Hid (S=Zm (E k) (Mr L E k)):=h4;have i8:(Tz (Mr L E k) ((E k).bs.length+(E k).ww.length+2)).1=S:=(by have bF:=bG.many;simp only[KS.many] at bF;rw[h4,bF];unfold Zm;rw[Zkl _ o_];simp);have j1:=Nk ab aw (E k).bs.length (E k).ww.length F cw (E k).wd 0 wr bG.1 bG.2.1
    have iL:∀W,E_ wr W->C_ 240 #[.slice (some ⟨wc.heap.size,0,none⟩) n n,.int .i64 ((E k).bs.length+(E k).ww.length+2:Nat)] W λe w'=>e=.returned (.int .i64 S)/\w'=W:=λW hW=>by have:=ZbJ (some ⟨wc.heap.size,0,none⟩) n n ((E k).bs.length+(E k).ww.length+2) (Mr L E k) W ((hJ.below hW).mono qg_) bA hn (by have:=bG.many;simp only[KS.many] at this;omega);rw[i8] at this;exact this
    have j5:Hid _:=iL;have gE:Hid (aq wr fb (E k).wd (.slice ab (E k).bs.length F) (.slice aw (E k).ww.length cw) 0):=(hB.block _ iE).trans aH.1;have dW:Hid ((Mr L E k).length=n):=bA;have fZ:Hid (∀W,E_ wr W->E_ Y W):=λW hW=>(aH.2.2.2.trans (hB.mono aH.2.2.2.size)).trans (hW.mono (Nat.le_trans aH.2.2.2.size hB.size));have gF:Hid (∀W,E_ wr W->Ag W Y.heap.size (.slice ab (E k).bs.length F) (E k).bs/\Cc W Y.heap.size (.slice aw (E k).ww.length cw) (E k).ww):=λW hW=>⟨(aH.2.1.below hB).below hW,(aH.2.2.1.below hB).below hW⟩;have t0:=Ac hB s0;have t1:=Ac hB s1;have t2:=Ac hB s2;have t3:=Ac hB s3;obtain⟨wl,kR⟩:=ex_ wr;subst kR;clear iL h4 i8 HO g2;go_wp2_with fail
    refine j1.mono ?_;rintro e w2 ⟨rfl,H⟩;go_wp2_with fail
    refine(j5 _ H).mono ?_;rintro e l3 ⟨rfl,iV⟩;obtain rfl:=iV.symm;have bI:aq w2 fb (E k).wd (.slice ab (E k).bs.length F) (.slice aw (E k).ww.length cw) 0:=(H.block _ gE.cells.2.2).trans gE;have q3:=bI.cells.1.2.2.2;have p3:=bI.cells.2.1 3;obtain⟨w6,bY⟩:=ex_ (w2.setCell (A_ fb 3) (I_ S));have gN:aq w6 fb (E k).wd (.slice ab (E k).bs.length F) (.slice aw (E k).ww.length cw) S:=by rw[bY];exact hs_ _ fb 3 _ 227 _ bI
    have hP:Hid (Ag w6 wc.heap.size (L_ wc.heap.size n n) (Av (Mr L E k))):=(by show Ag _ _ _ _;rw[bY];exact As (hJ.below H) bI d_);have hU:Hid (E_ Y w6):=(by show Below _ _ _;rw[bY];exact(fZ _ H).setCell jI _);have bQ:Hid (Ag w6 Y.heap.size (.slice ab (E k).bs.length F) (E k).bs/\Cc w6 Y.heap.size (.slice aw (E k).ww.length cw) (E k).ww):=by rw[bY];exact⟨As (gF _ H).1 bI d_,As (gF _ H).2 bI d_⟩
    have gX:Hid (aq w6 fb (E k).wd (.slice ab (E k).bs.length F) (.slice aw (E k).ww.length cw) S):=gN;obtain⟨⟨u0,u1,u2,u3⟩,_,_⟩:=gN.cells;have iA:Hid (w6=w2.setCell (A_ fb 3) (I_ S)):=bY;clear iV j1 H bI gN bY t0 t1 t2 t3 j5 gE hJ HB hB fZ gF;go_upto_region 16 with fail;rw[<- iA];clear iA;go_loopw [10,11] (λdR t11 wz=>∃(r d:Nat),t11=.int .i64 r/\r<=n/\dR=.int .i64 (Dj ((Dc (Mr L E k) S).take r):Nat)/\wz=w6.drewN d) (λ_ t11 _=>n-(intOf t11).toNat)
    case atStart=>exact⟨0,0,rfl,qg_,rfl,rfl⟩
    case round=>
     obtain⟨r2,d2,rfl,lC,rfl,kJ⟩:=hrel;subst kJ
     by_cases hin2:r2<n
     ·obtain⟨q9,e9,_,_,c9,_⟩:=hP.atK (by rw[Aw];exact dW) hin2;injection e9 with e9;injection e9 with e9;subst e9;rw[Cv] at c9;have gS:r2<(Dc (Mr L E k) S).length:=(by simp[Dc];rw[dW];exact hin2);have gQ:=My ((Dc (Mr L E k) S).take r2) ((Dc (Mr L E k) S).getD r2 false);rw[<- Oe _ gS,show(Dc (Mr L E k) S).getD r2 false=decide ((Mr L E k).getD r2 0≠S) by simp[Dc,List.getD,show r2<(Mr L E k).length by rw[dW];exact hin2]] at gQ;have lA:Dj ((Dc (Mr L E k) S).take r2)<=r2:=(by have:=Rj ((Dc (Mr L E k) S).take r2);rw[List.length_take] at this;omega);have i4:Hid _:=gQ;clear gQ;generalize (Mr L E k).getD r2 0=x at *;generalize Dj ((Dc (Mr L E k) S).take r2)=cr at *;have b3:0<=(r2:Int):=o_
      have b4:r2<(n:Int):=o_
      by_cases hx:x=S
      ·have HD:Hid (Dj ((Dc (Mr L E k) S).take (r2+1))=cr):=(by show _=_;rw[i4];simp[hx]);have e1:(x==(S:Int))=true:=beq_iff_eq.2 o_;have e2:(x !=(S:Int))=false:=(by simp[bne,e1]);clear hx;go_upto_region 18 with fail;go_quiet (fail);go_wp2;go_roundw;case rel=>exact⟨r2+1,_,g_,o_,by rw[HD],by first|rfl|simp⟩
       case measure=>exact z_
      have HD:Hid (Dj ((Dc (Mr L E k) S).take (r2+1))=cr+1):=(by show _=_;rw[i4];simp[hx]);have e1:(x==(S:Int))=false:=beq_eq_false_iff_ne.2 o_;have e2:(x !=(S:Int))=true:=(by simp[bne,e1]);go_upto_region 18 with fail;go_quiet (fail);go_wp2;go_roundw;case rel=>exact⟨r2+1,_,g_,o_,by rw[HD];go_num,by first|rfl|simp⟩
      case measure=>exact z_
     have b3:¬r2<(n:Int):=o_;have hz:Dj ((Dc (Mr L E k) S).take r2)=De (Gh (Ou m E) (Ih m L E) (m+1)) k:=(by rw[List.take_of_length_le (by simp[Dc];rw[dW];omega)];unfold De;rw[Lg _ _ Z];unfold oF;rw[bv Z,Uh Z,<- j7]);rw[hz];have l6:De (Gh (Ou m E) (Ih m L E) (m+1)) k<=200:=by rw[<- hz];have:=Rj ((Dc (Mr L E k) S).take r2);rw[List.length_take] at this;omega
     clear hz;generalize hzz:De (Gh (Ou m E) (Ih m L E) (m+1)) k=z at *;have kN:Hid (De (Gh (Ou m E) (Ih m L E) (m+1)) k=z):=hzz;clear hzz;obtain⟨w7,h6⟩:=ex_ (w6.drewN d2);rw[<- h6];have aG:E_ w6 w7:=(by rw[h6];exact below_drewN bz_ _);have bW:E_ Y w7:=hU.trans (aG.mono hU.size);have c4:=HI.my.below bW;have gW:Hid (rg w7 w.heap.size (w.heap.size+1+1) (w.heap.size+1) n vF Cz Cz Cz vb vo U V (Eb (Ou m E) (Ih m L E) k) ((Ih m L E).take k) ((List.range k).map (De (Gh (Ou m E) (Ih m L E) (m+1))))):=c4;have x0:=cR_ 0 c4.blk;obtain⟨aF,cF,jJ⟩:=c4.fe.row.shape;rw[c4.fe.zlen,Dh] at jJ;subst jJ;have x1:=cR_ 1 c4.ds;have v0:=Ac aG u0;have v1:=Ac aG u1;have v2:=Ac aG u2;have v3:=Ac aG u3
     have iO:Hid (∀x,(Value.slice aF k cF).ownBlock=some x->x<Y.heap.size):=λx hx=>(rl_ HI.my.fe.row.row x hx).2;have g3:Hid (aq w7 fb (E k).wd (.slice ab (E k).bs.length F) (.slice aw (E k).ww.length cw) S):=(aG.block _ gX.cells.2.2).trans gX;have b7:Hid (CfB w7 w.heap.size fk (m+1) fc s A l):=(bW.block _ cG).trans HI.cf;have d5:Hid (Ag w7 w.heap.size (.slice ab (E k).bs.length F) (E k).bs/\Cc w7 w.heap.size (.slice aw (E k).ww.length cw) (E k).ww):=⟨(bQ.1.below aG).mono cY,(bQ.2.below aG).monoW cY⟩;have gY:Hid (Ag w7 w.heap.size (L_ wc.heap.size n n) (Av (Mr L E k))):=(hP.below aG).mono (by have:=kK.size;exact this)
     have dY:∀u v:Value,(∀x,u.ownBlock=some x->x<Y.heap.size)->(∀x,v.ownBlock=some x->Y.heap.size<=x)->Ch u v:=λu v hu hv=>by
      cases hk2:u.ownBlock with
      |none=>exact .inl hk2
      | some x=>
       cases hk3:v.ownBlock with
       |none=>exact .inr (.inl hk3)
       |some x'=>exact .inr (.inr (by rw[hk2,hk3];have:=hu x hk2;have:=hv x' hk3;simp;omega))
     have gR:Hid (Ch vo (.slice ab (E k).bs.length F)/\Ch vo (L_ wc.heap.size n n)/\∀i,i<((Ih m L E).take k).length->Ch (V.getD i Cz) (L_ wc.heap.size n n)):=by
      have hq:∀x,(L_ wc.heap.size n n).ownBlock=some x->Y.heap.size<=x:=λx hx=>by simp[Value.ownBlock] at hx;rw[<- hx];exact aH.2.2.2.size
      have ho:=λx hx=>(rl_ HI.my.ou x hx).2;exact⟨dY _ _ ho (λx hx=>(rl_ bQ.1 x hx).1),dY _ _ ho hq,λi O=>dY _ _ (λx hx=>(rl_ (HI.my.bb.each i (by rw[List.length_map];exact O)) x hx).2) hq⟩
     have gC:Hid (E_ w w7):=b9.trans (bW.mono cY);have jS:Hid (kF (Ou m E) (Ih m L E) k=⟨E k,S⟩):=(by show _=_;unfold kF;rw[bv Z,Uh Z,j7]);obtain⟨i0,iF,kD,kV,kC⟩:=info_parts ZjR;clear c4 aG bW h6 dY hP hU bQ gX u0 u1 u2 u3 HI aH bG cC aD kQ s0 s1 s2 s3 gB;generalize hwe:(E k).wd=ewd at *;have kE:Hid ((E k).wd=ewd):=hwe;generalize gG:(E k).bs.length=enb at *;generalize hlw:(E k).ww.length=enw at *;clear gG hlw hwe;obtain⟨W1,a9⟩:=ex_ ((w7.alloc (.cells #[.bool ewd,.slice ab enb F,.slice aw enw cw,I_ S] 227)).drew);have aC:E_ w7 W1:=(by rw[a9];exact bA_.drew);have hS:=gW.below aC
     have iW:W1.ownsRow w.heap.size 227 4 (.slice aF k cF) k ((List.zipWith Cf (Eb (Ou m E) (Ih m L E) k) U).flatten):=(by have:=hS.fe.row.row;rw[hS.fe.zlen,Dh] at this;exact this);have dB:Hid (W1.ownsRow w.heap.size 227 4 (.slice aF k cF) k ((List.zipWith Cf (Eb (Ou m E) (Ih m L E) k) U).flatten)):=iW;have aU:∀j u,[Value.bool ewd,.slice ab enb F,.slice aw enw cw,I_ S][j]? =some u->W1.cell? (((A_ w7.heap.size 0):Addr).add j)=some u:=by rw[a9];exact Am w7 #[.bool ewd,.slice ab enb F,.slice aw enw cw,I_ (S:Nat)] 227
     have aY:Hid _:=aU;have cA:w.heap.size<=W1.heap.size:=Nat.le_trans gC.size aC.size;have T:Hid (W1=(w7.alloc (.cells #[.bool ewd,.slice ab enb F,.slice aw enw cw,I_ S] 227)).drew/\E_ w7 W1):=⟨a9,aC⟩;clear aU iW hS a9 aC;go_upto_region 20 with fail;refine Al (λw'=>w'.cell? (A_ (w.heap.size+1+1) 0)=some (P_ (w.heap.size+1))/\w'.cell? (A_ (w.heap.size+1) 1)=some (.slice aF k cF)/\w'.cell? (A_ fb 0)=some (.bool ewd)/\w'.cell? (A_ fb 1)=some (.slice ab enb F)/\w'.cell? (A_ fb 2)=some (.slice aw enw cw)/\w'.cell? (A_ fb 3)=some (I_ (S:Nat))) 16 k_ ⟨x0,x1,v0,v1,v2,v3⟩ (λhHeld=>?_);refine Zf 0 ?_;refine Zf 1 ?_;refine Zf 2 ?_;refine Zf 3 ?_;refine Zf 4 ?_;refine Zf 5 ?_;refine Zf 6 ?_;refine Zf 7 ?_;refine Zf 8 ?_;refine Zf 9 ?_;refine Zf 10 ?_
     refine Zf 11 ?_;refine Af (i:=12) k_ rfl (λKK hK=>?_);go_simp;refine hK _ _ ⟨Ac bA_ x0,Ac bA_ x1,Ac bA_ v0,Ac bA_ v1,Ac bA_ v2,Ac bA_ v3⟩ (λhHeld=>?_);clear hK KK;try simp only[Act.put,tA,tB,tC]
     refine Af (i:=13) k_ rfl (λKK hK=>?_);rw[<- T.1];refine Az rfl (.tmp 97) (.tmp 99) 139 rfl w.heap.size 227 i0 (.agg #[.bool false,.slice none 0 0,.slice none 0 0,I_ 0]) 4 64 Tryz.underlying139 iF kD kV kC rfl d_ (.slice aF k cF) k ((List.zipWith Cf (Eb (Ou m E) (Ih m L E) k) U).flatten) j_ dB (A_ w7.heap.size 0) 1 1 [.bool ewd,.slice ab enb F,.slice aw enw cw,I_ (S:Nat)] j_ rfl aY ?_ d_ m_ o_ cA ?_
     ·intro u hu;simp at hu;rcases hu with rfl|rfl|rfl|rfl<;>rfl
     intro v9 w9 H9;obtain⟨r9,g9,d9,_,q9,p9,jV⟩:=H9;have iR:=gW.below T.2
     obtain⟨gH,bU,fU⟩:=iR.feat (k:=⟨E k,S⟩) (u:=(.slice ab enb F,.slice aw enw cw)) (vF':=v9) (d5.1.below T.2) (d5.2.below T.2) gR.1 g9 (by
      have e:Cf ⟨E k,S⟩ (.slice ab enb F,.slice aw enw cw)=[.bool ewd,.slice ab enb F,.slice aw enw cw,I_ S]:=(by unfold Cf;rw[kE]);rw[Dh,e]
      exact r9)
     rw[<- jS,<- Za8] at gH;have t9:Aa (λx=>(Value.slice aF k cF).ownBlock=some x) W1 w9:=(Aa.refl _ _).grown g9 (λx hx _=>hx);have fV:E_ w w9:=gC.trans ((T.2.mono gC.size).trans (t9.to_below cA (λx hx=>(rl_ dB x hx).1)));have cP:Hid (rg (w9.setCell (A_ (w.heap.size+1) 1) v9) w.heap.size (w.heap.size+1+1) (w.heap.size+1) n v9 Cz Cz Cz vb vo (U++[(.slice ab enb F,.slice aw enw cw)]) V (Eb (Ou m E) (Ih m L E) (k+1)) ((Ih m L E).take k) ((List.range k).map (De (Gh (Ou m E) (Ih m L E) (m+1))))):=gH;have jK:aq w9 fb ewd (.slice ab enb F) (.slice aw enw cw) S:=t9.at_ ((T.2.block _ g3.cells.2.2).trans g3) (λe=>by have:=iO _ e;omega)
     have fQ:Hid (CfB w9 w.heap.size fk (m+1) fc s A l):=t9.at_ ((T.2.block _ (Qb b7).1).trans b7) (λe=>Au dB e ((T.2.block _ (Qb b7).1).trans b7) d_ rfl)
     have hQ:Hid (Ag w9 w.heap.size (L_ wc.heap.size n n) (Av (Mr L E k))):=t9.row (gY.below T.2) (λx hx e=>by
      obtain⟨c5,kS⟩:=Ad dB e
      exact Au (gY.below T.2) hx kS d_ rfl)
     have e0:=cR_ 0 fU;have e1:=cR_ 1 bU;have e2:=fq_ 1 _ 142 bU;obtain⟨⟨e3,e4,e5,e6⟩,_,_⟩:=jK.cells;have i3:Hid (E_ w w9):=fV;have j6:Hid (Ty w9 (w.heap.size+1) n (.slice aF k cF) Cz Cz Cz):=bU;subst jV;clear r9 g9 d9 iR gH bU fU t9 fV jK x0 x1 v0 v1 v2 v3 gW T dB aY g3 iO b7 gY d5;refine hK _ _ ⟨e0,e1,e3,e4,e5,e6⟩ (λhHeld=>?_);clear hK KK;try simp only[Act.put,tA,tB,tC]
     refine Zf 14 ?_;refine Zf 15 ?_;refine Ai (i:=16) k_ rfl k_ (λKK hK=>?_);go_simp;refine hK _ _ ?_;clear hK KK;try simp only[Act.put,tA,tB,tC]
     refine Ak k_ ?_ _;clear e0 e1 e2 e3 e4 e5 e6 hHeld;obtain⟨aT,bS⟩:=ex_ (w9.setCell (A_ (w.heap.size+1) 1) (L_ q9 (k+1) p9));rw[<- bS] at cP ⊢;have cS:Hid (E_ w aT):=(by show Below _ _ _;rw[bS];exact i3.setCell (Nat.le_succ _) _);have dR:Aa (λx=>x=w.heap.size+1) w9 aT:=(by rw[bS];exact(Aa.refl (λx=>x=w.heap.size+1) w9).setCell (p:=(A_ (w.heap.size+1) 1)) (λ_=>rfl) _);have fX:Hid (Ag aT w.heap.size (L_ wc.heap.size n n) (Av (Mr L E k))):=dR.row hQ (λx hx e=>Au hQ hx j6 d_ e);have cT:Hid (CfB aT w.heap.size fk (m+1) fc s A l):=dR.at_ fQ o_;have gG:=cP.bb.shape;obtain⟨a8,c8,dD⟩:=gG;rw[List.length_map,List.length_take,show(Ih m L E).length=m+1 by simp[Ih],Nat.min_eq_left o_] at dD
     subst dD;have x0:=cR_ 1 cP.blk;have iC:=cS.size;have cL:Hid (∀o,rg (aT.alloc o) w.heap.size (w.heap.size+1+1) (w.heap.size+1) n (L_ q9 (k+1) p9) Cz Cz Cz (.slice a8 k c8) vo (U++[(.slice ab enb F,.slice aw enw cw)]) V (Eb (Ou m E) (Ih m L E) (k+1)) ((Ih m L E).take k) ((List.range k).map (De (Gh (Ou m E) (Ih m L E) (m+1))))):=λo=>cP.below bA_
     have aQ:Hid (∀o,(aT.alloc o).ownsRow w.heap.size 25 1 (.slice a8 k c8) k V):=λo=>by have:=(cL o).bb.row;rw[List.length_map,List.length_take,show(Ih m L E).length=m+1 by simp[Ih],Nat.min_eq_left o_] at this;exact this
     obtain⟨j0,aS,dQ,cV,dG⟩:=info_parts cm;clear bS dR cP i3 hQ fQ j6;go_wp2_with (at_builtin;refine Ab rfl (.tmp 107) (.tmp 109) 84 rfl w.heap.size 25 j0 Cz 1 24 Tryz.underlying84 aS dQ cV dG rfl d_ (.slice a8 k c8) k V rfl (aQ _) (A_ aT.heap.size 0) 1 1 [L_ wc.heap.size n n] rfl rfl ?_ ?_ ?_ ?_ ?_ ?_ ?_)
     rfl;unfold maxLen;omega;omega;omega;intro hV bP kB;obtain⟨iZ,cH,jR,_,hL,h5,iM⟩:=kB;have hA:((Ih m L E).take k).length=k:=(by rw[List.length_take,show(Ih m L E).length=m+1 by simp[Ih],Nat.min_eq_left o_]);obtain⟨fG,aJ⟩:=(cL _).bins (vb':=hV) (B:=Mr L E k) (fX.alloc _) gR.2.2 gR.2.1 cH (by rw[hA];exact iZ);have fF:E_ w bP:=cS.trans ((bz_.alloc iC _).grown cH t_ (λx hx=>(rl_ (aQ (.cells #[] 25)) x hx).1))
     have dK:Hid (CfB bP w.heap.size fk (m+1) fc s A l):=by have hc:=cT.out;have d8:CfB (aT.alloc (.cells #[L_ wc.heap.size n n] 25)) w.heap.size fk (m+1) fc s A l:=(hc_ (Qb hc).1).trans hc;exact((Aa.refl (λx=>(Value.slice a8 k c8).ownBlock=some x) _).grown cH (λx hx _=>hx)).at_ d8 (λe=>Au (aQ _) e d8 d_ rfl)
     have aW:Hid (rg (bP.setCell (A_ (w.heap.size+1+1) 1) hV) w.heap.size (w.heap.size+1+1) (w.heap.size+1) n (L_ q9 (k+1) p9) Cz Cz Cz hV vo (U++[(.slice ab enb F,.slice aw enw cw)]) (V++[L_ wc.heap.size n n]) (Eb (Ou m E) (Ih m L E) (k+1)) ((Ih m L E).take (k+1)) ((List.range k).map (De (Gh (Ou m E) (Ih m L E) (m+1))))):=by have e:(Ih m L E).take (k+1)=(Ih m L E).take k++[Mr L E k]:=(by rw[Qi (by simp[Ih];omega)];congr 2;simp[Ih]);rw[e];exact fG
     have k1:=cR_ 1 aJ;have kO:=fq_ 1 _ 331 aJ;have fJ:Hid (E_ w bP):=fF;have jY:Hid (MaB bP (w.heap.size+1+1) (w.heap.size+1) (.slice a8 k c8) vo):=aJ;subst iM;clear iZ cH jR fG aJ fF cL aQ fX cT cS x0;go_upto_region 22 with fail;obtain⟨bX,bR⟩:=ex_ (bP.setCell (A_ (w.heap.size+1+1) 1) (L_ hL (k+1) h5));rw[<- bR] at aW ⊢;have cO:Hid (E_ w bX):=by show Below _ _ _;rw[bR];exact fJ.setCell (by show _<=w.heap.size+1+1;omega) _
     have bL:Hid (CfB bX w.heap.size fk (m+1) fc s A l):=by show CfB _ _ _ _ _ _ _ _;rw[bR];exact((Aa.refl (λx=>x=w.heap.size+1+1) bP).setCell (p:=(A_ (w.heap.size+1+1) 1)) (λ_=>rfl) _).at_ dK o_
     obtain⟨a6,c6,iU⟩:=aW.ou.shape;rw[Aw,List.length_map,List.length_range] at iU;subst iU;have x2:=cR_ 2 aW.blk;have iN:=cO.size;have gS:(Av ((List.range k).map (De (Gh (Ou m E) (Ih m L E) (m+1))))).length<=1000000000:=(by rw[Aw,List.length_map,List.length_range];omega);have cR:Hid (∀o,rg (bX.alloc o) w.heap.size (w.heap.size+1+1) (w.heap.size+1) n (L_ q9 (k+1) p9) Cz Cz Cz (L_ hL (k+1) h5) (.slice a6 k c6) (U++[(.slice ab enb F,.slice aw enw cw)]) (V++[L_ wc.heap.size n n]) (Eb (Ou m E) (Ih m L E) (k+1)) ((Ih m L E).take (k+1)) ((List.range k).map (De (Gh (Ou m E) (Ih m L E) (m+1))))):=λo=>aW.below bA_
     have bV:Hid (∀o,Ag (bX.alloc o) w.heap.size (.slice a6 k c6) (Av ((List.range k).map (De (Gh (Ou m E) (Ih m L E) (m+1)))))):=λo=>(cR o).ou;clear bR aW fJ dK jY k1 kO;go_wp2_with (at_builtin;refine Bu rfl (.tmp 117) (.tmp 119) rfl w.heap.size _ (Av ((List.range k).map (De (Gh (Ou m E) (Ih m L E) (m+1))))) (z:Nat) rfl (bV _) bX.heap.size 1 rfl ?_ ?_ ?_ ?_)
     ·simp[go_sem]
     exact gS;simp;omega;intro fC f9 k6;obtain⟨j8,dX,iD⟩:=k6
     obtain⟨fK,bD⟩:=(cR _).outm (vo':=fC) (z:=z) dX j8 (by
      rcases iD with e|e
      exact .inl e
      exact .inr (by simpa using e.1))
     have fH:Hid (MaI w (f9.setCell (A_ (w.heap.size+1+1) 2) fC) fk fc n m s A l (k+1) L E (L_ q9 (k+1) p9) (L_ hL (k+1) h5) fC (U++[(.slice ab enb F,.slice aw enw cw)]) (V++[L_ wc.heap.size n n])):=by
      have iB:E_ w f9:=cO.trans ((bz_.alloc iN _).grown dX t_ (λx hx=>(rl_ (bV (.cells #[] 3)) x hx).1));have d8:CfB (bX.alloc (.cells #[I_ z] 3)) w.heap.size fk (m+1) fc s A l:=(hc_ (Qb bL).1).trans bL;have jU:CfB f9 w.heap.size fk (m+1) fc s A l:=((Aa.refl (λx=>(Value.slice a6 k c6).ownBlock=some x) _).grown dX (λx hx _=>hx)).at_ d8 (λe=>Au (bV _) e d8 d_ rfl);refine⟨?_,((Aa.refl (λx=>x=w.heap.size+1+1) f9).setCell (p:=(A_ (w.heap.size+1+1) 2)) (λ_=>rfl) _).at_ jU o_,iB.setCell (by show _<=w.heap.size+1+1;omega) _⟩;rw[List.range_succ,List.map_append];simp only[List.map_cons,List.map_nil,kN.out];exact fK
     have l8:=cR_ 2 bD;have l1:=fq_ 2 _ 331 bD;clear j8 dX iD fK bD cR bV bL cO x2;obtain⟨l5,kY,iJ⟩:∃a c,fC=.slice a (k+1) c:=by obtain⟨a,c,e⟩:=fH.my.ou.shape;rw[Aw,List.length_map,List.length_range] at e;exact⟨a,c,e⟩
     subst iJ;go_wp2;go_roundw;case rel=>exact⟨k+1,_,_,_,_,_,g_,o_,fH⟩
     case measure=>exact z_
  have g1:¬k<(M:Int):=o_;have Z:k=m+1:=(by have:=aL.out;omega);obtain⟨I,cN⟩:=ey_ (Eb (Ou m E) (Ih m L E) (m+1));obtain⟨Os,f7⟩:=ey_ (Gh (Ou m E) (Ih m L E) (m+1));obtain⟨J,cM⟩:=ey_ (Ih m L E)
  have dA:∀i,i<m+1->I.getD i Ay=⟨E i,Zm (E i) (Mr L E i)⟩:=λi O=>by rw[<- cN,Fi _ _ O];unfold kF;rw[bv O,Uh O]
  have dE:∀i,i<m+1->J.getD i []=Mr L E i:=λi O=>by rw[<- cM];exact Uh O
  have cE:I.length=m+1:=(by rw[<- cN];exact Dh _ _ _);have bA:J.length=m+1:=by rw[<- cM];simp[Ih]
  have gI:∀i,i<m+1->Os.getD i []=Dc (Mr L E i) (Zm (E i) (Mr L E i)):=λi O=>by rw[<- f7,Lg _ _ O];unfold oF;rw[bv O,Uh O]
  have fR:∀i,i<m+1->od (I.getD i Ay):=λi O=>by rw[dA i O];obtain⟨aD,aI,_⟩:=HE.2.1 i O;refine⟨aD.lb,aD.lw,λe=>?_,λe=>?_⟩;have e2:wd i=true:=aI ▸ e;show(E i).bs=[];rw[HE.1];unfold Ck;rw[e2,if_pos rfl];rfl;have e2:wd i=false:=aI ▸ e;show(E i).ww=[];rw[HE.1];unfold Ck;rw[e2,if_neg d_]
  have bF:∀i,i<m+1->(I.getD i Ay).many<=18:=λi O=>by rw[dA i O];have:=(HE.2.1 i O).2.2;show(E i).cnt+2<=18;omega
  have aZ:∀i,i<m+1->∀r,(J.getD i []).getD r 0<(I.getD i Ay).many:=λi O r=>by
   rw[dA i O,dE i O]
   by_cases hr:r<L.length
   rw[Zhc hr];exact wi _ _;rw[Qc,List.getElem?_eq_none (by rw[Lt];omega)];show 0<(E i).cnt+2;omega
  have dU:∀i,i<m+1->(Os.getD i []).length=n:=λi O=>by rw[gI i O];simp[Dc,Lt,bH.out]
  have hO:∀r,r<n->∀g,g<I.length->(Os.getD g []).getD r false=sO I J g r:=λr hr g hg=>by rw[cE] at hg;unfold sO;rw[gI g hg,dE g hg,dA g hg];simp[Dc,List.getD,show r<(Mr L E g).length by rw[Lt,bH];exact hr]
  have hX:MkX wr w.heap.size (w.heap.size+1+1) (w.heap.size+1) n vF Cz Cz Cz vb vo U V I J ((List.range (m+1)).map (De Os)):=(by have:=HI.my;rw[Z,cN,f7,cM,List.take_of_length_le (by rw[bA];exact qa_)] at this;exact this.whole (by rw[bA,cE]) (λi O=>by rw[bA] at O;rw[dE i O,Lt];exact bH) (λi O=>by rw[cE] at O;exact fR i O));have cU:=Zix w.heap.size (w.heap.size+1+1) (w.heap.size+1) n m l vF Cz Cz vb vo U V I J Os wr hX cE hn hm kU (λi O=>by have:=bF i O;omega) dU hO;have R:=iv (l:=l) dU (I:=I) (λi O=>by have:=bF i O;omega);have gO:Hid (Ao m n l (Ou m E) (Ih m L E)=Ew Os J n I (Ha m I Os n l)):=by show _=_;unfold Ao;rw[cN,f7,cM]
  obtain⟨C,gJ⟩:=ey_ (Ha m I Os n l);have dI:Hid ((Fh C).Perm (List.range (m+1))/\(Fh C).Nodup):=(by rw[<- gJ];exact⟨Nd m I Os n l,Tq m I Os n l⟩);rw[gJ] at cU R gO;have HP:Hid ((∀i,i<m+1->(I.getD i Ay).many<=18)/\(∀i,i<m+1->∀r,(J.getD i []).getD r 0<(I.getD i Ay).many)/\(∀i,i<m+1->(Os.getD i []).length=n)/\(∀r,r<n->∀g,g<I.length->(Os.getD g []).getD r false=sO I J g r)/\I.length=m+1/\J.length=m+1/\(∀i,i<m+1->(J.getD i []).length=n)):=⟨bF,aZ,dU,hO,cE,bA,λi O=>by rw[dE i O,Lt];exact bH⟩;have HX:Hid (MkX wr w.heap.size (w.heap.size+1+1) (w.heap.size+1) n vF Cz Cz Cz vb vo U V I J ((List.range (m+1)).map (De Os))):=hX
  have bK:Hid ((∀G∈C,nh m n (m+1) I G)/\C.length<=m+1):=R;have cD:Hid (CfB wr w.heap.size fk (m+1) fc s A l/\E_ w wr):=⟨HI.cf,b9⟩;obtain⟨Y,gA⟩:=ex_ wr;subst gA;clear cN f7 cM dA dE gI fR bF aZ dU hO hX R gJ HI cE bA;go_wp2_with fail
  refine cU.mono ?_;rintro e w1 ⟨rfl,vB,h9,b8,dC,fA⟩;obtain⟨aB,cB,i6⟩:=dC.shape;rw[show((Dp C).map Av).length=C.length by simp[Dp]] at i6;subst i6;have f8:Hid (MkX w1 w.heap.size (w.heap.size+1+1) (w.heap.size+1) n vF (.slice aB C.length cB) Cz Cz vb vo U V I J ((List.range (m+1)).map (De Os))):=HX.dbw fA b8;have H1:Hid (Ty w1 (w.heap.size+1) n vF (.slice aB C.length cB) Cz Cz/\Mg w1 Y.heap.size (.slice aB C.length cB) h9 ((Dp C).map Av)/\Aa (λq=>q=w.heap.size+1) Y w1):=⟨b8,dC,fA⟩;have i2:Hid (CoI w1 w1 (w.heap.size+1) n vF (.slice aB C.length cB) Cz Cz [] (((Dp C).map (λfs=>He I J fs n)).take 0)):=⟨Aa.refl _ _,b8,Mg.nil _ _,b8.lt⟩;have l4:C.length<=4:=(by have:=bK.2;omega);have j9:Y.heap.size<=w1.heap.size:=fA.size
  clear b8 dC fA cU HX;go_wp2_with fail
  go_loopw [12] (λt12 wr=>∃(b:Nat) (vC:Value) (aE:List Value),t12=.int .i64 b/\b<=C.length/\Hid (CoI w1 wr (w.heap.size+1) n vF (.slice aB C.length cB) vC Cz aE (((Dp C).map (λfs=>He I J fs n)).take b))) (λt12 _=>C.length-(intOf t12).toNat)
  case atStart=>exact⟨0,Cz,[],rfl,qg_,i2⟩
  case round=>
   clear i2;obtain⟨b,vC,aE,rfl,hb,HC⟩:=hrel;have X:=f8.dbw HC.tch HC.ds;have x0:=cR_ 0 X.blk;have x2:=cR_ 2 X.ds;have aR:=H1.2.1.dbw H1.1 HC.tch
   by_cases aV:b<C.length
   ·have iH:b<((Dp C).map Av).length:=(by simp[Dp];exact aV);obtain⟨qB,l0,a5,kk,e,cb,_,ev,_,_⟩:=aR.at iH;have fB:((Dp C).map Av).getD b []=Av (C.getD b Fq).fs:=(by simp[Dp,List.getD,aV]);have hE:=aR.each b iH;rw[ev] at hE;rw[fB,Aw] at cb hE;rw[show((Dp C).map Av).length=C.length by simp[Dp]] at e;injection e with e1 _ e3;subst e1 e3;have bT:C.getD b Fq∈C:=(by simp[List.getD,aV]);have R:=bK.1 _ bT;have f6:∀f∈(C.getD b Fq).fs,f<m+1:=R.fs;have fW:=ZbF (w.heap.size+1+1) (w.heap.size+1) n kk a5 (C.getD b Fq).fs I J wr X.view (hE.nums rfl) (λf hf=>by rw[HP.2.2.2.2.1];exact f6 f hf) hn (by have:=R.len;omega) (λf hf r=>by have h1:=HP.1 f (f6 f hf);have h2:=HP.2.1 f (f6 f hf) r;exact⟨o_,o_⟩)
    have k8:Hid (((Dp C).map (λfs=>He I J fs n)).take (b+1)=((Dp C).map (λfs=>He I J fs n)).take b++[He I J (C.getD b Fq).fs n]):=(by show _=_;rw[Qi (by simp[Dp];exact aV)];congr 2;simp[Dp,List.getD,aV]);have cG:(((Dp C).map (λfs=>He I J fs n)).take b).length=b:=(by rw[List.length_take];simp[Dp];omega);have k9:(He I J (C.getD b Fq).fs n).length=n:=(by simp[He]);generalize He I J (C.getD b Fq).fs n=N at *;generalize (C.getD b Fq).fs.length=fl at *;generalize ((Dp C).map (λfs=>He I J fs n)).take b=Cs at *;have g5:b<(C.length:Int):=o_;have g6:0<=(b:Int):=o_;clear X aR hE fB ev R f6 bT;go_wp2_with fail
    refine fW.mono ?_;rintro e w2 ⟨v,rfl,aM,H⟩;obtain⟨av,cv,rfl⟩:=aM.shape;rw[Aw,k9] at aM ⊢;obtain⟨a7,c7,jQ⟩:=HC.co.shape;rw[List.length_map,cG] at jQ;subst jQ;have d7:=HC.below H;have fP:=f8.dbw d7.tch d7.ds;have z0:=cR_ 0 fP.blk;have z3:=cR_ 3 d7.ds;obtain⟨W1,a9⟩:=ex_ ((w2.alloc (.cells #[.slice av n cv] 25)).drew);have aC:E_ w2 W1:=(by rw[a9];exact bA_.drew);have iX:w1.heap.size<=wr.heap.size:=HC.tch.size;have kX:=H.size
    have bM:Hid (CoI w1 W1 (w.heap.size+1) n vF (L_ qB C.length cB) (.slice a7 b c7) Cz aE Cs/\Ag W1 w1.heap.size (.slice av n cv) (Av N)/\(∀i,i<Cs.length->Ch (aE.getD i Cz) (.slice av n cv))):=by
     refine⟨d7.below aC,(aM.mono iX).below aC,λi O=>?_⟩
     cases hk2:(aE.getD i Cz).ownBlock with
     |none=>exact .inl hk2
     | some x=>
      cases hk3:(Value.slice av n cv).ownBlock with
      |none=>exact .inr (.inl hk3)
      | some x'=>
       refine .inr (.inr ?_);rw[hk2,hk3];have h1:=(rl_ (HC.co.each i (by rw[List.length_map];exact O)) x hk2).2;have h2:=(rl_ aM x' hk3).1;simp;omega
    have bO:Hid (W1.ownsRow w1.heap.size 25 1 (.slice a7 b c7) b aE):=(by have:=bM.1.co.row;rw[List.length_map,cG] at this;exact this);have aU:∀j u,[Value.slice av n cv][j]? =some u->W1.cell? (((A_ w2.heap.size 0):Addr).add j)=some u:=by rw[a9];exact Am w2 #[.slice av n cv] 25
    have aY:Hid _:=aU;have cA:w1.heap.size<=W1.heap.size:=(by have:=aC.size;omega);have T:Hid (W1=(w2.alloc (.cells #[.slice av n cv] 25)).drew):=a9;obtain⟨j0,aS,dQ,cV,dG⟩:=info_parts cm;clear aU a9 aC aM H d7 fP fW x0 x2 HC cb;go_upto_region 28 with fail;refine Al (λw'=>w'.cell? (A_ (w.heap.size+1+1) 0)=some (P_ (w.heap.size+1))/\w'.cell? (A_ (w.heap.size+1) 3)=some (.slice a7 b c7)) 16 k_ ⟨z0,z3⟩ (λhHeld=>?_);refine Ah 0 ?_;refine Ah 1 ?_;refine Ah 2 ?_;refine Ah 3 ?_;refine Ah 4 ?_;refine Ah 5 ?_;refine Ah 6 ?_;refine Ah 7 ?_;refine Ah 8 ?_;refine Ah 9 ?_;refine Ah 10 ?_;refine Ah 11 ?_;refine Af (i:=12) k_ rfl (λKK hK=>?_);go_simp;refine hK _ _ ⟨Ac bA_ z0,Ac bA_ z3⟩ (λhHeld=>?_);clear hK KK
    try simp only[Act.put,tA,tB,tC]
    refine Af (i:=13) k_ rfl (λKK hK=>?_);rw[<- T];refine Az rfl (.tmp 161) (.tmp 163) 84 rfl w1.heap.size 25 j0 Cz 1 24 Tryz.underlying84 aS dQ cV dG rfl d_ (.slice a7 b c7) b aE j_ bO (A_ w2.heap.size 0) 1 1 [.slice av n cv] j_ rfl aY ?_ d_ m_ o_ cA ?_;intro u hu;simp at hu;rw[hu];rfl;intro v6 w6 H6;obtain⟨r6,g6,d6,_,q6,p6,gD⟩:=H6;obtain⟨gU,dP⟩:=bM.1.more (vC':=v6) (N:=N) bM.2.1 bM.2.2 g6 (by rw[cG];exact r6);rw[<- k8] at gU;have kT:Hid (CoI w1 (w6.setCell (A_ (w.heap.size+1) 3) v6) (w.heap.size+1) n vF (L_ qB C.length cB) v6 Cz (aE++[.slice av n cv]) (((Dp C).map (λfs=>He I J fs n)).take (b+1))):=gU;have cI:=f8.dbw bM.1.tch bM.1.ds
    have t6:Aa (λx=>(Value.slice a7 b c7).ownBlock=some x) W1 w6:=(Aa.refl _ _).grown g6 (λx hx _=>hx);have e0:w6.cell? (A_ (w.heap.size+1+1) 0)=some (P_ (w.heap.size+1)):=cq_ 0 _ 331 (0,0) (t6.at_ cI.blk (λe=>Au bO e cI.blk d_ rfl));have e3:=cR_ 3 dP;have ez:w6.frozen? (A_ (w.heap.size+1) 3)=false:=fq_ 3 _ 142 dP;subst gD;clear r6 g6 d6 gU dP cI t6 z0 z3 bM bO aY T;refine hK _ _ ⟨e0,e3⟩ (λhHeld=>?_);clear hK KK;try simp only[Act.put,tA,tB,tC]
    refine Ah 14 ?_;refine Ah 15 ?_;refine Ai (i:=16) k_ rfl k_ (λKK hK=>?_);go_simp;refine hK _ _ ?_;clear hK KK;try simp only[Act.put,tA,tB,tC]
    refine Ak k_ ?_ _;clear e0 e3 ez hHeld;go_wp2;go_roundw;case rel=>exact⟨b+1,_,_,g_,o_,kT⟩
    case measure=>exact z_
   have g5:¬b<(C.length:Int):=o_;obtain⟨Cg,dJ⟩:∃Cg,(Dp C).map (λfs=>He I J fs n)=Cg:=⟨_,rfl⟩;have h7:Hid ((Dp C).map (λfs=>He I J fs n)=Cg):=dJ;have aK:Hid (CoI w1 wr (w.heap.size+1) n vF (.slice aB C.length cB) vC Cz aE Cg):=(by have:=HC.out;rw[List.take_of_length_le (by simp[Dp];omega),dJ] at this;exact this);have bC:(Dp C).length=C.length:=by simp[Dp]
   have dM:∀j,j<C.length->(Dp C).getD j []=(C.getD j Fq).fs:=λj hj=>by simp[Dp,List.getD,hj]
   have dH:∀j,j<C.length->Cg.getD j []=He I J (C.getD j Fq).fs n:=λj hj=>by rw[<- dJ];simp[Dp,List.getD,hj]
   have aN:∀j,j<C.length->C.getD j Fq∈C:=λj hj=>by simp[List.getD,hj]
   have fD:Cg.length=C.length:=by rw[<- dJ];simp[Dp]
   have kP:Hid (ZkX n I (Dp C) Cg):=by
    refine⟨by rw[fD,bC],by rw[bC];omega,λj hj=>?_,λj hj r=>?_,λj hj=>?_,λj hj f hf=>?_⟩;rw[fD] at hj;rw[dH j hj];simp[He]
    ·rw[fD] at hj;rw[dH j hj];have R:=bK.1 _ (aN j hj)
     by_cases hr:r<n
     have h1:=(ZcP (I:=I) (J:=J) (r:=r) (fs:=(C.getD j Fq).fs) (λf hf=>⟨by have h1:=HP.2.1 f (R.fs f hf) r;have h2:=HP.1 f (R.fs f hf);omega,by have h2:=HP.1 f (R.fs f hf);omega⟩) _ qa_).1;rw[List.take_length] at h1;have h3:=R.len;have e:(He I J (C.getD j Fq).fs n).getD r 0=(mz I J r (C.getD j Fq).fs).1:=(by simp[He,List.getD,hr]);rw[e];omega;rw[Qc,List.getElem?_eq_none (by simp[He];omega)];simp
    rw[bC] at hj;rw[dM j hj];have:=(bK.1 _ (aN j hj)).len;omega;rw[bC] at hj;rw[dM j hj] at hf;rw[HP.2.2.2.2.1];exact(bK.1 _ (aN j hj)).fs f hf
   have b6:Hid (MkX wr w.heap.size (w.heap.size+1+1) (w.heap.size+1) n vF (.slice aB C.length cB) vC Cz vb vo U V I J ((List.range (m+1)).map (De Os))/\Mg wr Y.heap.size (.slice aB C.length cB) h9 ((Dp C).map Av)/\Aa (λq=>q=w.heap.size+1) Y wr):=⟨X,aR,H1.2.2.trans aK.tch⟩;have i5:Hid (∀W,Aa (λq=>q=w.heap.size+1) wr W->CfB W w.heap.size fk (m+1) fc s A l):=λW hW=>(b6.2.2.trans hW).at_ cD.1 o_
   have gP:Hid (∀i,i<m+1->∀r,r<n->∃qb cq gb cg,∀W,Aa (λq=>q=w.heap.size+1) wr W->W.cell? (A_ (w.heap.size+1+1) 0)=some (P_ (w.heap.size+1))/\W.cell? (A_ (w.heap.size+1+1) 1)=some (L_ qb J.length cq)/\W.cell? (A_ qb i)=some (L_ gb n cg)/\W.cell? (A_ gb r)=some (I_ ((J.getD i []).getD r 0:Nat))):=λi O r hr=>by
    have dV:i<(J.map Av).length:=(by rw[List.length_map,HP.2.2.2.2.2.1];exact O);have hd:=X.ds;obtain⟨qb,cq,ag,cg,dD,c1,_,ev,⟨jM,hq⟩,_⟩:=X.bb.at dV;have fB:(J.map Av).getD i []=Av (J.getD i []):=(by simp[List.getD,show i<J.length by rw[List.length_map] at dV;exact dV]);have dT:=X.bb.each i dV;rw[ev] at dT;rw[fB,Aw,HP.2.2.2.2.2.2 i O] at c1 dT;rw[List.length_map] at dD;obtain⟨gb,e5,_,_,c3,_⟩:=dT.atK (by rw[Aw];exact HP.2.2.2.2.2.2 i O) hr;rw[Cv] at c3;subst e5;obtain⟨kW,k2⟩:=Ad dT (k:=gb) rfl;have x1:=cR_ 1 X.blk;rw[dD] at x1
    have aP:∀W p v,Aa (λq=>q=w.heap.size+1) wr W->wr.cell? p=some v->p.block≠w.heap.size+1->W.cell? p=some v:=λW p v hT hp hne=>(cb_ (hT.block _ (World.block_lt_of_cell? _ _ hp) hne)).trans hp;exact⟨qb,cq,gb,cg,λW hT=>⟨aP W _ _ hT x0 s_,aP W _ _ hT x1 s_,aP W _ _ hT c1 (hd.ne hq d_),aP W _ _ hT c3 (hd.ne k2 d_)⟩⟩
   obtain⟨Q,iI⟩:∃Q:Nat->Nat->Bool,Q=λr i=>decide (Jp I (Dp C) Cg r i≠(J.getD i []).getD r 0):=⟨_,rfl⟩;obtain⟨D,fO⟩:∃D:Nat->Nat->Nat,D=λr i=>(J.getD i []).getD r 0:=⟨_,rfl⟩
   have hD:Hid (∀r i,Q r i=decide (Jp I (Dp C) Cg r i≠(J.getD i []).getD r 0)/\D r i=(J.getD i []).getD r 0):=λr i=>by rw[iI,fO];exact⟨rfl,rfl⟩
   have cJ:Hid ((Uq Q D (m+1) n).Perm (Ao m n l (Ou m E) (Ih m L E)).xs/\Fp (Uq Q D (m+1) n)/\(Ao m n l (Ou m E) (Ih m L E)).ks=I/\(Ao m n l (Ou m E) (Ih m L E)).bs.map BS.fs=Dp C/\(Ao m n l (Ou m E) (Ih m L E)).bs.map BS.N=Cg):=by have dN:=jb m n l (Ou m E) (Ih m L E);rw[gO] at dN ⊢;have hp:=Zhy (p:=Q) (b:=D) (M:=m+1) (r:=n) dN (λx=>by rw[Zas HP.2.2.2.2.1 dI.1 dI.2 HP.2.1 HP.2.2.2.1 x,h7,(hD x.row x.f).1,(hD x.row x.f).2]);refine⟨hp.1,hp.2,vx Os J n C ⟨I,[],[]⟩,by have:=bo Os J n I C ⟨I,[],[]⟩;unfold Ew;simpa using this,?_⟩;rw[<- h7];exact Zar (λG hG f hf=>by rw[HP.2.2.2.2.1];exact(bK.1 G hG).fs f hf) (λi O=>by rw[HP.2.2.2.2.1] at O;exact HP.2.1 i O) HP.2.2.2.1
   have jB:Hid (ExI wr wr (w.heap.size+1) n vF (.slice aB C.length cB) vC Cz (Uq Q D (m+1) 0)):=⟨Aa.refl _ _,aK.ds,Yk.nil _ _ _ _,aK.ds.lt⟩;obtain⟨wC,kM⟩:=ex_ wr;subst kM;clear iI fO dJ bC dM dH aN fD X aR HC H1 f8 gO dI bK h7 Z g1;go_wp2_with fail
   go_loopw [14] (λt14 wr=>∃(r:Nat) (vX:Value),t14=.int .i64 r/\r<=n/\Hid (ExI wC wr (w.heap.size+1) n vF (.slice aB C.length cB) vC vX (Uq Q D (m+1) r))) (λt14 _=>n-(intOf t14).toNat)
   case atStart=>exact⟨0,Cz,rfl,qg_,jB⟩
   case round=>
    clear jB x0 x2;obtain⟨r,vX,rfl,hr,aA⟩:=hrel
    by_cases h8:r<n
    ·have g7:r<(n:Int):=o_;have g8:0<=(r:Int):=o_
     have fM:Hid (ExI wC wr (w.heap.size+1) n vF (.slice aB C.length cB) vC vX (Uq Q D (m+1) r++ng Q D r 0)):=(by rw[show Uq Q D (m+1) r++ng Q D r 0=Uq Q D (m+1) r from List.append_nil _];exact aA);have y0:wr.cell? (A_ w.heap.size 0)=some (L_ fk M fc):=(by have:=(i5 wr aA.tch).cells.1;rw[aL];exact this);clear aA;go_wp2_with fail
     rename_i wold;go_loopw [15] (λt15 wr=>∃(i:Nat) (vX:Value),t15=.int .i64 i/\i<=M/\Hid (ExI wC wr (w.heap.size+1) n vF (.slice aB C.length cB) vC vX (Uq Q D (m+1) r++ng Q D r i))) (λt15 _=>M-(intOf t15).toNat)
     case atStart=>exact⟨0,vX,rfl,qg_,fM⟩
     case round=>
      clear fM y0;obtain⟨i,dZ,rfl,O,a0⟩:=hrel;have y0:wr.cell? (A_ w.heap.size 0)=some (L_ fk M fc):=by have:=(i5 wr a0.tch).cells.1;rw[aL];exact this
      by_cases hiM:i<M
      ·have iS:i<m+1:=(by have:=aL.out;omega);have X:=b6.1.dbw a0.tch a0.ds;have jO:DaV wr (w.heap.size+1) n I (Dp C) Cg (Uq Q D (m+1) r++ng Q D r i):=⟨X.view.dk,⟨_,cq_ 2 _ 142 (0,0) a0.ds,(b6.2.1.dbw aK.ds a0.tch).view⟩,⟨_,cq_ 3 _ 142 (0,0) a0.ds,(aK.co.dbw aK.ds a0.tch).view⟩,⟨_,cq_ 4 _ 142 (0,0) a0.ds,XsV.of a0.xs⟩⟩;have k7:(Uq Q D (m+1) r++ng Q D r i).length<=1000000:=(by rw[Qe];have h1:=Zep Q D (m+1) r;have h2:=xz Q D r i;have h3:r*(m+1)<=200*4:=Nat.mul_le_mul o_ hm;omega);have hH:=jr (w.heap.size+1) n r i I (Dp C) Cg _ wr jO kP h8 (by rw[HP.2.2.2.2.1];exact iS) k7
       rw[rx (λj hj hat=>by
        have bT:(Uq Q D (m+1) r++ng Q D r i).getD j Fk∈Uq Q D (m+1) r++ng Q D r i:=by rw[Qc,Qd hj];exact Qf hj
        rcases List.mem_append.1 bT with h|h
        have:=(de r).1 h;have:=hat.1;omega
        have:=(Vj i).1 h;have:=hat.2;omega)] at hH
       obtain⟨qb,cq,gb,cg,bE⟩:=gP i iS r h8;obtain⟨x0,e1,c1,c3⟩:=bE wr a0.tch;have jG:Hid _:=bE;have g4:=hD r i;have jH:Hid (Uq Q D (m+1) r++ng Q D r (i+1)=Uq Q D (m+1) r++ng Q D r i++exC Q D r i):=by show _=_;simp[ng,List.append_assoc]
       have fI:exC Q D r i=if Jp I (Dp C) Cg r i≠(J.getD i []).getD r 0 then[⟨r,i,(J.getD i []).getD r 0⟩] else[]:=by
        unfold exC;rw[g4.1,g4.2]
        by_cases h:Jp I (Dp C) Cg r i≠(J.getD i []).getD r 0
        rw[if_pos h,if_pos (decide_eq_true h)];rw[if_neg h,if_neg (by rw[decide_eq_false h];decide)]
       have j3:Hid _:=fI;have k0:i<(J.length:Int):=(by have:=HP.2.2.2.2.2.1;omega);have cH:0<=(i:Int):=o_;have lB:i<(M:Int):=o_;generalize hX0:Uq Q D (m+1) r++ng Q D r i=X0 at *;generalize Jp I (Dp C) Cg r i=tl at *;generalize (J.getD i []).getD r 0=bx at *;clear hX0 jO g4 fI X bE;go_wp2_with fail
       refine hH.mono ?_;rintro e w2 ⟨rfl,H⟩;have z0:=Ac H x0;have z1:=Ac H e1;have z2:=Ac H c1;have z3:=Ac H c3;have dS:Hid (ExI wC w2 (w.heap.size+1) n vF (.slice aB C.length cB) vC dZ X0):=a0.below H;clear H hH x0 e1 c1 c3 a0 y0
       by_cases htl:tl=bx
       ·have HN:Hid (exC Q D r i=[]):=(by show _=_;rw[j3,if_neg (by simp[htl])]);have q1:(tl==(bx:Int))=true:=beq_iff_eq.2 o_;have q2:(tl !=(bx:Int))=false:=(by simp[bne,q1]);clear htl;go_wp2;go_roundw;case rel=>exact⟨i+1,dZ,g_,o_,by rw[jH,HN,List.append_nil];exact dS⟩
        case measure=>exact z_
       have HN:Hid (exC Q D r i=[⟨r,i,bx⟩]):=(by show _=_;rw[j3,if_pos htl]);have q1:(tl==(bx:Int))=false:=beq_eq_false_iff_ne.2 o_;have q2:(tl !=(bx:Int))=true:=(by simp[bne,q1]);obtain⟨aX,cX,iP⟩:=dS.xs.shape;rw[List.length_map] at iP;subst iP;have z4:=cR_ 4 dS.ds;obtain⟨W1,a9⟩:=ex_ ((w2.alloc (.cells #[I_ r,I_ i,I_ bx] 231)).drew);have aC:E_ w2 W1:=(by rw[a9];exact bA_.drew);have cQ:Hid (ExI wC W1 (w.heap.size+1) n vF (.slice aB C.length cB) vC (.slice aX X0.length cX) X0):=dS.below aC;have bO:Hid (W1.ownsRow wC.heap.size 231 3 (.slice aX X0.length cX) X0.length ((X0.map Dn).flatten)):=by have:=cQ.xs.row;rw[List.length_map] at this;exact this
       have aU:∀j u,[I_ r,I_ i,I_ bx][j]? =some u->W1.cell? (((A_ w2.heap.size 0):Addr).add j)=some u:=by rw[a9];exact Am w2 #[I_ (r:Nat),I_ (i:Nat),I_ (bx:Nat)] 231
       have aY:Hid _:=aU;have cA:wC.heap.size<=W1.heap.size:=cQ.tch.size;have T:Hid (W1=(w2.alloc (.cells #[I_ r,I_ i,I_ bx] 231)).drew):=a9;obtain⟨j0,aS,dQ,cV,dG⟩:=info_parts ZjS;clear aU a9 aC dS;go_upto_region 37 with fail;refine Al (λw'=>w'.cell? (A_ (w.heap.size+1+1) 0)=some (P_ (w.heap.size+1))/\w'.cell? (A_ (w.heap.size+1) 4)=some (.slice aX X0.length cX)/\w'.cell? (A_ (w.heap.size+1+1) 1)=some (L_ qb J.length cq)/\w'.cell? (A_ qb i)=some (L_ gb n cg)/\w'.cell? (A_ gb r)=some (I_ (bx:Nat))) 28 k_ ⟨z0,z4,z1,z2,z3⟩ (λhHeld=>?_);refine Ah 0 ?_;refine Ah 1 ?_;refine Ah 2 ?_;refine Ah 3 ?_;refine Ah 4 ?_;refine Ah 5 ?_;refine Ah 6 ?_;refine Ah 7 ?_;refine Ah 8 ?_;refine Ah 9 ?_;refine Ah 10 ?_;refine Ah 11 ?_;refine Ah 12 ?_
       refine Ah 13 ?_;refine Ah 14 ?_;refine Ah 15 ?_;refine Ah 16 ?_;refine Ah 17 ?_;refine Ah 18 ?_;refine Ah 19 ?_;refine Ah 20 ?_;refine Ah 21 ?_;refine Ah 22 ?_;refine Ah 23 ?_;refine Af (i:=24) k_ rfl (λKK hK=>?_);go_simp;refine hK _ _ ⟨Ac bA_ z0,Ac bA_ z4,Ac bA_ z1,Ac bA_ z2,Ac bA_ z3⟩ (λhHeld=>?_);clear hK KK;try simp only[Act.put,tA,tB,tC]
       refine Af (i:=25) k_ rfl (λKK hK=>?_);rw[<- T];refine Az rfl (.tmp 212) (.tmp 226) 140 rfl wC.heap.size 231 j0 (.agg #[I_ 0,I_ 0,I_ 0]) 3 24 Tryz.underlying140 aS dQ cV dG rfl d_ (.slice aX X0.length cX) X0.length ((X0.map Dn).flatten) j_ bO (A_ w2.heap.size 0) 1 1 [I_ (r:Nat),I_ (i:Nat),I_ (bx:Nat)] j_ rfl aY ?_ d_ m_ o_ cA ?_
       ·intro u hu;simp at hu;rcases hu with rfl|rfl|rfl<;>rfl
       intro v6 w6 H6;obtain⟨r6,g6,d6,_,q6,p6,gD⟩:=H6;obtain⟨hZ,dO⟩:=cQ.more (vX':=v6) (x:=⟨r,i,bx⟩) g6 r6;have kI:Hid (ExI wC (w6.setCell (A_ (w.heap.size+1) 4) v6) (w.heap.size+1) n vF (.slice aB C.length cB) vC v6 (Uq Q D (m+1) r++ng Q D r (i+1))):=(by rw[jH,HN];exact hZ);obtain⟨s0,s1,s2,s3⟩:=jG w6 (cQ.tch.grown g6 (λk hk hlt=>by have:=(rl_ bO k hk).1;omega));have s4:=cR_ 4 dO;have s5:w6.frozen? (A_ (w.heap.size+1) 4)=false:=fq_ 4 _ 142 dO;subst gD;clear r6 g6 d6 hZ dO z0 z1 z2 z3 z4 cQ bO aY T jG;refine hK _ _ ⟨s0,s4,s1,s2,s3⟩ (λhHeld=>?_);clear hK KK;try simp only[Act.put,tA,tB,tC]
       refine Ah 26 ?_;refine Ah 27 ?_;refine Ai (i:=28) k_ rfl k_ (λKK hK=>?_);go_simp;refine hK _ _ ?_;clear hK KK;try simp only[Act.put,tA,tB,tC]
       refine Ak k_ ?_ _;clear s0 s1 s2 s3 s4 s5 hHeld;go_wp2;go_roundw;case rel=>exact⟨i+1,_,g_,o_,kI⟩
       case measure=>exact z_
      have k0:¬i<(M:Int):=o_;have kH:Hid (ExI wC wr (w.heap.size+1) n vF (.slice aB C.length cB) vC dZ (Uq Q D (m+1) (r+1))):=by have:=a0.out;rw[show i=m+1 by have:=aL.out;omega] at this;exact this
      clear a0;go_wp2;go_roundw;case rel=>exact⟨r+1,dZ,g_,o_,kH⟩
      case measure=>exact z_
    have g7:¬r<(n:Int):=o_;have x0:wr.cell? (A_ (w.heap.size+1+1) 0)=some (P_ (w.heap.size+1)):=cq_ 0 _ 331 (0,0) (b6.1.dbw aA.tch aA.ds).blk
    have fT:Hid (Zan w wr (w.heap.size+1) n (Ao m n l (Ou m E) (Ih m L E))/\E_ w wr):=by
     obtain⟨f1,f2,f3,f4,f5⟩:=cJ;have k5:w.heap.size<=wC.heap.size:=Nat.le_trans cD.2.size b6.2.2.size;have X:=b6.1.dbw aA.tch aA.ds;refine⟨⟨vF,.slice aB C.length cB,vC,vX,U,h9,aE,Uq Q D (m+1) n,?_,f1,f2⟩,?_⟩
     ·rw[f3,f4,f5];have hX:=aA.xs;rw[show r=n by omega] at hX;refine⟨aA.ds,X.fe,((b6.2.1.dbw aK.ds aA.tch).mono cD.2.size),((aK.co.dbw aK.ds aA.tch).mono ?_),⟨⟨hX.row.1,?_⟩,hX.wid⟩,X.one,Nat.le_succ _⟩;exact Nat.le_trans cD.2.size j9
      rcases hX.row.2 with e|⟨g,jW,jM,e,hg,rr⟩
      exact .inl e;exact .inr ⟨g,jW,jM,e,Nat.le_trans k5 hg,rr⟩
     exact cD.2.trans ((b6.2.2.trans aA.tch).to_below cD.2.size (λq hq=>o_))
    clear aA;go_wp2;go_ret;exact⟨_,rfl,fT.1,fT.2⟩
section
variable {w:World} {base db n:Nat} {vF vB vC vX:Value} {kvs:List (Value×Value)} {bvs cvs:List Value} {Ks:List KS} {Fs Cs:List (List Nat)} {X:List XS}
def RfX.mono{b}(h:RfX w base db n vF vB vC vX kvs bvs cvs Ks Fs Cs X)(c:b<=base):RfX w b db n vF vB vC vX kvs bvs cvs Ks Fs Cs X:=by
 have a:∀{ty sz m:Nat} {v xs},w.ownsRow base ty sz v m xs->w.ownsRow b ty sz v m xs:=λhr=>⟨hr.1,by
  rcases hr.2 with e|⟨g,f,d,e,j,r⟩
  exact .inl e
  exact .inr ⟨g,f,d,e,Nat.le_trans c j,r⟩⟩
 exact⟨h.ds,⟨⟨a h.fe.row.row,h.fe.row.wid⟩,h.fe.len,λi hi=>⟨a (h.fe.each i hi).1,a (h.fe.each i hi).2⟩⟩,h.bu.mono c,h.co.mono c,⟨a h.xs.row,h.xs.wid⟩,h.one,Nat.le_trans c h.lo⟩
def ZcQ i (h:RfX w base db n vF vB vC vX kvs bvs cvs Ks Fs Cs X)(a:i<Ks.length):C_ 139 #[.pointer (some ⟨db,0,none⟩),.int .i64 i] w λe w'=>e=.returned (.tuple #[(kvs.getD i Oi).1,(kvs.getD i Oi).2,.int .i64 0])/\∃m,w'=w.drewN m:=by
 obtain⟨q,c,e,_,_,_,_,b⟩:=h.fe.row.at (i:=i) (by rw[h.fe.zlen];exact a);rw[h.fe.zlen] at e;subst e;have s:=cR_ 1 h.ds;have f:(List.zipWith Cf Ks kvs).getD i []=Cf (Ks.getD i Ay) (kvs.getD i Oi):=by simp[List.getD,List.getElem?_zipWith,a,show i<kvs.length by rw[h.fe.len];exact a]
 rw[f] at b;have j:=b 1 o_ _ rfl;have p:=b 2 o_ _ rfl;obtain⟨o,r,g⟩:=(h.fe.each i a).1.shape;obtain⟨k,l,d⟩:=(h.fe.each i a).2.form;generalize kvs.getD i Oi=u at *;obtain⟨u1,u2⟩:=u;simp only at g d j p ⊢;subst g d;have t:¬(i:Int)<0:=o_;have x:¬Ks.length<=(i:Int):=o_;have y:0<=(i:Int):=o_;have z:i<(Ks.length:Int):=o_;generalize (Ks.getD i Ay).e.bs.length=nb at *;generalize (Ks.getD i Ay).e.ww.length=nw at *;clear h b f;go_enter Tryz.func139,Tryz.ntmps139;go_upto_region 3 with fail;go_quiet (fail);go_wp2;refine bodyPost_ret (v:=.tuple #[.slice o nb r,.slice k nw l,I_ 0]) (by simp[results,Tryz.results139,go_sem]) rfl ?_
 grind
def ZaM f (h:DkV w db n Ks)(b:¬(0<=f/\f<(Ks.length:Int))):C_ 139 #[.pointer (some ⟨db,0,none⟩),.int .i64 f] w λe w'=>e=.returned (.tuple #[Cz,Cz,.int .i64 1])/\w'=w:=by
 obtain⟨c,i,a⟩:=h.d1;obtain⟨g,j,rfl⟩:=a.1;clear h a;go_enter Tryz.func139,Tryz.ntmps139
 by_cases g1:f<0
 ·go_wp2;refine bodyPost_ret (v:=.tuple #[Cz,Cz,I_ 1]) (by simp[results,Tryz.results139,go_sem]) rfl ?_
  grind
 have d:Ks.length<=f:=o_;go_wp2;refine bodyPost_ret (v:=.tuple #[Cz,Cz,I_ 1]) (by simp[results,Tryz.results139,go_sem]) rfl ?_
 grind
end
def qi a b n c g d f z p S w (h:mu w a b n c g d f S z p true):C_ 126 #[.pointer (some ⟨a,0,none⟩)] w λe w'=>e=.returned (.tuple #[.pointer none,.int .i64 1,.int .i64 0])/\w'=w:=by
 have i:=h.cells.2.2.2;clear h;go_enter Tryz.func126,Tryz.ntmps126;go_wp2;go_ret3
 exact⟨rfl,rfl⟩
def zl a b n d j f i z p S w (h:mu w a b n d j f i S z p false)(c:z≠0):C_ 126 #[.pointer (some ⟨a,0,none⟩)] w λe w'=>e=.returned (.tuple #[.pointer none,.int .i64 z,.int .i64 p])/\∃m,w'=w.drewN m:=by
 obtain⟨_,l,k,o⟩:=h.cells;have g:=bne_iff_ne.2 c;clear h;go_enter Tryz.func126,Tryz.ntmps126;go_upto_region 4 with fail;go_quiet (fail);go_wp2;go_ret3
 exact⟨rfl,_,rfl⟩
def RcP(w:World)(ib fk m fc:Nat)(bins:Int)(size budget:Nat)(S:ByteArray)(E:Nat->ES)(R:List (Int×List VS)×Nat×Int)(e:Ending)(w':World):Prop:=
 mu w' ib fk (m+1) fc bins size budget S 0 0 true/\Aa (λq=>q=ib) w w'/\
 ((R.2.2≠0/\e=.returned (.tuple #[.pointer none,I_ R.2.2,I_ R.2.1]))∨(R.2.2=0/\∃yb,e=.returned (.tuple #[P_ yb,I_ 0,I_ 0])/\Zan w w' yb R.1.length (Ao m R.1.length budget (Ou m E) (Ih m R.1 E))))
def Zdw(j o m x f b:Nat) d S s A ct E w (h:mu w j o (m+1) x d f b S 0 0 false)(N:Dd w o 0 (m+1) s A ct)(F:o≠j)(u:o<w.heap.size)(hn:m+1<=4)(T:∀i,i<m+1->0<=A i/\(s i=false->A i<=3))(hk:S.size<=1000000000000000)(a1:b<=20)(hs:2<=f)(P:f<=32)(a0:2<=d)(r:d<=16)(Y:∀i,i<m+1->s i=true->1<=ct i)(hr:∀R,R=Jd S (m+1) s A (S.size+1) [] 0->R.2.2=0->Yj R.1/\(∀p∈R.1,p.2.length=m+1)/\(∀i,E i=Ck Mb (s i) (ct i) d f (Bn R.1 i) (Fr R.1))/\∀i,i<m+1->Ol (E i)/\(E i).wd=s i/\(E i).cnt<=16):C_ 126 #[.pointer (some ⟨j,0,none⟩)] w λe w'=>RcP w j o m x d f b S E (Jd S (m+1) s A (S.size+1) [] 0) e w':=by
 obtain⟨⟨_,_,_,_,_⟩,c5,_,c7⟩:=h.cells;have f7:=fq_ 7 _ _ h;obtain⟨w1,v⟩:=ex_ (w.setCell (A_ j 7) (.bool true));have D:Aa (λq=>q=j) w w1:=(by rw[v];exact(Aa.refl (λq=>q=j) w).setCell (p:=(A_ j 7)) (λ_=>rfl) _);have h1:mu w1 j o (m+1) x d f b S 0 0 true:=(by rw[v];exact ht_ 7 _ _ _ h);have C:Dd w1 _ 0 _ s A _:=⟨N.le,λh0=>Qh (N.lt h0) D.size,λi hi=>by rw[<- N.c0 i hi];simp[World.cell?,D.block o u F],λi hi=>by rw[<- N.c1 i hi];simp[World.cell?,D.block o u F],λi hi=>by rw[<- N.c2 i hi];simp[World.cell?,D.block o u F]⟩;have z:=Qh u D.size
 have Z:=x1_ (λW hW=>uq _ _ x S d f b _ _ _ W (C.below hW) (Qh z hW.size) hn T hk);have Q:=hr _ rfl;generalize Jd S (m+1) s A (S.size+1) [] 0=R at *;have G:=x1_ (λW a c n hW hz hn2 hv=>Zf3 _ x n c m _ _ a _ _ _ _ _ E W (C.below hW) hv (Q hz).1 hn2 hn a1 hs P a0 r Y (Q hz).2.2.1 (Q hz).2.2.2);have y:=x1_ (λhz=>(Q hz).2.1);have O:=x1_ v;have J:=x2_ h1 D;obtain⟨M,hM⟩:=ex_ (m+1);have H:=x1_ hM;rw[<- hM] at Z G y J;clear h N C v h1 D hk hr Q Y T hM hn a1 hs P a0 r z;go_enter Tryz.func126,Tryz.ntmps126;go_upto_region 6 with fail;rw[<- O];clear O c5 c7 f7;have hc:=J.1.cells.1
 refine Al (λw'=>w'.cell? _=some _/\w'.cell? _=some _/\w'.cell? _=some _/\w'.cell? _=some _/\w'.cell? _=some _) 9 k_ hc (λhHeld=>?_);refine Ah 0 ?_;refine Ah 1 ?_;refine Ah 2 ?_;refine Ah 3 ?_;refine Ah 4 ?_;refine Ah 5 ?_;refine Ah 6 ?_;refine Ah 7 ?_;refine Af (i:=8) k_ rfl (λKK hK=>?_);go_simp;refine(Z _ bz_.drew).mono ?_;rintro e l ⟨tb,vR,L,rfl,a9,hx,hL,t,a3,r⟩;have k:Below w1.heap.size _ _:=bz_.drew.trans r;have h2:mu _ _ _ M _ _ _ _ S 0 0 _:=(k.block _ (Qb J.1).1).trans J.1;have t2:=J.2.below k;obtain⟨ra,rc,rfl⟩:=hL.shape
 have g:Hid (Fb l tb S R.2.1 R.2.2 (.slice ra L.length rc)/\mu l j o M x d f b S 0 0 true/\Aa (λq=>q=j) w l/\w.heap.size<=l.heap.size/\E_ w1 l/\L.length=R.1.length/\L.length<=200/\(R.2.2=0->Sn l ra L.length M R.1)):=⟨hx,h2,t2,t2.size,k,by rw[<- t];simp,a3,λhz=>by
  rw[<- t]
  refine hL.view rfl (λp hp=>y hz _ (by rw[<- t];exact List.mem_map_of_mem hp)) (by rw[H];omega)⟩
 have a2:=h2.cells.1;clear hx h2 t2 r k J hc hL t a3;go_simp;refine hK _ _ a2 (λhHeld=>?_);clear hK KK;try simp only[Act.put,List.setIfInBounds_toArray,List.set_cons_succ,List.set_cons_zero]
 refine Ai (i:=9) k_ rfl k_ (λKK hK=>?_);go_simp;refine hK _ _ ?_;clear hK KK;try simp only[Act.put,List.setIfInBounds_toArray,List.set_cons_succ,List.set_cons_zero]
 refine Ak k_ ?_ _;obtain⟨_,e1,e2,_⟩:=g.1.cells
 by_cases hz:R.2.2=0
 ·have a6:(R.2.2 !=0)=false:=(by rw[hz];rfl);rw[hz] at e2;go_upto_region 9 with fail;have V:l.cell? (A_ j 0)=some (L_ o M x)/\l.cell? (A_ j 1)=some (I_ d)/\l.cell? (A_ j 2)=some (I_ f)/\l.cell? (A_ j 3)=some (I_ b)/\l.cell? (A_ tb 3)=some (.slice ra L.length rc):=w_
  clear e1 e2 a2;refine Al (λw'=>w'.cell? _=some _/\w'.cell? _=some _/\w'.cell? _=some _/\w'.cell? _=some _/\w'.cell? _=some _) 8 k_ V (λhHeld=>?_);refine Ah 0 ?_;refine Ah 1 ?_;refine Ah 2 ?_;refine Ah 3 ?_;refine Ah 4 ?_;refine Ah 5 ?_;refine Ah 6 ?_;refine Ah 7 ?_;refine Ai (i:=8) k_ rfl k_ (λKK hK=>?_);go_simp;refine(G _ _ _ _ (g.2.2.2.2.1.trans (bz_.drew)) hz g.2.2.2.2.2.2.1 ((g.2.2.2.2.2.2.2 hz).below bz_.drew)).mono ?_;rintro e w3 ⟨yb,rfl,B,k⟩
  have a4:Hid (RcP w j o m x d f b S E R (.returned (.tuple #[P_ yb,I_ 0,I_ 0])) w3):=(by have U:Below l.heap.size _ _:=bz_.drew.trans k;have I:=g.2.1;rw[H] at I;rw[g.2.2.2.2.2.1] at B;obtain⟨vF,vB,vC,vX,a8,a7,a5,X,g1,g2,g3⟩:=B;exact⟨(U.block _ (Qb I).1).trans I,g.2.2.1.below U,.inr ⟨hz,yb,rfl,vF,vB,vC,vX,a8,a7,a5,X,g1.mono g.2.2.2.1,g2,g3⟩⟩);clear B k V g G;go_simp;refine hK _ _ ?_;clear hK KK;try simp only[Act.put,List.setIfInBounds_toArray,List.set_cons_succ,List.set_cons_zero]
  refine Ai (i:=9) k_ rfl k_ (λKK hK=>?_);go_simp;refine hK _ _ ?_;clear hK KK;try simp only[Act.put,List.setIfInBounds_toArray,List.set_cons_succ,List.set_cons_zero]
  refine Ai (i:=10) k_ rfl k_ (λKK hK=>?_);go_simp;refine hK _ _ ?_;clear hK KK;try simp only[Act.put,List.setIfInBounds_toArray,List.set_cons_succ,List.set_cons_zero]
  refine Ai (i:=11) k_ rfl k_ (λKK hK=>?_);go_simp;refine hK _ _ ?_;clear hK KK;try simp only[Act.put,List.setIfInBounds_toArray,List.set_cons_succ,List.set_cons_zero]
  refine Ak k_ ?_ _;go_wp2;go_ret3
  exact a4
 have a6:=bne_iff_ne.2 hz;go_upto_region 8 with fail;go_quiet (fail);go_wp2;go_ret3
 rw[H] at g;exact⟨g.2.1,g.2.2.1.drewN _,.inl ⟨hz,rfl⟩⟩
def Zh2 m:∀k,k<=4->Ba (m+4294967296) k=Ba m k:=λk hk=>by
 rcases(show k=0∨k=1∨k=2∨k=3∨k=4 by omega) with rfl|rfl|rfl|rfl|rfl
 rfl
 all_goals
  simp only[Ba,Vx,List.nil_append,List.cons_append]
  grind [Ba,Vx]
def ZbI m k w (a:k<=4)(b: -4294967296<=m)(c:m<=1000000000000):C_ 135 #[.int .i64 m,.int .i64 (k:Nat)] w λe w'=>e=.returned (.string (strOfNums (Ba m k)))/\Below w.heap.size w w':=by
 by_cases h:0<=m
 have e:m.toNat=m:=o_;have:=Qw m m.toNat k w o_ o_ (.inl ⟨h,e.symm⟩);rw[e] at this;exact this;have e:(m+4294967296).toNat=m+4294967296:=o_;have:=Qw m (m+4294967296).toNat k w o_ o_ (.inr ⟨o_,o_⟩);rw[e,Zh2 m k a] at this;exact this
def Ea{w W}(hW:Below w.heap.size w W) m k (hk:k<=4)(h1: -4294967296<=m)(h2:m<=1000000000000):C_ 135 #[.int .i64 m,.int .i64 (k:Nat)] W λe w'=>e=.returned (.string (strOfNums (Ba m k)))/\Below w.heap.size w w':=
 (ZbI m k W hk h1 h2).mono (λ_ _ h=>⟨h.1,hW.trans (h.2.mono hW.size)⟩)
def ZcH{l}(h:Dv l):Aq (strOfNums l)=l:=by
 unfold Aq strOfNums;simp only[List.map_map]
 conv=>rhs;rw[<- List.map_id l]
 refine List.map_congr_left λx hx=>?_;have:=h x hx
 grind [UInt8.toNat_ofNat']
def ZkQ:∀(l:List Int) {z:Nat},z<4294967296->Dv l->nF z l<4294967296
 |[],z,hz,_=>by simpa [nF,nJ,Zb6] using hz
 |b::l,z,hz,h=>by have hb:=h b s_;rw[za z hb];exact ZkQ l (Zbk (Nat.xor_lt_two_pow (n:=32) hz o_) 8) (λx hx=>h x (by simp[hx]))
def Zk8{l}(h:Dv l):0<=Jt l/\Jt l<4294967296:=by
 have b:Zhs l=_:=gq l (z:=4294967295) d_ h;have a:=ZkQ l (z:=4294967295) d_ h;unfold Jt;rw[b];have e:=Uk 4294967295 _ d_ a;have c:4294967295^^^_<_:=Nat.xor_lt_two_pow (n:=32) d_ a
 grind
def ZbL l w (h:Dv l)(i:l.length<=1000000):C_ 134 #[.string (strOfNums l)] w λe w'=>e=.returned (.string (strOfNums (l++Ba (Jt l) 4)))/\Below w.heap.size w w':=by
 have b:=Ziv _ w (by rw[Br];exact i);rw[ZcH h] at b;have o:=Zk8 h;have d:Hid (∀W,Calls _ _ #[_,.int _ 4] W λe _=>_):=λW=>ZbI (Jt l) 4 W o_ o_ o_;have j:Hid (strOfNums (l++Ba (Jt l) 4)=_):=(Cl _ _).symm;have k:¬9223372036854775807<(strOfNums l).size+(strOfNums (Ba (Jt l) 4)).size:=(by rw[Br,Br,Gc];omega);generalize strOfNums l=S at *;generalize strOfNums (Ba (Jt l) 4)=s4 at *;generalize Jt l=c at *;go_enter Tryz.func134,Tryz.ntmps134;go_wp2_with fail
 refine b.mono ?_;rintro e m ⟨rfl,f⟩;obtain rfl:=f.symm;go_wp2_with fail
 refine(d _).mono ?_;rintro e n ⟨rfl,a⟩;have g:=x1_ a;clear a;go_wp2;go_ret;exact⟨by rw[j];rfl,g⟩
structure KnR(k):Prop where
 one:od k
 bs:∀x∈k.e.bs,-4294967296<=x/\x<=1000000000000
 ww:∀s∈k.e.ww,s.size<=1000
 d:k.d<=1000000
structure BuR(n)(Ks:List KS)(b:BS):Prop where
 len:b.N.length=n
 few:b.fs.length<=1000
 fk:∀f∈b.fs,f<Ks.length
 fl:∀k,b.fs.getD k 0<=1000000
 gs:b.g=Du Ks b.fs
 g6:b.g<64
 val:∀r,b.N.getD r 0<=1000000
def ZfF(wd:Bool):List Int:=if wd=true then[119] else[110]
def Zlh{k}(h:od k):Pj k=ZfF k.e.wd++[(k.d:Int)%256]++[(((k.e.bs.length+k.e.ww.length:Nat)):Int)%256]++Jz k.e.bs++Ki k.e.ww:=by
 unfold Pj ZfF
 cases hw:k.e.wd
 rw[h.2.2.2 hw];simp[knB,ES.cnt,Ky,hw,Ki];rw[h.2.2.1 hw];simp[yo,ES.cnt,Ky,hw,Jz]
def Se(n:Nat)(Ks:List KS)(Bs:List BS)(X:List XS):List Int:=[71,82,(n:Int)%256,Ks.length%256]++Ks.flatMap Pj++[(Bs.length:Int)%256]++Bs.flatMap Gw++Ba X.length 2++X.flatMap xB
def dx.get{w b v f a}(h:dx w b v f a){i}(g:i<a.length):∃q c ab cb aw cw,v=L_ q a.length c/\w.cell? (A_ q (i*4))=some (.bool (a.getD i Ay).e.wd)/\w.cell? (A_ q (i*4+1))=some (.slice ab (a.getD i Ay).e.bs.length cb)/\w.cell? (A_ q (i*4+2))=some (.slice aw (a.getD i Ay).e.ww.length cw)/\w.cell? (A_ q (i*4+3))=some (I_ (a.getD i Ay).d)/\Ag w b (.slice ab (a.getD i Ay).e.bs.length cb) (a.getD i Ay).e.bs/\Cc w b (.slice aw (a.getD i Ay).e.ww.length cw) (a.getD i Ay).e.ww:=by
 obtain⟨q,l,k,_,_,_,_,j⟩:=h.row.at (i:=i) (by rw[h.zlen];exact g);rw[h.zlen] at k;have e:=h.each i g;obtain⟨ab,cb,o⟩:=(h.each i g).1.shape;obtain⟨aw,cw,m⟩:=(h.each i g).2.form;have n:(List.zipWith Cf a f).getD i []=Cf (a.getD i Ay) (f.getD i Oi):=(by simp[List.getD,List.getElem?_zipWith,g,show i<f.length by rw[h.len];exact g]);rw[n] at j;exact⟨q,l,ab,cb,aw,cw,k,j 0 o_ _ rfl,j 1 o_ _ (by rw[<- o];rfl),j 2 o_ _ (by rw[<- m];rfl),j 3 o_ _ rfl,w_,w_⟩
def Na{α:Type}{L:List α}{k} d (h:k<L.length):L.getD k d∈L:=w_
def zx b:strOfNums (Aq b)=b:=by
 cases b with
 | mk d=>
  unfold strOfNums Aq;congr 1;apply Array.ext';simp[List.map_map,Function.comp_def]
def Rl{α:Type}(f:α->List Int)(L:List α) i:((L.take i).flatMap f).length<=(L.flatMap f).length:=by
 conv=>rhs;rw[<- List.take_append_drop i L,List.flatMap_append,Qe]
 omega
def Ex m k:(strOfNums (Ba m k)).size=k:=by rw[Br,Gc]
local macro "bw" :tactic=>`(tactic|repeat(first|assumption|with_reducible apply Below.drew))
def Zdu db a5 n vF vB vC vX cJ dD cQ q l X w (h:RfX w a5 db n vF vB vC vX cJ dD cQ q (l.map BS.fs) (l.map BS.N) X)(hk:∀K∈q,KnR K)(hb:∀b∈l,BuR n q b)(d8:q.length<=1000)(cV:l.length<=1000)(cY:X.length<=100000)(hx:∀x∈X,x.row<=1000000/\x.f<=1000000/\x.bin<=1000000)(hn:n<=200)(aY:(Se n q l X).length<=1000000)(bT:Dv (Se n q l X)):C_ 76 #[.pointer (some ⟨db,0,none⟩)] w λe w'=>e=.returned (.string (strOfNums (Se n q l X++Ba (Jt (Se n q l X)) 4)))/\Below w.heap.size w w':=by
 have HV:Hid (DaV w db n q (l.map BS.fs) (l.map BS.N) X):=h.view;have aN:Hid (dx w a5 vF cJ q):=h.fe;have HK:Hid (∀K∈q,KnR K):=hk;have cR:Hid (∀b∈l,BuR n q b):=hb;have HX:Hid (∀x∈X,x.row<=1000000/\x.f<=1000000/\x.bin<=1000000):=hx;have P:Hid ((Se n q l X).length<=1000000):=aY;have dE:Hid (∀W,C_ 134 #[.string (strOfNums (Se n q l X))] W λe w'=>e=.returned (.string (strOfNums (Se n q l X++Ba (Jt (Se n q l X)) 4)))/\E_ W w'):=λW=>ZbL _ W bT aY;have u:Hid (Se n q l X=[71,82,(n:Int)%256,q.length%256]++q.flatMap Pj++[(l.length:Int)%256]++l.flatMap Gw++Ba X.length 2++X.flatMap xB):=rfl;obtain⟨af,cf,dF⟩:=aN.view.1;subst dF;have d0:=cR_ 0 h.ds;have d1:=cR_ 1 h.ds;obtain⟨v2,d2,h2⟩:=HV.d2;obtain⟨v3,d3,h3⟩:=HV.d3
 obtain⟨v4,d4,h4⟩:=HV.d4;obtain⟨a2,c2,bN⟩:=h2.1;obtain⟨a3,c3,cF⟩:=h3.1;obtain⟨a4,c4,dA⟩:=h4.1;rw[List.length_map] at bN cF;subst bN cF dA;have bC:Hid (LiV w (.slice a2 l.length c2) (l.map BS.fs)):=h2;have b7:Hid (LiV w (.slice a3 l.length c3) (l.map BS.N)):=h3;have cE:Hid (XsV w (.slice a4 X.length c4) X):=h4;obtain⟨U,bA⟩:=ey_ q.length;obtain⟨Z,aS⟩:=ey_ l.length;obtain⟨lx,b9⟩:=ey_ X.length;have aC:Hid (q.length=U/\l.length=Z/\X.length=lx):=⟨bA,aS,b9⟩;rw[bA] at d1 d8 u aN;rw[aS] at d2 d3 cV u bC b7;rw[b9] at d4 cY u cE;clear h hk hb hx h2 h3 h4 aY bT bA aS b9;generalize strOfNums (Se n q l X++Ba (Jt (Se n q l X)) 4)=SR at *
 have c7:Hid (∀W,E_ w W->C_ 135 #[.int .i64 n,.int .i64 1] W λe w'=>e=.returned (.string (strOfNums (Ba n 1)))/\E_ w w'):=λW hW=>Ea hW _ 1 o_ o_ o_;have cM:Hid (∀W,E_ w W->C_ 135 #[.int .i64 U,.int .i64 1] W λe w'=>e=.returned (.string (strOfNums (Ba U 1)))/\E_ w w'):=λW hW=>Ea hW _ 1 o_ o_ o_;have bH:Hid (({data:=#[71,82]}:ByteArray)++strOfNums (Ba n 1)++strOfNums (Ba U 1)=strOfNums [71,82,n%256,U%256]):=by show _=_;rw[show({data:=#[71,82]}:ByteArray)=strOfNums [71,82] from rfl,Cl,Cl];rfl
 have bX:E_ w w:=bz_;have H:=Ex (n:Nat) 1;have l2:=Ex (U:Nat) 1;have F:¬9223372036854775807<2+(strOfNums (Ba n 1)).size:=o_;have z2:¬9223372036854775807<2+(strOfNums (Ba n 1)).size+(strOfNums (Ba U 1)).size:=o_;clear H l2;go_enter Tryz.func76,Tryz.ntmps76;go_upto_region 1 with fail;generalize strOfNums (Ba (n:Nat) 1)=s1 at *;generalize strOfNums (Ba (U:Nat) 1)=s2 at *;go_cut [3] (λv wx=>v=.string (({data:=#[71,82]}:ByteArray)++s1++s2)/\Hid (E_ w wx))
 case first=>
  refine Al (λw'=>w'.cell? (A_ db 0)=some (I_ (n:Nat))/\w'.cell? (A_ db 1)=some (.slice af U cf)) 13 k_ ⟨d0,d1⟩ (λhHeld=>?_);refine Ah 0 ?_;refine Ah 1 ?_;refine Ah 2 ?_;refine Ah 3 ?_;refine Ah 6 ?_;refine Ah 7 ?_;refine Ah 8 ?_;refine Ah 9 ?_;refine Ah 10 ?_;refine Af (i:=4) k_ rfl (λKK hK=>?_);go_simp;refine(c7 _ bX.drew).mono ?_;rintro e w2 ⟨rfl,o⟩;go_simp;refine hK _ _ ⟨Ac o d0,Ac o d1⟩ (λhHeld=>?_);clear hK KK;try simp only[Act.put,sA,sB,sC]
  refine Ah 5 ?_;refine Af (i:=11) k_ rfl (λKK hK=>?_);go_simp;refine(cM _ o).mono ?_;rintro e w3 ⟨rfl,y⟩;go_simp;refine hK _ _ ⟨Ac y d0,Ac y d1⟩ (λhHeld=>?_);clear hK KK;try simp only[Act.put,sA,sB,sC]
  refine Ah 12 ?_;refine Ai (i:=13) k_ rfl k_ (λKK hK=>?_);go_simp;refine hK _ _ ?_;clear hK KK;try simp only[Act.put,sA,sB,sC]
  refine Ak k_ ?_ _;go_wp2;go_meet
  exact⟨rfl,y⟩
 case rest=>
 obtain⟨rfl,aF⟩:=hcut;rw[bH];clear c7 cM bH bX F z2;obtain⟨H0,cD⟩:∃H0:List Int,H0=[71,82,(n:Int)%256,U%256]:=⟨_,rfl⟩;rw[<- cD] at u ⊢;clear cD
 have c6:Hid (∀i,(H0++(q.take i).flatMap Pj).length<=1000000):=λi=>by have C:=P.out;rw[u] at C;simp only[Qe] at C ⊢;have:=Rl Pj q i;omega
 go_upto_region 3 with fail;go_loopw [3,4] (λt3 t4 wr=>∃(i:Nat) (S:ByteArray),t3=.string S/\t4=.int .i64 i/\i<=U/\Hid (S=strOfNums (H0++(q.take i).flatMap Pj))/\Hid (E_ w wr)) (λ_ t4 _=>U-(intOf t4).toNat)
 case atStart=>exact⟨0,_,rfl,rfl,qg_,by show _=_;simp,aF⟩
 case round=>
  clear aF;obtain⟨i,S,rfl,rfl,hi,c,A⟩:=hrel;have a:=A.out;have y1:=Ac a d1
  by_cases hil:i<U
  ·have g0:0<=(i:Int):=o_;have g1:i<(U:Int):=o_;have b6:i<q.length:=(by rw[aC.1];exact hil);obtain⟨qf,dN,ab,cb,aw,cw,e2,f0,f1,f2,f3,oI,oS⟩:=aN.get b6;have dG:af=some ⟨qf,0,none⟩:=(by injection e2);subst dG;clear e2;have L:=HK _ (Na Ay b6);have HT:Hid ((q.take (i+1)).flatMap Pj=(q.take i).flatMap Pj++Pj (q.getD i Ay)):=Kl Pj q Ay b6;obtain⟨K,hK⟩:=ey_ (q.getD i Ay);rw[hK] at f0 f1 f2 f3 oI oS L HT;have aA:Hid (Pj K=ZfF K.e.wd++[(K.d:Int)%256]++[(((K.e.bs.length+K.e.ww.length:Nat)):Int)%256]++Jz K.e.bs++Ki K.e.ww):=Zlh L.one;clear hK;generalize Pj K=kA at *;obtain⟨⟨wd,R,G⟩,dd⟩:=K;simp only at f0 f1 f2 f3 oI oS aA;have dC:Hid (∀x∈R,-4294967296<=x/\x<=1000000000000):=L.bs
   have cZ:Hid (∀s∈G,s.size<=1000):=L.ww;have dP:dd<=1000000:=L.d;have bS:R.length<=1000:=L.one.1;have bG:G.length<=1000:=L.one.2.1;clear L;have z0:=Ac a f0;have F:=Ac a f1;have z2:=Ac a f2;have z3:=Ac a f3;have aL:Hid (Ag w a5 (.slice ab R.length cb) R/\Cc w a5 (.slice aw G.length cw) G):=⟨oI,oS⟩;clear f0 f1 f2 f3 oI oS;obtain⟨nb,aP⟩:=ey_ R.length;obtain⟨nw,bB⟩:=ey_ G.length;have a7:Hid (R.length=nb/\G.length=nw):=⟨aP,bB⟩;rw[aP] at F aL aA bS;rw[bB] at z2 aL aA bG;clear aP bB;go_upto_region 6 with fail;obtain⟨D,a0⟩:=ex_ (wr.alloc (.cells #[.bool wd,.slice ab nb cb,.slice aw nw cw,I_ dd] 227));rw[<- a0];have aQ:E_ w D:=by rw[a0];exact a.alloc a.size _
   have x0:D.cell? (A_ wr.heap.size 0)=some (.bool wd):=(by rw[a0];simp[go_sem]);have x1:D.cell? (A_ wr.heap.size 1)=some (.slice ab nb cb):=(by rw[a0];simp[go_sem]);have x2:D.cell? (A_ wr.heap.size 2)=some (.slice aw nw cw):=(by rw[a0];simp[go_sem]);have x3:D.cell? (A_ wr.heap.size 3)=some (I_ dd):=(by rw[a0];simp[go_sem]);clear a0 y1 z0 F z2 z3 A;generalize wr.heap.size=fb at *;have a1:Hid (E_ w D):=aQ;clear a aQ;obtain⟨kd,aJ⟩:∃kd:ByteArray,kd=strOfNums (ZfF wd):=⟨_,rfl⟩;have aU:Hid (kd=strOfNums (ZfF wd)):=aJ;go_upto_if 42 with fail
   go_cut [6] (λv wx=>v=.string kd/\wx=D)
   case first=>
    cases wd
    ·have b5:kd={data:=#[110]}:=aJ;subst b5;go_wp2;go_meet
     exact⟨rfl,rfl⟩
    have b5:kd={data:=#[119]}:=aJ;subst b5;go_wp2;go_meet
    exact⟨rfl,rfl⟩
   case rest=>
   obtain⟨rfl,hw⟩:=hcut;obtain rfl:=hw.symm;clear aJ x0;have aI:Hid (∀W,E_ D W->C_ 135 #[.int .i64 dd,.int .i64 1] W λe w'=>e=.returned (.string (strOfNums (Ba dd 1)))/\E_ D w'):=λW hW=>Ea hW _ 1 o_ o_ o_;obtain⟨nn,cL⟩:∃nn:Nat,nn=nb+nw:=⟨_,rfl⟩;rw[<- cL] at aA;have q1:nb+nw=(nn:Int):=o_;have dI:nn<=2000:=o_;clear cL;have aH:Hid (∀W,E_ D W->C_ 135 #[.int .i64 nn,.int .i64 1] W λe w'=>e=.returned (.string (strOfNums (Ba nn 1)))/\E_ D w'):=λW hW=>Ea hW _ 1 o_ o_ o_;obtain⟨H1,b8⟩:∃H1:List Int,H1=H0++(q.take i).flatMap Pj++ZfF wd++[(dd:Int)%256]++[(nn:Int)%256]:=⟨_,rfl⟩
   have c8:Hid (S++kd++strOfNums (Ba dd 1)++strOfNums (Ba nn 1)=strOfNums H1):=(by show _=_;rw[b8,c,aU,Cl,Cl,Cl];rfl);have aX:Hid (H0++(q.take (i+1)).flatMap Pj=H1++Jz R++Ki G):=(by show _=_;rw[HT,aA,b8];simp only[List.append_assoc]);have r:S.size<=1000000:=by rw[c,Br];exact c6 i
   have cX:kd.size=1:=by
    rw[aU,Br]
    cases wd<;>rfl
   have H:=Ex (dd:Nat) 1;have l2:=Ex (nn:Nat) 1;have F:¬9223372036854775807<S.size+kd.size:=o_;have z2:¬9223372036854775807<S.size+kd.size+(strOfNums (Ba dd 1)).size:=o_;have z3:¬9223372036854775807<S.size+kd.size+(strOfNums (Ba dd 1)).size+(strOfNums (Ba nn 1)).size:=o_;have a8:Hid ((H1++Jz R++Ki G).length<=1000000):=(by rw[<- aX];exact c6 (i+1));have cU:IntKind.i64.wrap nn=nn:=Cb o_ o_;clear b8 HT aA aU c cX H l2;have bQ:E_ D D:=bz_;go_upto_region 9 with fail;generalize strOfNums (Ba (dd:Nat) 1)=s1 at *;generalize strOfNums (Ba (nn:Nat) 1)=s2 at *;go_cut [3] (λv wx=>v=.string (S++kd++s1++s2)/\Hid (E_ D wx))
   case first=>
    refine Al (λw'=>w'.cell? (A_ fb 1)=some (.slice ab nb cb)/\w'.cell? (A_ fb 2)=some (.slice aw nw cw)/\w'.cell? (A_ fb 3)=some (I_ (dd:Nat))) 16 k_ ⟨x1,x2,x3⟩ (λhHeld=>?_);refine Ah 0 ?_;refine Ah 1 ?_;refine Ah 2 ?_;refine Ah 3 ?_;refine Ah 4 ?_;refine Ah 7 ?_;refine Ah 8 ?_;refine Ah 9 ?_;refine Ah 10 ?_;refine Ah 11 ?_;refine Ah 12 ?_;refine Ah 13 ?_;refine Af (i:=5) k_ rfl (λKK hK=>?_);go_simp;refine(aI _ bQ.drew).mono ?_;rintro e w2 ⟨rfl,o⟩;go_simp;refine hK _ _ ⟨Ac o x1,Ac o x2,Ac o x3⟩ (λhHeld=>?_);clear hK KK;try simp only[Act.put,sA,sB,sC]
    refine Ah 6 ?_;refine Af (i:=14) k_ rfl (λKK hK=>?_);go_simp;refine(aH _ o).mono ?_;rintro e w3 ⟨rfl,y⟩;go_simp;refine hK _ _ ⟨Ac y x1,Ac y x2,Ac y x3⟩ (λhHeld=>?_);clear hK KK;try simp only[Act.put,sA,sB,sC]
    refine Ah 15 ?_;refine Ai (i:=16) k_ rfl k_ (λKK hK=>?_);go_simp;refine hK _ _ ?_;clear hK KK;try simp only[Act.put,sA,sB,sC]
    refine Ak k_ ?_ _;go_wp2;go_meet
    exact⟨rfl,y⟩
   case rest=>
   obtain⟨rfl,aF⟩:=hcut;rw[c8];clear aI aH c8 bQ x3 q1 cU F z2 z3 r;go_upto_region 11 with fail;go_loopw [3,7] (λt3 t7 wr=>∃(k:Nat) (S:ByteArray),t3=.string S/\t7=.int .i64 k/\k<=nb/\Hid (S=strOfNums (H1++Jz (R.take k)))/\Hid (E_ D wr)) (λ_ t7 _=>nb-(intOf t7).toNat)
   case atStart=>exact⟨0,_,rfl,rfl,qg_,by show _=_;simp[Jz],aF⟩
   case round=>
    clear aF;obtain⟨k,S2,rfl,rfl,c9,c,A⟩:=hrel;have a:=A.out;have y1:=Ac a x1
    by_cases hkb:k<nb
    ·have k0:0<=(k:Int):=o_;have k1:k<(nb:Int):=o_;have M:k<R.length:=(by rw[a7.1];exact hkb);obtain⟨qb,rfl,_,_,cx⟩:=aL.1.atK a7.1 (k:=k) hkb;have y2:=Ac a (Ac a1 cx.1);have d5:=dC _ (Na 0 M);have J:Hid (Jz (R.take (k+1))=Jz (R.take k)++Ba (R.getD k 0) 4):=rt M;clear cx;generalize R.getD k 0=x at *;have O:Hid (C_ 135 #[.int .i64 x,.int .i64 4] wr λe w'=>e=.returned (.string (strOfNums (Ba x 4)))/\E_ D w'):=Ea a _ 4 o_ o_ o_;have Y:Hid (S2++strOfNums (Ba x 4)=strOfNums (H1++Jz (R.take (k+1)))):=by show _=_;rw[J,c,Cl,List.append_assoc]
     have r:S2.size<=1000000:=(by rw[c,Br];have C:=a8.out;simp only[Qe,fh,List.length_take] at C ⊢;omega);have H:=Ex x 4;have F:¬9223372036854775807<S2.size+(strOfNums (Ba x 4)).size:=o_;clear J c A d5 H r;generalize strOfNums (Ba x 4)=s3 at *;go_wp2_with fail
     refine O.mono ?_;rintro e w2 ⟨rfl,o⟩;have Q:Hid (E_ D w2):=o;clear o O a;go_wp2;go_roundw;case rel=>exact⟨k+1,_,rfl,g_,o_,Y,Q⟩
     case measure=>exact z_
    have bK:k=nb:=o_;subst bK;have bR:¬k<(k:Int):=o_;rw[List.take_of_length_le (by rw[a7.1];omega)] at c;obtain⟨H2,bY⟩:∃H2:List Int,H2=H1++Jz R:=⟨_,rfl⟩;rw[<- bY] at c aX a8;clear bY;generalize wr=wa at *;go_upto_region 15 with fail;clear y1 a;go_loopw [3,8] (λt3 t8 wr=>∃(j:Nat) (S:ByteArray),t3=.string S/\t8=.int .i64 j/\j<=nw/\Hid (S=strOfNums (H2++Ki (G.take j)))/\Hid (E_ D wr)) (λ_ t8 _=>nw-(intOf t8).toNat)
    case atStart=>exact⟨0,_,rfl,rfl,qg_,by show _=_;rw[c];simp[Ki],A⟩
    case round=>
     clear c A;obtain⟨j,T,rfl,rfl,dJ,c,A⟩:=hrel;have a:=A.out;have y2:=Ac a x2
     by_cases hjw:j<nw
     ·have j0:0<=(j:Int):=o_;have j1:j<(nw:Int):=o_;have bE:j<G.length:=(by rw[a7.2];exact hjw);obtain⟨qw,rfl,_,cx⟩:=aL.2.atW a7.2 hjw ByteArray.empty;have x4:=Ac a1 cx;have y3:=Ac a x4;have d7:=cZ _ (Na ByteArray.empty bE);have J:Hid (Ki (G.take (j+1))=Ki (G.take j)++((G.getD j ByteArray.empty).size:Int)%256::Aq (G.getD j ByteArray.empty)):=uy bE _;clear cx;generalize G.getD j ByteArray.empty=t at *;have O:Hid (∀W,E_ D W->C_ 135 #[.int .i64 t.size,.int .i64 1] W λe w'=>e=.returned (.string (strOfNums (Ba t.size 1)))/\E_ D w'):=λW hW=>Ea hW _ 1 o_ o_ o_
      have Y:Hid (T++strOfNums (Ba t.size 1)++t=strOfNums (H2++Ki (G.take (j+1)))):=(by show _=_;have h3:=Cl (H2++Ki (G.take j)++Ba (t.size:Nat) 1) (Aq t);rw[zx] at h3;rw[J,c,Cl,h3,ja];simp only[List.append_assoc];rfl);have r:T.size<=1000000:=by rw[c,Br];have C:=a8.out;have h2:=Rl (λs=>((s.size:Nat):Int)%256::Aq s) G j;simp only[Qe,Ki] at C h2 ⊢;omega
      have H:=Ex (t.size:Nat) 1;have F:¬9223372036854775807<T.size+(strOfNums (Ba t.size 1)).size:=o_;have z2:¬9223372036854775807<T.size+(strOfNums (Ba t.size 1)).size+t.size:=o_;clear J c A d7 H r;generalize strOfNums (Ba (t.size:Nat) 1)=s3 at *;go_upto_region 17 with fail;refine Al (λw'=>w'.cell? (A_ fb 2)=some (L_ qw nw cw)/\w'.cell? (A_ qw j)=some (.string t)) 15 k_ ⟨y2,y3⟩ (λhHeld=>?_);refine Ah 0 ?_;refine Ah 1 ?_;refine Ah 2 ?_;refine Ah 3 ?_;refine Ah 4 ?_;refine Ah 5 ?_;refine Ah 6 ?_;refine Ah 9 ?_;refine Ah 10 ?_;refine Ah 11 ?_;refine Ah 12 ?_;refine Ah 13 ?_;refine Af (i:=7) k_ rfl (λKK hK=>?_);go_simp;refine(O _ a.drew).mono ?_;rintro e w2 ⟨rfl,o⟩;go_simp
      refine hK _ _ ⟨Ac o x2,Ac o x4⟩ (λhHeld=>?_);clear hK KK;try simp only[Act.put,sA,sB,sC]
      refine Ah 8 ?_;refine Ah 14 ?_;refine Ai (i:=15) k_ rfl k_ (λKK hK=>?_);go_simp;refine hK _ _ ?_;clear hK KK;try simp only[Act.put,sA,sB,sC]
      refine Ak k_ ?_ _;have Q:Hid (E_ D w2):=o;clear o hHeld;clear O a y2 y3;go_wp2;go_roundw;case rel=>exact⟨j+1,_,rfl,g_,o_,Y,Q⟩
      case measure=>exact z_
     have bV:j=nw:=o_;subst bV;have dR:¬j<(j:Int):=o_;rw[List.take_of_length_le (by rw[a7.2];omega),<- aX] at c;have Q:Hid (E_ w wr):=a1.trans (a.mono a1.size);clear A a;go_wp2;go_roundw;case rel=>exact⟨i+1,_,rfl,g_,o_,c,Q⟩
     case measure=>exact z_
  have bU:i=U:=o_;subst bU;have dQ:¬i<(i:Int):=o_;rw[List.take_of_length_le (by rw[aC.1];omega)] at c;obtain⟨H3,c5⟩:∃H3:List Int,H3=H0++q.flatMap Pj:=⟨_,rfl⟩;rw[<- c5] at c u;clear c5 aN HK;have y2:=Ac a d2;have O:Hid (C_ 135 #[.int .i64 Z,.int .i64 1] wr λe w'=>e=.returned (.string (strOfNums (Ba Z 1)))/\E_ w w'):=Ea a _ 1 o_ o_ o_;obtain⟨H4,aK⟩:∃H4:List Int,H4=H3++[(Z:Int)%256]:=⟨_,rfl⟩;have cN:Hid (S++strOfNums (Ba Z 1)=strOfNums H4):=(by show _=_;rw[aK,c,Cl];rfl);rw[<- aK] at u
  have r:S.size<=1000000:=by
   rw[c,Br];have C:=P.out;rw[u,aK] at C
   grind
  have H:=Ex (Z:Nat) 1;have F:¬9223372036854775807<S.size+(strOfNums (Ba Z 1)).size:=o_
  have bI:Hid (∀b,(H4++(l.take b).flatMap Gw).length<=1000000):=λb=>by have C:=P.out;rw[u] at C;simp only[Qe] at C ⊢;have:=Rl Gw l b;omega
  clear aK c H r;generalize strOfNums (Ba (Z:Nat) 1)=s1 at *;go_wp2_with fail
  refine O.mono ?_;rintro e w2 ⟨rfl,o⟩;have Q:Hid (E_ w w2):=o;clear o O A a y1 y2;go_upto_region 20 with fail;clear F;rw[cN];clear cN;go_loopw [3,9] (λt3 t9 wr=>∃(b:Nat) (S:ByteArray),t3=.string S/\t9=.int .i64 b/\b<=Z/\Hid (S=strOfNums (H4++(l.take b).flatMap Gw))/\Hid (E_ w wr)) (λ_ t9 _=>Z-(intOf t9).toNat)
  case atStart=>exact⟨0,_,rfl,rfl,qg_,by show _=_;simp,Q⟩
  case round=>
   clear Q;obtain⟨b,S2,rfl,rfl,hb,c,A⟩:=hrel;have a:=A.out;have y2:=Ac a d2
   by_cases hbb:b<Z
   ·have b0:0<=(b:Int):=o_;have b1:b<(Z:Int):=o_;have a9:b<l.length:=(by rw[aC.2.1];exact hbb);obtain⟨q2,k2,ag,cg,e2,cB,aE⟩:=bC.2 b (by rw[List.length_map];exact a9);obtain⟨q3,k3,ac,cc,e3,cC,aO⟩:=b7.2 b (by rw[List.length_map];exact a9);have cT:a2=some ⟨q2,0,none⟩:=(by injection e2);have cW:a3=some ⟨q3,0,none⟩:=(by injection e3);subst cT cW;have eF:(l.map BS.fs).getD b []=(l.getD b Dx).fs:=(by simp[List.getD,a9]);have eN:(l.map BS.N).getD b []=(l.getD b Dx).N:=(by simp[List.getD,a9]);rw[eF] at cB aE;rw[eN] at cC aO;have I:=cR _ (Na Dx a9);have HT:Hid ((l.take (b+1)).flatMap Gw=(l.take b).flatMap Gw++Gw (l.getD b Dx)):=Kl Gw l Dx a9;clear e2 e3 eF eN;generalize l.getD b Dx=B at *;obtain⟨E,N,g⟩:=B
    have aR:Hid (Gw ⟨E,N,g⟩=[(E.length:Int)%256]++Wl E++Kz N g):=rfl;simp only at cB aE cC aO;have aV:N.length=n:=I.len;have bZ:E.length<=1000:=I.few;have dB:Hid (∀k,E.getD k 0<=1000000):=I.fl
    have aZ:Hid (∀W,E_ w W->C_ 137 #[.pointer (some ⟨db,0,none⟩),.slice ag E.length cg] W λe w'=>e=.returned (.int .i64 g)/\E_ w w'):=λW hW=>by have C:=uj db n cg ag E q W (HV.dk.below hW) (aE.below hW) I.fk bZ;have h2:g=Du q E:=I.gs;rw[<- h2] at C;exact C.mono (λ_ _ h=>⟨h.1,hW.trans (h.2.mono hW.size)⟩)
    have aW:Hid (∀W,E_ w W->C_ 136 #[.slice ac N.length cc,.int .i64 g] W λe w'=>e=.returned (.string (strOfNums (Kz N g)))/\E_ w w'):=λW hW=>(Zf1 ac cc g N W (aO.below hW) (by rw[aV];exact hn) I.g6 I.val).mono (λ_ _ h=>⟨h.1,hW.trans (h.2.mono hW.size)⟩);have cP:Hid (NuV w ag E):=aE;clear aE aO I;have a6:=Ac a cB;obtain⟨fl,aD⟩:=ey_ E.length;have cH:Hid (E.length=fl):=aD;rw[aD] at cB bZ aZ aR a6;rw[aV] at cC aW;clear aD aV;have O:Hid (C_ 135 #[.int .i64 fl,.int .i64 1] wr λe w'=>e=.returned (.string (strOfNums (Ba fl 1)))/\E_ w w'):=Ea a _ 1 o_ o_ o_;obtain⟨H5,b3⟩:∃H5:List Int,H5=H4++(l.take b).flatMap Gw++[(fl:Int)%256]:=⟨_,rfl⟩
    have cG:Hid (S2++strOfNums (Ba fl 1)=strOfNums H5):=(by show _=_;rw[b3,c,Cl];rfl);have bD:Hid (H4++(l.take (b+1)).flatMap Gw=H5++Wl E++Kz N g):=(by show _=_;rw[HT,aR,b3];simp only[List.append_assoc]);have r:S2.size<=1000000:=(by rw[c,Br];exact bI b);have H:=Ex (fl:Nat) 1;have F:¬9223372036854775807<S2.size+(strOfNums (Ba fl 1)).size:=o_;have a8:Hid ((H5++Wl E++Kz N g).length<=1000000):=(by rw[<- bD];exact bI (b+1));clear b3 c HT aR H r;generalize strOfNums (Ba (fl:Nat) 1)=s1 at *;go_wp2_with fail
    refine O.mono ?_;rintro e w3 ⟨rfl,y⟩;have aG:Hid (E_ w w3):=y;clear y O A a y2 a6;go_upto_region 24 with fail;clear F;rw[cG];clear cG;go_loopw [3,10] (λt3 t10 wr=>∃(k:Nat) (S:ByteArray),t3=.string S/\t10=.int .i64 k/\k<=fl/\Hid (S=strOfNums (H5++Wl (E.take k)))/\Hid (E_ w wr)) (λ_ t10 _=>fl-(intOf t10).toNat)
    case atStart=>exact⟨0,_,rfl,rfl,qg_,by show _=_;simp[Wl],aG⟩
    case round=>
     clear aG;obtain⟨k,T,rfl,rfl,c9,c,A⟩:=hrel;have a:=A.out;have y2:=Ac a d2;have a6:=Ac a cB
     by_cases hkf:k<fl
     ·have k0:0<=(k:Int):=o_;have k1:k<(fl:Int):=o_;have M:k<E.length:=(by rw[cH];exact hkf);obtain⟨qg,rfl,cx⟩:=cP k M;have y4:=Ac a cx;have dM:=dB k;have J:Hid (Wl (E.take (k+1))=Wl (E.take k)++[((E.getD k 0:Nat):Int)%256]):=ZaA M;clear cx;generalize E.getD k 0=f at *;have O:Hid (C_ 135 #[.int .i64 f,.int .i64 1] wr λe w'=>e=.returned (.string (strOfNums (Ba f 1)))/\E_ w w'):=Ea a _ 1 o_ o_ o_;have Y:Hid (T++strOfNums (Ba f 1)=strOfNums (H5++Wl (E.take (k+1)))):=(by show _=_;rw[J,c,Cl,List.append_assoc];rfl);have r:T.size<=1000000:=by rw[c,Br];have C:=a8.out;simp only[Qe,Wl,List.length_map,List.length_take] at C ⊢;omega
      have H:=Ex (f:Nat) 1;have F:¬9223372036854775807<T.size+(strOfNums (Ba f 1)).size:=o_;clear J c A H r;generalize strOfNums (Ba (f:Nat) 1)=s3 at *;go_wp2_with fail
      refine O.mono ?_;rintro e w4 ⟨rfl,m⟩;have V:Hid (E_ w w4):=m;clear m O a y2 a6 y4;go_wp2;go_roundw;case rel=>exact⟨k+1,_,rfl,g_,o_,Y,V⟩
      case measure=>exact z_
     have bW:k=fl:=o_;subst bW;have bR:¬k<(k:Int):=o_;rw[List.take_of_length_le (by rw[cH];omega)] at c;have dH:Hid (T++strOfNums (Kz N g)=strOfNums (H4++(l.take (b+1)).flatMap Gw)):=(by show _=_;rw[bD,c,Cl]);have F:¬9223372036854775807<T.size+(strOfNums (Kz N g)).size:=by rw[c,Br,Br];have C:=a8.out;simp only[Qe] at C ⊢;omega
     clear c;generalize strOfNums (Kz N g)=s4 at *;go_upto_region 27 with fail;have y3:=Ac a d3;have bO:=Ac a cC;refine Al (λw'=>w'.cell? (A_ db 2)=some (L_ q2 Z c2)/\w'.cell? (A_ db 3)=some (L_ q3 Z c3)/\w'.cell? (A_ q2 b)=some (.slice ag k cg)/\w'.cell? (A_ q3 b)=some (.slice ac n cc)) 19 k_ ⟨y2,y3,a6,bO⟩ (λhHeld=>?_);refine Ah 0 ?_;refine Ah 1 ?_;refine Ah 2 ?_;refine Ah 3 ?_;refine Ah 4 ?_;refine Ah 5 ?_;refine Ah 6 ?_;refine Ah 7 ?_;refine Ah 8 ?_;refine Ah 9 ?_;refine Ah 10 ?_;refine Ah 11 ?_;refine Ah 12 ?_;refine Ah 13 ?_;refine Ah 14 ?_;refine Ah 15 ?_;refine Af (i:=16) k_ rfl (λKK hK=>?_);go_simp;refine(aZ _ a.drew).mono ?_;rintro e w4 ⟨rfl,m⟩;go_simp;refine hK _ _ ⟨Ac m d2,Ac m d3,Ac m cB,Ac m cC⟩ (λhHeld=>?_)
     clear hK KK;try simp only[Act.put,sA,sB,sC]
     refine Af (i:=17) k_ rfl (λKK hK=>?_);go_simp;refine(aW _ m).mono ?_;rintro e w5 ⟨rfl,z⟩;go_simp;refine hK _ _ ⟨Ac z d2,Ac z d3,Ac z cB,Ac z cC⟩ (λhHeld=>?_);clear hK KK;try simp only[Act.put,sA,sB,sC]
     refine Ah 18 ?_;refine Ai (i:=19) k_ rfl k_ (λKK hK=>?_);go_simp;refine hK _ _ ?_;clear hK KK;try simp only[Act.put,sA,sB,sC]
     refine Ak k_ ?_ _;have V:Hid (E_ w w5):=z;clear z hHeld;clear m aZ aW A a y2 a6 y3 bO;go_wp2;go_roundw;case rel=>exact⟨b+1,_,rfl,g_,o_,dH,V⟩
     case measure=>exact z_
   have bM:b=Z:=o_;subst bM;have aP:¬b<(b:Int):=o_;rw[List.take_of_length_le (by rw[aC.2.1];omega)] at c;obtain⟨H6,bL⟩:∃H6:List Int,H6=H4++l.flatMap Gw:=⟨_,rfl⟩;rw[<- bL] at c u;clear bL bC b7;have y4:=Ac a d4;have O:Hid (C_ 135 #[.int .i64 lx,.int .i64 2] wr λe w'=>e=.returned (.string (strOfNums (Ba lx 2)))/\E_ w w'):=Ea a _ 2 o_ o_ o_;obtain⟨H7,aM⟩:∃H7:List Int,H7=H6++Ba lx 2:=⟨_,rfl⟩;have bP:Hid (S2++strOfNums (Ba lx 2)=strOfNums H7):=(by show _=_;rw[aM,c,Cl]);rw[<- aM] at u;have r:S2.size<=1000000:=by rw[c,Br];have C:=P.out;rw[u,aM] at C;simp only[Qe] at C ⊢;omega
   have H:=Ex (lx:Nat) 2;have F:¬9223372036854775807<S2.size+(strOfNums (Ba lx 2)).size:=o_
   have d6:Hid (∀k,(H7++(X.take k).flatMap xB).length<=1000000):=λk=>by have C:=P.out;rw[u] at C;simp only[Qe] at C ⊢;have:=Rl xB X k;omega
   clear aM c H r;generalize strOfNums (Ba (lx:Nat) 2)=s1 at *;go_wp2_with fail
   refine O.mono ?_;rintro e w3 ⟨rfl,y⟩;have aG:Hid (E_ w w3):=y;clear y O A a y2 y4;go_upto_region 30 with fail;clear F;rw[bP];clear bP;go_loopw [3,11] (λt3 t11 wr=>∃(k:Nat) (S:ByteArray),t3=.string S/\t11=.int .i64 k/\k<=lx/\Hid (S=strOfNums (H7++(X.take k).flatMap xB))/\Hid (E_ w wr)) (λ_ t11 _=>lx-(intOf t11).toNat)
   case atStart=>exact⟨0,_,rfl,rfl,qg_,by show _=_;simp,aG⟩
   case round=>
    clear aG;obtain⟨k,T,rfl,rfl,c9,c,A⟩:=hrel;have a:=A.out;have y4:=Ac a d4
    by_cases hkx:k<lx
    ·have k0:0<=(k:Int):=o_;have k1:k<(lx:Int):=o_;have aT:k<X.length:=(by rw[aC.2.2];exact hkx);obtain⟨qx,cx,ex,x0,x1,x2⟩:=cE.2 k aT;have d9:a4=some ⟨qx,0,none⟩:=(by injection ex);subst d9;clear ex;have cI:=HX _ (Na Fk aT);have HT:Hid ((X.take (k+1)).flatMap xB=(X.take k).flatMap xB++xB (X.getD k Fk)):=Kl xB X Fk aT;generalize X.getD k Fk=x at *;obtain⟨xr,xf,xb⟩:=x;simp only at x0 x1 x2 cI;obtain⟨dL,dK,dO⟩:=cI;have z0:=Ac a x0;have F:=Ac a x1;have z2:=Ac a x2;have aI:Hid (∀W,E_ w W->C_ 135 #[.int .i64 xr,.int .i64 1] W λe w'=>e=.returned (.string (strOfNums (Ba xr 1)))/\E_ w w'):=λW hW=>Ea hW _ 1 o_ o_ o_
     have aH:Hid (∀W,E_ w W->C_ 135 #[.int .i64 xf,.int .i64 1] W λe w'=>e=.returned (.string (strOfNums (Ba xf 1)))/\E_ w w'):=λW hW=>Ea hW _ 1 o_ o_ o_;have cA:Hid (∀W,E_ w W->C_ 135 #[.int .i64 xb,.int .i64 1] W λe w'=>e=.returned (.string (strOfNums (Ba xb 1)))/\E_ w w'):=λW hW=>Ea hW _ 1 o_ o_ o_;have Y:Hid (T++strOfNums (Ba xr 1)++strOfNums (Ba xf 1)++strOfNums (Ba xb 1)=strOfNums (H7++(X.take (k+1)).flatMap xB)):=by show _=_;rw[HT,c,Cl,Cl,Cl];simp only[List.append_assoc];rfl
     have r:T.size<=1000000:=(by rw[c,Br];exact d6 k);have H:=Ex (xr:Nat) 1;have l2:=Ex (xf:Nat) 1;have l3:=Ex (xb:Nat) 1;have u1:¬9223372036854775807<T.size+(strOfNums (Ba xr 1)).size:=o_;have u2:¬9223372036854775807<T.size+(strOfNums (Ba xr 1)).size+(strOfNums (Ba xf 1)).size:=o_;have u3:¬9223372036854775807<T.size+(strOfNums (Ba xr 1)).size+(strOfNums (Ba xf 1)).size+(strOfNums (Ba xb 1)).size:=o_;clear HT c H l2 l3 r;generalize strOfNums (Ba (xr:Nat) 1)=t1 at *;generalize strOfNums (Ba (xf:Nat) 1)=t2 at *;generalize strOfNums (Ba (xb:Nat) 1)=t3 at *;go_upto_region 32 with fail
     refine Al (λw'=>w'.cell? (A_ db 4)=some (L_ qx lx c4)/\w'.cell? (A_ qx (k*3))=some (I_ (xr:Nat))/\w'.cell? (A_ qx (k*3+1))=some (I_ (xf:Nat))/\w'.cell? (A_ qx (k*3+2))=some (I_ (xb:Nat))) 31 k_ ⟨y4,z0,F,z2⟩ (λhHeld=>?_);refine Ah 0 ?_;refine Ah 1 ?_;refine Ah 2 ?_;refine Ah 3 ?_;refine Ah 4 ?_;refine Ah 5 ?_;refine Ah 6 ?_;refine Ah 7 ?_;refine Ah 8 ?_;refine Ah 11 ?_;refine Ah 12 ?_;refine Ah 13 ?_;refine Ah 14 ?_;refine Ah 15 ?_;refine Ah 16 ?_;refine Ah 17 ?_;refine Ah 18 ?_;refine Ah 21 ?_;refine Ah 22 ?_;refine Ah 23 ?_;refine Ah 24 ?_;refine Ah 25 ?_;refine Ah 26 ?_;refine Ah 27 ?_;refine Ah 28 ?_;refine Af (i:=9) k_ rfl (λKK hK=>?_);go_simp;refine(aI _ a.drew).mono ?_;rintro e w4 ⟨rfl,m⟩;go_simp
     refine hK _ _ ⟨Ac m d4,Ac m x0,Ac m x1,Ac m x2⟩ (λhHeld=>?_);clear hK KK;try simp only[Act.put,sA,sB,sC]
     refine Ah 10 ?_;refine Af (i:=19) k_ rfl (λKK hK=>?_);go_simp;refine(aH _ m).mono ?_;rintro e w5 ⟨rfl,z⟩;go_simp;refine hK _ _ ⟨Ac z d4,Ac z x0,Ac z x1,Ac z x2⟩ (λhHeld=>?_);clear hK KK;try simp only[Act.put,sA,sB,sC]
     refine Ah 20 ?_;refine Af (i:=29) k_ rfl (λKK hK=>?_);go_simp;refine(cA _ z).mono ?_;rintro e w6 ⟨rfl,aB⟩;go_simp;refine hK _ _ ⟨Ac aB d4,Ac aB x0,Ac aB x1,Ac aB x2⟩ (λhHeld=>?_);clear hK KK;try simp only[Act.put,sA,sB,sC]
     refine Ah 30 ?_;refine Ai (i:=31) k_ rfl k_ (λKK hK=>?_);go_simp;refine hK _ _ ?_;clear hK KK;try simp only[Act.put,sA,sB,sC]
     refine Ak k_ ?_ _;have V:Hid (E_ w w6):=aB;clear aB hHeld;clear m z aI aH cA A a y4 z0 F z2;go_wp2;go_roundw;case rel=>exact⟨k+1,_,rfl,g_,o_,Y,V⟩
     case measure=>exact z_
    have cO:k=lx:=o_;subst cO;have bR:¬k<(k:Int):=o_;rw[List.take_of_length_le (by rw[aC.2.2];omega),<- u] at c;have cS:=c.out;subst cS;clear c u;have bF:=dE wr;go_wp2_with fail
    refine bF.mono ?_;rintro e w4 ⟨rfl,m⟩;have V:Hid (E_ w w4):=a.trans (m.mono a.size);clear m bF A a y4;go_wp2;go_ret;exact⟨rfl,V⟩
section
variable {m n budget:Nat} {es:List ES} {Bb:List (List Nat)}
def ZgX(c:Po m n es Bb){g}(b:g<m+1) r:(Bb.getD g []).getD r 0<((Eb es Bb (m+1)).getD g Ay).many:=by
 rw[Fi es Bb b];show _<(es.getD g Ph).cnt+2;rw[Qc]
 rcases Nat.lt_or_ge r (Bb.getD g []).length with a|a
 rw[Qd a];exact c.bin g b _ (Qf _)
 grind
def ZlU(c:Po m n es Bb){r}(d:r<n){g}(a:g<m+1):((Gh es Bb (m+1)).getD g []).getD r false=sO (Eb es Bb (m+1)) Bb g r:=by unfold sO;rw[Lg es Bb a,Fi es Bb a];have b:r<(Bb.getD g []).length:=(by rw[c.lb g a];exact d);unfold oF Dc;rw[Qc,List.getElem?_map,Qd b,Qc (l:=Bb.getD g []),Qd b];rfl
def ZeI:(Ao m n budget es Bb).ks=Eb es Bb (m+1):=Kw _ _ _ _ _
def yy:(Ao m n budget es Bb).ks.length=m+1:=by rw[ZeI];exact Dh _ _ _
def Zkd:(Ao m n budget es Bb).bs.map BS.fs=Dp (Ha m (Eb es Bb (m+1)) (Gh es Bb (m+1)) n budget):=by
  have:=bo (Gh es Bb (m+1)) Bb n (Eb es Bb (m+1)) (Ha m (Eb es Bb (m+1)) (Gh es Bb (m+1)) n budget) ⟨Eb es Bb (m+1),[],[]⟩;unfold Ao Ew
  simpa using this
def Zke{G}(b:G∈Ha m (Eb es Bb (m+1)) (Gh es Bb (m+1)) n budget){f}(a:f∈G.fs):f<m+1:=by
 have c:f∈Fh (Ha m (Eb es Bb (m+1)) (Gh es Bb (m+1)) n budget):=by grind [Fh]
 grind [Nd]
def ZiY(k:Po m n es Bb){X}(p:X.Perm (Ao m n budget es Bb).xs){f r}(l:f<m+1)(j:r<n):xbF X f r (Jp (Ao m n budget es Bb).ks ((Ao m n budget es Bb).bs.map BS.fs) ((Ao m n budget es Bb).bs.map BS.N) r f)=(Bb.getD f []).getD r 0:=by
 have c:=Dh es Bb (m+1);have o:∀r,_->∀g,g<(Eb es Bb (m+1)).length->_=sO _ _ g r:=λr j g hg=>ZlU k j o_;have h:=Zas (n:=n) c (Nd m (Eb es Bb (m+1)) _ n _) (Tq m _ (Gh es Bb (m+1)) n budget) (λi hi r=>ZgX k hi r) o;have d:=Zar (n:=n) (Gs:=Ha m (Eb es Bb _) _ n budget) (λG hG f l=>by rw[c];exact Zke hG l) (λi hi r=>ZgX k o_ r) o;have a:(Ao m n _ _ _).bs.map _=_:=d;rw[ZeI,Zkd,a];have b:=λx=>p.mem_iff.trans (h x);unfold xbF
 cases hfd:X.find? (λy=>decide (rp r f y)) with
 | some y=>
  grind
 | none=>
  rw[List.find?_eq_none] at hfd
  by_cases e:Jp (Eb es Bb (m+1)) (Dp (Ha m (Eb es Bb (m+1)) (Gh es Bb (m+1)) n budget)) ((Dp (Ha m (Eb es Bb (m+1)) (Gh es Bb (m+1)) n budget)).map (λfs=>He (Eb es Bb (m+1)) Bb fs n)) r f=(Bb.getD f []).getD r 0
  exact e;exact absurd (decide_eq_true (show rp r f _ from⟨rfl,rfl⟩)) (hfd _ ((b ⟨r,f,(Bb.getD f _).getD r 0⟩).2 ⟨j,l,decide_eq_true e,rfl⟩))
end
def ce{α:Type}(f:α->List Int) c:∀(L:List α),(∀x∈L,(f x).length<=c)->(L.flatMap f).length<=L.length*c
 |[],_=>s_
 |x::L,h=>by have h1:=h x s_;have h2:=ce f c L (λy hy=>h y (by simp[hy]));rw[List.flatMap_cons,Qe,List.length_cons,Nat.succ_mul];omega
def Zil{n D}(a:Mt n D)(c:∀K∈D.ks,oe K){X}(d:X.Perm D.xs):(Ob D X).length<=100000:=by have h:=ce Pj _ _ (λK hK=>ZeC (c K hK));have j:=ce _ _ _ (λb hb=>(a.bun b hb).2.2.2.2);have f:=ce xB 3 X (λx _=>qa_);have g:=a.k4;have i:=a.b4;have e:=a.xl;rw[<- d.length_eq] at e;unfold Ob;simp only[Qe,List.length_cons,List.length_nil,Gc];omega
def ZbE{m n a d c}(H:m+1<=4)(E:n<=200)(g:Po m n d c)(j:∀K∈(Ao m n a d c).ks,oe K)(D:∀K∈(Ao m n a d c).ks,∀x∈K.e.bs,-4294967296<=x){X}(v:X.Perm (Ao m n a d c).xs) F o Q I L P C z u w (h:RfX w o F n Q I L P C z u (Ao m n a d c).ks ((Ao m n a d c).bs.map BS.fs) ((Ao m n a d c).bs.map BS.N) X):C_ 76 #[.pointer (some ⟨F,0,none⟩)] w λe w'=>e=.returned (.string (strOfNums (Ml (Ao m n a d c) X)))/\Below w.heap.size w w':=by
 have f:=Jk (a:=a) H E g;have p:=Zil f j v;have t:=ZeT (Ao m n a d c) X;have q:=(f.bok _ (f.mem f.b0)).len;have y:Ml (Ao m n a d c) X=Se n (Ao m n a d c).ks (Ao m n a d c).bs X++Ba (Jt (Se n (Ao m n a d c).ks (Ao m n a d c).bs X)) 4:=(by unfold Ml Ob Se;rw[q]);have A:Ob (Ao m n a d c) X=Se n (Ao m n a d c).ks (Ao m n a d c).bs X:=(by unfold Ob Se;rw[q]);rw[A] at p t;rw[y];have O:=f.mn;have M:=f.k4;refine Zdu _ _ n _ _ _ _ _ _ _ _ _ X w h (λK hK=>?_) (λb hb=>?_) o_ (by have:=f.b4;omega) (by rw[v.length_eq];have:=f.xl;omega) (λx hx=>?_) E o_ t
 ·obtain⟨i,B,rfl⟩:=List.getElem_of_mem hK;have e:(Ao m n a d c).ks.getD i Ay=(Ao m n a d c).ks[i]:=w_;have l:=h.one i B;have G:=f.mn i B;have J:=f.dn i B;rw[e] at l G J;refine⟨l,λx hx=>⟨D _ hK x hx,?_⟩,λs hs=>?_,o_⟩
  ·rcases j _ hK with h|h
   ·grind
   grind
  rcases j _ hK with h|h
  ·grind
  grind
 ·have l:=f.bok b hb;have G:=f.g40 b hb;refine⟨l.len,by have:=f.f4 b hb;omega,f.fk b hb,λk=>?_,l.sum,o_,λr=>?_⟩
  ·rw[Qc]
   rcases Nat.lt_or_ge k b.fs.length with g|g
   ·rw[Qd g];have:=f.fk b hb _ (Qf g)
    grind
   grind
  rw[Qc]
  rcases Nat.lt_or_ge r b.N.length with g|g
  ·rw[Qd g];have:=l.le _ (Qf g)
   grind
  grind
 have:=f.xin x (v.subset hx);omega
def Fx(w w':World)(o:Nat->Nat)(g N:Nat)(c:Array Value):Prop:=∃o' c',Hx w' o' g c' N/\Dq w o o'/\Aa (λk=>o k<=13∨o k=99) w w'/\(∀j,j<4->c'[j]? =c[j]?)/\(∀k,w.heap.size<=k∨o k=99->o' k<=13∨o' k=99)/\∀k,w'.heap.size<=k->o' k=99
def Hx.norm{w o g N c}(h:Hx w o g c N):Hx w (λk=>if k<w.heap.size then o k else 99) g c N:=
 h.keep (S:=λ_=>False) (Aa.refl _ _) (λ_ _ e=>e.elim) (λk hk=>.inr (by simp[hk]))
def Hx.more{w o g N b c}(h:Hx w o g c N)(a:N<=b):Hx w o g c b:=by obtain⟨z,d,f,i⟩:=h.nx;exact⟨h.wb,h.og,h.sz,⟨z,d,f,o_⟩,h.es.keep (S:=λ_=>False) (Aa.refl _ _) (λ_ _ e=>e.elim) (Dq.refl _ _) d_ rfl rfl a,h.ns.keep (S:=λ_=>False) (Aa.refl _ _) (λ_ _ e=>e.elim) (Dq.refl _ _) d_ rfl rfl a,h.ss.keep (S:=λ_=>False) (Aa.refl _ _) (λ_ _ e=>e.elim) (Dq.refl _ _) d_ rfl rfl a,h.ls.keep (S:=λ_=>False) (Aa.refl _ _) (λ_ _ e=>e.elim) (Dq.refl _ _) d_ rfl rfl a⟩
def Fx.of_q2{w b o g N c}(h:Lr w b o g N c){d}(f:N<=d):Fx w b o g d c:=by
 obtain⟨r,i,l,m,a,j,n,p⟩:=h;have q:=a.size;refine⟨_,i,l.norm.more f,λk hk=>?_,a,j,λk hk=>?_,λk hk=>w_⟩
 ·rcases m k hk with e|e
  exact .inl e
  grind
 grind
def Fx.of_below{w w' o g N c}(h:Hx w o g c N)(hb:Below w.heap.size w w')(h9:∀k,w.heap.size<=k->o k=99){N'}(hN:N<=N'):Fx w w' o g N' c:=
 ⟨o,c,(h.keep (S:=λ_=>False) (.of_below hb) (λ_ _ e=>e.elim) (Dq.refl _ _)).more hN,Dq.refl _ _,.of_below hb,λ_ _=>rfl,λk hk=>.inr (hk.elim (h9 k) id),λk hk=>h9 k (Nat.le_trans hb.size hk)⟩
def Fx.trans{w b l o a g N c i}(f:Dq w o a)(m:Aa (λk=>o k<=13∨o k=99) w b)(u:∀j,j<4->i[j]? =c[j]?)(v:∀k,w.heap.size<=k∨o k=99->a k<=13∨a k=99)(h:Fx b l a g N i):Fx w l o g N c:=by
 obtain⟨x,r,q,d,n,t,y,p⟩:=h;refine⟨x,r,q,f.trans m.size d,m.trans2 n (λk hk=>?_),λj hj=>(t j hj).trans (u j hj),λk hk=>?_,p⟩
 ·by_cases hl:k<w.heap.size
  ·left
   rcases f k hl with e|e
   exact .inr e;omega
  omega
 rcases v k hk with e|e
 ·by_cases hl:k<b.heap.size
  ·rcases d k hl with s|s
   omega;omega
  grind
 grind
structure Jv(W:World)(dp gb db yb base m n budget:Nat)(es)(Bb)(vF vB vC vX)(kvs)(bvs cvs)(X):Prop where
 dp:W.heap[dp]? =some (.cells #[P_ gb,P_ yb] 137 (0,0))
 x:Mw W gb db (Ao m n budget es Bb)
 y:RfX W base yb n vF vB vC vX kvs bvs cvs (Ao m n budget es Bb).ks ((Ao m n budget es Bb).bs.map BS.fs) ((Ao m n budget es Bb).bs.map BS.N) X
structure On(m n budget)(es)(Bb)(X:List XS):Prop where
 hm:m+1<=4
 hn:n<=200
 hk:Po m n es Bb
 kn:∀K∈(Ao m n budget es Bb).ks,oe K
 kr:∀K∈(Ao m n budget es Bb).ks,∀x∈K.e.bs,-4294967296<=x
 pm:X.Perm (Ao m n budget es Bb).xs
 so:Fp X
section
variable {w w':World} {dp gb db yb base m n budget:Nat} {es:List ES} {Bb:List (List Nat)} {vF vB vC vX:Value} {kvs:List (Value×Value)} {bvs cvs:List Value} {X:List XS}
def Jv.below(h:Jv w dp gb db yb base m n budget es Bb vF vB vC vX kvs bvs cvs X)(hb:Below w.heap.size w w'):Jv w' dp gb db yb base m n budget es Bb vF vB vC vX kvs bvs cvs X:=
 ⟨(hb.block _ (Qb h.dp).1).trans h.dp,h.x.below hb,h.y.keep (.of_below hb)⟩
def Jv.cells(h:Jv w dp gb db yb base m n budget es Bb vF vB vC vX kvs bvs cvs X):w.cell? (A_ dp 0)=some (P_ gb)/\w.cell? (A_ dp 1)=some (P_ yb)/\w.cell? (A_ yb 0)=some (I_ n)/\w.cell? (A_ yb 1)=some vF/\w.cell? (A_ yb 2)=some vB:=
 ⟨cq_ 0 _ 137 (0,0) h.dp,cq_ 1 _ 137 (0,0) h.dp,cq_ 0 _ 142 (0,0) h.y.ds,cq_ 1 _ 142 (0,0) h.y.ds,cq_ 2 _ 142 (0,0) h.y.ds⟩
def Zcq g D s c b d x y p B A u z q l v wc o (h:Jv w dp gb db yb base m n budget es Bb vF vB vC vX kvs bvs cvs X)(j:On m n budget es Bb X):C_ 77 #[.pointer (some ⟨g,0,none⟩),.pointer (some ⟨dp,0,none⟩),.agg #[.int .i64 8,.int .i64 D,.int .i64 s,.slice p u z,.int .i64 c,.int .i64 b,.int .i64 d,.slice B q l,.slice A v wc,.string o,.int .i64 x,.int .i64 y]] w λe w'=>e=.returned (.bool true)/\Below w.heap.size w w':=by
 have G:=x1_ (Jk (budget:=budget) j.hm j.hn j.hk);have k:Hid (∀W,Below _ w W->_):=λW hW=>h.below hW;clear h j;go_enter Tryz.func77,Tryz.ntmps77;go_upto_region 3 with fail;generalize hw1:w.alloc (.cells #[I_ 8,I_ D,I_ s,.slice p u z,I_ c,I_ b,I_ d,.slice B q l,.slice A v wc,.string o,I_ x,I_ y] 93)=w1;have a:E_ w w1:=(by rw[<- hw1];exact bA_);clear hw1;obtain⟨E,r,C,_,_⟩:=(k w1 a).cells;have t:=Zc6 _ _ n _ _ (k _ a).x G;clear r C;go_wp2_with fail
 refine t.mono ?_;rintro e H ⟨rfl,i⟩;have f:=a.trans (i.mono a.size);obtain⟨_,r,C,_,_⟩:=(k H f).cells;have F:=x1_ f;clear f i a t E;go_wp2;go_ret;exact⟨s_,F⟩
def Zau g j C F d i f x y z r E q u A s D wc v (h:Jv w dp gb db yb base m n budget es Bb vF vB vC vX kvs bvs cvs X)(o:On m n budget es Bb X)(N:j≠8)(P:j≠9)(L:j≠10)(M:j≠11):C_ 77 #[.pointer (some ⟨g,0,none⟩),.pointer (some ⟨dp,0,none⟩),.agg #[.int .i64 j,.int .i64 C,.int .i64 F,.slice z q u,.int .i64 d,.int .i64 i,.int .i64 f,.slice r A s,.slice E D wc,.string v,.int .i64 x,.int .i64 y]] w λe w'=>e=.returned (.bool true)/\Below w.heap.size w w':=by
 have c:=x2_ (Jk (budget:=budget) o.hm o.hn o.hk) o;have p:Hid (∀W,Below _ w W->_):=λW hW=>h.below hW;clear h o;go_enter Tryz.func77,Tryz.ntmps77;go_upto_region 26 with fail;generalize hw1:w.alloc (.cells #[I_ j,I_ C,I_ F,.slice z q u,I_ d,I_ i,I_ f,.slice r A s,.slice E D wc,.string v,I_ x,I_ y] 93)=w1;have b:E_ w w1:=(by rw[<- hw1];exact bA_);clear hw1;obtain⟨G,_,_,_,_⟩:=(p w1 b).cells;have B:=ZaX _ _ n _ _ (p _ b).x c.1 c.2.kn X c.2.pm c.2.so;have t:=x1_ (λW hW=>ZbE c.2.hm c.2.hn c.2.hk c.2.kn c.2.kr c.2.pm _ _ _ _ _ _ _ _ _ W (p W hW).y);generalize strOfNums (Ml (Ao m n budget es Bb) X)=sb at *;go_wp2_with fail
 refine B.mono ?_;rintro e J ⟨rfl,k⟩;have a:=b.trans (k.mono b.size);obtain⟨_,I,_,_,_⟩:=(p J a).cells;clear k b B G;go_wp2_with fail
 refine(t _ a).mono ?_;rintro e O ⟨rfl,l⟩;have H:=x1_ (a.trans (l.mono a.size));clear l a I t;go_wp2;go_ret;exact⟨s_,H⟩
end
def Dd.keep{w f c n g e d S}(h:Dd w c 0 n g e d)(t:Aa S w f)(k:¬S c)(j:c<w.heap.size):Dd f c 0 n g e d:=by have b:=λo=>cb_ (w:=w) (a:=(A_ c o)) (t.block _ j k);exact⟨h.le,λh0=>Qh (h.lt h0) t.size,λi hi=>(b _).trans (h.c0 i hi),λi hi=>(b _).trans (h.c1 i hi),λi hi=>(b _).trans (h.c2 i hi)⟩
section
variable {w w':World} {o o':Nat->Nat} {t ib yb fk fc m:Nat} {wd:Nat->Bool} {sc ct:Nat->Int} {bins:Int} {size budget:Nat} {T b:ByteArray} {cl:Bool}
def Kv(w:World)(o:Nat->Nat)(t yb fk fc m:Nat)(wd:Nat->Bool)(sc ct:Nat->Int)(bins:Int)(size budget:Nat)(T:ByteArray)(cl:Bool):Prop:=
 o yb=t/\o fk=t/\fk≠yb/\fk<w.heap.size/\Dd w fk 0 (m+1) wd sc ct/\∃S z p,mu w yb fk (m+1) fc bins size budget S z p cl/\(cl=false->S=T/\z=(Nr (Me m wd sc T)).1/\p=(Nr (Me m wd sc T)).2)
def Kv.lt(h:Kv w o t yb fk fc m wd sc ct bins size budget T cl):yb<w.heap.size:=by obtain⟨_,_,_,_,_,S,z,p,a,_⟩:=h;exact(Qb a).1
def Kv.keep{S}(h:Kv w o t yb fk fc m wd sc ct bins size budget T cl)(c:Aa S w w')(g:∀k,k<w.heap.size->S k->o k≠t)(u:Dq w o o')(v:t≠99):Kv w' o' t yb fk fc m wd sc ct bins size budget T cl:=by
 have a:=h.lt;obtain⟨d,f,j,b,n,s,z,p,l,r⟩:=h
 have i:∀k,k<w.heap.size->o k=t->o' k=t:=λk hk e=>by rcases u k hk with q|q<;>omega
 exact⟨i _ a d,i _ b f,j,Qh b c.size,n.keep c (λe=>g _ b e f) b,s,z,p,c.at_ l (λe=>g _ a e d),r⟩
def feedY(C:Si m wd sc ct bins size budget)(h:Kv w o t yb fk fc m wd sc ct bins size budget T cl)(v:t≠99)(H:T.size+b.size<=200000000000000):C_ 125 #[.pointer (some ⟨yb,0,none⟩),.string b] w λe w'=>e=.returned (.tuple #[.int .i64 (fdZ m wd sc (Ws m wd sc T b cl) cl).1,.int .i64 (fdZ m wd sc (Ws m wd sc T b cl) cl).2])/\Kv w' (Db w w' o t) t yb fk fc m wd sc ct bins size budget (Ws m wd sc T b cl) cl/\Aa (λk=>o k=t) w w':=by
 have B:=h;have l:=h.lt;obtain⟨A,E,r,j,y,a,z,p,i,D⟩:=h;have G:=C.hm
 cases cl with
 | true=>
  refine(zm _ _ _ _ _ _ _ z p _ b w i).mono ?_;rintro e w' ⟨rfl,rfl⟩;have g:Ws m wd sc T b true=T:=rfl;rw[g];exact⟨rfl,B.keep (S:=λ_=>False) (Aa.refl _ _) (λ_ _ e=>e.elim) (Ep _ _ _ _) v,Aa.refl _ _⟩
 | false=>
  obtain⟨rfl,rfl,rfl⟩:=D rfl
  cases hs2:Me m wd sc a with
  | error q=>
   obtain⟨z,p⟩:=q;have F:=Lh _ _ _ hs2;rw[hs2] at i;refine(ZbG _ _ _ _ _ _ _ z p _ b w i o_).mono ?_;rintro e w' ⟨rfl,x,rfl⟩;have g:Ws m wd sc a b false=a:=(by unfold Ws;rw[hs2];rfl);have n:fdZ m wd sc a false=(z,(p:Int)):=(by unfold fdZ;rw[hs2];rfl);have d:E_ w _:=below_drewN bz_ x;rw[g,n];exact⟨rfl,B.keep (S:=λ_=>False) (.of_below d) (λ_ _ e=>e.elim) (Ep _ _ _ _) v,.of_below d⟩
  | ok s=>
   rw[hs2] at i;have g:Ws m wd sc a b false=a++b:=(by unfold Ws;rw[hs2];rfl);have n:fdZ m wd sc (a++b) false=fdA (a++b) (Jd (a++b) (m+1) wd sc ((a++b).size+1) [] 0):=(by unfold fdZ;rw[ZcT _ _ _ _ o_];rfl);rw[g,n];refine(Zf2 _ _ _ _ _ _ _ _ b _ _ _ w i y r j o_ C.sc w_).mono ?_;rintro e w' ⟨rfl,u,c⟩;have f:Aa (λk=>_=t) w _:=c.mono (λk _ hq=>by subst hq;exact A);refine⟨rfl,⟨(Dz l).trans A,(Dz j).trans E,r,Qh j c.size,y.keep c r j,a++b,_,_,u,λ_=>⟨rfl,?_,?_⟩⟩,f⟩;rw[ZcT _ _ _ _ o_];rfl;rw[ZcT _ _ _ _ o_];rfl
end
def eS(wd:Nat->Bool)(ct:Nat->Int)(bins:Int)(size:Nat)(s:RS)(i:Nat):ES:=Ck Mb (wd i) (ct i) bins size (s.cols i) s.ws
def esS(m:Nat)(wd:Nat->Bool)(ct:Nat->Int)(bins:Int)(size:Nat)(s:RS):List ES:=(List.range (m+1)).map (eS wd ct bins size s)
def bbS(m:Nat)(wd:Nat->Bool)(ct:Nat->Int)(bins:Int)(size:Nat)(s:RS):List (List Nat):=(List.range (m+1)).map (λi=>(s.cols i).map (Dy (eS wd ct bins size s i)))
section
variable {w w':World} {o o':Nat->Nat} {t ib yb fk fc m:Nat} {wd:Nat->Bool} {sc ct:Nat->Int} {bins:Int} {size budget:Nat} {T b:ByteArray} {cl:Bool}
def whole(m:Nat)(wd:Nat->Bool)(sc:Nat->Int)(T:ByteArray)(cl:Bool)(s:RS):Prop:=cl=false/\Me m wd sc T=.ok s/\s.wt=0
def clZ(m:Nat)(wd:Nat->Bool)(sc:Nat->Int)(T:ByteArray)(cl:Bool):Int×Int:=if cl=true then(1,0) else match Me m wd sc T with
 |.error (z,p)=>(z,p)
 |.ok _=>(2,T.size)
def clC(m:Nat)(wd:Nat->Bool)(sc:Nat->Int)(T:ByteArray)(cl:Bool):Bool:=if cl=true then true else match Me m wd sc T with
 |.error _=>false
 |.ok _=>true
def Zmc(w:World)(o:Nat->Nat)(t ib m:Nat)(wd:Nat->Bool)(sc ct:Nat->Int)(bins:Int)(size budget:Nat)(T:ByteArray)(cl:Bool)(e:Ending)(w':World):Prop:=
 ((∀s,¬whole m wd sc T cl s)/\e=.returned (.tuple #[.pointer none,I_ (clZ m wd sc T cl).1,I_ (clZ m wd sc T cl).2])/\Oq w' (Db w w' o t) t ib m wd sc ct bins size budget T (clC m wd sc T cl)/\Aa (λk=>o k=t) w w')∨
 (∃s gb db,whole m wd sc T cl s/\e=.returned (.tuple #[P_ gb,I_ 0,I_ 0])/\Ze9 w.heap.size w' gb db (Ao m s.ws.length budget (esS m wd ct bins size s) (bbS m wd ct bins size s))/\Sj w' ib true 0 0/\Aa (λk=>k=ib) w w')
def Zk6(a:Si m wd sc ct bins size budget)(h:Oq w o t ib m wd sc ct bins size budget T cl)(n:t≠99):C_ 50 #[.pointer (some ⟨ib,0,none⟩)] w λe w'=>Zmc w o t ib m wd sc ct bins size budget T cl e w':=by
 have u:=h;obtain⟨r,v,E⟩:=h;have d:∀i,_->_->_/\_:=λi hi hw=>⟨(a.sc i hi).1,(a.sc i hi).2 hw⟩;have A:=a.hm
 rcases E with⟨e,z,p,hd⟩|⟨e,z,p,hs2,hd⟩|⟨e,s,K,M,tb,rb,fb,cb,hs2,hx,hk,ht⟩
 subst e;refine(xi _ z p w hd).mono ?_;rintro e w' ⟨rfl,rfl⟩;exact .inl ⟨λs q=>by simp[whole] at q,rfl,u.keep (S:=λ_=>False) (Aa.refl _ _) (λ_ _ e=>e.elim) (Ep _ _ _ _) n,Aa.refl _ _⟩;subst e;have y:=Lh _ _ _ hs2;refine(ZaF _ z p w hd y).mono ?_;rintro e w' ⟨rfl,x,rfl⟩;have c:E_ w _:=below_drewN bz_ x;have g:clZ m wd sc T false=(z,(p:Int)):=(by unfold clZ;rw[hs2];rfl);have j:clC m wd sc T false=false:=(by unfold clC;rw[hs2];rfl);refine .inl ⟨λs q=>(by have:=q.2.1;rw[hs2] at this;cases this),by rw[g],?_,.of_below c⟩;rw[j];exact u.keep (S:=λ_=>False) (.of_below c) (λ_ _ e=>e.elim) (Ep _ _ _ _) n
 subst e;have g:clZ m wd sc T false=(2,(T.size:Int)):=(by unfold clZ;rw[hs2];rfl);have j:clC m wd sc T false=true:=by unfold clC;rw[hs2];rfl
 by_cases hwt:s.wt=0
 have b:=Pw (ct:=ct) d a.b1 a.b2 (by have:=a.b1;have:=a.s1;omega) a.s2 hs2;refine(xj Mb (eS wd ct _ _ s) hx hwt (Ht.takes o_ d _ (Ht.start o_) hs2) A a.bu b.wok (λi=>rfl) b.ok b.num b.ws (by have:=a.b1;have:=a.s1;omega) a.s2 a.b1 a.b2).mono ?_;rintro e w' ⟨C,D,rfl,B,l,f⟩;exact .inr ⟨s,C,D,⟨rfl,hs2,hwt⟩,rfl,B,l,f⟩;refine(ZcJ hx hwt).mono ?_;rintro e w' ⟨rfl,l,f⟩;refine .inl ⟨λs' q=>by have:=q.2.1;rw[hs2] at this;injection this with this;subst this;exact hwt q.2.2,by rw[g],?_,f.mono (λk _ q=>by subst q;exact r)⟩;rw[j];exact⟨(Dz v).trans r,Qh v f.size,.inl ⟨rfl,0,0,l⟩⟩
def Zmd(w:World)(o:Nat->Nat)(t yb fk fc m:Nat)(wd:Nat->Bool)(sc ct:Nat->Int)(bins:Int)(size budget:Nat)(T:ByteArray)(cl:Bool)(e:Ending)(w':World):Prop:=
 ((∀s,¬whole m wd sc T cl s)/\e=.returned (.tuple #[.pointer none,I_ (clZ m wd sc T cl).1,I_ (clZ m wd sc T cl).2])/\Kv w' (Db w w' o t) t yb fk fc m wd sc ct bins size budget T (clC m wd sc T cl)/\Aa (λk=>o k=t) w w')∨
 (∃s yd,whole m wd sc T cl s/\e=.returned (.tuple #[P_ yd,I_ 0,I_ 0])/\Zan w w' yd s.ws.length (Ao m s.ws.length budget (esS m wd ct bins size s) (bbS m wd ct bins size s))/\mu w' yb fk (m+1) fc bins size budget T 0 0 true/\Aa (λk=>k=yb) w w')
def Zhh(b:Si m wd sc ct bins size budget)(h:Kv w o t yb fk fc m wd sc ct bins size budget T cl)(J:t≠99)(Z:T.size<=200000000000000):C_ 126 #[.pointer (some ⟨yb,0,none⟩)] w λe w'=>Zmd w o t yb fk fc m wd sc ct bins size budget T cl e w':=by
 have O:=h;have D:=h.lt;have u:∀i,_->_->_/\_:=λi hi hw=>⟨(b.sc i hi).1,(b.sc i hi).2 hw⟩;obtain⟨N,Y,H,A,M,a,z,p,l,V⟩:=h;have Q:=b.hm
 cases cl with
 | true=>
  refine(qi _ _ _ _ _ _ _ z p _ w l).mono ?_;rintro e w' ⟨rfl,rfl⟩;exact .inl ⟨λs q=>by simp[whole] at q,rfl,O.keep (S:=λ_=>False) (Aa.refl _ _) (λ_ _ e=>e.elim) (Ep _ _ _ _) J,Aa.refl _ _⟩
 | false =>
  obtain⟨rfl,rfl,rfl⟩:=V rfl
  cases hs2:Me m wd sc a with
  | error q=>
   obtain⟨z,p⟩:=q;have C:=Lh _ _ _ hs2;rw[hs2] at l;have E:clZ m wd sc a false=(z,(p:Int)):=(by unfold clZ;rw[hs2];rfl);have F:clC m wd sc a false=false:=(by unfold clC;rw[hs2];rfl);refine(zl _ _ _ _ _ _ _ z p _ w l (by rcases C with e|e<;>omega)).mono ?_;rintro e w' ⟨rfl,x,rfl⟩;have g:E_ w _:=below_drewN bz_ x;refine .inl ⟨λs q=>(by have:=q.2.1;rw[hs2] at this;cases this),by rw[E],?_,.of_below g⟩;rw[F];exact O.keep (S:=λ_=>False) (.of_below g) (λ_ _ e=>e.elim) (Ep _ _ _ _) J
  | ok s=>
   rw[hs2] at l;have E:clZ m wd sc a false=(2,(a.size:Int)):=(by unfold clZ;rw[hs2];rfl);have F:clC m wd sc a false=true:=(by unfold clC;rw[hs2];rfl);have c:Ca _ _ _ _ _ 0=_:=hs2;have G:=Pw (ct:=ct) u b.b1 b.b2 (by have:=b.b1;have:=b.s1;omega) b.s2 c;have y:=ZbR (S:=a) (n:=m+1) (wd:=wd) (sc:=sc) o_;refine(Zdw yb fk m fc size _ bins a wd sc ct (λi=>Ck Mb (wd i) (ct i) bins size (Bn (Jd a (m+1) wd sc (a.size+1) [] 0).1 i) (Fr (Jd a (m+1) wd sc (a.size+1) [] 0).1)) w l M H A Q b.sc o_ b.bu (by have:=b.b1;have:=b.s1;omega) b.s2 b.b1 b.b2 b.ct ?_).mono ?_
   ·rintro R rfl C
    rcases y with⟨s',q1,q2,q3,q4,q5⟩|⟨s',q1,q2,q3,q4⟩|⟨q1,q2,q3⟩
    rw[c] at q1;injection q1 with q1;subst q1;obtain⟨X,W⟩:=Zf9 u c rfl q5;refine⟨X,W,λi=>rfl,λi hi=>?_⟩;have r:=G.ok i hi;rw[q5.1,q5.2 i hi] at r;exact r;omega;exact absurd C q2
   rintro e w' ⟨v,B,L⟩;have d:Kv _ (Db w w' o t) t _ _ _ m _ _ _ _ _ _ a _:=⟨(Dz D).trans N,(Dz A).trans Y,H,Qh A B.size,M.keep B H A,a,0,0,v,λe=>by cases e⟩
   rcases y with⟨s',q1,q2,q3,q4,q5⟩|⟨s',q1,q2,q3,q4⟩|⟨q1,q2,q3⟩
   ·rw[c] at q1;injection q1 with q1;subst q1
    rcases L with⟨g1,_⟩|⟨_,yd,rfl,hM⟩
    exact absurd q3 g1;refine .inr ⟨s,yd,⟨rfl,hs2,q2⟩,rfl,?_,v,B⟩;have I:s.ws.length=(Jd a (m+1) wd sc (a.size+1) [] 0).1.length:=by rw[q5.1,List.length_map]
    have f:∀i,i<m+1->Ck Mb (wd i) (ct i) bins size (Bn (Jd a (m+1) wd sc (a.size+1) [] 0).1 i) (Fr (Jd a (m+1) wd sc (a.size+1) [] 0).1)=eS wd ct bins size s i:=λi hi=>by unfold eS;rw[q5.1,q5.2 i hi];rfl
    have U:Ou m (λi=>Ck Mb (wd i) (ct i) bins size (Bn (Jd a (m+1) wd sc (a.size+1) [] 0).1 i) (Fr (Jd a (m+1) wd sc (a.size+1) [] 0).1))=esS m wd ct bins size s:=by unfold Ou esS;exact List.map_congr_left (λi hi=>f i (by simpa using hi))
    have P:Ih m (Jd a (m+1) wd sc (a.size+1) [] 0).1 (λi=>Ck Mb (wd i) (ct i) bins size (Bn (Jd a (m+1) wd sc (a.size+1) [] 0).1 i) (Fr (Jd a (m+1) wd sc (a.size+1) [] 0).1))=bbS m wd ct bins size s:=by
     unfold Ih bbS;refine List.map_congr_left (λi hi=>?_)
     have j:i<m+1:=by simpa using hi
     unfold Mr;show List.map (Dy (Ck Mb (wd i) (ct i) bins size (Bn (Jd a (m+1) wd sc (a.size+1) [] 0).1 i) (Fr (Jd a (m+1) wd sc (a.size+1) [] 0).1))) (Bn (Jd a (m+1) wd sc (a.size+1) [] 0).1 i)=_;rw[f i j,q5.2 i j];rfl
    rw[U,P,<- I] at hM;exact hM
   ·rw[c] at q1;injection q1 with q1;subst q1
    rcases L with⟨_,rfl⟩|⟨g1,_⟩
    rw[q3,q4];refine .inl ⟨λs' q=>by have:=q.2.1;rw[hs2] at this;injection this with this;subst this;exact q2 q.2.2,by rw[E],?_,B.mono (λk _ q=>by subst q;exact N)⟩;rw[F];exact d;omega
   rw[c] at q1
   cases q1
end
def vi.startB{w a p o x s r n v u t j g c}(h:vi w a p o x s r n v u t j g c):∃K M,InX w K M p o s x r n v u t j g c RS.start 0/\(∀k,K k∨M k->a<=k/\k<w.heap.size)/\a<=p/\a<=o:=by
 have m:=h.tx.rd;unfold RB at m;refine⟨λk=>a<=k/\∃b d,w.heap[k]? =some (.cells b d (0,0))/\(d=3∨d=261∨d=263),λk=>k=s∨k=r,⟨h.ik,h.tx.tx,⟨.slice none 0 0,.slice none 0 0,.slice none 0 0,λ_=>.slice none 0 0,?_⟩,?_,?_⟩,?_,h.lo,h.tx.lo.1⟩
 ·refine⟨h.tx.rd,rn_,rn_,rn_,⟨_,h.tx.cl,?_,λi hi=>?_⟩,λ_ _=>rn_,Ta.of_made _ h.tx.fs ⟨h.tx.lo.2.1,?_⟩ (λk b d f l q=>⟨f,b,d,l,w_⟩),λ_ _ _ _ _=>.inl rfl,λ_ _=>.inl rfl,.inl rfl,.inr rfl,?_,?_,?_,?_,?_,?_⟩;simp[madeCells]
  ·rw[<- Array.getElem?_toList,Qu]
   grind
  ·obtain⟨b,y,_⟩:=h.tx.fs
   grind
  intro k f;simp[Value.ownBlock] at f;intro k f;simp[Value.ownBlock] at f;intro k f;simp[Value.ownBlock] at f;intro i k _ f;simp[Value.ownBlock] at f
  ·rintro k ⟨_,b,d,l,q⟩;refine⟨(Qb l).1,?_⟩;rintro(e|e)
   ·grind
   rw[e,h.tx.cl] at l;grind
  rintro k (e|e)
  ·grind
  rw[e];exact(Qb h.tx.cl).1
 refine⟨?_,?_⟩;rintro⟨_,b,d,l,q⟩;rw[h.ik] at l;grind;rintro(e|e);have:=h.ik;grind;have:=h.ik;rw[e,h.tx.cl] at this;simp at this;refine⟨?_,?_⟩;rintro⟨_,b,d,l,q⟩;rw[h.tx.tx] at l;grind;rintro(e|e);have:=h.tx.tx;grind;have:=h.tx.tx;rw[e,h.tx.cl] at this;simp at this;rintro k (e|e|e)
 ·grind
 rw[e];exact⟨h.tx.lo.2.2.1,(Qb m).1⟩;rw[e];exact⟨h.tx.lo.2.2.2,(Qb h.tx.cl).1⟩
section
variable {w:World} {o:Nat->Nat} {t m:Nat} {wd:Nat->Bool} {sc ct:Nat->Int} {bins:Int} {size budget:Nat}
def Si.of(h:Hz (m+1) bins size budget wd sc ct=true):Si m wd sc ct bins size budget:=by
 obtain⟨_,d,a,b,c,g,_,f,e⟩:=La h;refine⟨d,λi hi=>?_,λi hi hw=>?_,a,b,c,o_,o_⟩
 ·grind [Lc]
 grind [Lc]
def Zkq b c n (i:Dd w b c (m+1) wd sc ct)(s:Hz (m+1) bins size budget wd sc ct=true):C_ 31 #[.agg #[.slice (some ⟨b,c,none⟩) (m+1:Nat) n,.int .i64 bins,.int .i64 size,.int .i64 budget]] w λe w'=>∃ib,e=.returned (.tuple #[.pointer (some ⟨ib,0,none⟩),.int .i64 0])/\w.heap.size<=ib/\Oq w' (Db w w' o t) t ib m wd sc ct bins size budget ⟨#[]⟩ false/\Below w.heap.size w w':=by refine(ZdA b _ _ _ _ _ _ _ _ _ w i s).mono ?_;rintro e w' ⟨ib,p,l,x,r,rfl,u,j⟩;obtain⟨K,M,g,d,h,v⟩:=u.startB;have a:=(Qb g.ik).1;have f:=(Qb g.tx).1;exact⟨ib,rfl,h,⟨Kp h a,a,.inr (.inr ⟨rfl,RS.start,K,M,p,x,l,r,rfl,g,λk q=>⟨(d k q).2,Kp (d k q).1 (d k q).2⟩,Kp v f⟩)⟩,j⟩
def Zkr b a p (k:Dd w b a (m+1) wd sc ct)(q:Hz (m+1) bins size budget wd sc ct=true):C_ 123 #[.agg #[.slice (some ⟨b,a,none⟩) (m+1:Nat) p,.int .i64 bins,.int .i64 size,.int .i64 budget]] w λe w'=>∃yb fk c,e=.returned (.tuple #[.pointer (some ⟨yb,0,none⟩),.int .i64 0])/\w.heap.size<=yb/\Kv w' (Db w w' o t) t yb fk c m wd sc ct bins size budget ⟨#[]⟩ false/\Below w.heap.size w w':=by refine(ZbK b _ _ _ _ _ _ _ _ _ w k q).mono ?_;rintro e w' ⟨yb,fk,c,rfl,g,l,d,j,i,h,n⟩;have f:=(Qb g).1;exact⟨yb,fk,c,rfl,i,⟨Kp i f,Kp j h,d,h,l,⟨#[]⟩,0,0,g,λ_=>⟨rfl,rfl,rfl⟩⟩,n⟩
end
section
variable {w w':World} {dp gb db yb base m n budget:Nat} {es:List ES} {Bb:List (List Nat)} {vF vB vC vX:Value} {kvs:List (Value×Value)} {bvs cvs:List Value} {X:List XS}
def ZfL x y (d:On m n budget es Bb X):∃R E:Int,∀W,Jv W dp gb db yb base m n budget es Bb vF vB vC vX kvs bvs cvs X->(C_ 44 #[.pointer (some ⟨gb,0,none⟩),.int .i64 x,.int .i64 y] W λe w'=>e=.returned (.tuple #[.int .i64 R,.int .i64 E])/\Below W.heap.size W w')/\(C_ 138 #[.pointer (some ⟨yb,0,none⟩),.int .i64 x,.int .i64 y] W λe w'=>e=.returned (.tuple #[.int .i64 R,.int .i64 E])/\Below W.heap.size W w'):=by
 have a:=Jk (budget:=budget) d.hm d.hn d.hk;have s:(Ao m n budget es Bb).ks.length=_:=yy;have j:=(a.bok _ (a.mem a.b0)).len;have u:=d.hn;have t:=d.hm
 by_cases hb:0<=x/\x<(n:Int)/\0<=y/\y<((Ao m n budget es Bb).ks.length:Int)
 ·obtain⟨r,q⟩:∃r:Nat,x=r:=⟨x.toNat,o_⟩;obtain⟨f,o⟩:∃f:Nat,y=f:=⟨y.toNat,o_⟩;subst q o;have g:r<n:=o_;have i:f<m+1:=o_;refine⟨((Bb.getD f _).getD r 0:Nat),0,λW hW=>⟨ZaY _ _ f r m n _ _ _ W hW.x d.hm d.hn d.hk i g,?_⟩⟩;have p:X.length<=1000000:=(by rw[d.pm.length_eq];have:=a.xl;omega);have l:=jr yb n r f _ _ _ X W hW.y.view ⟨s_,by simp;have:=a.b4;omega,λb hb=>?_,λb hb r=>?_,λb hb=>?_,λb hb=>?_⟩ g o_ p;rw[ZiY d.hk d.pm i g] at l;exact l
  all_goals
   simp only[List.length_map] at hb;have c:=a.mem hb
  have e:((Ao m n budget es Bb).bs.map BS.N).getD b []=((Ao m n budget es Bb).bs.getD b Dx).N:=w_;rw[e];exact(a.bok _ c).len
  ·have e:((Ao m n budget es Bb).bs.map BS.N).getD b []=((Ao m n budget es Bb).bs.getD b Dx).N:=w_;rw[e,Qc]
   rcases Nat.lt_or_ge r ((Ao m n budget es Bb).bs.getD b Dx).N.length with k|k
   ·rw[Qd k];have w:=(a.bok _ c).le _ (Qf k);have v:=a.g40 _ c
    grind
   grind
  have e:((Ao m n budget es Bb).bs.map BS.fs).getD b []=((Ao m n budget es Bb).bs.getD b Dx).fs:=w_;rw[e];have:=a.f4 _ c;omega;have e:((Ao m n budget es Bb).bs.map BS.fs).getD b []=((Ao m n budget es Bb).bs.getD b Dx).fs:=w_;rw[e];exact a.fk _ c
 refine⟨0,1,λW hW=>⟨Zc5 _ _ n x y _ W hW.x hb o_ a.b0 j o_,?_⟩⟩;exact(ZbH _ n x y _ W hW.y.view.dk hb).mono (λ_ _ h=>⟨h.1,by rw[h.2];exact bz_⟩)
def Zcp g L P f j i x y H C O B F I D N wc G (h:Jv w dp gb db yb base m n budget es Bb vF vB vC vX kvs bvs cvs X)(J:On m n budget es Bb X):C_ 77 #[.pointer (some ⟨g,0,none⟩),.pointer (some ⟨dp,0,none⟩),.agg #[.int .i64 9,.int .i64 L,.int .i64 P,.slice H B F,.int .i64 f,.int .i64 j,.int .i64 i,.slice C I D,.slice O N wc,.string G,.int .i64 x,.int .i64 y]] w λe w'=>e=.returned (.bool true)/\Below w.heap.size w w':=by
 obtain⟨R,E,k⟩:=ZfL (dp:=dp) (gb:=gb) (db:=db) (yb:=yb) (base:=base) (vF:=vF) (vB:=vB) (vC:=vC) (vX:=vX) (kvs:=kvs) (bvs:=bvs) (cvs:=cvs) x y J;have M:Hid (∀W,Below _ w W->_):=λW hW=>h.below hW;have U:Hid (∀W,_->Calls _ _ _ W λe _=>_/\_/\_):=λW hW=>(k W (h.below hW)).1.mono (λ_ _ h=>⟨h.1,hW.trans (h.2.mono hW.size),h.2⟩);have S:Hid (∀W,_->Calls _ _ _ W λe _=>_/\_/\_):=λW hW=>(k W (h.below hW)).2.mono (λ_ _ h=>⟨h.1,hW.trans (h.2.mono hW.size),h.2⟩);clear h J k;go_enter Tryz.func77,Tryz.ntmps77;go_upto_region 6 with fail;generalize hw1:w.alloc (.cells #[I_ 9,I_ L,I_ P,.slice H B F,I_ f,I_ j,I_ i,.slice C I D,.slice O N wc,.string G,I_ x,I_ y] 93)=w1;have c:E_ w w1:=by rw[<- hw1];exact bA_
 have p:w1.cell? (A_ w.heap.size 10)=some (I_ x):=(by rw[<- hw1];simp[go_sem]);have q:w1.cell? (A_ w.heap.size 11)=some (I_ y):=(by rw[<- hw1];simp[go_sem]);have Y:w.heap.size<w1.heap.size:=(by rw[<- hw1];simp);clear hw1;obtain⟨r,_,_,_,_⟩:=(M w1 c).cells;go_cut [8,9] (λv1 v2 wx=>v1=.int .i64 R/\v2=.int .i64 E/\Hid (E_ w1 wx))
 case first=>
  go_region_held3 (λw'=>w'.cell? (A_ dp 0)=some (P_ gb)/\w'.cell? (A_ w.heap.size 10)=some (I_ x)/\w'.cell? (A_ w.heap.size 11)=some (I_ y)) (first|exact⟨r,p,q⟩|exact⟨Ac a r,Ac a p,Ac a q⟩) (first|(go_at_call 44;refine(U _ c.drew).mono ?_;rintro e v ⟨rfl,b,l⟩;have a:Below w1.heap.size _ _:=bz_.drew.trans l))
  all_goals go_wp2
  all_goals go_meet
  all_goals exact⟨rfl,rfl,a⟩
 case rest=>
 obtain⟨rfl,rfl,d⟩:=hcut;have z:=Ac d p;have A:=Ac d q;have b:=c.trans (d.mono c.size);obtain⟨_,t,_,_,_⟩:=(M wc b).cells;clear r p q c d;generalize wc=v at *;go_upto_region 7 with fail;go_cut [10,11] (λv1 v2 wx=>v1=.int .i64 R/\v2=.int .i64 E/\Hid (E_ v wx))
 case first=>
  go_region_held3 (λw'=>w'.cell? (A_ dp 1)=some (P_ yb)/\w'.cell? (A_ w.heap.size 10)=some (I_ x)/\w'.cell? (A_ w.heap.size 11)=some (I_ y)) (first|exact⟨t,z,A⟩|exact⟨Ac a t,Ac a z,Ac a A⟩) (first|(go_at_call 138;refine(S _ b.drew).mono ?_;rintro e Z ⟨rfl,T,l⟩;have a:Below v.heap.size _ _:=bz_.drew.trans l))
  all_goals go_wp2
  all_goals go_meet
  all_goals exact⟨rfl,rfl,a⟩
 case rest=>
 obtain⟨rfl,rfl,o⟩:=hcut;have Q:=x1_ (b.trans (o.mono b.size));clear t z A b o;have V:(R==R)=true:=s_;go_wp2_with fail
 refine(Kb _ _).mono ?_;rintro e w4 ⟨rfl,s⟩;obtain rfl:=s.symm;go_wp2_with fail
 refine(Kb _ _).mono ?_;rintro e w5 ⟨rfl,u⟩;obtain rfl:=u.symm;go_wp2;go_ret;exact⟨s_,Q⟩
end
def Lr.behind{w f n o a g N c m}(l:Dq w o a)(p:Aa (λk=>o k<=13∨o k=99) w f)(z:∀j,j<4->m[j]? =c[j]?)(A:∀k,w.heap.size<=k->a k<=13∨a k=99)(r:∀k,k<w.heap.size->o k=99->a k<=13∨a k=99)(h:Lr f n a g N m):Lr w n o g N c:=by
 obtain⟨d,u,t,i,q,x,B,s⟩:=h;have y:=p.size
 have b:∀k,a k<=13∨a k=99->d k<=13∨d k=99:=λk hk=>by
  by_cases hl:k<f.heap.size
  ·rcases hk with e|e
   ·rcases i k hl with v|v
    omega;omega
   exact s k hl e
  grind
 refine⟨d,u,t,l.trans y i,p.trans2 q (λk hk=>?_),λj hj=>(x j hj).trans (z j hj),λk hk=>b k (A k hk),λk hk h9=>b k (r k hk h9)⟩
 by_cases hl:k<w.heap.size
 ·left
  rcases l k hl with e|e
  exact .inr e;omega
 omega
def Zci.q2{w a o g N c v}(h:Zci w a o g N v c)(i:∀k,v.ownBlock=some k->o k=99):Lr w a o g (N+1) c:=by obtain⟨j,f,m,b,d,l,n,q,p⟩:=h;exact⟨j,f,m,b,d.mono (λk _ e=>e.imp id (i k)),l,n,p⟩
section
variable {w w':World} {dp gb db yb base m n budget:Nat} {es:List ES} {Bb:List (List Nat)} {vF vB vC vX:Value} {kvs:List (Value×Value)} {bvs cvs:List Value} {X:List XS}
def BdQ(b:Nat)(W:World)(LI:List Int)(LS:List ByteArray)(E:Int)(e:Ending)(w':World):Prop:=∃a1 c1 a2 c2,e=.returned (.tuple #[.slice a1 LI.length c1,.slice a2 LS.length c2,I_ E])/\Ag w' b (.slice a1 LI.length c1) LI/\Cc w' b (.slice a2 LS.length c2) LS/\Below W.heap.size W w'
def Zax x (g:On m n budget es Bb X):∃LI LS E,LI.length<=1000/\LS.length<=1000/\∀W,Jv W dp gb db yb base m n budget es Bb vF vB vC vX kvs bvs cvs X->(C_ 27 #[.pointer (some ⟨gb,0,none⟩),.int .i64 x] W λe w'=>BdQ W.heap.size W LI LS E e w')/\(C_ 139 #[.pointer (some ⟨yb,0,none⟩),.int .i64 x] W λe w'=>BdQ 0 W LI LS E e w'):=by
 have q:=Jk (budget:=budget) g.hm g.hn g.hk;have z:(Ao m n budget es Bb).ks.length=_:=yy;have A:=g.hm
 by_cases hb:0<=x/\x<((Ao m n budget es Bb).ks.length:Int)
 ·obtain⟨f,v⟩:∃f:Nat,x=f:=⟨x.toNat,o_⟩;subst v;have a:f<(Ao m n budget es Bb).ks.length:=o_;have d:=q.edg f a;refine⟨bdI ((Ao m n budget es Bb).ks.getD f Ay).e,bdS ((Ao m n budget es Bb).ks.getD f Ay).e,0,?_,?_,λW hW=>⟨?_,?_⟩⟩
  ·unfold bdI;split
   ·grind
   exact d.lb
  ·unfold bdS;split;exact d.lw
   grind
  refine(yl _ _ f n _ W hW.x q a).mono ?_;rintro e w' ⟨C,B,rfl,c⟩;obtain⟨j,p,rfl⟩:=c.nb.shape;obtain⟨o,l,rfl⟩:=c.nw.form;exact⟨j,p,o,l,rfl,c.nb,c.nw,c.low⟩;refine(ZcQ f hW.y a).mono ?_;rintro e w' ⟨rfl,k,rfl⟩;obtain⟨h,i⟩:=hW.y.fe.each f a;have t:=hW.y.one f a;have u:bdI ((Ao m n budget es Bb).ks.getD f Ay).e=((Ao m n budget es Bb).ks.getD f Ay).e.bs:=(by unfold bdI;split;rename_i hw;exact(t.2.2.1 hw).symm;rfl);have w:bdS ((Ao m n budget es Bb).ks.getD f Ay).e=((Ao m n budget es Bb).ks.getD f Ay).e.ww:=by unfold bdS;split;rfl;rename_i hw;exact(t.2.2.2 (by simpa using hw)).symm
  rw[<- u] at h;rw[<- w] at i;obtain⟨j,p,r⟩:=h.shape;obtain⟨o,l,s⟩:=i.form;rw[r] at h;rw[s] at i;have b:E_ W _:=below_drewN bz_ k;exact⟨j,p,o,l,by rw[r,s],Ag.below (base:=0) (Dt h qg_) b,Cc.below (base:=0) (Dt i qg_) b,b⟩
 refine⟨[],[],1,qg_,qg_,λW hW=>⟨?_,?_⟩⟩;refine(Zc3 _ _ x _ W hW.x hb o_).mono ?_;rintro e w' ⟨rfl,rfl⟩;exact⟨none,0,none,0,rfl,Ag.nil _ _,Cc.nil _ _,bz_⟩;refine(ZaM x hW.y.view.dk hb).mono ?_;rintro e w' ⟨rfl,rfl⟩;exact⟨none,0,none,0,rfl,Ag.nil _ _,Cc.nil _ _,bz_⟩
def we{o g N c} pk bb z G A x y fa va wa fl fc vl vc wl wc st (hB:Hx w o g c N)(h9:∀k,w.heap.size<=k->o k=99)(hN:N<=10000000)(h:Jv w dp gb db yb base m n budget es Bb vF vB vC vX kvs bvs cvs X)(hs:On m n budget es Bb X):C_ 77 #[.pointer (some ⟨g,0,none⟩),.pointer (some ⟨dp,0,none⟩),.agg #[.int .i64 10,.int .i64 pk,.int .i64 bb,.slice fa fl fc,.int .i64 z,.int .i64 G,.int .i64 A,.slice va vl vc,.slice wa wl wc,.string st,.int .i64 x,.int .i64 y]] w λe w'=>e=.returned (.bool true)/\Lr w w' o g (N+2) c:=by
 obtain⟨LI,LS,E,a6,a7,L⟩:=Zax (dp:=dp) (gb:=gb) (db:=db) (yb:=yb) (base:=base) (vF:=vF) (vB:=vB) (vC:=vC) (vX:=vX) (kvs:=kvs) (bvs:=bvs) (cvs:=cvs) x hs;have p:=x2_ hB h9;have HP:Hid (∀W,Below _ w W->_):=λW hW=>h.below hW;have HX:=x1_ (λW hW=>(L W (h.below hW)).1);have HY:=x1_ (λW hW=>(L W (h.below hW)).2);obtain⟨li,D⟩:=ey_ LI.length;obtain⟨O,B⟩:=ey_ LS.length;have a:=x4_ D B a6 a7;clear h hs L hB h9 D B a6 a7;go_enter Tryz.func77,Tryz.ntmps77;go_upto_region 10 with fail;generalize hw1:w.alloc (.cells #[I_ 10,I_ pk,I_ bb,.slice fa fl fc,I_ z,I_ G,I_ A,.slice va vl vc,.slice wa wl wc,.string st,I_ x,I_ y] 93)=w1;have f:E_ w w1:=(by rw[<- hw1];exact bA_);have x0:w1.cell? (A_ w.heap.size 10)=some (I_ x):=by rw[<- hw1];simp[go_sem]
 clear hw1;obtain⟨c0,_,_,_,_⟩:=(HP w1 f).cells;go_cut [12,13,14] (λv1 v2 v3 wx=>∃T U C c2,v1=.slice T li U/\v2=.slice C O c2/\v3=.int .i64 E/\Hid (Ag wx w.heap.size (.slice T li U) LI/\Cc wx w.heap.size (.slice C O c2) LS/\E_ w1 wx))
 case first=>
  go_region_held3 (λw'=>w'.cell? (A_ dp 0)=some (P_ gb)/\w'.cell? (A_ w.heap.size 10)=some (I_ x)) (first|exact⟨c0,x0⟩|exact⟨Ac d c0,Ac d x0⟩) (first|(go_at_call 27;refine(HX _ f.drew).mono ?_;rintro e w2 ⟨T,d1,C,d2,rfl,J,H,P⟩;have d:Below w1.heap.size _ _:=bz_.drew.trans P))
  all_goals go_wp2
  all_goals go_meet
  all_goals exact⟨T,d1,C,d2,by rw[a.1],by rw[a.2.1],rfl,by rw[<- a.1];exact Dt J f.size,by rw[<- a.2.1];exact Dt H f.size,d⟩
 case rest=>
 obtain⟨T,d1,C,d2,rfl,rfl,rfl,q⟩:=hcut;have y0:=Ac q.2.2 x0;have j:=f.trans (q.2.2.mono f.size);obtain⟨_,U,_,_,_⟩:=(HP wc j).cells;have M:=x2_ q.1 q.2.1;clear c0 x0 f q;generalize wc=w2 at *;go_upto_region 11 with fail;go_cut [15,16,17] (λv1 v2 v3 wx=>∃V c3 a4 c4,v1=.slice V li c3/\v2=.slice a4 O c4/\v3=.int .i64 E/\Hid (Ag wx 0 (.slice V li c3) LI/\Cc wx 0 (.slice a4 O c4) LS/\E_ w2 wx))
 case first=>
  go_region_held3 (λw'=>w'.cell? (A_ dp 1)=some (P_ yb)/\w'.cell? (A_ w.heap.size 10)=some (I_ x)) (first|exact⟨U,y0⟩|exact⟨Ac d U,Ac d y0⟩) (first|(go_at_call 139;refine(HY _ j.drew).mono ?_;rintro e w3 ⟨V,d3,a4,d4,rfl,J,H,P⟩;have d:Below w2.heap.size _ _:=bz_.drew.trans P))
  all_goals go_wp2
  all_goals go_meet
  all_goals exact⟨V,d3,a4,d4,by rw[a.1],by rw[a.2.1],rfl,by rw[<- a.1];exact J,by rw[<- a.2.1];exact H,d⟩
 case rest=>
 obtain⟨V,d3,a4,d4,rfl,rfl,rfl,i⟩:=hcut;have s:=x2_ (M.1.below i.2.2) (M.2.below i.2.2);have I:=x1_ (j.trans (i.2.2.mono j.size));have S1:=Ra _ 0 _ _ _ _ s.1 i.1 (by have:=a.2.2.1;omega);have a9:=x1_ i.2.1;clear U y0 j i M HX HY;generalize wc=w3 at *;go_wp2_with fail
 refine S1.mono ?_;rintro e w4 ⟨rfl,k4,Y⟩;have l:E_ w3 w4:=(by rw[Y];exact below_drewN bz_ _);have R:=x1_ (I.trans (l.mono I.size));have u:=x2_ (s.1.below l) (s.2.below l);have S2:=zt _ 0 _ _ _ _ u.2 (a9.below l) (by have:=a.2.2.2;omega);clear Y l S1 s a9 I;go_wp2_with fail
 refine S2.mono ?_;rintro e w5 ⟨rfl,k5,a0⟩;have v:E_ w4 w5:=(by rw[a0];exact below_drewN bz_ _);have r:=x1_ (R.trans (v.mono R.size));have b:=x2_ (u.1.below v) (u.2.below v);have F:=p.1.keep (S:=λ_=>False) (.of_below r) (λ_ _ e=>e.elim) (Dq.refl _ _);have a8:=λk hk=>p.2 k (rl_ b.1 k hk).1;have a5:=λk hk=>p.2 k (rl_ b.2 k hk).1;have C1:=F.ownN (Dt b.1 qg_:Ag _ 0 _ _) a8 (by have:=a.2.2.1;omega) o_;clear a0 v S2 u R F;go_wp2_with fail
 refine C1.mono ?_;rintro e w6 ⟨rfl,hq⟩;obtain⟨o6,c6,b1,b2,b3,b4,b5,b6,b7⟩:=hq
 have aA:∀k,(Value.slice C O d2).ownBlock=some k->(Value.slice T li d1).ownBlock≠some k:=λk hk e=>by
  obtain⟨q1,h1⟩:=Ad b.1 e;obtain⟨q2,h2⟩:=Ad b.2 hk
  grind
 have Z:Cc w6 0 (.slice C O d2) LS:=b3.row (Dt b.2 qg_) (λk hk e=>w_);have Q:=λk hk=>b6 k (rl_ b.2 k hk).2 (a5 k hk) (aA k hk);have C2:=b1.ownT Z Q (by have:=a.2.2.2;omega) o_
 have HF:Hid (∀w7,Zci w6 w7 o6 g (N+1) (.slice C O d2) c6->Lr w w7 o g (N+2) c):=λw7 q7=>by
  have q8:=q7.q2 Q;have aD:=r.size;have t:=(Aa.of_below (S:=λk=>o k<=13∨o k=99) r).trans2 b3 (λk hk=>w_);refine Lr.behind (λk hk=>b2 k o_) t b4 (λk hk=>?_) (λk hk h9=>b7 k o_ h9) q8
  by_cases hl:k<w5.heap.size
  exact b7 k hl (p.2 k hk)
  grind
 clear b1 b2 b3 b4 b5 b6 b7 Z Q C1 aA a8 a5 b r p HP;go_wp2_with fail
 refine C2.mono ?_;rintro e w7 ⟨rfl,hq⟩;have HE:=x1_ (HF _ hq);clear hq C2 HF;go_wp2_with fail
 refine(Kb _ _).mono ?_;rintro e w8 ⟨rfl,aB⟩;obtain rfl:=aB.symm;go_wp2_with fail
 refine(Kb _ _).mono ?_;rintro e w9 ⟨rfl,aC⟩;obtain rfl:=aC.symm;go_wp2;go_ret;exact⟨s_,HE⟩
end
def Ku.row{w b q n a}(h:Ku w b q n n a)(g:b<=q)(o:n<=1000):∃vals:List Value,vals.length=n/\w.ownsRow b 25 1 (L_ q n n) n vals/\(∀j,j<n->Ag w b (vals.getD j Hm) (a.getD j []))/\∀i j,i<j->j<n->∀k,(vals.getD i Hm).ownBlock=some k->(vals.getD j Hm).ownBlock≠some k:=by
 obtain⟨c,d,f,l,m⟩:=h.cur;have e:c.toList.length=n:=by simp[f]
 have p:∀j,j<n->c[j]? =some (c.toList.getD j Hm):=λj hj=>w_
 refine⟨c.toList,e,⟨o_,.inr ⟨q,n,c,rfl,g,d,qa_,m_,o_,w_⟩⟩,λj hj=>?_,λi j hij hj k hk=>?_⟩
 ·grind
 grind
section
variable {w w':World} {dp gb db yb base m n budget:Nat} {es:List ES} {Bb:List (List Nat)} {vF vB vC vX:Value} {kvs:List (Value×Value)} {bvs cvs:List Value} {X:List XS}
def oy{o g N c} pk bb G I H x y fa va wa fl fc vl vc wl wc st (hB:Hx w o g c N)(h9:∀k,w.heap.size<=k->o k=99)(hN:N<=10000000)(h:Jv w dp gb db yb base m n budget es Bb vF vB vC vX kvs bvs cvs X)(hs:On m n budget es Bb X):C_ 77 #[.pointer (some ⟨g,0,none⟩),.pointer (some ⟨dp,0,none⟩),.agg #[.int .i64 11,.int .i64 pk,.int .i64 bb,.slice fa fl fc,.int .i64 G,.int .i64 I,.int .i64 H,.slice va vl vc,.slice wa wl wc,.string st,.int .i64 x,.int .i64 y]] w λe w'=>e=.returned (.bool true)/\Lr w w' o g (N+5) c:=by
 have hd:=Jk (budget:=budget) hs.hm hs.hn hs.hk;have O:=x1_ hd;have l:=x2_ hB h9;have HP:Hid (∀W,Below _ w W->_):=λW hW=>h.below hW;obtain⟨D,C⟩:=ey_ ((Ao m n budget es Bb).bs.length);have M:=x1_ C;have aE:D<=4:=(by rw[<- C];exact hd.b4);obtain⟨aB,cB,R⟩:=h.y.bu.shape;rw[List.length_map,List.length_map,C] at R;subst R;clear h hs hB h9 C hd;go_enter Tryz.func77,Tryz.ntmps77;go_upto_region 18 with fail;generalize hw1:w.alloc (.cells #[I_ 11,I_ pk,I_ bb,.slice fa fl fc,I_ G,I_ I,I_ H,.slice va vl vc,.slice wa wl wc,.string st,I_ x,I_ y] 93)=w1;have r:E_ w w1:=(by rw[<- hw1];exact bA_);clear hw1;obtain⟨c0,_,_,_,_⟩:=(HP w1 r).cells;have HC:=ph _ _ n _ _ (HP _ r).x O;go_wp2_with fail
 refine HC.mono ?_;rintro e t ⟨q,rfl,V,hL,T⟩;have J:=r.trans (T.mono r.size);rw[M] at hL;obtain⟨v,P,E,z,a7⟩:=hL.row V o_;have f:=x4_ P E z a7;have s:=x2_ J r.size;obtain⟨_,c1,_,_,c4⟩:=(HP t J).cells;rw[M];clear c0 HC hL r T J V P E z a7;go_upto_region 21 with fail;go_loopw [21,22] (λt21 t22 wr=>∃(i k:Nat),t21=.bool true/\t22=.int .i64 i/\i<=D/\Hid (wr=t.drewN k)) (λ_ t22 _=>D-(intOf t22).toNat)
 case atStart=>exact⟨0,0,s_,rfl,qg_,rfl⟩
 case round=>
  obtain⟨i,k,rfl,rfl,hi,HW⟩:=hrel;have hw:=HW.out;subst hw;clear HW
  by_cases hin:i<D
  ·have i0:0<=(i:Int):=o_;have i1:i<(D:Int):=o_;have b:E_ t _:=below_drewN bz_ k;have d:=s.1.trans (b.mono s.1.size);have hp:=HP _ d;obtain⟨_,e1,_,_,e4⟩:=hp.cells;have u:=f.2.1;have A:=f.2.2.1 i hin;have x0:_=some (v.getD i Hm):=Ac b (Qy u (by rw[Qc,Qd (by rw[f.1];exact hin)];rfl));obtain⟨qB,aC,a,kk,eB,xB,_,eV,_,_⟩:=hp.y.bu.at (i:=i) (by rw[List.length_map,List.length_map,M];exact hin);have a8:aB=some ⟨qB,0,none⟩:=(by injection eB);subst a8;have F:((Ao m n budget es Bb).bs.map BS.fs|>.map Av).getD i []=(Xg (Ao m n budget es Bb)).getD i []:=(by grind [Vh]);have B:=hp.y.bu.each i w_;rw[eV] at B;rw[F] at xB B
   have Q:((Xg (Ao m n budget es Bb)).getD i []).length<=1000000:=(by have U:i<(Ao m n budget es Bb).bs.length:=w_;rw[Vh U,Aw];have:=O.f4 _ (O.mem U);omega);obtain⟨a5,c5,h5⟩:=A.shape;rw[h5] at x0 A
   have aA:Hid (∀e,C_ 140 #[.slice a5 ((Xg (Ao m n budget es Bb)).getD i []).length c5,.slice a ((Xg (Ao m n budget es Bb)).getD i []).length kk] ((t.drewN k).drewN e) λe' w'=>e'=.returned (.bool true)/\∃j,w'=(t.drewN k).drewN j):=λe=>by
    have a0:Below (t.drewN k).heap.size (t.drewN k) _:=below_drewN bz_ e;refine(Ra _ _ _ _ _ _ ((A.below b).below a0) (B.below a0) Q).mono ?_
    grind [World.drewN_drewN]
   clear A B hp eV eB F h5 u d Q;generalize ((Xg (Ao m n budget es Bb)).getD i []).length=ll at *;generalize hW3:t.drewN k=w3 at *;have a9:=x1_ hW3;clear hW3 b;go_upto_region 23 with fail;go_quiet (first|(go_at_call 140;exact(aA _).mono (λ_ _ h=>⟨h.1,h.2⟩)));go_wp2;go_roundw;case rel=>exact⟨i+1,_,rfl,g_,o_,by rw[<- a9];exact World.drewN_drewN _ _ _⟩
   case measure=>exact z_
  have aD:¬i<(D:Int):=o_;have b:E_ t _:=below_drewN bz_ k;have d:=s.1.trans (b.mono s.1.size);have Z:=s.2;have Y:=l.1.keep (S:=λ_=>False) (.of_below d) (λ_ _ e=>e.elim) (Dq.refl _ _);have u:(t.drewN k).ownsRow 0 25 1 (L_ q D D) v.length v:=by rw[f.1];exact(Aa.of_below (S:=λ_=>False) b).row (Dt f.2.1 qg_) (λ_ _=>id)
  have C1:=Y.ownL (Ls:=λj=>(Xg _).getD j []) u (λk' hk'=>l.2 k' (Nat.le_trans Z (rl_ f.2.1 k' hk').1)) (λj L=>by
   have hO:=f.2.2.1 j (by rw[<- f.1];exact L)
   exact⟨Ag.below (base:=0) (Dt hO qg_) b,λk' hk'=>l.2 _ (Nat.le_trans Z (rl_ hO _ hk').1)⟩) (λj=>by
   rcases Nat.lt_or_ge j (Ao m n budget es Bb).bs.length with L|L
   rw[Vh L,Aw];have:=O.f4 _ (O.mem L);omega
   grind [Xg]) (λi j hij L k' hk'=>f.2.2.2 i j hij (by rw[<- f.1];exact L) k' hk') (by rw[f.1];omega) hN (λk' hk'=>l.2 k' (Nat.le_trans d.size hk'))
  rw[f.1] at C1
  have HF:Hid (∀w7,Lr (t.drewN k) w7 o g (N+D+1) c->Lr w w7 o g (N+5) c):=λw7 q7=>by obtain⟨o',c',a1,a2,a3,a4,a5,a6⟩:=q7;exact Lr.behind (Dq.refl _ _) (.of_below d) (λ_ _=>rfl) (λk' hk'=>.inr (l.2 _ hk')) (λk' _ h9=>.inr h9) ⟨o',c',a1.more o_,a2,a3,a4,a5,a6⟩
  clear Y u b d l HP f s O;generalize t.drewN k=w3 at *;go_wp2_with fail
  refine C1.mono ?_;rintro e w7 ⟨rfl,hq⟩;have HE:=x1_ (HF _ hq);clear hq C1 HF;go_wp2;go_ret;exact⟨rfl,HE⟩
end
def Fx.more{w a o g N b c}(h:Fx w a o g N c)(d:N<=b):Fx w a o g b c:=by obtain⟨j,i,k,n,e,f,m,l⟩:=h;exact⟨j,i,k.more d,n,e,f,m,l⟩
section
variable {w w' wr:World} {dp gb db yb base m n budget:Nat} {es:List ES} {Bb:List (List Nat)} {vF vB vC vX:Value} {kvs:List (Value×Value)} {bvs cvs:List Value} {X:List XS}
def rl{o g N c} d E v i b j x y t D C z B u r A wc s (f:Hx w o g c N)(a:∀k,w.heap.size<=k->o k=99)(p:N<=10000000)(h:Jv w dp gb db yb base m n budget es Bb vF vB vC vX kvs bvs cvs X)(l:On m n budget es Bb X):C_ 77 #[.pointer (some ⟨g,0,none⟩),.pointer (some ⟨dp,0,none⟩),.agg #[.int .i64 d,.int .i64 E,.int .i64 v,.slice t z B,.int .i64 i,.int .i64 b,.int .i64 j,.slice D u r,.slice C A wc,.string s,.int .i64 x,.int .i64 y]] w λe w'=>e=.returned (.bool true)/\Fx w w' o g (N+5) c:=by
 by_cases h8:d=8
 subst h8;exact(Zcq g _ _ _ _ _ x y _ _ _ _ _ _ _ _ _ _ h l).mono (λ_ _ q=>⟨q.1,.of_below f q.2 a o_⟩)
 by_cases h9':d=9
 subst h9';exact(Zcp g _ _ _ _ _ x y _ _ _ _ _ _ _ _ _ _ h l).mono (λ_ _ q=>⟨q.1,.of_below f q.2 a o_⟩)
 by_cases h10:d=10
 subst h10;exact(we _ _ _ _ _ x y _ _ _ _ _ _ _ _ _ _ f a p h l).mono (λ_ _ q=>⟨q.1,.of_q2 q.2 o_⟩)
 by_cases h11:d=11
 subst h11;exact(oy _ _ _ _ _ x y _ _ _ _ _ _ _ _ _ _ f a p h l).mono (λ_ _ q=>⟨q.1,.of_q2 q.2 o_⟩);exact(Zau g _ _ _ _ _ _ x y _ _ _ _ _ _ _ _ _ _ h l h8 h9' h10 h11).mono (λ_ _ q=>⟨q.1,.of_below f q.2 a o_⟩)
def Fx.part{o g N t c Q}(h:Fx w w' o g N c)(b:Ii w o t Q)(i:13<t)(m:t≠99):Q w':=by obtain⟨j,f,l,d,a,_⟩:=h;exact b _ (a.mono (λk _ e=>o_))
def Zco{o g N t c} p G M a d b x y B r L k z C s I wc A (f:Fx w wr o g N c)(l:N<=10000000)(v:Ii w o t (λW=>Jv W dp gb db yb base m n budget es Bb vF vB vC vX kvs bvs cvs X))(u:13<t)(O:t≠99)(E:On m n budget es Bb X):C_ 77 #[.pointer (some ⟨g,0,none⟩),.pointer (some ⟨dp,0,none⟩),.agg #[.int .i64 p,.int .i64 G,.int .i64 M,.slice B k z,.int .i64 a,.int .i64 d,.int .i64 b,.slice r C s,.slice L I wc,.string A,.int .i64 x,.int .i64 y]] wr λe w'=>e=.returned (.bool true)/\Fx w w' o g (N+5) c:=by have J:=f.part v u O;obtain⟨Q,P,j,H,h,D,F,i⟩:=f;exact(rl _ _ _ _ _ _ x y _ _ _ _ _ _ _ _ _ _ j i l J E).mono (λ_ _ q=>⟨q.1,Fx.trans H h D F q.2⟩)
def Zjp{o g N t c}(H:Fx w wr o g N c)(Z:N<=9000000)(B:Ii w o t (λW=>Jv W dp gb db yb base m n budget es Bb vF vB vC vX kvs bvs cvs X))(A:13<t)(E:t≠99)(z:On m n budget es Bb X):C_ 42 #[.pointer (some ⟨g,0,none⟩),.pointer (some ⟨dp,0,none⟩)] wr λe w'=>e=.returned (.bool true)/\Fx w w' o g (N+6000) c:=by
 have L:Hid (∀(_ x y:_) (W:_) (M:_),Fx w W o g M c->_):=λkd x y W M hW hM=>Zco kd 0 0 0 0 0 x y none none none 0 0 0 0 0 0 ⟨#[]⟩ hW hM B A E z;obtain⟨S,P,l⟩:=(H.part B A E).y.fe.view.1;rw[yy] at l;subst l
 have F:Hid (∀W M,Fx w W o g M c->W.cell? (A_ dp 1)=some (P_ yb)/\W.cell? (A_ yb 0)=some (I_ n)/\W.cell? (A_ yb 1)=some (.slice S (m+1) P)):=λW M hW=>by
  obtain⟨_,u,v,D,_⟩:=(hW.part B A E).cells
  grind
 have Q:=z.hm;have hn:=z.hn;have a:Hid (Fx w _ o g (N+30*(8-8)) c):=H;obtain⟨q,s⟩:=ex_ (m+1);rw[<- s] at F Q;clear B A E z H s;generalize wr=w0 at *;go_enter Tryz.func42,Tryz.ntmps42;go_upto_region 2 with fail;go_loopw [5] (λtk wr=>∃k:Nat,8<=k/\k<=13/\tk=.int .i64 k/\Hid (Fx w wr o g (N+30*(k-8)) c)) (λtk _=>13-(intOf tk).toNat)
 case atStart=>grind
 case round=>
  clear a;obtain⟨k,V,J,rfl,a⟩:=hrel
  by_cases hk:k<=12
  ·have O:(k:Int)<=12:=o_;have d:Hid (Fx w _ o g (N+_+5*0) c):=a;clear a;generalize wr=wa at *;go_upto_region 5 with fail;go_loopw [6] (λtj wr=>∃j:Nat,j<=6/\tj=.int .i64 ((j:Int)-1)/\Hid (Fx w wr o g (N+30*(k-8)+5*j) c)) (λtj _=>6-(intOf tj+1).toNat)
   case atStart=>grind
   case round=>
    clear d;obtain⟨j,T,rfl,a⟩:=hrel
    by_cases hj:j<=5
    ·have G:(j:Int)-1<=4:=o_;have C:=L (k:Nat) ((j:Int)-1) 0 _ _ a o_;have q1:IntKind.i64.wrap (j-1+1)=(j+1:Nat)-1:=(by rw[Cb o_ o_];omega);have q2:j-1+1=((j+1:Nat):Int)-1:=o_;go_wp2_with fail
     refine C.mono ?_;rintro e U ⟨rfl,i⟩;have b:Hid (Fx w _ o g (_+5*(j+1)) c):=i;clear i C a;go_wp2;go_roundw;case rel=>exact⟨j+1,o_,w_,b⟩
     case measure=>exact z_
    have I:j=6:=o_;subst I;have G:¬((6:Nat):Int)-1<=4:=o_;have b:Hid (Fx w wr o g (N+30*(k+1-8)) c):=a.more o_;clear a;go_wp2;go_roundw;case rel=>exact⟨k+1,o_,o_,g_,b⟩
    case measure=>exact z_
  have gk:¬(k:Int)<=12:=o_;have d:Hid (Fx w _ o g (N+150+25*0) c):=a.more o_;clear a;generalize wr=wa at *;go_upto_region 11 with fail;go_loopw [8] (λtr wr=>∃r:Nat,r<=n+1/\tr=.int .i64 r/\Hid (Fx w wr o g (N+150+25*r) c)) (λtr _=>n+1-(intOf tr).toNat)
  case atStart=>grind
  case round=>
   clear d;obtain⟨r,hr,rfl,a⟩:=hrel;obtain⟨u,v,D⟩:=F _ _ a
   by_cases hrn:r<=n
   ·have O:r<=(n:Int):=o_;have d:Hid (Fx w _ o g (_+_+5*0) c):=a;clear a;go_upto_region 14 with fail;clear u v D;generalize wr=wb at *;go_loopw [9] (λtf wr=>∃f:Nat,f<=q+1/\tf=.int .i64 f/\Hid (Fx w wr o g (N+150+25*r+5*f) c)) (λtf _=>q+1-(intOf tf).toNat)
    case atStart=>grind
    case round=>
     clear d;obtain⟨f,Y,rfl,a⟩:=hrel;obtain⟨u,v,D⟩:=F _ _ a
     by_cases hfm:f<=q
     ·have G:f<=(q:Int):=o_;have C:=L 9 (r:Nat) (f:Nat) _ _ a o_;go_wp2_with fail
      refine C.mono ?_;rintro e U ⟨rfl,i⟩;have b:Hid (Fx w _ o g (_+5*(f+1)) c):=i;clear i C a u v D;go_wp2;go_roundw;case rel=>exact⟨f+1,o_,g_,b⟩
      case measure=>exact z_
     have G:¬f<=(q:Int):=o_;have b:Hid (Fx w wr o g (N+150+25*(r+1)) c):=a.more o_;clear a;go_wp2;go_roundw;case rel=>exact⟨r+1,o_,g_,b⟩
     case measure=>exact z_
   have O:¬r<=(n:Int):=o_;have R:Hid (Fx w _ o g (N+6000) c):=a.more o_;clear a;go_wp2;go_ret;exact⟨rfl,R⟩
end
def Zlf:(Tryz.prog.info? 96).map (λi=>(i.zero,i.size,i.bytes))=some (some (.pointer none),1,8):=k_
def ZjQ:(Tryz.prog.info? 208).map (λi=>(i.zero,i.size,i.bytes))=some (some (.pointer none),1,8):=k_
structure Yh(w w':World)(g j tp ty:Nat)(c:Array Value)(v:Value)(ps)(p1 p2)(dp)(v'):Prop where
 lo:w.heap.size<=dp
 pr:w'.heap[dp]? =some (.cells #[p1,p2] tp (0,0))
 wb:WB w' g (c.setIfInBounds j v')
 row:w'.ownsRow 0 ty 1 v' (ps.length+1) (ps++[P_ dp])
 own:∀k,v'.ownBlock=some k->v.ownBlock=some k∨w.heap.size<=k
 tch:Aa (λk=>k=g∨v.ownBlock=some k) w w'
def WB.ne{w g c}(h:WB w g c){base ty size n:Nat}{v xs}(hr:w.ownsRow base ty size v n xs)(ht:ty≠90):v.ownBlock≠some g:=λe=>by
 obtain⟨cur,hc⟩:=Ad hr e;rw[h] at hc
 grind
def Zck g w:C_ 127 #[.pointer (some ⟨g,0,none⟩),.pointer none,.pointer none] w λe w'=>e=.returned (.bool true)/\w'=w:=by go_enter Tryz.func127,Tryz.ntmps127;go_wp2;go_ret;exact⟨rfl,rfl⟩
def Zbx(w:World)(a b:Nat) c p:∀j u,[p][j]? =some u->((w.alloc (.cells c a)).alloc (.cells #[p] b)).cell? (((A_ (w.heap.size+1) 0):Addr).add j)=some u:=by have:=Am (w.alloc (.cells c a)) #[p] b;rw[show(w.alloc (.cells c a)).heap.size=w.heap.size+1 by simp] at this;exact this
def Yh.of{w i}{g j n b:Nat}{c v l p1 m d}(p:WB w g c)(r:w.ownsRow 0 b 1 v d.length d)(h:b≠90)(s:i.ownsRow 0 b 1 l (d.length+1) (d++[P_ w.heap.size]))(q:((w.alloc (.cells #[p1,m] n)).alloc (.cells #[P_ w.heap.size] b)).grownBy i v.ownBlock)(u:∀k,l.ownBlock=some k->v.ownBlock=some k∨w.heap.size<=k):WB i g c/\Yh w (i.setCell (A_ g j) l) g j n b c v d p1 m w.heap.size l:=by
 have o:=p.ne r h;have z:=p.lt;have x:Aa (λk=>k=g∨_) w _:=(((Aa.refl _ w).alloc _).alloc _).grown q (λk e _=>.inr e);have a:=((p.alloc _).alloc _).grown q (λe=>o e.symm);have y:i.heap[w.heap.size]? =some (.cells #[p1,m] n (0,0)):=(by have t:((w.alloc (.cells #[p1,m] n)).alloc (.cells #[P_ w.heap.size] b)).heap[_]? =_:=(hc_ s_).trans (ha_ w _);refine(q.block _ (Qb t).1 (λe=>?_)).trans t;have:=(rl_ r _ e.symm).2;omega);have f:=a.ne s h;refine⟨a,qa_,?_,a.set j _,?_,u,x.setCell (λ_=>.inl rfl) _⟩
 ·grind [Below.heap_setCell]
 exact(Aa.setCell (S:=λk=>k=g) (Aa.refl _ _) (λ_=>rfl) _).row s (λk hk e=>f w_)
def Zcl g s r c v f w (b:WB w g c)(d:c[2]? =some v)(n:w.ownsRow 0 96 1 v f.length f)(L:f.length<=10000000):C_ 127 #[.pointer (some ⟨g,0,none⟩),.pointer (some ⟨s,0,none⟩),.pointer (some ⟨r,0,none⟩)] w λe w'=>e=.returned (.bool true)/\∃dp v',Yh w w' g 2 137 96 c v f (.pointer (some ⟨s,0,none⟩)) (.pointer (some ⟨r,0,none⟩)) dp v':=by
 obtain⟨y,h,m,i,l⟩:=info_parts Zlf;have C:=x1_ b;have x:=x1_ n;have z:=x1_ (b.ne n d_);have O:=x1_ b.lt;have E:w.cell? (A_ g 2)=some v:=(by rw[b.cell];exact d);have G:=λo=>b.frozen o;have A:=x1_ d;clear b n d;go_enter Tryz.func127,Tryz.ntmps127;go_wp2_with (at_builtin;refine Ab rfl _ _ 82 rfl 0 96 y _ 1 8 Tryz.underlying82 h m i l rfl d_ v _ f rfl (ra_ (ra_ x _) _) _ 1 1 _ rfl rfl (Zbx w 137 96 _ _) (by intro u q;simp only[List.mem_cons,List.not_mem_nil,or_false] at q;subst q;rfl) d_ m_ o_ qg_ ?_)
 intro v' I D;obtain⟨t,d,H,_,J,M,rfl⟩:=D;obtain⟨a,p⟩:=Yh.of (j:=2) C x d_ t d (λk hk=>w_);have B:Hid (Yh w _ g 2 _ 96 c v _ _ _ _ _):=p;have N:I.cell? (A_ g 2)=some v:=(by rw[a.cell];exact A);have F:=λo=>a.frozen o;clear t d H a p E G;go_wp2;go_ret;exact⟨rfl,_,_,B⟩
structure RP where
 pb:Nat
 ib:Nat
 yb:Nat
 fk:Nat
 fc:Nat
 m:Nat
 wd:Nat->Bool
 sc:Nat->Int
 ct:Nat->Int
 bins:Int
 size:Nat
 budget:Nat
 T:ByteArray
 cl:Bool
def ptR(r:RP):Value:=P_ r.pb
def ptD(d:Nat):Value:=P_ d
structure ZgR(w:World)(o:Nat->Nat)(t)(r:RP):Prop where
 pr:w.heap[r.pb]? =some (.cells #[P_ r.ib,P_ r.yb] 210 (0,0))
 po:o r.pb=16
 cf:Si r.m r.wd r.sc r.ct r.bins r.size r.budget
 x:Oq w o t r.ib r.m r.wd r.sc r.ct r.bins r.size r.budget r.T r.cl
 y:Kv w o (t+1) r.yb r.fk r.fc r.m r.wd r.sc r.ct r.bins r.size r.budget r.T r.cl
def Zjj(w:World)(o:Nat->Nat)(dp:Nat):Prop:=∃gb db yb base m n budget es Bb vF vB vC vX kvs bvs cvs X,Ii w o 17 (λW=>Jv W dp gb db yb base m n budget es Bb vF vB vC vX kvs bvs cvs X)/\On m n budget es Bb X
structure Es(Z:Nat->Prop)(w)(o)(g)(c)(N L)(v1 v2)(rs:List RP)(ds:List Nat):Prop where
 bk:Hx w o g c N
 n9:∀k,w.heap.size<=k->o k=99
 c1:c[1]? =some v1
 r1:w.ownsRow 0 208 1 v1 (rs.map ptR).length (rs.map ptR)
 o1:∀k,v1.ownBlock=some k->o k=14
 c2:c[2]? =some v2
 r2:w.ownsRow 0 96 1 v2 (ds.map ptD).length (ds.map ptD)
 o2:∀k,v2.ownBlock=some k->o k=15
 rd:∀i r,rs[i]? =some r->ZgR w o (100+2*i) r
 sz:∀r∈rs,r.T.size<=L
 dt:∀d∈ds,Zjj w o d
 lo:∀k,Z k->k<w.heap.size/\o k=98
def Fa(Z:Nat->Prop)(w w':World):Prop:=Aa (λk=>¬Z k) w w'
def Fa.of_below{Z w w'}(h:Below w.heap.size w w'):Fa Z w w':=Aa.of_below h
def Fa.trans{Z w w' w2}(h:Fa Z w w')(h':Fa Z w' w2):Fa Z w w2:=Aa.trans h h'
section
variable {w w':World} {o o':Nat->Nat} {g N N' L L' t:Nat} {c c':Array Value} {v1 v2 v1' v2':Value} {rs:List RP} {ds:List Nat} {r:RP} {S Z:Nat->Prop}
def Dq.at(h:Dq w o o'){k a}(b:k<w.heap.size)(e:o k=a)(d:a≠99):o' k=a:=by rcases h k b with c|c<;>omega
def ZgR.keep(h:ZgR w o t r)(b:Aa S w w')(a:∀k,k<w.heap.size->S k->o k≠16/\o k≠t/\o k≠t+1)(c:Dq w o o')(f:100<=t):ZgR w' o' t r:=by have d:=(Qb h.pr).1;exact⟨b.at_ h.pr (λe=>(a _ d e).1 h.po),c.at d h.po d_,h.cf,h.x.keep b (λk hk e=>(a k hk e).2.1) c o_,h.y.keep b (λk hk e=>(a k hk e).2.2) c o_⟩
def Zjj.keep{d}(h:Zjj w o d)(q:Aa S w w')(u:∀k,k<w.heap.size->S k->o k≠17)(z:Dq w o o'):Zjj w' o' d:=by obtain⟨r,y,p,b,m,n,a,i,l,t,x,g,s,e,c,f,X,j,v⟩:=h;exact⟨r,y,p,b,m,n,a,i,l,t,x,g,s,e,c,f,X,j.step q u z,v⟩
def Hx.put(h:Hx w o g c N)(b:Aa S w w')(n:∀k,k<w.heap.size->S k->k=g∨13<o k)(m:WB w' g c')(a:Dq w o o')(e:∀j,4<=j->c'[j]? =c[j]?)(l:c'.size=13):Hx w' o' g c' N:=by
 have d:∀k,k<w.heap.size->S k->o k=0∨13<o k:=λk hk e=>by
  rcases n k hk e with rfl|e
  exact .inl h.og;exact .inr e
 obtain⟨z,i,p,f⟩:=h.nx;refine⟨m,a.at h.wb.lt h.og d_,l,⟨z,(e _ d_).trans i,p,f⟩,?_,?_,?_,?_⟩;exact h.es.keep b (λk hk e=>w_) a d_ (e 4 d_) (e 5 d_) qa_;exact h.ns.keep b (λk hk e=>w_) a d_ (e 6 d_) (e 7 d_) qa_;exact h.ss.keep b (λk hk e=>w_) a d_ (e 8 d_) (e 9 d_) qa_;exact h.ls.keep b (λk hk e=>w_) a d_ (e _ d_) (e _ d_) qa_
def Jn{ty n a:Nat}{v xs}(h:w.ownsRow 0 ty 1 v n xs)(hc:∀k,v.ownBlock=some k->o k=a)(tc:Aa S w w')(hs:∀k,k<w.heap.size->S k->o k≠a)(ho:Dq w o o')(h9:a≠99):w'.ownsRow 0 ty 1 v n xs/\∀k,v.ownBlock=some k->o' k=a:=
 ⟨tc.row h (λk hk e=>hs k (rl_ h k hk).2 e (hc k hk)),λk hk=>ho.at (rl_ h k hk).2 (hc k hk) h9⟩
def Es.old(h:Es Z w o g c N L v1 v2 rs ds)(ho:Dq w o o')(hs:w.heap.size<=w'.heap.size):∀k,Z k->k<w'.heap.size/\o' k=98:=λk hk=>⟨Qh (h.lo k hk).1 hs,ho.at (h.lo k hk).1 (h.lo k hk).2 d_⟩
def Es.low(h:Es Z w o g c N L v1 v2 rs ds)(tc:Aa S w w')(hs:∀k,k<w.heap.size->S k->o k≠98):Fa Z w w':=tc.mono (λk hk e hz=>hs k hk e (h.lo k hz).2)
def Es.book(h:Es Z w o g c N L v1 v2 rs ds)(n:Fx w w' o g N' c):(∃o' c',Es Z w' o' g c' N' L v1 v2 rs ds)/\Fa Z w w':=by
 obtain⟨o',c',t,f,b,j,u,s⟩:=n
 have l:∀{a},13<a->a≠99->∀k,k<w.heap.size->(o k<=13∨o k=99)->o k≠a:=λh1 h2 k _ e=>o_
 obtain⟨p1,q⟩:=Jn h.r1 h.o1 b (l d_ d_) f d_;obtain⟨m,p⟩:=Jn h.r2 h.o2 b (l d_ d_) f d_;refine⟨⟨o',c',t,s,(j 1 d_).trans h.c1,p1,q,(j 2 d_).trans h.c2,m,p,λi r hr=>(h.rd i r hr).keep b (λk _ e=>o_) f o_,h.sz,λd hd=>(h.dt d hd).keep b (λk _ e=>o_) f,h.old f b.size⟩,h.low b (λk _ e=>o_)⟩
def Es.part{i r f}(h:Es Z w o g c N L v1 v2 rs ds)(l:rs[i]? =some r)(a:Aa (λk=>o k=100+2*i∨o k=100+2*i+1) w w')(b:Dq w o o')(p:∀k,w'.heap.size<=k->o' k=99)(x:ZgR w' o' (100+2*i) f)(e:f.pb=r.pb)(m:L<=L')(y:f.T.size<=L'):Es Z w' o' g c N L' v1 v2 (rs.set i f) ds/\Fa Z w w':=by
 have s:=(List.getElem?_eq_some_iff.1 l).1
 have v:(rs.set i f).map ptR=rs.map ptR:=by
  apply List.ext_getElem?
  grind [ptR]
 obtain⟨p1,t⟩:=Jn h.r1 h.o1 a (λk _ e=>o_) b d_;obtain⟨n,u⟩:=Jn h.r2 h.o2 a (λk _ e=>o_) b d_;refine⟨⟨h.bk.keep a (λk _ e=>o_) b,p,h.c1,by rw[v];exact p1,t,h.c2,n,u,λj q hq=>?_,λq hq=>?_,λd hd=>(h.dt d hd).keep a (λk _ e=>o_) b,h.old b a.size⟩,h.low a (λk _ e=>o_)⟩
 ·rw[List.getElem?_set] at hq;split at hq
  ·grind
  exact(h.rd j q hq).keep a (λk _ e=>o_) b o_
 rcases List.mem_or_eq_of_mem_set hq with e|e
 exact Nat.le_trans (h.sz q e) m
 grind
end
end Go.Proofs.YtfcgnpchbcmdeaaGreat
