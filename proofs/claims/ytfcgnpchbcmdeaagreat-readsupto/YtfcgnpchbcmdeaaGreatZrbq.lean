import Derived.Test.YtfcgnpchbcmdeaaGreatZrbp
import Derived.Test.YtfcgnpchbcmdeaaGreatZrbr
namespace Go.Proofs.YtfcgnpchbcmdeaaGreat
set_option linter.all false
set_option maxRecDepth 100000
set_option maxHeartbeats 32000000
open Go.RowKit
def jy{a b:ByteArray}:a.data.toList=b.data.toList↔a=b:=by
 constructor
 ·intro h
  cases a;cases b
  simp at h;rw[h]
 intro h;rw[h]
def ZhN v s:Qo v s.data.toList=(!v.miss&&decide (v.word=s)):=by grind [Qo,jy]
def Zi2:∀(L:List (Int×List VS)) (i:Nat) (s:ByteArray),Pn L i s=Js ((Bn L i).zip (Fr L)) s.data.toList
  |[],_,_=>rfl
  | r::L,i,s=>by
    have ih:=Zi2 L i s
    grind [Js,Bn,Fr,ZhN,Pn]
abbrev fp(T:List ByteArray)(Wt:ByteArray->Int)(ct:Int)(v:VS):Prop:=v.miss=false/\Lib.containsS T v.word=false/\ct<=Wt v.word
abbrev Zeb(Wt:ByteArray->Int)(s:ByteArray×Int)(v:VS):Prop:=s.2<Wt v.word∨Wt v.word=s.2/\If v.word s.1
def pkS(T:List ByteArray)(Wt:ByteArray->Int)(ct:Int)(s:ByteArray×Int)(v:VS):ByteArray×Int:=if fp T Wt ct v/\Zeb Wt s v then(v.word,Wt v.word) else s
def pkF(T:List ByteArray)(Wt:ByteArray->Int)(ct:Int)(vs:List VS):ByteArray×Int:=vs.foldl (pkS T Wt ct) (⟨#[]⟩,0)
def Zbz T a b c v:pkF T a b (c++[v])=pkS T a b (pkF T a b c) v:=by
 unfold pkF
 grind
def Zio T Wt {ct}(hc:1<=ct):∀n vs,vs.length=n->(pkF T Wt ct vs=(⟨#[]⟩,0)/\∀v∈vs,¬fp T Wt ct v)∨((∃v∈vs,fp T Wt ct v/\pkF T Wt ct vs=(v.word,Wt v.word))/\∀v∈vs,fp T Wt ct v->¬Zeb Wt (pkF T Wt ct vs) v)
 |0,vs,h=>by obtain rfl:=List.eq_nil_of_length_eq_zero h;exact .inl ⟨rfl,s_⟩
 | n+1,vs,h=>by
  obtain⟨us,v,rfl⟩:∃us v,vs=us++[v]:=⟨vs.dropLast,vs.getLast w_,(List.dropLast_concat_getLast _).symm⟩;have ih:=Zio T Wt hc n _ (by simpa using h);rw[Zbz];have hirr:∀x,¬If x x:=λx=>List.lt_irrefl _
  by_cases hb:fp T Wt ct v/\Zeb Wt (pkF T Wt ct us) v
  ·grind [pkS]
  grind [pkS]
section
variable {L:List (Int×List VS)} {i:Nat} {ct:Int}
def ZeK{x}:x∈Tn (Bn L i) (Fr L) ct↔(∃v∈Bn L i,v.miss=false/\v.word=x.wd)/\x.wt=Pn L i x.wd/\ct<=x.wt:=by
 rw[Zh5,Zi2];refine and_congr_left λ_=>?_;unfold Sj;rw[List.any_eq_true];constructor;rintro⟨p,c,a⟩;simp only[Qo,Bool.and_eq_true,Bool.not_eq_true',decide_eq_true_eq,jy] at a;exact⟨p.1,(List.of_mem_zip c).1,a⟩;rintro⟨v,b,f,e⟩;obtain⟨j,d,rfl⟩:=List.getElem_of_mem b;refine⟨((Bn L i)[j],(Fr L)[j]'(by simpa [Bn,Fr] using d)),?_,?_⟩
 ·grind [Bn,Fr]
 grind [Qo]
def ZfX(s:1<=ct){k}(z:k<=(Tn (Bn L i) (Fr L) ct).length):pkF (((Tn (Bn L i) (Fr L) ct).take k).map WS.wd) (Pn L i) ct (Bn L i)=if h:k<(Tn (Bn L i) (Fr L) ct).length then((Tn (Bn L i) (Fr L) ct)[k].wd,(Tn (Bn L i) (Fr L) ct)[k].wt) else(⟨#[]⟩,0):=by
 have A:=ZaO (Bn L i) (Fr L) ct;have t:=ZcR (Bn L i) (Fr L) ct;have f:∀x,x∈Tn (Bn L i) _ ct↔_:=λx=>ZeK;generalize Tn (Bn L i) (Fr L) ct=D at *
 have a:∀h,D[k].wd ∉ (D.take k).map WS.wd:=λh hin=>by
  obtain⟨y,w,e⟩:=List.mem_map.1 hin;obtain⟨j,q,rfl⟩:=List.getElem_of_mem w;rw[List.length_take] at q;rw[List.getElem_take] at e;have o:=((f D[j]).1 (Qf _)).2.1;have l:=((f D[k]).1 (Qf _)).2.1
  have:D[j]=D[k]:=by
   cases d:D[j];cases hz:D[k]
   rw[d,hz] at e;rw[d] at o;rw[hz] at l;simp only at e o l;rw[o,l,e]
  have:=(List.getElem_inj t).1 this;omega
 have m:∀h,∃v∈Bn L i,fp ((D.take k).map WS.wd) (Pn L i) ct v/\v.word=D[k].wd:=λh=>by obtain⟨⟨v,g,b,c⟩,p,C⟩:=(f D[k]).1 (Qf _);exact⟨v,g,⟨b,by rw[c,<- Bool.not_eq_true,Lib.containsS_iff];exact a h,w_⟩,c⟩
 rcases Zio ((D.take k).map WS.wd) (Pn L i) s _ (Bn L i) rfl with⟨b,c⟩|⟨⟨v,g,b,p⟩,c⟩
 ·grind
 have d:⟨v.word,Pn L i v.word⟩∈D:=(f _).2 ⟨⟨v,g,b.1,rfl⟩,rfl,b.2.2⟩;obtain⟨j,q,B⟩:=List.getElem_of_mem d
 have u:k<=j:=by
  apply Nat.le_of_not_lt;intro h;have r:=b.2.1;rw[<- Bool.not_eq_true,Lib.containsS_iff] at r
  grind [List.mem_iff_getElem]
 have n:k<D.length:=o_;rw[dif_pos n,p]
 by_cases e:k=j
 ·grind
 grind [List.pairwise_iff_getElem,Vg]
end
def ai(w:World)(b:Nat)(wd:Bool)(vb vd:Value)(d:Int):Prop:=w.heap[b]? =some (.cells #[.bool wd,vb,vd,I_ d] 227 (0,0))
def ai.cells{w b wd vb vd d}(h:ai w b wd vb vd d):(w.cell? (A_ b 0)=some (.bool wd)/\w.cell? (A_ b 1)=some vb/\w.cell? (A_ b 2)=some vd/\w.cell? (A_ b 3)=some (I_ d))/\(∀j,w.frozen? (A_ b j)=false)/\b<w.heap.size:=
 ⟨⟨cq_ 0 _ 227 (0,0) h,cq_ 1 _ 227 (0,0) h,cq_ 2 _ 227 (0,0) h,cq_ 3 _ 227 (0,0) h⟩,λj=>fq_ j _ 227 h,(Qb h).1⟩
def Cc.add{w a v b}{x:ByteArray}(h:w.ownsRow a 9 1 v (b.length+1) (b.map Value.string++[.string x])):Cc w a v (b++[x]):=by
 unfold Cc
 simpa using h
def gn(w:World)(b:Nat):Nat:=(w.cell? (A_ b 2)).elim 0 yq
structure WdI(w w3 W:World)(b k)(da)(dc)(T):Prop where
 blk:ai W b true (.slice none 0 0) (.slice da k dc) 0
 own:Cc W w3.heap.size (.slice da k dc) T
 len:T.length=k
 tch:Aa (λq=>q=b) w3 W
def WdI.below{w w3 W W' b k dc da T}(h:WdI w w3 W b k da dc T)(hb:Below W.heap.size W W'):WdI w w3 W' b k da dc T:=⟨(hb.block _ h.blk.cells.2.2).trans h.blk,h.own.below hb,h.len,h.tch.below hb⟩
def Zha{p:Prop}(h:p:=by
 obtain⟨⟨e0,e1,e2,e3⟩,_,_⟩:=hI.blk.cells;have h6:ai _ _ _ _ _ 0:=hI.tch.at_ HA3.2.2 o_;obtain⟨⟨k0,k1,k2,k3⟩,hfz,_⟩:=h6.cells;have p0:=hfz 0;have p1:=hfz 1;have p2:=hfz 2;have p3:=hfz 3;have hbe:=HA3.1.trans (hI.tch.to_below HA3.1.size (λq hq=>o_));have HF:Hid (ai wr (w.heap.size+1) false (.slice none 0 0) (.slice none 0 0) 0/\Cc wr w.heap.size (.slice da k dc) B/\E_ w wr):=(by refine⟨h6,?_,hbe⟩;rw[<- HTB];exact hI.own.monoW HA3.1.size);have hkB:k=B.length:=(by rw[<- HTB];exact hI.len.symm);clear hI h6 hfz hbe HI;subst hkB;go_wp2;refine bodyPost_ret (v:=.agg #[.bool true,.slice none 0 0,.slice da B.length dc,I_ 0]) (by simp[results,Tryz.results238,go_sem, *]) rfl ?_;have tt:=Aa.set4 wr (w.heap.size+1) (.bool true) (.slice none 0 0) (.slice da B.length dc) (I_ 0)
 exact⟨da,dc,rfl,tt.row HF.2.1 (λk hk e=>Au HF.2.1 hk HF.1 d_ e),HF.2.2.trans (tt.to_below HF.2.2.size (λk hk=>o_))⟩):p:=h
def Zdy a I P c i d size x3 j fk cv L w (h:Sp w a I P L)(hi:i<P)(a9:Yi L)(hn:I<=200)(b9:2<=d)(bA:d<=16)(hc:w.cell? (A_ fk (i*3+2))=some (I_ j))(aV:1<=j):C_ 238 #[.agg #[.slice (some ⟨fk,0,none⟩) P cv,.int .i64 d,.int .i64 size,.int .i64 x3],.slice a I c,.int .i64 i] w λe w'=>∃ad cd,e=.returned (.agg #[.bool true,.slice none 0 0,.slice ad (Mc (Bn L i) (Fr L) j d).ww.length cd,.int .i64 0])/\Cc w' w.heap.size (.slice ad (Mc (Bn L i) (Fr L) j d).ww.length cd) (Mc (Bn L i) (Fr L) j d).ww/\Below w.heap.size w w':=by
 have HV:=x1_ h
 have aL:∀r∈L,0<=r.1/\r.1<=99:=λr hr=>by have:=(a9 r hr).1;omega
 have aW:=x1_ aL;have Y:=x1_ h.1;obtain⟨B,hB⟩:=ez_ ((Mc (Bn L i) (Fr L) j d).ww);rw[hB.out];have a6:Hid (B=((Tn _ _ _).take _).map _):=hB.out.symm;have aA:Hid (∀k,k<=_->_):=λk hk=>ZfX (L:=L) (i:=i) aV hk;obtain⟨D,hD⟩:=ey_ (Tn (Bn L i) (Fr L) j);rw[hD] at a6 aA
 have aY:Hid (∀x∈D,_):=λx hx=>by rw[<- hD] at hx;exact((ZeK.1 hx).2.2)
 obtain⟨H,G⟩:=ex_ (((w.alloc (.cells #[L_ fk P cv,I_ d,I_ size,I_ x3] 37)).alloc (.cells #[.bool false,.slice none 0 0,.slice none 0 0,I_ 0] 227)).alloc (.cells #[.bool true,.slice none 0 0,.slice none 0 0,I_ 0] 227));have aK:E_ w H:=(by rw[G];exact(bA_.alloc s_ _).alloc t_ _);have aJ:H.heap.size=w.heap.size+1+1+1:=by rw[G];simp
 have s:H.heap[w.heap.size]? =some (.cells #[L_ fk P cv,I_ d,I_ size,I_ x3] 37 (0,0))/\ai H (w.heap.size+1) false (.slice none 0 0) (.slice none 0 0) 0/\ai H (w.heap.size+1+1) true (.slice none 0 0) (.slice none 0 0) 0:=by
  rw[G];refine⟨?_,?_,?_⟩;exact((hc_ t_).trans (hc_ s_)).trans hn_;exact(hc_ s_).trans (by have e:=ha_ (w.alloc (.cells #[L_ fk P cv,I_ d,I_ size,I_ x3] 37)) (.cells #[.bool false,.slice none 0 0,.slice none 0 0,I_ 0] 227);simpa using e);have e:=ha_ ((w.alloc (.cells #[L_ fk P cv,I_ d,I_ size,I_ x3] 37)).alloc (.cells #[.bool false,.slice none 0 0,.slice none 0 0,I_ 0] 227)) (.cells #[.bool true,.slice none 0 0,.slice none 0 0,I_ 0] 227)
  simpa [ai] using e
 have bB:=x1_ aJ;have HA3:=x3_ aK s.1 s.2.1;have aI:Hid (WdI w _ _ _ 0 _ 0 _):=⟨s.2.2,Cc.nil _ _,rfl,Aa.refl _ _⟩;have aE:=x1_ G;have a0:=World.block_lt_of_cell? _ _ hc;simp only at a0;have bD:=x1_ a0;clear h a9 aL hB G aK aJ s a0 hD;go_enter Tryz.func238,Tryz.ntmps238;go_upto_region 2 with fail;rw[<- aE];clear aE;go_loopw [8] (λ_ wr=>∃(k:Nat) (da:Option Addr) (dc:Nat),k<=D.length/\(k:Int)<=d/\Hid (WdI w H wr (w.heap.size+1+1) k da dc ((D.take k).map WS.wd))) (λ_ wr=>d.toNat-gn wr (w.heap.size+1+1))
 case atStart=>exact⟨0,none,0,qg_,o_,aI⟩
 case round=>
  clear aI;obtain⟨k,da,dc,aO,b7,HI⟩:=hrel;obtain⟨⟨c0,c1,c2,c3⟩,_,bC⟩:=HI.blk.cells;have Z:=HI.tch.at_ HA3.2.1 o_;have y0:=cR_ 0 Z;have y1:=cR_ 1 Z;have Q:=HA3.1.trans (HI.tch.to_below HA3.1.size (λq hq=>o_));clear Z
  by_cases hk2:(k:Int)<d
  ·obtain ⟨wo, aX⟩:=ex_ wr;subst aX;obtain⟨T,hT⟩:=ey_ ((D.take k).map WS.wd);have HP:Hid (pkF T (Pn L i) j (Bn L i)=if h:k<D.length then(D[k].wd,D[k].wt) else(⟨#[]⟩,0)):=(by rw[<- hT];exact aA k aO);have HT:=x1_ hT;rw[hT] at HI;clear hT;go_wp2_with fail
   go_loopw [8,9,10] (λt8 t9 t10 wz=>∃r:Nat,t10=.int .i64 r/\r<=I/\t8=.string (pkF T (Pn L i) j ((Bn L i).take r)).1/\t9=.int .i64 (pkF T (Pn L i) j ((Bn L i).take r)).2/\E_ wo wz) (λ_ _ t10 _=>I-(intOf t10).toNat)
   case atStart=>exact⟨0,rfl,qg_,rfl,rfl,bz_⟩
   case round=>
    obtain⟨r,rfl,b6,rfl,rfl,z⟩:=hrel;have F:=Q.trans (z.mono Q.size)
    by_cases hin:r<I
    ·rcases(HV.below F).2 with h0|⟨q,rfl,hq⟩
     omega;obtain⟨_,g,cc,a1,_,hC⟩:=hq r hin;obtain⟨a2,a3,a4⟩:=hC i hi;have aB:r<(Bn L i).length:=by unfold Bn;rw[List.length_map,Y];exact hin
     have aC:pkF T (Pn L i) j ((Bn L i).take (r+1))=pkS T (Pn L i) j (pkF T (Pn L i) j ((Bn L i).take r)) ((L.getD r Sh).2.getD i Ax):=by have aN:r<L.length:=(by rw[Y];exact hin);rw[lp _ aB,Zbz];congr 1;simp[Bn,List.getD,aN]
     have O:=x1_ aC;clear hq hC aC aB;generalize (L.getD r Sh).2.getD i Ax=x at *;generalize pkF T (Pn L i) j ((Bn L i).take r)=p at *;obtain⟨xm,xn,l⟩:=x;obtain⟨f,b⟩:=p;simp only at a2 a3 a4 ⊢;have b1:0<=(r:Int):=o_;have b2:r<(I:Int):=o_;have b3:0<=(i:Int):=o_;have b4:i<(P:Int):=o_;have x2:=Ac z c2;obtain⟨y,hy⟩:=ex_ (wr.alloc (.cells #[.bool xm,I_ xn,.string l] 335));have M:E_ wr y:=(by rw[hy];exact bA_);have S:y.heap[wr.heap.size]? =some (.cells #[.bool xm,I_ xn,.string l] 335 (0,0)):=(by rw[hy];exact hn_);have z0:=cR_ 0 S;have z2:=cR_ 2 S;have z3:=Ac M x2;have HY:=x1_ hy;have u:=z.trans (M.mono z.size);clear hy S;go_upto_region 9 with fail;rw[<- HY];clear HY a1 a2 a3 a4;go_wp2_with fail
     refine(Zit H.heap.size k dc da T l _ ((HI.below u).own) HI.len o_).mono ?_;rintro e w1 ⟨rfl,aH⟩;obtain rfl:=aH.symm;clear aH;obtain⟨tk,a5⟩:=ey_ (Lib.containsS T l);rw[a5];have U:=x1_ a5;clear a5
     by_cases hgo:xm=true∨tk=true
     ·have n:Hid (pkF T (Pn L i) j ((Bn L i).take (r+1))=(f,b)):=by
       show _=_;rw[O];refine if_neg (λh=>?_);have X:=h.1.1;have V:=h.1.2.1;simp only[U.out] at X V
       rcases hgo with e|e
       rw[e] at X;cases X;rw[e] at V;cases V
      clear O
      cases xm<;>cases tk
      ·rcases hgo with e|e<;>cases e
      all_goals
       go_wp2;go_roundw;case rel=>exact⟨r+1,g_,o_,by rw[n],by rw[n],u⟩
       case measure=>exact z_
     obtain⟨rfl,rfl⟩:xm=false/\tk=false:=⟨by cases xm;rfl;exact absurd (.inl rfl) hgo,by cases tk;rfl;exact absurd (.inr rfl) hgo⟩;clear hgo;go_wp2_with fail
     refine(ZbO (some ⟨q,0,none⟩) I P c i L l _ (HV.below (F.trans (M.mono F.size))) hi aW o_).mono ?_;rintro e w2 ⟨rfl,m,aF⟩;obtain rfl:=aF.symm;clear aF;have n:Hid (pkF T (Pn L i) j ((Bn L i).take (r+1))=if j<=Pn L i l/\(b<Pn L i l∨Pn L i l=b/\If l f) then(l,Pn L i l) else(f,b)):=(by show _=_;rw[O];unfold pkS fp Zeb;simp only[U.out,true_and]);have aT:=F.trans (M.mono F.size);have f0:=Ac u y0;have f1:=Ac aT hc;have R:=below_drewN u m;clear O U;generalize Pn L i l=W at *;go_upto_region 12 with fail;go_cut [73] (λt wx=>t=.bool (decide (j<=W/\(b<W∨W=b/\If l f)))/\wx=y.drewN m)
     case first=>
      by_cases X:j<=W
      ·by_cases V:b<W
       ·go_wp2;go_meet
        exact⟨by rw[decide_eq_true (p:=_/\_) ⟨X,.inl V⟩],rfl⟩
       by_cases h3:W=b
       ·have e3:=beq_iff_eq.2 h3
        by_cases h4:If l f
        ·have e4:Op.bytesLess l.toList f.toList=true:=(by rw[yr];exact decide_eq_true h4);have HR:Hid (_/\(b<W∨_/\_)):=⟨X,.inr ⟨h3,h4⟩⟩;clear h3 h4;go_wp2;go_meet
         exact⟨by rw[decide_eq_true HR.out],rfl⟩
        have e4:Op.bytesLess l.toList f.toList=false:=by rw[yr];exact decide_eq_false h4
        have HR:Hid (¬(j<=W/\(b<W∨W=b/\If l f))):=λh=>by rcases h.2 with h|h;exact V h;exact h4 h.2
        clear h3 h4;go_wp2;go_meet
        exact⟨by rw[decide_eq_false HR],rfl⟩
       have e3:=beq_eq_false_iff_ne.2 h3
       have HR:Hid (¬(j<=W/\(b<W∨W=b/\If l f))):=λh=>by rcases h.2 with h|h;exact V h;exact h3 h.1
       clear h3;go_wp2;go_meet
       exact⟨by rw[decide_eq_false HR],rfl⟩
      have HR:Hid (¬(_/\(b<W∨W=b/\If l f))):=λh=>X h.1;go_wp2;go_meet
      exact⟨by rw[decide_eq_false HR],rfl⟩
     case rest=>
     obtain⟨rfl,hw⟩:=hcut;obtain rfl:=hw.symm;clear hw
     by_cases hb:j<=W/\(b<W∨W=b/\If l f)
     ·rw[decide_eq_true hb];have E:Hid (pkF T (Pn L i) j ((Bn L i).take (r+1))=(l,W)):=(by show _=_;rw[n,if_pos hb]);clear hb n;go_wp2;go_roundw;case rel=>exact⟨r+1,g_,o_,by rw[E],by rw[E],R⟩
      case measure=>exact z_
     rw[decide_eq_false hb];have E:Hid (pkF T (Pn L i) j ((Bn L i).take (r+1))=(f,b)):=(by show _=_;rw[n,if_neg hb]);clear hb n;go_wp2;go_roundw;case rel=>exact⟨r+1,g_,o_,by rw[E],by rw[E],R⟩
     case measure=>exact z_
    have g2:¬r<(I:Int):=o_;have a7:(Bn L i).take r=_:=List.take_of_length_le (by unfold Bn;rw[List.length_map,Y];omega);rw[a7,HP]
    by_cases hkl:k<D.length
    ·rw[dif_pos hkl];have aR:=aY _ (Qf hkl);have aM:Hid ((D.take (k+1)).map WS.wd=T++[D[k].wd]):=(by show _=_;rw[Qi hkl,List.map_append,HT];rfl);generalize D[k]=x at *;obtain⟨l,xt⟩:=x;simp only at aR ⊢;have e0:(xt==0)=_:=beq_eq_false_iff_ne.2 o_;have hI:=HI.below z;obtain⟨⟨_,_,x2,_⟩,_,aZ⟩:=hI.blk.cells;obtain⟨i0,aG,aS,aP,aU⟩:=info_parts Zc8;have C:Hid (∀o,WdI w _ (wr.alloc o) _ k _ _ T):=λo=>hI.below bA_;have b5:=hI.tch.size;have A:=HI.len
     have J:Hid (∀o,(wr.alloc o).ownsRow H.heap.size 9 1 (.slice da k dc) k (T.map Value.string)):=λo=>by have:=(C o).own;unfold Cc at this;rw[A] at this;exact this
     clear hI HI HP;go_wp2_with (at_builtin;refine Ab rfl (.tmp 81) (.tmp 83) 47 rfl H.heap.size 9 i0 _ 1 16 Tryz.underlying47 aG aS aP aU rfl d_ (.slice da k dc) k _ rfl (J _) _ 1 1 [.string l] rfl rfl ?_ ?_ ?_ ?_ ?_ ?_ ?_)
     rfl;unfold maxLen;omega;omega;omega;intro v7 w7 H7;obtain⟨r7,g7,_,_,q7,p7,aD⟩:=H7;have t7:=(Aa.refl _ _).grown g7 (λk hk _=>hk);have N:ai _ _ _ _ _ 0:=t7.at_ (C _).blk (λe=>Au (J (.cells #[] 9)) e (C _).blk d_ rfl);have HF:Hid (WdI w H (w7.setCell (A_ (w.heap.size+1+1) 2) v7) (w.heap.size+1+1) (k+1) (some ⟨q7,0,none⟩) p7 (T++[l])):=by subst aD;refine⟨ht_ 2 _ _ _ N,?_,by rw[Qe,A];rfl,?_⟩;have ho:=Cc.add (by rw[A];exact r7);exact As ho N d_;exact((C _).tch.grown g7 (λx hx hlt=>by have:=(rl_ (J (.cells #[] 9)) x hx).1;omega)).setCell (p:=(A_ (w.heap.size+1+1) 2)) (λ_=>rfl) _
     obtain⟨⟨_,_,b8,_⟩,hfz,_⟩:=N.cells;have p2:=hfz 2;have aQ:Hid (gn wo (w.heap.size+1+1)=k):=by show _=_;unfold gn;rw[c2];rfl
     have a8:Hid (gn (w7.setCell (A_ (w.heap.size+1+1) 2) v7) (w.heap.size+1+1)=k+1):=by show _=_;unfold gn;rw[HF.blk.cells.1.2.2.1];rfl
     subst aD;clear r7 g7 t7 N hfz C J x2 c0 c1 c2 c3;go_wp2;go_roundw;case rel=>exact⟨k+1,_,_,o_,o_,by rw[aM];exact HF⟩
     case measure=>rw[aQ,a8];omega
    rw[dif_neg hkl];have HTB:Hid (T=B):=(by show _=_;rw[a6,<- HT,List.take_of_length_le o_,List.take_of_length_le o_]);have hI:=HI.below z;exact Zha
  have g2:=hk2;have HTB:Hid ((D.take k).map WS.wd=B):=(by show _=_;rw[a6,show d.toNat=k by omega]);have hI:=HI.out;exact Zha
def Ms(L:List (Int×List VS))(E:Nat->ES)(i:Nat):List Nat:=(Bn L i).map (Dy (E i))
def Ou(m:Nat)(E:Nat->ES):List ES:=(List.range (m+1)).map E
def Ih(m:Nat)(L:List (Int×List VS))(E:Nat->ES):List (List Nat):=(List.range (m+1)).map (Ms L E)
def bq{m E i}(h:i<m+1):(Ou m E).getD i Ph=E i:=by simp[Ou,List.getD,h]
def Uk{m L E i}(h:i<m+1):(Ih m L E).getD i []=Ms L E i:=by simp[Ih,List.getD,h]
def Lu{L E}{i}:(Ms L E i).length=L.length:=by simp[Ms,Bn]
def Zhb{L E i r}(h:r<L.length):(Ms L E i).getD r 0=Dy (E i) ((L.getD r Sh).2.getD i Ax):=by simp[Ms,Bn,List.getD,h]
def CfB(w:World)(cb:Nat)(fk n fc:Nat)(bins:Int)(size budget:Nat):Prop:=w.heap[cb]? =some (.cells #[L_ fk n fc,I_ bins,I_ size,I_ budget] 37 (0,0))
def CfB.cells{w cb fk n fc bins size budget}(h:CfB w cb fk n fc bins size budget):w.cell? (A_ cb 0)=some (L_ fk n fc)/\w.cell? (A_ cb 1)=some (I_ bins)/\w.cell? (A_ cb 2)=some (I_ size)/\w.cell? (A_ cb 3)=some (I_ budget):=
 ⟨cq_ 0 _ 37 (0,0) h,cq_ 1 _ 37 (0,0) h,cq_ 2 _ 37 (0,0) h,cq_ 3 _ 37 (0,0) h⟩
def ai.fill{w b m e k j c a d f}(h:ai w b m k j d):ai ((((w.setCell (A_ b 0) (.bool e)).setCell (A_ b 1) c).setCell (A_ b 2) a).setCell (A_ b 3) (I_ f)) b e c a f:=by have l:=hs_ w b 0 _ 227 (.bool e) h;have g:=hs_ _ b 1 _ 227 c l;have i:=hs_ _ b 2 _ 227 a g;exact hs_ _ b 3 _ 227 (I_ f) i
section
variable {P:Program} {ops:Array Oper} {Q:Exit->Act->World->Prop} {md:Region.Mode} {S:World->Prop} {stop:Nat}
def Ze{e:Oper}{v:Value}{d:Nat}{b:Array Bool}{a g:Act}{w:World}(i:Nat)(h:Dg P md ops Q S stop d (b.setIfInBounds i true) g w)(j:ops.toList[i]? =some e:=by rfl)(hs:Region.noSelect ops=true:=by kernel_rfl)(hf:Region.free md ops b i=true:=by kernel_rfl)(hr:(Region.ready md ops b).contains i=true:=by kernel_rfl)(hstop:(ZeD md ops b i).contains stop=true:=by kernel_rfl)(hL:it md ops b i (ZeD md ops b i)=true:=by kernel_rfl)(hg:Region.wanted e (yielded ops a.tmps)=true:=by rfl)(hS:S w:=by assumption)(y:∀w,S w->(execOp a.eval e).run P w=.ok (.value v) w:=by intro w f;(first|obtain⟨_,_,_,_,_,_,_,_⟩:=f|obtain⟨_,_,_,_,_,_⟩:=f);go_simp;try with_reducible rfl)(ha:a.put e.dst v=g:=by(try simp only[Act.put,List.setIfInBounds_toArray,List.set_cons_succ,List.set_cons_zero]);exact rfl)
  (hQ:∀c a w,Q (.panic c) (a.put e.dst v) w->Q (.panic c) a w:=by exact λ_ _ _ h=>h):Dg P md ops Q S stop (d+1) b a w:=Kl _ j hs hf hr hstop hL hQ (Or.inl ⟨hg,y⟩) hS (ha ▸ h)
end
def ZjO:(Tryz.prog.info? 227).map (λi=>(i.zero,i.size,i.bytes))=some (some (.agg #[.bool false,.slice none 0 0,.slice none 0 0,I_ 0]),4,64):=k_
def xy p b r:∀i,(mz p b r i).length<=i
 |0=>by simp[mz]
 |i+1=>by have:=xy p b r i;simp only[mz,Qe,exC];split<;>simp<;>omega
def Zep p b M:∀r,(Ut p b M r).length<=r*M
 |0=>by simp[Ut]
 |r+1=>by have:=Zep p b M r;have:=xy p b r M;simp only[Ut,Qe,Nat.add_mul];omega
def Zam(w w':World)(yb n:Nat)(D:Zg):Prop:=∃vF vB vC vX kvs bvs cvs X,RfX w' w.heap.size yb n vF vB vC vX kvs bvs cvs D.ks (D.bs.map BS.fs) (D.bs.map BS.N) X/\X.Perm D.xs/\Fp X
structure MaI(w wr:World)(fk fc n m)(bins)(size budget k)(L)(E)(vF vb vo)(kvs)(bbs):Prop where
 my:rf wr w.heap.size (w.heap.size+1+1) (w.heap.size+1) n vF Cz Cz Cz vb vo kvs bbs (Eb (Ou m E) (Ih m L E) k) ((Ih m L E).take k) ((List.range k).map (De (Gh (Ou m E) (Ih m L E) (m+1))))
 cf:CfB wr w.heap.size fk (m+1) fc bins size budget
 lo:E_ w wr
def Zf2(fk fc n c m A l:Nat) a s wd sc ct L E w (hF:Dd w fk 0 (m+1) wd sc ct)(hR:Sp w a n (m+1) L)(fO:Yi L)(hn:n<=200)(hm:m+1<=4)(kL:l<=20)(hs:2<=A)(kT:A<=32)(iM:2<=s)(iT:s<=16)(j3:∀i,i<m+1->wd i=true->1<=ct i)(hE:∀i,E i=Ck Mc (wd i) (ct i) s A (Bn L i) (Fr L))(i2:∀i,i<m+1->Ol (E i)/\(E i).wd=wd i/\(E i).cnt<=16):C_ 179 #[.agg #[.slice (some ⟨fk,0,none⟩) (m+1) fc,.int .i64 s,.int .i64 A,.int .i64 l],.slice a n c] w λe w'=>∃yb,e=.returned (.pointer (some ⟨yb,0,none⟩))/\Zam w w' yb n (Ao m n l (Ou m E) (Ih m L E))/\Below w.heap.size w w':=by
 have HF:Hid (Dd w fk 0 (m+1) wd sc ct):=hF;have HR:Hid (Sp w a n (m+1) L):=hR;have i5:Hid (Yi L):=fO;have HE:Hid ((∀i,E i=Ck Mc (wd i) (ct i) s A (Bn L i) (Fr L))/\(∀i,i<m+1->Ol (E i)/\(E i).wd=wd i/\(E i).cnt<=16)/\∀i,i<m+1->wd i=true->1<=ct i):=⟨hE,i2,j3⟩;have jK:L.length=n:=hR.1;have bG:Hid (L.length=n):=jK;obtain⟨w3,cD⟩:=ex_ (((w.alloc (.cells #[L_ fk (m+1) fc,I_ s,I_ A,I_ l] 37)).alloc (.cells #[I_ n,Cz,Cz,Cz,Cz] 142)).alloc (.cells #[P_ (w.heap.size+1),Cz,Cz] 331))
 have j6:Hid (MaI w w3 fk fc n m s A l 0 L E Cz Cz Cz [] []):=by
  have hb:E_ w w3:=(by rw[cD];exact(bA_.alloc s_ _).alloc t_ _);refine⟨⟨?_,?_,dv.nil _ _,Mh.nil _ _,Ag.nil _ _,λi O=>by simp at O,λi O=>by simp[Eb] at O⟩,?_,hb⟩
  ·rw[cD];have e:=ha_ ((w.alloc (.cells #[L_ fk (m+1) fc,I_ s,I_ A,I_ l] 37)).alloc (.cells #[I_ (n:Nat),Cz,Cz,Cz,Cz] 142)) (.cells #[P_ (w.heap.size+1),Cz,Cz] 331)
   simpa [MaB] using e
  rw[cD];exact(hc_ s_).trans (by have e:=ha_ (w.alloc (.cells #[L_ fk (m+1) fc,I_ s,I_ A,I_ l] 37)) (.cells #[I_ (n:Nat),Cz,Cz,Cz,Cz] 142);simpa [Ub] using e);rw[cD];exact((hc_ t_).trans (hc_ s_)).trans hn_
 have iN:Hid (w3=_):=cD;obtain⟨M,hM⟩:=ex_ (m+1);have aO:Hid (M=m+1):=hM;have l1:M<=4:=o_;clear hF hR fO hE i2 j3 cD jK;go_enter Tryz.func179,Tryz.ntmps179;go_upto_region 3 with fail;rw[<- iN];clear iN;rw[<- hM];clear hM;go_loopw [6] (λt6 wr=>∃(k:Nat) (vF vb vo:Value) (T:List (Value×Value)) (V:List Value),t6=.int .i64 k/\k<=M/\Hid (MaI w wr fk fc n m s A l k L E vF vb vo T V)) (λt6 _=>M-(intOf t6).toNat)
 case atStart=>exact⟨0,Cz,Cz,Cz,[],[],rfl,qg_,j6⟩
 case round=>
  clear j6;obtain⟨k,vF,vb,vo,T,V,rfl,hk,HI⟩:=hrel;obtain⟨y0,y1,y2,y3⟩:=HI.cf.cells;rw[<- aO] at y0;have aW:=HI.lo;have cY:=aW.size
  by_cases hkM:k<M
  ·have Z:k<m+1:=(by have:=aO.out;omega);have g1:k<(M:Int):=o_;have g0:0<=(k:Int):=o_;have iH:=HF.lt o_;have f0:wr.cell? (A_ fk (k*3))=some (.bool (wd k)):=(aW.cell (p:=(A_ fk _)) iH).trans (by have:=HF.c0 k Z;rwa [Nat.zero_add] at this);have f2:wr.cell? (A_ fk (k*3+2))=some (I_ (ct k)):=(aW.cell (p:=(A_ fk _)) iH).trans (by have:=HF.c2 k Z;rwa [Nat.zero_add] at this);have gV:=zm a n (m+1) c k A s l (some ⟨fk,0,none⟩) (m+1) fc L wr (HR.below aW) Z i5 hn hs kT iM iT;rw[<- aO] at gV;have bB:=HI.cf;have cO:w.heap.size<wr.heap.size:=(Qb bB).1;obtain⟨Y,hI⟩:=ex_ wr;subst hI;clear bB;go_wp2_with fail
   refine gV.mono ?_;rintro e w1 ⟨av,cb,rfl,jM,dL⟩;have iK:=dL.size;obtain⟨y,hy⟩:=ex_ (w1.alloc (.cells #[.bool false,.slice av (Co (Bn L k) (Fr L) s A).length cb,Cz,I_ 0] 227));have cS:E_ w1 y:=(by rw[hy];exact bA_);have P:E_ Y y:=dL.trans (cS.mono iK);have bK:Hid (ai y w1.heap.size false (.slice av (Co (Bn L k) (Fr L) s A).length cb) Cz 0/\Ag y Y.heap.size (.slice av (Co (Bn L k) (Fr L) s A).length cb) (Co (Bn L k) (Fr L) s A)):=⟨by rw[hy];exact hn_,jM.below cS⟩;have HY:Hid (y=w1.alloc (.cells #[.bool false,.slice av (Co (Bn L k) (Fr L) s A).length cb,Cz,I_ 0] 227)):=hy;have jN:=HE.1 k;obtain⟨aD,aI,kY⟩:=HE.2.1 k Z;have kH:Hid (wd k=true->1<=ct k):=HE.2.2 k Z
   have cA:Hid (E k=Ck Mc (wd k) (ct k) s A (Bn L k) (Fr L)):=jN;clear hy gV jM dL jN;have z0:=Ac P y0;have z1:=Ac P y1;have z2:=Ac P y2;have z3:=Ac P y3;have z4:=Ac P f0;go_upto_region 6 with fail;rw[<- HY];clear HY;go_upto_if 40 with fail
   go_cut [7] (λt wx=>t=.pointer (some ⟨w1.heap.size,0,none⟩)/\∃vb' vw,Hid (ai wx w1.heap.size (E k).wd vb' vw 0/\Ag wx Y.heap.size vb' (E k).bs/\Cc wx Y.heap.size vw (E k).ww/\E_ Y wx))
   case first=>
    cases hw:wd k with
    | false=>
     rw[hw] at z4 f0;have aY:Hid (ai y w1.heap.size (E k).wd (.slice av (Co (Bn L k) (Fr L) s A).length cb) Cz 0/\Ag y Y.heap.size (.slice av (Co (Bn L k) (Fr L) s A).length cb) (E k).bs/\Cc y Y.heap.size Cz (E k).ww/\E_ Y y):=(by have e:E k=⟨false,Co (Bn L k) (Fr L) s A,[]⟩:=(by rw[cA,hw];rfl);rw[e];exact⟨bK.1,bK.2,Cc.nil _ _,P⟩);clear bK cS P cA;go_wp2;go_meet
     exact⟨rfl,_,_,aY⟩
    | true=>
     rw[hw] at z4 f0;have gP:=Zdy a n (m+1) c k s A l (ct k) fk fc L y (HR.below (aW.trans (P.mono cY))) Z i5 hn iM iT (Ac P f2) (kH hw);rw[<- aO] at gP;have he:E k=Mc (Bn L k) (Fr L) (ct k) s:=(by rw[cA,hw];rfl);have kJ:Hid (E k=Mc (Bn L k) (Fr L) (ct k) s):=he;clear he;go_wp2_with fail
     refine gP.mono ?_;rintro e w4 ⟨ad,cd,rfl,iD,hP⟩;have h9:ai w4 w1.heap.size false (.slice av (Co (Bn L k) (Fr L) s A).length cb) Cz 0:=(hP.block _ bK.1.cells.2.2).trans bK.1;obtain⟨⟨q0,q1,q2,q3⟩,cT,_⟩:=h9.cells;have p0:=cT 0;have p1:=cT 1;have p2:=cT 2;have p3:=cT 3;have aY:Hid (ai w4 w1.heap.size false (.slice av (Co (Bn L k) (Fr L) s A).length cb) Cz 0/\Cc w4 Y.heap.size (.slice ad (Mc (Bn L k) (Fr L) (ct k) s).ww.length cd) (Mc (Bn L k) (Fr L) (ct k) s).ww/\E_ Y w4):=⟨h9,iD.monoW P.size,P.trans (hP.mono P.size)⟩;clear cT h9 iD hP bK gP cS P z0 z1 z2 z3 z4;generalize (Co (Bn L k) (Fr L) s A).length=nl at *;generalize hgw:(Mc (Bn L k) (Fr L) (ct k) s).ww.length=nw at *;go_wp2;go_meet
     have tt:=Aa.set4 w4 w1.heap.size (.bool true) Cz (.slice ad nw cd) (I_ 0);refine⟨rfl,Cz,.slice ad nw cd,?_⟩;rw[kJ];exact⟨aY.1.fill,Ag.nil _ _,tt.row aY.2.1 (λk hk e=>Au aY.2.1 hk aY.1 d_ e),aY.2.2.trans (tt.to_below aY.2.2.size (λk hk=>o_))⟩
   case rest=>
   obtain⟨rfl,lC,l2,HC⟩:=hcut;obtain⟨fb,gO⟩:=ex_ w1.heap.size;rw[<- gO] at HC ⊢;have jO:Y.heap.size<=fb:=(by rw[gO];exact iK);clear gO;obtain⟨iL,i3,iS,gT⟩:=HC.out;obtain⟨ab,F,rfl⟩:=i3.shape;obtain⟨aw,cw,rfl⟩:=iS.form;have jZ:=HI.my.below gT;obtain⟨⟨s0,s1,s2,s3⟩,_,jD⟩:=iL.cells;have aE:Hid (ai wc fb (E k).wd (.slice ab (E k).bs.length F) (.slice aw (E k).ww.length cw) 0/\Ag wc Y.heap.size (.slice ab (E k).bs.length F) (E k).bs/\Cc wc Y.heap.size (.slice aw (E k).ww.length cw) (E k).ww/\E_ Y wc):=HC.out;have gY:E_ w wc:=aW.trans (gT.mono cY);have kU:Hid (E_ w wc):=gY
   have bI:Hid (np ⟨E k,0⟩):=(by have:=aD.lb;have:=aD.lw;refine⟨a_,a_,λe=>?_,λe=>?_⟩;have e2:wd k=true:=aI ▸ e;rw[cA];unfold Ck;rw[e2,if_pos rfl];rfl;have e2:wd k=false:=aI ▸ e;rw[cA];unfold Ck;rw[e2,if_neg d_]);clear aI;have aZ:∀W v,E_ wc W->C_ 239 #[.agg #[.bool (E k).wd,.slice ab (E k).bs.length F,.slice aw (E k).ww.length cw,.int .i64 0],.agg #[.bool v.miss,.int .i64 v.num,.string v.word]] W λz w'=>z=.returned (.int .i64 (Dy (E k) v:Nat))/\E_ W w':=λW v hW=>Zir Y.heap.size _ _ 0 (E k) v W (aE.2.1.below hW) (aE.2.2.1.below hW) aD bI.2.2.1 bI.2.2.2;have fP:Hid _:=aZ;have k7:=Kr n o_;have cV:=Nu (λr=>((Dy (E k) ((L.getD r Sh).2.getD k Ax):Nat):Int)) n
   have cP:Hid (Eu (λr=>(Dy (E k) ((L.getD r Sh).2.getD k Ax):Nat)) n n=Av (Ms L E k)):=(by show _=_;rw[Nt];apply List.ext_getElem;simp[Av,Lu,bG.out];intro r h1 h2;have hr:r<L.length:=(by simp at h1;have:=bG.out;omega);have:=Zhb (E:=E) (i:=k) hr;simp only[List.getElem_map,List.getElem_range,Av];rw[<- this];simp[List.getD,show r<(Ms L E k).length by rw[Lu];exact hr]);clear HC iL i3 iS gT aZ y cS P bK y0 y1 y2 y3 f0 f2 z0 z1 z2 z3 z4;go_wp2_with fail
   go_loopw [9] (λt9 wr=>∃r:Nat,t9=.int .i64 r/\r<=n/\Hid (Ag wr wc.heap.size (.slice (some ⟨wc.heap.size,0,none⟩) n n) (Eu (λr=>((Dy (E k) ((L.getD r Sh).2.getD k Ax):Nat):Int)) n r))/\Hid (E_ wc wr)) (λt9 _=>n-(intOf t9).toNat)
   case atStart=>
    refine⟨0,rfl,qg_,?_,bA_⟩;rw[cV];exact Kq n wc wc.heap.size o_ qa_
   case round=>
    clear k7 cV;obtain⟨r,rfl,gK,HO,HB⟩:=hrel
    by_cases hin:r<n
    ·rcases(HR.below gY).2 with h0|⟨q,rfl,hq⟩
     omega;obtain⟨_,g,cc,a1,_,hC⟩:=hq r hin;obtain⟨a2,a3,a4⟩:=hC k Z;have hB:=HB.out;have jE:Hid (n=(Eu (λr=>(Dy (E k) ((L.getD r Sh).2.getD k Ax):Nat)) n r).length):=(Nb _ o_).symm;have iP:Hid ((Eu (λr=>(Dy (E k) ((L.getD r Sh).2.getD k Ax):Nat)) n r).set r (Dy (E k) ((L.getD r Sh).2.getD k Ax):Nat)=Eu (λr=>(Dy (E k) ((L.getD r Sh).2.getD k Ax):Nat)) n (r+1)):=Rm (λr=>((Dy (E k) ((L.getD r Sh).2.getD k Ax):Nat):Int)) hin;have hY:=λW hW=>fP W ((L.getD r Sh).2.getD k Ax) hW;clear hq hC;generalize Dy (E k) ((L.getD r Sh).2.getD k Ax)=bx at *;generalize (L.getD r Sh).2.getD k Ax=x at *;obtain⟨xm,xn,xw⟩:=x;simp only at a2 a3 a4 hY
     generalize hoo:Eu (λr=>((Dy (E k) ((L.getD r Sh).2.getD k Ax):Nat):Int)) n r=out at *;clear hoo;generalize (E k).wd=ewd at *;generalize (E k).bs.length=enb at *;generalize (E k).ww.length=enw at *;have kE:Hid (∀W,E_ wc W->C_ 239 #[.agg #[.bool ewd,.slice ab enb F,.slice aw enw cw,.int .i64 0],.agg #[.bool xm,.int .i64 xn,.string xw]] W λz w'=>z=.returned (.int .i64 bx)/\E_ W w'):=hY;have b1:0<=(r:Int):=o_;have b2:r<(n:Int):=o_;have b4:k<((m+1:Nat):Int):=o_;have b5:k<(m:Int)+1:=o_;clear hY;go_upto_region 12 with fail
     refine Al (λw'=>w'.cell? (A_ fb 0)=some (.bool ewd)/\w'.cell? (A_ fb 1)=some (.slice ab enb F)/\w'.cell? (A_ fb 2)=some (.slice aw enw cw)/\w'.cell? (A_ fb 3)=some (I_ 0)/\w'.cell? (A_ q (r*2+1))=some (L_ g (m+1) cc)/\w'.cell? (A_ g (k*3))=some (.bool xm)/\w'.cell? (A_ g (k*3+1))=some (I_ xn)/\w'.cell? (A_ g (k*3+2))=some (.string xw)) 13 k_ ⟨Ac hB s0,Ac hB s1,Ac hB s2,Ac hB s3,Ac hB a1,Ac hB a2,Ac hB a3,Ac hB a4⟩ (λhHeld=>?_);refine Ze 0 ?_;refine Ze 1 ?_;refine Ze 2 ?_;refine Ze 3 ?_;refine Ze 4 ?_;refine Ze 5 ?_;refine Ze 6 ?_;refine Ze 7 ?_;refine Ze 8 ?_;refine Ze 9 ?_;refine Ze 10 ?_;refine Af (i:=11) k_ rfl (λKK hK=>?_);go_simp;refine(kE _ hB.drew).mono ?_;rintro e w2 ⟨rfl,h5⟩
     have aJ:E_ wc w2:=hB.drew.trans (h5.mono hB.size);have aK:=HO.below (bz_.drew.trans h5);obtain⟨x0,x1⟩:=Ag.cellK aK jE hin;have k6:Hid (Ag (w2.setCell (A_ wc.heap.size r) (I_ bx)) wc.heap.size (L_ wc.heap.size n n) (out.set r bx)):=(Ag.put aK jE (bx:Nat)).1;have k9:Hid (E_ wc w2):=aJ;have t0:=Ac aJ s0;have t1:=Ac aJ s1;have t2:=Ac aJ s2;have t3:=Ac aJ s3;have t4:=Ac aJ a1;have t5:=Ac aJ a2;have t6:=Ac aJ a3;have t7:=Ac aJ a4;clear aK h5;go_simp;refine hK _ _ ⟨t0,t1,t2,t3,t4,t5,t6,t7⟩ (λhHeld=>?_);clear hK KK;try simp only[Act.put,tA,tB,tC]
     refine Ze 12 ?_;refine Ai (i:=13) k_ rfl k_ (λKK hK=>?_);go_simp;refine hK _ _ ?_;clear hK KK;try simp only[Act.put,tA,tB,tC]
     refine Ak k_ ?_ _;clear t0 t1 t2 t3 t4 t5 t6 t7 hHeld;go_wp2;go_roundw;case rel=>exact⟨r+1,g_,o_,by rw[<- iP];exact k6,k9.setCell qa_ _⟩
     case measure=>exact z_
    have b2:¬r<(n:Int):=o_;have hU:Hid (Ag wr wc.heap.size (L_ wc.heap.size n n) (Av (Ms L E k))):=(by have:=HO.out;rw[show r=n by omega,cP] at this;exact this);have hB:=HB.out;have bC:(Ms L E k).length=n:=(by rw[Lu];exact bG);obtain⟨S,hJ⟩:=ex_ (Zl (E k) (Ms L E k));have i4:Hid (S=Zl (E k) (Ms L E k)):=hJ;have iI:(Uc (Ms L E k) ((E k).bs.length+(E k).ww.length+2)).1=S:=(by have bH:=bI.many;simp only[KS.many] at bH;rw[hJ,bH];unfold Zl;rw[Zki _ o_];simp);have iY:=Nl ab aw (E k).bs.length (E k).ww.length F cw (E k).wd 0 wr bI.1 bI.2.1
    have jP:∀W,E_ wr W->C_ 240 #[.slice (some ⟨wc.heap.size,0,none⟩) n n,.int .i64 ((E k).bs.length+(E k).ww.length+2:Nat)] W λe w'=>e=.returned (.int .i64 S)/\w'=W:=λW hW=>by have:=ZbJ (some ⟨wc.heap.size,0,none⟩) n n ((E k).bs.length+(E k).ww.length+2) (Ms L E k) W ((hU.below hW).mono qg_) bC hn (by have:=bI.many;simp only[KS.many] at this;omega);rw[iI] at this;exact this
    have jQ:Hid _:=jP;have hQ:Hid (ai wr fb (E k).wd (.slice ab (E k).bs.length F) (.slice aw (E k).ww.length cw) 0):=(hB.block _ jD).trans aE.1;have dZ:Hid ((Ms L E k).length=n):=bC;have fX:Hid (∀W,E_ wr W->E_ Y W):=λW hW=>(aE.2.2.2.trans (hB.mono aE.2.2.2.size)).trans (hW.mono (Nat.le_trans aE.2.2.2.size hB.size));have gC:Hid (∀W,E_ wr W->Ag W Y.heap.size (.slice ab (E k).bs.length F) (E k).bs/\Cc W Y.heap.size (.slice aw (E k).ww.length cw) (E k).ww):=λW hW=>⟨(aE.2.1.below hB).below hW,(aE.2.2.1.below hB).below hW⟩;have t0:=Ac hB s0;have t1:=Ac hB s1;have t2:=Ac hB s2;have t3:=Ac hB s3;obtain⟨wl,k0⟩:=ex_ wr;subst k0;clear jP hJ iI HO fP;go_wp2_with fail
    refine iY.mono ?_;rintro e w2 ⟨rfl,H⟩;go_wp2_with fail
    refine(jQ _ H).mono ?_;rintro e l3 ⟨rfl,iO⟩;obtain rfl:=iO.symm;have bO:ai w2 fb (E k).wd (.slice ab (E k).bs.length F) (.slice aw (E k).ww.length cw) 0:=(H.block _ hQ.cells.2.2).trans hQ;have q3:=bO.cells.1.2.2.2;have p3:=bO.cells.2.1 3;obtain⟨w6,cC⟩:=ex_ (w2.setCell (A_ fb 3) (I_ S));have hA:ai w6 fb (E k).wd (.slice ab (E k).bs.length F) (.slice aw (E k).ww.length cw) S:=by rw[cC];exact hs_ _ fb 3 _ 227 _ bO
    have g3:Hid (Ag w6 wc.heap.size (L_ wc.heap.size n n) (Av (Ms L E k))):=(by show Ag _ _ _ _;rw[cC];exact As (hU.below H) bO d_);have hD:Hid (E_ Y w6):=(by show Below _ _ _;rw[cC];exact(fX _ H).setCell jO _);have bU:Hid (Ag w6 Y.heap.size (.slice ab (E k).bs.length F) (E k).bs/\Cc w6 Y.heap.size (.slice aw (E k).ww.length cw) (E k).ww):=by rw[cC];exact⟨As (gC _ H).1 bO d_,As (gC _ H).2 bO d_⟩
    have gR:Hid (ai w6 fb (E k).wd (.slice ab (E k).bs.length F) (.slice aw (E k).ww.length cw) S):=hA;obtain⟨⟨u0,u1,u2,u3⟩,_,_⟩:=hA.cells;have j4:Hid (w6=w2.setCell (A_ fb 3) (I_ S)):=cC;clear iO iY H bO hA cC t0 t1 t2 t3 jQ hQ hU HB hB fX gC;go_upto_region 16 with fail;rw[<- j4];clear j4;go_loopw [10,11] (λcU t11 wz=>∃(r d:Nat),t11=.int .i64 r/\r<=n/\cU=.int .i64 (Dj ((Dc (Ms L E k) S).take r):Nat)/\wz=w6.drewN d) (λ_ t11 _=>n-(intOf t11).toNat)
    case atStart=>exact⟨0,0,rfl,qg_,rfl,rfl⟩
    case round=>
     obtain⟨r2,d2,rfl,l4,rfl,jR⟩:=hrel;subst jR
     by_cases hin2:r2<n
     ·obtain⟨q9,e9,_,_,c9,_⟩:=g3.atK (by rw[Aw];exact dZ) hin2;injection e9 with e9;injection e9 with e9;subst e9;rw[Cv] at c9;have h8:r2<(Dc (Ms L E k) S).length:=(by simp[Dc];rw[dZ];exact hin2);have gG:=Na ((Dc (Ms L E k) S).take r2) ((Dc (Ms L E k) S).getD r2 false);rw[<- Oe _ h8,show(Dc (Ms L E k) S).getD r2 false=decide ((Ms L E k).getD r2 0≠S) by simp[Dc,List.getD,show r2<(Ms L E k).length by rw[dZ];exact hin2]] at gG;have l0:Dj ((Dc (Ms L E k) S).take r2)<=r2:=(by have:=Rl ((Dc (Ms L E k) S).take r2);rw[List.length_take] at this;omega);have i1:Hid _:=gG;clear gG;generalize (Ms L E k).getD r2 0=x at *;generalize Dj ((Dc (Ms L E k) S).take r2)=cr at *;have b3:0<=(r2:Int):=o_
      have b4:r2<(n:Int):=o_
      by_cases hx:x=S
      ·have HD:Hid (Dj ((Dc (Ms L E k) S).take (r2+1))=cr):=(by show _=_;rw[i1];simp[hx]);have e1:(x==(S:Int))=true:=beq_iff_eq.2 o_;have e2:(x !=(S:Int))=false:=(by simp[bne,e1]);clear hx;go_upto_region 18 with fail;go_quiet (fail);go_wp2;go_roundw;case rel=>exact⟨r2+1,_,g_,o_,by rw[HD],by first|rfl|simp⟩
       case measure=>exact z_
      have HD:Hid (Dj ((Dc (Ms L E k) S).take (r2+1))=cr+1):=(by show _=_;rw[i1];simp[hx]);have e1:(x==(S:Int))=false:=beq_eq_false_iff_ne.2 o_;have e2:(x !=(S:Int))=true:=(by simp[bne,e1]);go_upto_region 18 with fail;go_quiet (fail);go_wp2;go_roundw;case rel=>exact⟨r2+1,_,g_,o_,by rw[HD];go_num,by first|rfl|simp⟩
      case measure=>exact z_
     have b3:¬r2<(n:Int):=o_;have hz:Dj ((Dc (Ms L E k) S).take r2)=De (Gh (Ou m E) (Ih m L E) (m+1)) k:=(by rw[List.take_of_length_le (by simp[Dc];rw[dZ];omega)];unfold De;rw[Li _ _ Z];unfold oF;rw[bq Z,Uk Z,<- i4]);rw[hz];have l9:De (Gh (Ou m E) (Ih m L E) (m+1)) k<=200:=by rw[<- hz];have:=Rl ((Dc (Ms L E k) S).take r2);rw[List.length_take] at this;omega
     clear hz;generalize hzz:De (Gh (Ou m E) (Ih m L E) (m+1)) k=z at *;have kV:Hid (De (Gh (Ou m E) (Ih m L E) (m+1)) k=z):=hzz;clear hzz;obtain⟨w7,gX⟩:=ex_ (w6.drewN d2);rw[<- gX];have aH:E_ w6 w7:=(by rw[gX];exact below_drewN bz_ _);have bQ:E_ Y w7:=hD.trans (aH.mono hD.size);have bY:=HI.my.below bQ;have h7:Hid (rf w7 w.heap.size (w.heap.size+1+1) (w.heap.size+1) n vF Cz Cz Cz vb vo T V (Eb (Ou m E) (Ih m L E) k) ((Ih m L E).take k) ((List.range k).map (De (Gh (Ou m E) (Ih m L E) (m+1))))):=bY;have x0:=cR_ 0 bY.blk;obtain⟨aF,cF,i9⟩:=bY.fe.row.shape;rw[bY.fe.zlen,Di] at i9;subst i9;have x1:=cR_ 1 bY.ds;have v0:=Ac aH u0;have v1:=Ac aH u1;have v2:=Ac aH u2;have v3:=Ac aH u3
     have i6:Hid (∀x,(Value.slice aF k cF).ownBlock=some x->x<Y.heap.size):=λx hx=>(rl_ HI.my.fe.row.row x hx).2;have gA:Hid (ai w7 fb (E k).wd (.slice ab (E k).bs.length F) (.slice aw (E k).ww.length cw) S):=(aH.block _ gR.cells.2.2).trans gR;have b9:Hid (CfB w7 w.heap.size fk (m+1) fc s A l):=(bQ.block _ cO).trans HI.cf;have dO:Hid (Ag w7 w.heap.size (.slice ab (E k).bs.length F) (E k).bs/\Cc w7 w.heap.size (.slice aw (E k).ww.length cw) (E k).ww):=⟨(bU.1.below aH).mono cY,(bU.2.below aH).monoW cY⟩;have gE:Hid (Ag w7 w.heap.size (L_ wc.heap.size n n) (Av (Ms L E k))):=(g3.below aH).mono (by have:=kU.size;exact this)
     have f7:∀u v:Value,(∀x,u.ownBlock=some x->x<Y.heap.size)->(∀x,v.ownBlock=some x->Y.heap.size<=x)->Ch u v:=λu v hu hv=>by
      cases hk2:u.ownBlock with
      |none=>exact .inl hk2
      | some x=>
       cases hk3:v.ownBlock with
       |none=>exact .inr (.inl hk3)
       |some x'=>exact .inr (.inr (by rw[hk2,hk3];have:=hu x hk2;have:=hv x' hk3;simp;omega))
     have gM:Hid (Ch vo (.slice ab (E k).bs.length F)/\Ch vo (L_ wc.heap.size n n)/\∀i,i<((Ih m L E).take k).length->Ch (V.getD i Cz) (L_ wc.heap.size n n)):=by
      have hq:∀x,(L_ wc.heap.size n n).ownBlock=some x->Y.heap.size<=x:=λx hx=>by simp[Value.ownBlock] at hx;rw[<- hx];exact aE.2.2.2.size
      have ho:=λx hx=>(rl_ HI.my.ou x hx).2;exact⟨f7 _ _ ho (λx hx=>(rl_ bU.1 x hx).1),f7 _ _ ho hq,λi O=>f7 _ _ (λx hx=>(rl_ (HI.my.bb.each i (by rw[List.length_map];exact O)) x hx).2) hq⟩
     have gD:Hid (E_ w w7):=aW.trans (bQ.mono cY);have k2:Hid (kF (Ou m E) (Ih m L E) k=⟨E k,S⟩):=(by show _=_;unfold kF;rw[bq Z,Uk Z,i4]);obtain⟨i0,j1,kC,k8,kG⟩:=info_parts ZjO;clear bY aH bQ gX f7 g3 hD bU gR u0 u1 u2 u3 HI aE bI cA aD jZ s0 s1 s2 s3 gY;generalize hwe:(E k).wd=ewd at *;have jX:Hid ((E k).wd=ewd):=hwe;generalize gB:(E k).bs.length=enb at *;generalize hlw:(E k).ww.length=enw at *;clear gB hlw hwe;obtain⟨W1,a9⟩:=ex_ ((w7.alloc (.cells #[.bool ewd,.slice ab enb F,.slice aw enw cw,I_ S] 227)).drew);have aC:E_ w7 W1:=(by rw[a9];exact bA_.drew);have gF:=h7.below aC
     have jJ:W1.ownsRow w.heap.size 227 4 (.slice aF k cF) k ((List.zipWith Cf (Eb (Ou m E) (Ih m L E) k) T).flatten):=(by have:=gF.fe.row.row;rw[gF.fe.zlen,Di] at this;exact this);have dK:Hid (W1.ownsRow w.heap.size 227 4 (.slice aF k cF) k ((List.zipWith Cf (Eb (Ou m E) (Ih m L E) k) T).flatten)):=jJ;have b8:∀j u,[Value.bool ewd,.slice ab enb F,.slice aw enw cw,I_ S][j]? =some u->W1.cell? (((A_ w7.heap.size 0):Addr).add j)=some u:=by rw[a9];exact Am w7 #[.bool ewd,.slice ab enb F,.slice aw enw cw,I_ (S:Nat)] 227
     have aT:Hid _:=b8;have c4:w.heap.size<=W1.heap.size:=Nat.le_trans gD.size aC.size;have U:Hid (W1=(w7.alloc (.cells #[.bool ewd,.slice ab enb F,.slice aw enw cw,I_ S] 227)).drew/\E_ w7 W1):=⟨a9,aC⟩;clear b8 jJ gF a9 aC;go_upto_region 20 with fail;refine Al (λw'=>w'.cell? (A_ (w.heap.size+1+1) 0)=some (P_ (w.heap.size+1))/\w'.cell? (A_ (w.heap.size+1) 1)=some (.slice aF k cF)/\w'.cell? (A_ fb 0)=some (.bool ewd)/\w'.cell? (A_ fb 1)=some (.slice ab enb F)/\w'.cell? (A_ fb 2)=some (.slice aw enw cw)/\w'.cell? (A_ fb 3)=some (I_ (S:Nat))) 16 k_ ⟨x0,x1,v0,v1,v2,v3⟩ (λhHeld=>?_);refine Ze 0 ?_;refine Ze 1 ?_;refine Ze 2 ?_;refine Ze 3 ?_;refine Ze 4 ?_;refine Ze 5 ?_;refine Ze 6 ?_;refine Ze 7 ?_;refine Ze 8 ?_;refine Ze 9 ?_;refine Ze 10 ?_
     refine Ze 11 ?_;refine Af (i:=12) k_ rfl (λKK hK=>?_);go_simp;refine hK _ _ ⟨Ac bA_ x0,Ac bA_ x1,Ac bA_ v0,Ac bA_ v1,Ac bA_ v2,Ac bA_ v3⟩ (λhHeld=>?_);clear hK KK;try simp only[Act.put,tA,tB,tC]
     refine Af (i:=13) k_ rfl (λKK hK=>?_);rw[<- U.1];refine Az rfl (.tmp 97) (.tmp 99) 139 rfl w.heap.size 227 i0 (.agg #[.bool false,.slice none 0 0,.slice none 0 0,I_ 0]) 4 64 Tryz.underlying139 j1 kC k8 kG rfl d_ (.slice aF k cF) k ((List.zipWith Cf (Eb (Ou m E) (Ih m L E) k) T).flatten) j_ dK (A_ w7.heap.size 0) 1 1 [.bool ewd,.slice ab enb F,.slice aw enw cw,I_ (S:Nat)] j_ rfl aT ?_ d_ m_ o_ c4 ?_
     ·intro u hu;simp at hu;rcases hu with rfl|rfl|rfl|rfl<;>rfl
     intro v9 w9 H9;obtain⟨r9,g9,d9,_,q9,p9,kO⟩:=H9;have iZ:=h7.below U.2
     obtain⟨gH,bV,fK⟩:=iZ.feat (k:=⟨E k,S⟩) (u:=(.slice ab enb F,.slice aw enw cw)) (vF':=v9) (dO.1.below U.2) (dO.2.below U.2) gM.1 g9 (by
      have e:Cf ⟨E k,S⟩ (.slice ab enb F,.slice aw enw cw)=[.bool ewd,.slice ab enb F,.slice aw enw cw,I_ S]:=(by unfold Cf;rw[jX]);rw[Di,e]
      exact r9)
     rw[<- k2,<- Za7] at gH;have t9:Aa (λx=>(Value.slice aF k cF).ownBlock=some x) W1 w9:=(Aa.refl _ _).grown g9 (λx hx _=>hx);have fJ:E_ w w9:=gD.trans ((U.2.mono gD.size).trans (t9.to_below c4 (λx hx=>(rl_ dK x hx).1)));have d8:Hid (rf (w9.setCell (A_ (w.heap.size+1) 1) v9) w.heap.size (w.heap.size+1+1) (w.heap.size+1) n v9 Cz Cz Cz vb vo (T++[(.slice ab enb F,.slice aw enw cw)]) V (Eb (Ou m E) (Ih m L E) (k+1)) ((Ih m L E).take k) ((List.range k).map (De (Gh (Ou m E) (Ih m L E) (m+1))))):=gH;have jI:ai w9 fb ewd (.slice ab enb F) (.slice aw enw cw) S:=t9.at_ ((U.2.block _ gA.cells.2.2).trans gA) (λe=>by have:=i6 _ e;omega)
     have fH:Hid (CfB w9 w.heap.size fk (m+1) fc s A l):=t9.at_ ((U.2.block _ (Qb b9).1).trans b9) (λe=>Au dK e ((U.2.block _ (Qb b9).1).trans b9) d_ rfl)
     have h6:Hid (Ag w9 w.heap.size (L_ wc.heap.size n n) (Av (Ms L E k))):=t9.row (gE.below U.2) (λx hx e=>by
      obtain⟨c5,jV⟩:=Ad dK e
      exact Au (gE.below U.2) hx jV d_ rfl)
     have e0:=cR_ 0 fK;have e1:=cR_ 1 bV;have e2:=fq_ 1 _ 142 bV;obtain⟨⟨e3,e4,e5,e6⟩,_,_⟩:=jI.cells;have iQ:Hid (E_ w w9):=fJ;have i7:Hid (Ub w9 (w.heap.size+1) n (.slice aF k cF) Cz Cz Cz):=bV;subst kO;clear r9 g9 d9 iZ gH bV fK t9 fJ jI x0 x1 v0 v1 v2 v3 h7 U dK aT gA i6 b9 gE dO;refine hK _ _ ⟨e0,e1,e3,e4,e5,e6⟩ (λhHeld=>?_);clear hK KK;try simp only[Act.put,tA,tB,tC]
     refine Ze 14 ?_;refine Ze 15 ?_;refine Ai (i:=16) k_ rfl k_ (λKK hK=>?_);go_simp;refine hK _ _ ?_;clear hK KK;try simp only[Act.put,tA,tB,tC]
     refine Ak k_ ?_ _;clear e0 e1 e2 e3 e4 e5 e6 hHeld;obtain⟨aV,bW⟩:=ex_ (w9.setCell (A_ (w.heap.size+1) 1) (L_ q9 (k+1) p9));rw[<- bW] at d8 ⊢;have cG:Hid (E_ w aV):=(by show Below _ _ _;rw[bW];exact iQ.setCell (Nat.le_succ _) _);have cU:Aa (λx=>x=w.heap.size+1) w9 aV:=(by rw[bW];exact(Aa.refl (λx=>x=w.heap.size+1) w9).setCell (p:=(A_ (w.heap.size+1) 1)) (λ_=>rfl) _);have fY:Hid (Ag aV w.heap.size (L_ wc.heap.size n n) (Av (Ms L E k))):=cU.row h6 (λx hx e=>Au h6 hx i7 d_ e);have dM:Hid (CfB aV w.heap.size fk (m+1) fc s A l):=cU.at_ fH o_;have gB:=d8.bb.shape;obtain⟨a8,c8,dH⟩:=gB;rw[List.length_map,List.length_take,show(Ih m L E).length=m+1 by simp[Ih],Nat.min_eq_left o_] at dH
     subst dH;have x0:=cR_ 1 d8.blk;have jB:=cG.size;have cH:Hid (∀o,rf (aV.alloc o) w.heap.size (w.heap.size+1+1) (w.heap.size+1) n (L_ q9 (k+1) p9) Cz Cz Cz (.slice a8 k c8) vo (T++[(.slice ab enb F,.slice aw enw cw)]) V (Eb (Ou m E) (Ih m L E) (k+1)) ((Ih m L E).take k) ((List.range k).map (De (Gh (Ou m E) (Ih m L E) (m+1))))):=λo=>d8.below bA_
     have aP:Hid (∀o,(aV.alloc o).ownsRow w.heap.size 25 1 (.slice a8 k c8) k V):=λo=>by have:=(cH o).bb.row;rw[List.length_map,List.length_take,show(Ih m L E).length=m+1 by simp[Ih],Nat.min_eq_left o_] at this;exact this
     obtain⟨j0,b7,dG,dA,dR⟩:=info_parts ce;clear bW cU d8 iQ h6 fH i7;go_wp2_with (at_builtin;refine Ab rfl (.tmp 107) (.tmp 109) 84 rfl w.heap.size 25 j0 Cz 1 24 Tryz.underlying84 b7 dG dA dR rfl d_ (.slice a8 k c8) k V rfl (aP _) (A_ aV.heap.size 0) 1 1 [L_ wc.heap.size n n] rfl rfl ?_ ?_ ?_ ?_ ?_ ?_ ?_)
     rfl;unfold maxLen;omega;omega;omega;intro gU bN jY;obtain⟨jC,dF,kA,_,gN,hN,iJ⟩:=jY;have hL:((Ih m L E).take k).length=k:=(by rw[List.length_take,show(Ih m L E).length=m+1 by simp[Ih],Nat.min_eq_left o_]);obtain⟨fG,aM⟩:=(cH _).bins (vb':=gU) (B:=Ms L E k) (fY.alloc _) gM.2.2 gM.2.1 dF (by rw[hL];exact jC);have fR:E_ w bN:=cG.trans ((bz_.alloc jB _).grown dF t_ (λx hx=>(rl_ (aP (.cells #[] 25)) x hx).1))
     have dB:Hid (CfB bN w.heap.size fk (m+1) fc s A l):=by have hc:=dM.out;have cM:CfB (aV.alloc (.cells #[L_ wc.heap.size n n] 25)) w.heap.size fk (m+1) fc s A l:=(hc_ (Qb hc).1).trans hc;exact((Aa.refl (λx=>(Value.slice a8 k c8).ownBlock=some x) _).grown dF (λx hx _=>hx)).at_ cM (λe=>Au (aP _) e cM d_ rfl)
     have b6:Hid (rf (bN.setCell (A_ (w.heap.size+1+1) 1) gU) w.heap.size (w.heap.size+1+1) (w.heap.size+1) n (L_ q9 (k+1) p9) Cz Cz Cz gU vo (T++[(.slice ab enb F,.slice aw enw cw)]) (V++[L_ wc.heap.size n n]) (Eb (Ou m E) (Ih m L E) (k+1)) ((Ih m L E).take (k+1)) ((List.range k).map (De (Gh (Ou m E) (Ih m L E) (m+1))))):=by have e:(Ih m L E).take (k+1)=(Ih m L E).take k++[Ms L E k]:=(by rw[Qi (by simp[Ih];omega)];congr 2;simp[Ih]);rw[e];exact fG
     have kS:=cR_ 1 aM;have kB:=fq_ 1 _ 331 aM;have fT:Hid (E_ w bN):=fR;have jS:Hid (MaB bN (w.heap.size+1+1) (w.heap.size+1) (.slice a8 k c8) vo):=aM;subst iJ;clear jC dF kA fG aM fR cH aP fY dM cG x0;go_upto_region 22 with fail;obtain⟨bX,bS⟩:=ex_ (bN.setCell (A_ (w.heap.size+1+1) 1) (L_ gN (k+1) hN));rw[<- bS] at b6 ⊢;have cQ:Hid (E_ w bX):=by show Below _ _ _;rw[bS];exact fT.setCell (by show _<=w.heap.size+1+1;omega) _
     have bE:Hid (CfB bX w.heap.size fk (m+1) fc s A l):=by show CfB _ _ _ _ _ _ _ _;rw[bS];exact((Aa.refl (λx=>x=w.heap.size+1+1) bN).setCell (p:=(A_ (w.heap.size+1+1) 1)) (λ_=>rfl) _).at_ dB o_
     obtain⟨a6,c6,iW⟩:=b6.ou.shape;rw[Aw,List.length_map,List.length_range] at iW;subst iW;have x2:=cR_ 2 b6.blk;have jH:=cQ.size;have h8:(Av ((List.range k).map (De (Gh (Ou m E) (Ih m L E) (m+1))))).length<=1000000000:=(by rw[Aw,List.length_map,List.length_range];omega);have cL:Hid (∀o,rf (bX.alloc o) w.heap.size (w.heap.size+1+1) (w.heap.size+1) n (L_ q9 (k+1) p9) Cz Cz Cz (L_ gN (k+1) hN) (.slice a6 k c6) (T++[(.slice ab enb F,.slice aw enw cw)]) (V++[L_ wc.heap.size n n]) (Eb (Ou m E) (Ih m L E) (k+1)) ((Ih m L E).take (k+1)) ((List.range k).map (De (Gh (Ou m E) (Ih m L E) (m+1))))):=λo=>b6.below bA_
     have bT:Hid (∀o,Ag (bX.alloc o) w.heap.size (.slice a6 k c6) (Av ((List.range k).map (De (Gh (Ou m E) (Ih m L E) (m+1)))))):=λo=>(cL o).ou;clear bS b6 fT dB jS kS kB;go_wp2_with (at_builtin;refine Bu rfl (.tmp 117) (.tmp 119) rfl w.heap.size _ (Av ((List.range k).map (De (Gh (Ou m E) (Ih m L E) (m+1))))) (z:Nat) rfl (bT _) bX.heap.size 1 rfl ?_ ?_ ?_ ?_)
     ·simp[go_sem]
     exact h8;simp;omega;intro fD f9 kM;obtain⟨j7,fA,jG⟩:=kM
     obtain⟨fZ,bL⟩:=(cL _).outm (vo':=fD) (z:=z) fA j7 (by
      rcases jG with e|e
      exact .inl e
      exact .inr (by simpa using e.1))
     have fF:Hid (MaI w (f9.setCell (A_ (w.heap.size+1+1) 2) fD) fk fc n m s A l (k+1) L E (L_ q9 (k+1) p9) (L_ gN (k+1) hN) fD (T++[(.slice ab enb F,.slice aw enw cw)]) (V++[L_ wc.heap.size n n])):=by
      have iG:E_ w f9:=cQ.trans ((bz_.alloc jH _).grown fA t_ (λx hx=>(rl_ (bT (.cells #[] 3)) x hx).1));have cM:CfB (bX.alloc (.cells #[I_ z] 3)) w.heap.size fk (m+1) fc s A l:=(hc_ (Qb bE).1).trans bE;have k3:CfB f9 w.heap.size fk (m+1) fc s A l:=((Aa.refl (λx=>(Value.slice a6 k c6).ownBlock=some x) _).grown fA (λx hx _=>hx)).at_ cM (λe=>Au (bT _) e cM d_ rfl);refine⟨?_,((Aa.refl (λx=>x=w.heap.size+1+1) f9).setCell (p:=(A_ (w.heap.size+1+1) 2)) (λ_=>rfl) _).at_ k3 o_,iG.setCell (by show _<=w.heap.size+1+1;omega) _⟩;rw[List.range_succ,List.map_append];simp only[List.map_cons,List.map_nil,kV.out];exact fZ
     have l7:=cR_ 2 bL;have lB:=fq_ 2 _ 331 bL;clear j7 fA jG fZ bL cL bT bE cQ x2;obtain⟨l6,kZ,iF⟩:∃a c,fD=.slice a (k+1) c:=by obtain⟨a,c,e⟩:=fF.my.ou.shape;rw[Aw,List.length_map,List.length_range] at e;exact⟨a,c,e⟩
     subst iF;go_wp2;go_roundw;case rel=>exact⟨k+1,_,_,_,_,_,g_,o_,fF⟩
     case measure=>exact z_
  have g1:¬k<(M:Int):=o_;have Z:k=m+1:=(by have:=aO.out;omega);obtain⟨I,dC⟩:=ey_ (Eb (Ou m E) (Ih m L E) (m+1));obtain⟨Os,f8⟩:=ey_ (Gh (Ou m E) (Ih m L E) (m+1));obtain⟨J,dJ⟩:=ey_ (Ih m L E)
  have cW:∀i,i<m+1->I.getD i Ay=⟨E i,Zl (E i) (Ms L E i)⟩:=λi O=>by rw[<- dC,Fi _ _ O];unfold kF;rw[bq O,Uk O]
  have cJ:∀i,i<m+1->J.getD i []=Ms L E i:=λi O=>by rw[<- dJ];exact Uk O
  have cE:I.length=m+1:=(by rw[<- dC];exact Di _ _ _);have bC:J.length=m+1:=by rw[<- dJ];simp[Ih]
  have g4:∀i,i<m+1->Os.getD i []=Dc (Ms L E i) (Zl (E i) (Ms L E i)):=λi O=>by rw[<- f8,Li _ _ O];unfold oF;rw[bq O,Uk O]
  have fI:∀i,i<m+1->np (I.getD i Ay):=λi O=>by rw[cW i O];obtain⟨aD,aI,_⟩:=HE.2.1 i O;refine⟨aD.lb,aD.lw,λe=>?_,λe=>?_⟩;have e2:wd i=true:=aI ▸ e;show(E i).bs=[];rw[HE.1];unfold Ck;rw[e2,if_pos rfl];rfl;have e2:wd i=false:=aI ▸ e;show(E i).ww=[];rw[HE.1];unfold Ck;rw[e2,if_neg d_]
  have bH:∀i,i<m+1->(I.getD i Ay).many<=18:=λi O=>by rw[cW i O];have:=(HE.2.1 i O).2.2;show(E i).cnt+2<=18;omega
  have aZ:∀i,i<m+1->∀r,(J.getD i []).getD r 0<(I.getD i Ay).many:=λi O r=>by
   rw[cW i O,cJ i O]
   by_cases hr:r<L.length
   rw[Zhb hr];exact wg _ _;rw[Qc,List.getElem?_eq_none (by rw[Lu];omega)];show 0<(E i).cnt+2;omega
  have dX:∀i,i<m+1->(Os.getD i []).length=n:=λi O=>by rw[g4 i O];simp[Dc,Lu,bG.out]
  have hO:∀r,r<n->∀g,g<I.length->(Os.getD g []).getD r false=sO I J g r:=λr hr g hg=>by rw[cE] at hg;unfold sO;rw[g4 g hg,cJ g hg,cW g hg];simp[Dc,List.getD,show r<(Ms L E g).length by rw[Lu,bG];exact hr]
  have hX:MkX wr w.heap.size (w.heap.size+1+1) (w.heap.size+1) n vF Cz Cz Cz vb vo T V I J ((List.range (m+1)).map (De Os)):=(by have:=HI.my;rw[Z,dC,f8,dJ,List.take_of_length_le (by rw[bC];exact qa_)] at this;exact this.whole (by rw[bC,cE]) (λi O=>by rw[bC] at O;rw[cJ i O,Lu];exact bG) (λi O=>by rw[cE] at O;exact fI i O));have d7:=Ziu w.heap.size (w.heap.size+1+1) (w.heap.size+1) n m l vF Cz Cz vb vo T V I J Os wr hX cE hn hm kL (λi O=>by have:=bH i O;omega) dX hO;have R:=iu (l:=l) dX (I:=I) (λi O=>by have:=bH i O;omega);have gS:Hid (Ao m n l (Ou m E) (Ih m L E)=Ew Os J n I (Ha m I Os n l)):=by show _=_;unfold Ao;rw[dC,f8,dJ]
  obtain⟨C,h4⟩:=ey_ (Ha m I Os n l);have cZ:Hid ((Fh C).Perm (List.range (m+1))/\(Fh C).Nodup):=(by rw[<- h4];exact⟨Ng m I Os n l,Tt m I Os n l⟩);rw[h4] at d7 R gS;have HP:Hid ((∀i,i<m+1->(I.getD i Ay).many<=18)/\(∀i,i<m+1->∀r,(J.getD i []).getD r 0<(I.getD i Ay).many)/\(∀i,i<m+1->(Os.getD i []).length=n)/\(∀r,r<n->∀g,g<I.length->(Os.getD g []).getD r false=sO I J g r)/\I.length=m+1/\J.length=m+1/\(∀i,i<m+1->(J.getD i []).length=n)):=⟨bH,aZ,dX,hO,cE,bC,λi O=>by rw[cJ i O,Lu];exact bG⟩;have HX:Hid (MkX wr w.heap.size (w.heap.size+1+1) (w.heap.size+1) n vF Cz Cz Cz vb vo T V I J ((List.range (m+1)).map (De Os))):=hX
  have bM:Hid ((∀G∈C,ng m n (m+1) I G)/\C.length<=m+1):=R;have bZ:Hid (CfB wr w.heap.size fk (m+1) fc s A l/\E_ w wr):=⟨HI.cf,aW⟩;obtain⟨Y,hI⟩:=ex_ wr;subst hI;clear dC f8 dJ cW cJ g4 fI bH aZ dX hO hX R h4 HI cE bC;go_wp2_with fail
  refine d7.mono ?_;rintro e w1 ⟨rfl,vB,hS,bA,cR,fC⟩;obtain⟨aB,cB,j2⟩:=cR.shape;rw[show((Dq C).map Av).length=C.length by simp[Dq]] at j2;subst j2;have f6:Hid (MkX w1 w.heap.size (w.heap.size+1+1) (w.heap.size+1) n vF (.slice aB C.length cB) Cz Cz vb vo T V I J ((List.range (m+1)).map (De Os))):=HX.dbw fC bA;have H1:Hid (Ub w1 (w.heap.size+1) n vF (.slice aB C.length cB) Cz Cz/\Mh w1 Y.heap.size (.slice aB C.length cB) hS ((Dq C).map Av)/\Aa (λq=>q=w.heap.size+1) Y w1):=⟨bA,cR,fC⟩;have j8:Hid (CoI w1 w1 (w.heap.size+1) n vF (.slice aB C.length cB) Cz Cz [] (((Dq C).map (λfs=>He I J fs n)).take 0)):=⟨Aa.refl _ _,bA,Mh.nil _ _,bA.lt⟩;have l8:C.length<=4:=(by have:=bM.2;omega);have iA:Y.heap.size<=w1.heap.size:=fC.size
  clear bA cR fC d7 HX;go_wp2_with fail
  go_loopw [12] (λt12 wr=>∃(b:Nat) (vC:Value) (aG:List Value),t12=.int .i64 b/\b<=C.length/\Hid (CoI w1 wr (w.heap.size+1) n vF (.slice aB C.length cB) vC Cz aG (((Dq C).map (λfs=>He I J fs n)).take b))) (λt12 _=>C.length-(intOf t12).toNat)
  case atStart=>exact⟨0,Cz,[],rfl,qg_,j8⟩
  case round=>
   clear j8;obtain⟨b,vC,aG,rfl,hb,HC⟩:=hrel;have X:=f6.dbw HC.tch HC.ds;have x0:=cR_ 0 X.blk;have x2:=cR_ 2 X.ds;have aU:=H1.2.1.dbw H1.1 HC.tch
   by_cases bB:b<C.length
   ·have iR:b<((Dq C).map Av).length:=(by simp[Dq];exact bB);obtain⟨qB,lA,a5,kk,e,cb,_,ev,_,_⟩:=aU.at iR;have dT:((Dq C).map Av).getD b []=Av (C.getD b Fq).fs:=(by simp[Dq,List.getD,bB]);have hE:=aU.each b iR;rw[ev] at hE;rw[dT,Aw] at cb hE;rw[show((Dq C).map Av).length=C.length by simp[Dq]] at e;injection e with e1 _ e3;subst e1 e3;have bR:C.getD b Fq∈C:=(by simp[List.getD,bB]);have R:=bM.1 _ bR;have dW:∀f∈(C.getD b Fq).fs,f<m+1:=R.fs;have fW:=ZbF (w.heap.size+1+1) (w.heap.size+1) n kk a5 (C.getD b Fq).fs I J wr X.view (hE.nums rfl) (λf hf=>by rw[HP.2.2.2.2.1];exact dW f hf) hn (by have:=R.len;omega) (λf hf r=>by have h1:=HP.1 f (dW f hf);have h2:=HP.2.1 f (dW f hf) r;exact⟨o_,o_⟩)
    have jT:Hid (((Dq C).map (λfs=>He I J fs n)).take (b+1)=((Dq C).map (λfs=>He I J fs n)).take b++[He I J (C.getD b Fq).fs n]):=(by show _=_;rw[Qi (by simp[Dq];exact bB)];congr 2;simp[Dq,List.getD,bB]);have cO:(((Dq C).map (λfs=>He I J fs n)).take b).length=b:=(by rw[List.length_take];simp[Dq];omega);have jW:(He I J (C.getD b Fq).fs n).length=n:=(by simp[He]);generalize He I J (C.getD b Fq).fs n=N at *;generalize (C.getD b Fq).fs.length=fl at *;generalize ((Dq C).map (λfs=>He I J fs n)).take b=Cs at *;have g5:b<(C.length:Int):=o_;have g6:0<=(b:Int):=o_;clear X aU hE dT ev R dW bR;go_wp2_with fail
    refine fW.mono ?_;rintro e w2 ⟨v,rfl,aK,H⟩;obtain⟨av,cv,rfl⟩:=aK.shape;rw[Aw,jW] at aK ⊢;obtain⟨a7,c7,jF⟩:=HC.co.shape;rw[List.length_map,cO] at jF;subst jF;have dN:=HC.below H;have fM:=f6.dbw dN.tch dN.ds;have z0:=cR_ 0 fM.blk;have z3:=cR_ 3 dN.ds;obtain⟨W1,a9⟩:=ex_ ((w2.alloc (.cells #[.slice av n cv] 25)).drew);have aC:E_ w2 W1:=(by rw[a9];exact bA_.drew);have iC:w1.heap.size<=wr.heap.size:=HC.tch.size;have kW:=H.size
    have bD:Hid (CoI w1 W1 (w.heap.size+1) n vF (L_ qB C.length cB) (.slice a7 b c7) Cz aG Cs/\Ag W1 w1.heap.size (.slice av n cv) (Av N)/\(∀i,i<Cs.length->Ch (aG.getD i Cz) (.slice av n cv))):=by
     refine⟨dN.below aC,(aK.mono iC).below aC,λi O=>?_⟩
     cases hk2:(aG.getD i Cz).ownBlock with
     |none=>exact .inl hk2
     | some x=>
      cases hk3:(Value.slice av n cv).ownBlock with
      |none=>exact .inr (.inl hk3)
      | some x'=>
       refine .inr (.inr ?_);rw[hk2,hk3];have h1:=(rl_ (HC.co.each i (by rw[List.length_map];exact O)) x hk2).2;have h2:=(rl_ aK x' hk3).1;simp;omega
    have bF:Hid (W1.ownsRow w1.heap.size 25 1 (.slice a7 b c7) b aG):=(by have:=bD.1.co.row;rw[List.length_map,cO] at this;exact this);have b8:∀j u,[Value.slice av n cv][j]? =some u->W1.cell? (((A_ w2.heap.size 0):Addr).add j)=some u:=by rw[a9];exact Am w2 #[.slice av n cv] 25
    have aT:Hid _:=b8;have c4:w1.heap.size<=W1.heap.size:=(by have:=aC.size;omega);have U:Hid (W1=(w2.alloc (.cells #[.slice av n cv] 25)).drew):=a9;obtain⟨j0,b7,dG,dA,dR⟩:=info_parts ce;clear b8 a9 aC aK H dN fM fW x0 x2 HC cb;go_upto_region 28 with fail;refine Al (λw'=>w'.cell? (A_ (w.heap.size+1+1) 0)=some (P_ (w.heap.size+1))/\w'.cell? (A_ (w.heap.size+1) 3)=some (.slice a7 b c7)) 16 k_ ⟨z0,z3⟩ (λhHeld=>?_);refine Ah 0 ?_;refine Ah 1 ?_;refine Ah 2 ?_;refine Ah 3 ?_;refine Ah 4 ?_;refine Ah 5 ?_;refine Ah 6 ?_;refine Ah 7 ?_;refine Ah 8 ?_;refine Ah 9 ?_;refine Ah 10 ?_;refine Ah 11 ?_;refine Af (i:=12) k_ rfl (λKK hK=>?_);go_simp;refine hK _ _ ⟨Ac bA_ z0,Ac bA_ z3⟩ (λhHeld=>?_);clear hK KK
    try simp only[Act.put,tA,tB,tC]
    refine Af (i:=13) k_ rfl (λKK hK=>?_);rw[<- U];refine Az rfl (.tmp 161) (.tmp 163) 84 rfl w1.heap.size 25 j0 Cz 1 24 Tryz.underlying84 b7 dG dA dR rfl d_ (.slice a7 b c7) b aG j_ bF (A_ w2.heap.size 0) 1 1 [.slice av n cv] j_ rfl aT ?_ d_ m_ o_ c4 ?_;intro u hu;simp at hu;rw[hu];rfl;intro v6 w6 H6;obtain⟨r6,g6,d6,_,q6,p6,gQ⟩:=H6;obtain⟨hV,dP⟩:=bD.1.more (vC':=v6) (N:=N) bD.2.1 bD.2.2 g6 (by rw[cO];exact r6);rw[<- jT] at hV;have k5:Hid (CoI w1 (w6.setCell (A_ (w.heap.size+1) 3) v6) (w.heap.size+1) n vF (L_ qB C.length cB) v6 Cz (aG++[.slice av n cv]) (((Dq C).map (λfs=>He I J fs n)).take (b+1))):=hV;have dD:=f6.dbw bD.1.tch bD.1.ds
    have t6:Aa (λx=>(Value.slice a7 b c7).ownBlock=some x) W1 w6:=(Aa.refl _ _).grown g6 (λx hx _=>hx);have e0:w6.cell? (A_ (w.heap.size+1+1) 0)=some (P_ (w.heap.size+1)):=cq_ 0 _ 331 (0,0) (t6.at_ dD.blk (λe=>Au bF e dD.blk d_ rfl));have e3:=cR_ 3 dP;have ez:w6.frozen? (A_ (w.heap.size+1) 3)=false:=fq_ 3 _ 142 dP;subst gQ;clear r6 g6 d6 hV dP dD t6 z0 z3 bD bF aT U;refine hK _ _ ⟨e0,e3⟩ (λhHeld=>?_);clear hK KK;try simp only[Act.put,tA,tB,tC]
    refine Ah 14 ?_;refine Ah 15 ?_;refine Ai (i:=16) k_ rfl k_ (λKK hK=>?_);go_simp;refine hK _ _ ?_;clear hK KK;try simp only[Act.put,tA,tB,tC]
    refine Ak k_ ?_ _;clear e0 e3 ez hHeld;go_wp2;go_roundw;case rel=>exact⟨b+1,_,_,g_,o_,k5⟩
    case measure=>exact z_
   have g5:¬b<(C.length:Int):=o_;obtain⟨Cg,cI⟩:∃Cg,(Dq C).map (λfs=>He I J fs n)=Cg:=⟨_,rfl⟩;have gW:Hid ((Dq C).map (λfs=>He I J fs n)=Cg):=cI;have aQ:Hid (CoI w1 wr (w.heap.size+1) n vF (.slice aB C.length cB) vC Cz aG Cg):=(by have:=HC.out;rw[List.take_of_length_le (by simp[Dq];omega),cI] at this;exact this);have aS:(Dq C).length=C.length:=by simp[Dq]
   have dE:∀j,j<C.length->(Dq C).getD j []=(C.getD j Fq).fs:=λj hj=>by simp[Dq,List.getD,hj]
   have cN:∀j,j<C.length->Cg.getD j []=He I J (C.getD j Fq).fs n:=λj hj=>by rw[<- cI];simp[Dq,List.getD,hj]
   have aN:∀j,j<C.length->C.getD j Fq∈C:=λj hj=>by simp[List.getD,hj]
   have dU:Cg.length=C.length:=by rw[<- cI];simp[Dq]
   have kN:Hid (ZkU n I (Dq C) Cg):=by
    refine⟨by rw[dU,aS],by rw[aS];omega,λj hj=>?_,λj hj r=>?_,λj hj=>?_,λj hj f hf=>?_⟩;rw[dU] at hj;rw[cN j hj];simp[He]
    ·rw[dU] at hj;rw[cN j hj];have R:=bM.1 _ (aN j hj)
     by_cases hr:r<n
     have h1:=(ZcP (I:=I) (J:=J) (r:=r) (fs:=(C.getD j Fq).fs) (λf hf=>⟨by have h1:=HP.2.1 f (R.fs f hf) r;have h2:=HP.1 f (R.fs f hf);omega,by have h2:=HP.1 f (R.fs f hf);omega⟩) _ qa_).1;rw[List.take_length] at h1;have h3:=R.len;have e:(He I J (C.getD j Fq).fs n).getD r 0=(mu I J r (C.getD j Fq).fs).1:=(by simp[He,List.getD,hr]);rw[e];omega;rw[Qc,List.getElem?_eq_none (by simp[He];omega)];simp
    rw[aS] at hj;rw[dE j hj];have:=(bM.1 _ (aN j hj)).len;omega;rw[aS] at hj;rw[dE j hj] at hf;rw[HP.2.2.2.2.1];exact(bM.1 _ (aN j hj)).fs f hf
   have aR:Hid (MkX wr w.heap.size (w.heap.size+1+1) (w.heap.size+1) n vF (.slice aB C.length cB) vC Cz vb vo T V I J ((List.range (m+1)).map (De Os))/\Mh wr Y.heap.size (.slice aB C.length cB) hS ((Dq C).map Av)/\Aa (λq=>q=w.heap.size+1) Y wr):=⟨X,aU,H1.2.2.trans aQ.tch⟩;have iE:Hid (∀W,Aa (λq=>q=w.heap.size+1) wr W->CfB W w.heap.size fk (m+1) fc s A l):=λW hW=>(aR.2.2.trans hW).at_ bZ.1 o_
   have gJ:Hid (∀i,i<m+1->∀r,r<n->∃qb cq gb cg,∀W,Aa (λq=>q=w.heap.size+1) wr W->W.cell? (A_ (w.heap.size+1+1) 0)=some (P_ (w.heap.size+1))/\W.cell? (A_ (w.heap.size+1+1) 1)=some (L_ qb J.length cq)/\W.cell? (A_ qb i)=some (L_ gb n cg)/\W.cell? (A_ gb r)=some (I_ ((J.getD i []).getD r 0:Nat))):=λi O r hr=>by
    have dV:i<(J.map Av).length:=(by rw[List.length_map,HP.2.2.2.2.2.1];exact O);have hd:=X.ds;obtain⟨qb,cq,ag,cg,dH,c1,_,ev,⟨j9,hq⟩,_⟩:=X.bb.at dV;have dT:(J.map Av).getD i []=Av (J.getD i []):=(by simp[List.getD,show i<J.length by rw[List.length_map] at dV;exact dV]);have dY:=X.bb.each i dV;rw[ev] at dY;rw[dT,Aw,HP.2.2.2.2.2.2 i O] at c1 dY;rw[List.length_map] at dH;obtain⟨gb,e5,_,_,c3,_⟩:=dY.atK (by rw[Aw];exact HP.2.2.2.2.2.2 i O) hr;rw[Cv] at c3;subst e5;obtain⟨kX,k1⟩:=Ad dY (k:=gb) rfl;have x1:=cR_ 1 X.blk;rw[dH] at x1
    have aL:∀W p v,Aa (λq=>q=w.heap.size+1) wr W->wr.cell? p=some v->p.block≠w.heap.size+1->W.cell? p=some v:=λW p v hT hp hne=>(cb_ (hT.block _ (World.block_lt_of_cell? _ _ hp) hne)).trans hp;exact⟨qb,cq,gb,cg,λW hT=>⟨aL W _ _ hT x0 s_,aL W _ _ hT x1 s_,aL W _ _ hT c1 (hd.ne hq d_),aL W _ _ hT c3 (hd.ne k1 d_)⟩⟩
   obtain⟨Q,iX⟩:∃Q:Nat->Nat->Bool,Q=λr i=>decide (Jr I (Dq C) Cg r i≠(J.getD i []).getD r 0):=⟨_,rfl⟩;obtain⟨D,g2⟩:∃D:Nat->Nat->Nat,D=λr i=>(J.getD i []).getD r 0:=⟨_,rfl⟩
   have gL:Hid (∀r i,Q r i=decide (Jr I (Dq C) Cg r i≠(J.getD i []).getD r 0)/\D r i=(J.getD i []).getD r 0):=λr i=>by rw[iX,g2];exact⟨rfl,rfl⟩
   have cP:Hid ((Ut Q D (m+1) n).Perm (Ao m n l (Ou m E) (Ih m L E)).xs/\Fp (Ut Q D (m+1) n)/\(Ao m n l (Ou m E) (Ih m L E)).ks=I/\(Ao m n l (Ou m E) (Ih m L E)).bs.map BS.fs=Dq C/\(Ao m n l (Ou m E) (Ih m L E)).bs.map BS.N=Cg):=by have dS:=ja m n l (Ou m E) (Ih m L E);rw[gS] at dS ⊢;have hp:=Zhw (p:=Q) (b:=D) (M:=m+1) (r:=n) dS (λx=>by rw[Zar HP.2.2.2.2.1 cZ.1 cZ.2 HP.2.1 HP.2.2.2.1 x,gW,(gL x.row x.f).1,(gL x.row x.f).2]);refine⟨hp.1,hp.2,vt Os J n C ⟨I,[],[]⟩,by have:=az Os J n I C ⟨I,[],[]⟩;unfold Ew;simpa using this,?_⟩;rw[<- gW];exact Zaq (λG hG f hf=>by rw[HP.2.2.2.2.1];exact(bM.1 G hG).fs f hf) (λi O=>by rw[HP.2.2.2.2.1] at O;exact HP.2.1 i O) HP.2.2.2.1
   have iV:Hid (ExI wr wr (w.heap.size+1) n vF (.slice aB C.length cB) vC Cz (Ut Q D (m+1) 0)):=⟨Aa.refl _ _,aQ.ds,Yj.nil _ _ _ _,aQ.ds.lt⟩;obtain⟨wC,kR⟩:=ex_ wr;subst kR;clear iX g2 cI aS dE cN aN dU X aU HC H1 f6 gS cZ bM gW Z g1;go_wp2_with fail
   go_loopw [14] (λt14 wr=>∃(r:Nat) (vX:Value),t14=.int .i64 r/\r<=n/\Hid (ExI wC wr (w.heap.size+1) n vF (.slice aB C.length cB) vC vX (Ut Q D (m+1) r))) (λt14 _=>n-(intOf t14).toNat)
   case atStart=>exact⟨0,Cz,rfl,qg_,iV⟩
   case round=>
    clear iV x0 x2;obtain⟨r,vX,rfl,hr,aA⟩:=hrel
    by_cases gK:r<n
    ·have g7:r<(n:Int):=o_;have g8:0<=(r:Int):=o_
     have fV:Hid (ExI wC wr (w.heap.size+1) n vF (.slice aB C.length cB) vC vX (Ut Q D (m+1) r++mz Q D r 0)):=(by rw[show Ut Q D (m+1) r++mz Q D r 0=Ut Q D (m+1) r from List.append_nil _];exact aA);have y0:wr.cell? (A_ w.heap.size 0)=some (L_ fk M fc):=(by have:=(iE wr aA.tch).cells.1;rw[aO];exact this);clear aA;go_wp2_with fail
     rename_i wold;go_loopw [15] (λt15 wr=>∃(i:Nat) (vX:Value),t15=.int .i64 i/\i<=M/\Hid (ExI wC wr (w.heap.size+1) n vF (.slice aB C.length cB) vC vX (Ut Q D (m+1) r++mz Q D r i))) (λt15 _=>M-(intOf t15).toNat)
     case atStart=>exact⟨0,vX,rfl,qg_,fV⟩
     case round=>
      clear fV y0;obtain⟨i,fB,rfl,O,a0⟩:=hrel;have y0:wr.cell? (A_ w.heap.size 0)=some (L_ fk M fc):=by have:=(iE wr a0.tch).cells.1;rw[aO];exact this
      by_cases hiM:i<M
      ·have iU:i<m+1:=(by have:=aO.out;omega);have X:=aR.1.dbw a0.tch a0.ds;have j5:DaV wr (w.heap.size+1) n I (Dq C) Cg (Ut Q D (m+1) r++mz Q D r i):=⟨X.view.dk,⟨_,cq_ 2 _ 142 (0,0) a0.ds,(aR.2.1.dbw aQ.ds a0.tch).view⟩,⟨_,cq_ 3 _ 142 (0,0) a0.ds,(aQ.co.dbw aQ.ds a0.tch).view⟩,⟨_,cq_ 4 _ 142 (0,0) a0.ds,XsV.of a0.xs⟩⟩;have kQ:(Ut Q D (m+1) r++mz Q D r i).length<=1000000:=(by rw[Qe];have h1:=Zep Q D (m+1) r;have h2:=xy Q D r i;have h3:r*(m+1)<=200*4:=Nat.mul_le_mul o_ hm;omega);have gI:=jq (w.heap.size+1) n r i I (Dq C) Cg _ wr j5 kN gK (by rw[HP.2.2.2.2.1];exact iU) kQ
       rw[rv (λj hj hat=>by
        have bR:(Ut Q D (m+1) r++mz Q D r i).getD j Fk∈Ut Q D (m+1) r++mz Q D r i:=by rw[Qc,Qd hj];exact Qf hj
        rcases List.mem_append.1 bR with h|h
        have:=(cm r).1 h;have:=hat.1;omega
        have:=(Vl i).1 h;have:=hat.2;omega)] at gI
       obtain⟨qb,cq,gb,cg,bP⟩:=gJ i iU r gK;obtain⟨x0,e1,c1,c3⟩:=bP wr a0.tch;have i8:Hid _:=bP;have hH:=gL r i;have jL:Hid (Ut Q D (m+1) r++mz Q D r (i+1)=Ut Q D (m+1) r++mz Q D r i++exC Q D r i):=by show _=_;simp[mz,List.append_assoc]
       have fQ:exC Q D r i=if Jr I (Dq C) Cg r i≠(J.getD i []).getD r 0 then[⟨r,i,(J.getD i []).getD r 0⟩] else[]:=by
        unfold exC;rw[hH.1,hH.2]
        by_cases h:Jr I (Dq C) Cg r i≠(J.getD i []).getD r 0
        rw[if_pos h,if_pos (decide_eq_true h)];rw[if_neg h,if_neg (by rw[decide_eq_false h];decide)]
       have iB:Hid _:=fQ;have kD:i<(J.length:Int):=(by have:=HP.2.2.2.2.2.1;omega);have dF:0<=(i:Int):=o_;have l5:i<(M:Int):=o_;generalize hX0:Ut Q D (m+1) r++mz Q D r i=X0 at *;generalize Jr I (Dq C) Cg r i=tl at *;generalize (J.getD i []).getD r 0=bx at *;clear hX0 j5 hH fQ X bP;go_wp2_with fail
       refine gI.mono ?_;rintro e w2 ⟨rfl,H⟩;have z0:=Ac H x0;have z1:=Ac H e1;have z2:=Ac H c1;have z3:=Ac H c3;have dQ:Hid (ExI wC w2 (w.heap.size+1) n vF (.slice aB C.length cB) vC fB X0):=a0.below H;clear H gI x0 e1 c1 c3 a0 y0
       by_cases htl:tl=bx
       ·have HN:Hid (exC Q D r i=[]):=(by show _=_;rw[iB,if_neg (by simp[htl])]);have q1:(tl==(bx:Int))=true:=beq_iff_eq.2 o_;have q2:(tl !=(bx:Int))=false:=(by simp[bne,q1]);clear htl;go_wp2;go_roundw;case rel=>exact⟨i+1,fB,g_,o_,by rw[jL,HN,List.append_nil];exact dQ⟩
        case measure=>exact z_
       have HN:Hid (exC Q D r i=[⟨r,i,bx⟩]):=(by show _=_;rw[iB,if_pos htl]);have q1:(tl==(bx:Int))=false:=beq_eq_false_iff_ne.2 o_;have q2:(tl !=(bx:Int))=true:=(by simp[bne,q1]);obtain⟨aX,cX,jA⟩:=dQ.xs.shape;rw[List.length_map] at jA;subst jA;have z4:=cR_ 4 dQ.ds;obtain⟨W1,a9⟩:=ex_ ((w2.alloc (.cells #[I_ r,I_ i,I_ bx] 231)).drew);have aC:E_ w2 W1:=(by rw[a9];exact bA_.drew);have dI:Hid (ExI wC W1 (w.heap.size+1) n vF (.slice aB C.length cB) vC (.slice aX X0.length cX) X0):=dQ.below aC;have bF:Hid (W1.ownsRow wC.heap.size 231 3 (.slice aX X0.length cX) X0.length ((X0.map Do).flatten)):=by have:=dI.xs.row;rw[List.length_map] at this;exact this
       have b8:∀j u,[I_ r,I_ i,I_ bx][j]? =some u->W1.cell? (((A_ w2.heap.size 0):Addr).add j)=some u:=by rw[a9];exact Am w2 #[I_ (r:Nat),I_ (i:Nat),I_ (bx:Nat)] 231
       have aT:Hid _:=b8;have c4:wC.heap.size<=W1.heap.size:=dI.tch.size;have U:Hid (W1=(w2.alloc (.cells #[I_ r,I_ i,I_ bx] 231)).drew):=a9;obtain⟨j0,b7,dG,dA,dR⟩:=info_parts ZjP;clear b8 a9 aC dQ;go_upto_region 37 with fail;refine Al (λw'=>w'.cell? (A_ (w.heap.size+1+1) 0)=some (P_ (w.heap.size+1))/\w'.cell? (A_ (w.heap.size+1) 4)=some (.slice aX X0.length cX)/\w'.cell? (A_ (w.heap.size+1+1) 1)=some (L_ qb J.length cq)/\w'.cell? (A_ qb i)=some (L_ gb n cg)/\w'.cell? (A_ gb r)=some (I_ (bx:Nat))) 28 k_ ⟨z0,z4,z1,z2,z3⟩ (λhHeld=>?_);refine Ah 0 ?_;refine Ah 1 ?_;refine Ah 2 ?_;refine Ah 3 ?_;refine Ah 4 ?_;refine Ah 5 ?_;refine Ah 6 ?_;refine Ah 7 ?_;refine Ah 8 ?_;refine Ah 9 ?_;refine Ah 10 ?_;refine Ah 11 ?_;refine Ah 12 ?_
       refine Ah 13 ?_;refine Ah 14 ?_;refine Ah 15 ?_;refine Ah 16 ?_;refine Ah 17 ?_;refine Ah 18 ?_;refine Ah 19 ?_;refine Ah 20 ?_;refine Ah 21 ?_;refine Ah 22 ?_;refine Ah 23 ?_;refine Af (i:=24) k_ rfl (λKK hK=>?_);go_simp;refine hK _ _ ⟨Ac bA_ z0,Ac bA_ z4,Ac bA_ z1,Ac bA_ z2,Ac bA_ z3⟩ (λhHeld=>?_);clear hK KK;try simp only[Act.put,tA,tB,tC]
       refine Af (i:=25) k_ rfl (λKK hK=>?_);rw[<- U];refine Az rfl (.tmp 212) (.tmp 226) 140 rfl wC.heap.size 231 j0 (.agg #[I_ 0,I_ 0,I_ 0]) 3 24 Tryz.underlying140 b7 dG dA dR rfl d_ (.slice aX X0.length cX) X0.length ((X0.map Do).flatten) j_ bF (A_ w2.heap.size 0) 1 1 [I_ (r:Nat),I_ (i:Nat),I_ (bx:Nat)] j_ rfl aT ?_ d_ m_ o_ c4 ?_
       ·intro u hu;simp at hu;rcases hu with rfl|rfl|rfl<;>rfl
       intro v6 w6 H6;obtain⟨r6,g6,d6,_,q6,p6,gQ⟩:=H6;obtain⟨hZ,d5⟩:=dI.more (vX':=v6) (x:=⟨r,i,bx⟩) g6 r6;have kI:Hid (ExI wC (w6.setCell (A_ (w.heap.size+1) 4) v6) (w.heap.size+1) n vF (.slice aB C.length cB) vC v6 (Ut Q D (m+1) r++mz Q D r (i+1))):=(by rw[jL,HN];exact hZ);obtain⟨s0,s1,s2,s3⟩:=i8 w6 (dI.tch.grown g6 (λk hk hlt=>by have:=(rl_ bF k hk).1;omega));have s4:=cR_ 4 d5;have s5:w6.frozen? (A_ (w.heap.size+1) 4)=false:=fq_ 4 _ 142 d5;subst gQ;clear r6 g6 d6 hZ d5 z0 z1 z2 z3 z4 dI bF aT U i8;refine hK _ _ ⟨s0,s4,s1,s2,s3⟩ (λhHeld=>?_);clear hK KK;try simp only[Act.put,tA,tB,tC]
       refine Ah 26 ?_;refine Ah 27 ?_;refine Ai (i:=28) k_ rfl k_ (λKK hK=>?_);go_simp;refine hK _ _ ?_;clear hK KK;try simp only[Act.put,tA,tB,tC]
       refine Ak k_ ?_ _;clear s0 s1 s2 s3 s4 s5 hHeld;go_wp2;go_roundw;case rel=>exact⟨i+1,_,g_,o_,kI⟩
       case measure=>exact z_
      have kD:¬i<(M:Int):=o_;have kK:Hid (ExI wC wr (w.heap.size+1) n vF (.slice aB C.length cB) vC fB (Ut Q D (m+1) (r+1))):=by have:=a0.out;rw[show i=m+1 by have:=aO.out;omega] at this;exact this
      clear a0;go_wp2;go_roundw;case rel=>exact⟨r+1,fB,g_,o_,kK⟩
      case measure=>exact z_
    have g7:¬r<(n:Int):=o_;have x0:wr.cell? (A_ (w.heap.size+1+1) 0)=some (P_ (w.heap.size+1)):=cq_ 0 _ 331 (0,0) (aR.1.dbw aA.tch aA.ds).blk
    have fU:Hid (Zam w wr (w.heap.size+1) n (Ao m n l (Ou m E) (Ih m L E))/\E_ w wr):=by
     obtain⟨f1,f2,f3,f4,f5⟩:=cP;have kP:w.heap.size<=wC.heap.size:=Nat.le_trans bZ.2.size aR.2.2.size;have X:=aR.1.dbw aA.tch aA.ds;refine⟨⟨vF,.slice aB C.length cB,vC,vX,T,hS,aG,Ut Q D (m+1) n,?_,f1,f2⟩,?_⟩
     ·rw[f3,f4,f5];have hX:=aA.xs;rw[show r=n by omega] at hX;refine⟨aA.ds,X.fe,((aR.2.1.dbw aQ.ds aA.tch).mono bZ.2.size),((aQ.co.dbw aQ.ds aA.tch).mono ?_),⟨⟨hX.row.1,?_⟩,hX.wid⟩,X.one,Nat.le_succ _⟩;exact Nat.le_trans bZ.2.size iA
      rcases hX.row.2 with e|⟨g,jU,j9,e,hg,rr⟩
      exact .inl e;exact .inr ⟨g,jU,j9,e,Nat.le_trans kP hg,rr⟩
     exact bZ.2.trans ((aR.2.2.trans aA.tch).to_below bZ.2.size (λq hq=>o_))
    clear aA;go_wp2;go_ret;exact⟨_,rfl,fU.1,fU.2⟩
section
variable {w:World} {base db n:Nat} {vF vB vC vX:Value} {kvs:List (Value×Value)} {bvs cvs:List Value} {Ks:List KS} {Fs Cs:List (List Nat)} {X:List XS}
def RfX.mono{b}(h:RfX w base db n vF vB vC vX kvs bvs cvs Ks Fs Cs X)(c:b<=base):RfX w b db n vF vB vC vX kvs bvs cvs Ks Fs Cs X:=by
 have a:∀{ty sz m:Nat} {v xs},w.ownsRow base ty sz v m xs->w.ownsRow b ty sz v m xs:=λhr=>⟨hr.1,by
  rcases hr.2 with e|⟨g,d,f,e,j,r⟩
  exact .inl e
  exact .inr ⟨g,d,f,e,Nat.le_trans c j,r⟩⟩
 exact⟨h.ds,⟨⟨a h.fe.row.row,h.fe.row.wid⟩,h.fe.len,λi hi=>⟨a (h.fe.each i hi).1,a (h.fe.each i hi).2⟩⟩,h.bu.mono c,h.co.mono c,⟨a h.xs.row,h.xs.wid⟩,h.one,Nat.le_trans c h.lo⟩
def ZcQ i (h:RfX w base db n vF vB vC vX kvs bvs cvs Ks Fs Cs X)(a:i<Ks.length):C_ 139 #[.pointer (some ⟨db,0,none⟩),.int .i64 i] w λe w'=>e=.returned (.tuple #[(kvs.getD i Oi).1,(kvs.getD i Oi).2,.int .i64 0])/\∃m,w'=w.drewN m:=by
 obtain⟨q,c,e,_,_,_,_,b⟩:=h.fe.row.at (i:=i) (by rw[h.fe.zlen];exact a);rw[h.fe.zlen] at e;subst e;have t:=cR_ 1 h.ds;have f:(List.zipWith Cf Ks kvs).getD i []=Cf (Ks.getD i Ay) (kvs.getD i Oi):=by simp[List.getD,List.getElem?_zipWith,a,show i<kvs.length by rw[h.fe.len];exact a]
 rw[f] at b;have o:=b 1 o_ _ rfl;have p:=b 2 o_ _ rfl;obtain⟨r,l,g⟩:=(h.fe.each i a).1.shape;obtain⟨k,j,d⟩:=(h.fe.each i a).2.form;generalize kvs.getD i Oi=u at *;obtain⟨u1,u2⟩:=u;simp only at g d o p ⊢;subst g d;have x:¬(i:Int)<0:=o_;have s:¬Ks.length<=(i:Int):=o_;have z:0<=(i:Int):=o_;have y:i<(Ks.length:Int):=o_;generalize (Ks.getD i Ay).e.bs.length=nb at *;generalize (Ks.getD i Ay).e.ww.length=nw at *;clear h b f;go_enter Tryz.func139,Tryz.ntmps139;go_upto_region 3 with fail;go_quiet (fail);go_wp2;refine bodyPost_ret (v:=.tuple #[.slice r nb l,.slice k nw j,I_ 0]) (by simp[results,Tryz.results139,go_sem]) rfl ?_
 grind
def ZaL f (h:DkV w db n Ks)(g:¬(0<=f/\f<(Ks.length:Int))):C_ 139 #[.pointer (some ⟨db,0,none⟩),.int .i64 f] w λe w'=>e=.returned (.tuple #[Cz,Cz,.int .i64 1])/\w'=w:=by
 obtain⟨b,i,a⟩:=h.d1;obtain⟨j,d,rfl⟩:=a.1;clear h a;go_enter Tryz.func139,Tryz.ntmps139
 by_cases g1:f<0
 ·go_wp2;refine bodyPost_ret (v:=.tuple #[Cz,Cz,I_ 1]) (by simp[results,Tryz.results139,go_sem]) rfl ?_
  grind
 have c:Ks.length<=f:=o_;go_wp2;refine bodyPost_ret (v:=.tuple #[Cz,Cz,I_ 1]) (by simp[results,Tryz.results139,go_sem]) rfl ?_
 grind
end
def qh a d n b g c f z p S w (h:mt w a d n b g c f S z p true):C_ 126 #[.pointer (some ⟨a,0,none⟩)] w λe w'=>e=.returned (.tuple #[.pointer none,.int .i64 1,.int .i64 0])/\w'=w:=by
 have i:=h.cells.2.2.2;clear h;go_enter Tryz.func126,Tryz.ntmps126;go_wp2;go_ret3
 exact⟨rfl,rfl⟩
def zk a f n c j d i z p S w (h:mt w a f n c j d i S z p false)(g:z≠0):C_ 126 #[.pointer (some ⟨a,0,none⟩)] w λe w'=>e=.returned (.tuple #[.pointer none,.int .i64 z,.int .i64 p])/\∃m,w'=w.drewN m:=by
 obtain⟨_,k,o,l⟩:=h.cells;have b:=bne_iff_ne.2 g;clear h;go_enter Tryz.func126,Tryz.ntmps126;go_upto_region 4 with fail;go_quiet (fail);go_wp2;go_ret3
 exact⟨rfl,_,rfl⟩
def RcP(w:World)(ib fk m fc:Nat)(bins:Int)(size budget:Nat)(S:ByteArray)(E:Nat->ES)(R:List (Int×List VS)×Nat×Int)(e:Ending)(w':World):Prop:=
 mt w' ib fk (m+1) fc bins size budget S 0 0 true/\Aa (λq=>q=ib) w w'/\
 ((R.2.2≠0/\e=.returned (.tuple #[.pointer none,I_ R.2.2,I_ R.2.1]))∨(R.2.2=0/\∃yb,e=.returned (.tuple #[P_ yb,I_ 0,I_ 0])/\Zam w w' yb R.1.length (Ao m R.1.length budget (Ou m E) (Ih m R.1 E))))
def Zdw(j o m z f b:Nat) d S s D ct E w (h:mt w j o (m+1) z d f b S 0 0 false)(N:Dd w o 0 (m+1) s D ct)(G:o≠j)(t:o<w.heap.size)(hn:m+1<=4)(V:∀i,i<m+1->0<=D i/\(s i=false->D i<=3))(hk:S.size<=1000000000000000)(a2:b<=20)(hs:2<=f)(a0:f<=32)(a4:2<=d)(r:d<=16)(Z:∀i,i<m+1->s i=true->1<=ct i)(hr:∀R,R=Je S (m+1) s D (S.size+1) [] 0->R.2.2=0->Yi R.1/\(∀p∈R.1,p.2.length=m+1)/\(∀i,E i=Ck Mc (s i) (ct i) d f (Bn R.1 i) (Fr R.1))/\∀i,i<m+1->Ol (E i)/\(E i).wd=s i/\(E i).cnt<=16):C_ 126 #[.pointer (some ⟨j,0,none⟩)] w λe w'=>RcP w j o m z d f b S E (Je S (m+1) s D (S.size+1) [] 0) e w':=by
 obtain⟨⟨_,_,_,_,_⟩,c5,_,c7⟩:=h.cells;have f7:=fq_ 7 _ _ h;obtain⟨O,u⟩:=ex_ (w.setCell (A_ j 7) (.bool true));have C:Aa (λq=>q=j) w O:=(by rw[u];exact(Aa.refl (λq=>q=j) w).setCell (p:=(A_ j 7)) (λ_=>rfl) _);have h1:mt O j o (m+1) z d f b S 0 0 true:=(by rw[u];exact ht_ 7 _ _ _ h);have I:Dd O _ 0 _ s D _:=⟨N.le,λh0=>Qh (N.lt h0) C.size,λi hi=>by rw[<- N.c0 i hi];simp[World.cell?,C.block o t G],λi hi=>by rw[<- N.c1 i hi];simp[World.cell?,C.block o t G],λi hi=>by rw[<- N.c2 i hi];simp[World.cell?,C.block o t G]⟩;have x:=Qh t C.size
 have P:=x1_ (λW hW=>uo _ _ z S d f b _ _ _ W (I.below hW) (Qh x hW.size) hn V hk);have T:=hr _ rfl;generalize Je S (m+1) s D (S.size+1) [] 0=R at *;have B:=x1_ (λW a c n hW hz hn2 hv=>Zf2 _ z n c m _ _ a _ _ _ _ _ E W (I.below hW) hv (T hz).1 hn2 hn a2 hs a0 a4 r Z (T hz).2.2.1 (T hz).2.2.2);have y:=x1_ (λhz=>(T hz).2.1);have a3:=x1_ u;have J:=x2_ h1 C;obtain⟨M,hM⟩:=ex_ (m+1);have A:=x1_ hM;rw[<- hM] at P B y J;clear h N I u h1 C hk hr T Z V hM hn a2 hs a0 a4 r x;go_enter Tryz.func126,Tryz.ntmps126;go_upto_region 6 with fail;rw[<- a3];clear a3 c5 c7 f7;have hc:=J.1.cells.1
 refine Al (λw'=>w'.cell? _=some _/\w'.cell? _=some _/\w'.cell? _=some _/\w'.cell? _=some _/\w'.cell? _=some _) 9 k_ hc (λhHeld=>?_);refine Ah 0 ?_;refine Ah 1 ?_;refine Ah 2 ?_;refine Ah 3 ?_;refine Ah 4 ?_;refine Ah 5 ?_;refine Ah 6 ?_;refine Ah 7 ?_;refine Af (i:=8) k_ rfl (λKK hK=>?_);go_simp;refine(P _ bz_.drew).mono ?_;rintro e l ⟨tb,vR,L,rfl,aA,hx,hL,v,Q,r⟩;have k:Below O.heap.size _ _:=bz_.drew.trans r;have h2:mt _ _ _ M _ _ _ _ S 0 0 _:=(k.block _ (Qb J.1).1).trans J.1;have t2:=J.2.below k;obtain⟨ra,rc,rfl⟩:=hL.shape
 have g:Hid (Fb l tb S R.2.1 R.2.2 (.slice ra L.length rc)/\mt l j o M z d f b S 0 0 true/\Aa (λq=>q=j) w l/\w.heap.size<=l.heap.size/\E_ O l/\L.length=R.1.length/\L.length<=200/\(R.2.2=0->Sp l ra L.length M R.1)):=⟨hx,h2,t2,t2.size,k,by rw[<- v];simp,Q,λhz=>by
  rw[<- v]
  refine hL.view rfl (λp hp=>y hz _ (by rw[<- v];exact List.mem_map_of_mem hp)) (by rw[A];omega)⟩
 have a1:=h2.cells.1;clear hx h2 t2 r k J hc hL v Q;go_simp;refine hK _ _ a1 (λhHeld=>?_);clear hK KK;try simp only[Act.put,List.setIfInBounds_toArray,List.set_cons_succ,List.set_cons_zero]
 refine Ai (i:=9) k_ rfl k_ (λKK hK=>?_);go_simp;refine hK _ _ ?_;clear hK KK;try simp only[Act.put,List.setIfInBounds_toArray,List.set_cons_succ,List.set_cons_zero]
 refine Ak k_ ?_ _;obtain⟨_,e1,e2,_⟩:=g.1.cells
 by_cases hz:R.2.2=0
 ·have a8:(R.2.2 !=0)=false:=(by rw[hz];rfl);rw[hz] at e2;go_upto_region 9 with fail;have a5:l.cell? (A_ j 0)=some (L_ o M z)/\l.cell? (A_ j 1)=some (I_ d)/\l.cell? (A_ j 2)=some (I_ f)/\l.cell? (A_ j 3)=some (I_ b)/\l.cell? (A_ tb 3)=some (.slice ra L.length rc):=w_
  clear e1 e2 a1;refine Al (λw'=>w'.cell? _=some _/\w'.cell? _=some _/\w'.cell? _=some _/\w'.cell? _=some _/\w'.cell? _=some _) 8 k_ a5 (λhHeld=>?_);refine Ah 0 ?_;refine Ah 1 ?_;refine Ah 2 ?_;refine Ah 3 ?_;refine Ah 4 ?_;refine Ah 5 ?_;refine Ah 6 ?_;refine Ah 7 ?_;refine Ai (i:=8) k_ rfl k_ (λKK hK=>?_);go_simp;refine(B _ _ _ _ (g.2.2.2.2.1.trans (bz_.drew)) hz g.2.2.2.2.2.2.1 ((g.2.2.2.2.2.2.2 hz).below bz_.drew)).mono ?_;rintro e w3 ⟨yb,rfl,F,k⟩
  have U:Hid (RcP w j o m z d f b S E R (.returned (.tuple #[P_ yb,I_ 0,I_ 0])) w3):=(by have Y:Below l.heap.size _ _:=bz_.drew.trans k;have H:=g.2.1;rw[A] at H;rw[g.2.2.2.2.2.1] at F;obtain⟨vF,vB,vC,vX,a7,a6,a9,X,g1,g2,g3⟩:=F;exact⟨(Y.block _ (Qb H).1).trans H,g.2.2.1.below Y,.inr ⟨hz,yb,rfl,vF,vB,vC,vX,a7,a6,a9,X,g1.mono g.2.2.2.1,g2,g3⟩⟩);clear F k a5 g B;go_simp;refine hK _ _ ?_;clear hK KK;try simp only[Act.put,List.setIfInBounds_toArray,List.set_cons_succ,List.set_cons_zero]
  refine Ai (i:=9) k_ rfl k_ (λKK hK=>?_);go_simp;refine hK _ _ ?_;clear hK KK;try simp only[Act.put,List.setIfInBounds_toArray,List.set_cons_succ,List.set_cons_zero]
  refine Ai (i:=10) k_ rfl k_ (λKK hK=>?_);go_simp;refine hK _ _ ?_;clear hK KK;try simp only[Act.put,List.setIfInBounds_toArray,List.set_cons_succ,List.set_cons_zero]
  refine Ai (i:=11) k_ rfl k_ (λKK hK=>?_);go_simp;refine hK _ _ ?_;clear hK KK;try simp only[Act.put,List.setIfInBounds_toArray,List.set_cons_succ,List.set_cons_zero]
  refine Ak k_ ?_ _;go_wp2;go_ret3
  exact U
 have a8:=bne_iff_ne.2 hz;go_upto_region 8 with fail;go_quiet (fail);go_wp2;go_ret3
 rw[A] at g;exact⟨g.2.1,g.2.2.1.drewN _,.inl ⟨hz,rfl⟩⟩
def ZhZ m:∀k,k<=4->Ba (m+4294967296) k=Ba m k:=λk hk=>by
 rcases(show k=0∨k=1∨k=2∨k=3∨k=4 by omega) with rfl|rfl|rfl|rfl|rfl
 rfl
 all_goals
  simp only[Ba,Vx,List.nil_append,List.cons_append]
  grind [Ba,Vx]
def ZbI m k w (a:k<=4)(c: -4294967296<=m)(b:m<=1000000000000):C_ 135 #[.int .i64 m,.int .i64 (k:Nat)] w λe w'=>e=.returned (.string (strOfNums (Ba m k)))/\Below w.heap.size w w':=by
 by_cases h:0<=m
 have e:m.toNat=m:=o_;have:=Qw m m.toNat k w o_ o_ (.inl ⟨h,e.symm⟩);rw[e] at this;exact this;have e:(m+4294967296).toNat=m+4294967296:=o_;have:=Qw m (m+4294967296).toNat k w o_ o_ (.inr ⟨o_,o_⟩);rw[e,ZhZ m k a] at this;exact this
def Ea{w W}(hW:Below w.heap.size w W) m k (hk:k<=4)(h1: -4294967296<=m)(h2:m<=1000000000000):C_ 135 #[.int .i64 m,.int .i64 (k:Nat)] W λe w'=>e=.returned (.string (strOfNums (Ba m k)))/\Below w.heap.size w w':=
 (ZbI m k W hk h1 h2).mono (λ_ _ h=>⟨h.1,hW.trans (h.2.mono hW.size)⟩)
def ZcH{l}(h:Dw l):Aq (strOfNums l)=l:=by
 unfold Aq strOfNums;simp only[List.map_map]
 conv=>rhs;rw[<- List.map_id l]
 refine List.map_congr_left λx hx=>?_;have:=h x hx
 grind [UInt8.toNat_ofNat']
def ZkN:∀(l:List Int) {z:Nat},z<4294967296->Dw l->nF z l<4294967296
 |[],z,hz,_=>by simpa [nF,nJ,Zb6] using hz
 |b::l,z,hz,h=>by have hb:=h b s_;rw[yz z hb];exact ZkN l (Zbk (Nat.xor_lt_two_pow (n:=32) hz o_) 8) (λx hx=>h x (by simp[hx]))
def Zk4{l}(h:Dw l):0<=Jv l/\Jv l<4294967296:=by
 have b:Zhq l=_:=gm l (z:=4294967295) d_ h;have a:=ZkN l (z:=4294967295) d_ h;unfold Jv;rw[b];have e:=Un 4294967295 _ d_ a;have c:4294967295^^^_<_:=Nat.xor_lt_two_pow (n:=32) d_ a
 grind
def ZbL l w (h:Dw l)(j:l.length<=1000000):C_ 134 #[.string (strOfNums l)] w λe w'=>e=.returned (.string (strOfNums (l++Ba (Jv l) 4)))/\Below w.heap.size w w':=by
 have a:=Zis _ w (by rw[Br];exact j);rw[ZcH h] at a;have o:=Zk4 h;have d:Hid (∀W,Calls _ _ #[_,.int _ 4] W λe _=>_):=λW=>ZbI (Jv l) 4 W o_ o_ o_;have i:Hid (strOfNums (l++Ba (Jv l) 4)=_):=(Cl _ _).symm;have m:¬9223372036854775807<(strOfNums l).size+(strOfNums (Ba (Jv l) 4)).size:=(by rw[Br,Br,Gc];omega);generalize strOfNums l=S at *;generalize strOfNums (Ba (Jv l) 4)=s4 at *;generalize Jv l=c at *;go_enter Tryz.func134,Tryz.ntmps134;go_wp2_with fail
 refine a.mono ?_;rintro e k ⟨rfl,g⟩;obtain rfl:=g.symm;go_wp2_with fail
 refine(d _).mono ?_;rintro e n ⟨rfl,b⟩;have f:=x1_ b;clear b;go_wp2;go_ret;exact⟨by rw[i];rfl,f⟩
structure KnR(k):Prop where
 one:np k
 bs:∀x∈k.e.bs,-4294967296<=x/\x<=1000000000000
 ww:∀s∈k.e.ww,s.size<=1000
 d:k.d<=1000000
structure BuR(n)(Ks:List KS)(b:BS):Prop where
 len:b.N.length=n
 few:b.fs.length<=1000
 fk:∀f∈b.fs,f<Ks.length
 fl:∀k,b.fs.getD k 0<=1000000
 gs:b.g=Dv Ks b.fs
 g6:b.g<64
 val:∀r,b.N.getD r 0<=1000000
def ZfF(wd:Bool):List Int:=if wd=true then[119] else[110]
def Zld{k}(h:np k):Pj k=ZfF k.e.wd++[(k.d:Int)%256]++[(((k.e.bs.length+k.e.ww.length:Nat)):Int)%256]++Kb k.e.bs++Km k.e.ww:=by
 unfold Pj ZfF
 cases hw:k.e.wd
 rw[h.2.2.2 hw];simp[knB,ES.cnt,La,hw,Km];rw[h.2.2.1 hw];simp[yn,ES.cnt,La,hw,Kb]
def Sg(n:Nat)(Ks:List KS)(Bs:List BS)(X:List XS):List Int:=[71,82,(n:Int)%256,Ks.length%256]++Ks.flatMap Pj++[(Bs.length:Int)%256]++Bs.flatMap Gw++Ba X.length 2++X.flatMap xB
def dv.get{w b v f a}(h:dv w b v f a){i}(g:i<a.length):∃q c ab cb aw cw,v=L_ q a.length c/\w.cell? (A_ q (i*4))=some (.bool (a.getD i Ay).e.wd)/\w.cell? (A_ q (i*4+1))=some (.slice ab (a.getD i Ay).e.bs.length cb)/\w.cell? (A_ q (i*4+2))=some (.slice aw (a.getD i Ay).e.ww.length cw)/\w.cell? (A_ q (i*4+3))=some (I_ (a.getD i Ay).d)/\Ag w b (.slice ab (a.getD i Ay).e.bs.length cb) (a.getD i Ay).e.bs/\Cc w b (.slice aw (a.getD i Ay).e.ww.length cw) (a.getD i Ay).e.ww:=by
 obtain⟨q,l,k,_,_,_,_,j⟩:=h.row.at (i:=i) (by rw[h.zlen];exact g);rw[h.zlen] at k;have e:=h.each i g;obtain⟨ab,cb,o⟩:=(h.each i g).1.shape;obtain⟨aw,cw,m⟩:=(h.each i g).2.form;have n:(List.zipWith Cf a f).getD i []=Cf (a.getD i Ay) (f.getD i Oi):=(by simp[List.getD,List.getElem?_zipWith,g,show i<f.length by rw[h.len];exact g]);rw[n] at j;exact⟨q,l,ab,cb,aw,cw,k,j 0 o_ _ rfl,j 1 o_ _ (by rw[<- o];rfl),j 2 o_ _ (by rw[<- m];rfl),j 3 o_ _ rfl,w_,w_⟩
def Nc{α:Type}{L:List α}{k} d (h:k<L.length):L.getD k d∈L:=w_
def zw b:strOfNums (Aq b)=b:=by
 cases b with
 | mk d=>
  unfold strOfNums Aq;congr 1;apply Array.ext';simp[List.map_map,Function.comp_def]
def Rn{α:Type}(f:α->List Int)(L:List α) i:((L.take i).flatMap f).length<=(L.flatMap f).length:=by
 conv=>rhs;rw[<- List.take_append_drop i L,List.flatMap_append,Qe]
 omega
def Ex m k:(strOfNums (Ba m k)).size=k:=by rw[Br,Gc]
local macro "bw" :tactic=>`(tactic|repeat(first|assumption|with_reducible apply Below.drew))
def Zdu db a5 n vF vB vC vX bK dF cZ q l X w (h:RfX w a5 db n vF vB vC vX bK dF cZ q (l.map BS.fs) (l.map BS.N) X)(hk:∀K∈q,KnR K)(hb:∀b∈l,BuR n q b)(d7:q.length<=1000)(dA:l.length<=1000)(d8:X.length<=100000)(hx:∀x∈X,x.row<=1000000/\x.f<=1000000/\x.bin<=1000000)(hn:n<=200)(bA:(Sg n q l X).length<=1000000)(bS:Dw (Sg n q l X)):C_ 76 #[.pointer (some ⟨db,0,none⟩)] w λe w'=>e=.returned (.string (strOfNums (Sg n q l X++Ba (Jv (Sg n q l X)) 4)))/\Below w.heap.size w w':=by
 have HV:Hid (DaV w db n q (l.map BS.fs) (l.map BS.N) X):=h.view;have aL:Hid (dv w a5 vF bK q):=h.fe;have HK:Hid (∀K∈q,KnR K):=hk;have cQ:Hid (∀b∈l,BuR n q b):=hb;have HX:Hid (∀x∈X,x.row<=1000000/\x.f<=1000000/\x.bin<=1000000):=hx;have M:Hid ((Sg n q l X).length<=1000000):=bA;have dE:Hid (∀W,C_ 134 #[.string (strOfNums (Sg n q l X))] W λe w'=>e=.returned (.string (strOfNums (Sg n q l X++Ba (Jv (Sg n q l X)) 4)))/\E_ W w'):=λW=>ZbL _ W bS bA;have u:Hid (Sg n q l X=[71,82,(n:Int)%256,q.length%256]++q.flatMap Pj++[(l.length:Int)%256]++l.flatMap Gw++Ba X.length 2++X.flatMap xB):=rfl;obtain⟨af,cf,cT⟩:=aL.view.1;subst cT;have d0:=cR_ 0 h.ds;have d1:=cR_ 1 h.ds;obtain⟨v2,d2,h2⟩:=HV.d2;obtain⟨v3,d3,h3⟩:=HV.d3
 obtain⟨v4,d4,h4⟩:=HV.d4;obtain⟨a2,c2,cA⟩:=h2.1;obtain⟨a3,c3,bH⟩:=h3.1;obtain⟨a4,c4,cW⟩:=h4.1;rw[List.length_map] at cA bH;subst cA bH cW;have b6:Hid (LiV w (.slice a2 l.length c2) (l.map BS.fs)):=h2;have aV:Hid (LiV w (.slice a3 l.length c3) (l.map BS.N)):=h3;have bY:Hid (XsV w (.slice a4 X.length c4) X):=h4;obtain⟨Y,aX⟩:=ey_ q.length;obtain⟨V,aR⟩:=ey_ l.length;obtain⟨lx,aW⟩:=ey_ X.length;have a7:Hid (q.length=Y/\l.length=V/\X.length=lx):=⟨aX,aR,aW⟩;rw[aX] at d1 d7 u aL;rw[aR] at d2 d3 dA u b6 aV;rw[aW] at d4 d8 u bY;clear h hk hb hx h2 h3 h4 bA bS aX aR aW;generalize strOfNums (Sg n q l X++Ba (Jv (Sg n q l X)) 4)=SR at *
 have c7:Hid (∀W,E_ w W->C_ 135 #[.int .i64 n,.int .i64 1] W λe w'=>e=.returned (.string (strOfNums (Ba n 1)))/\E_ w w'):=λW hW=>Ea hW _ 1 o_ o_ o_;have bG:Hid (∀W,E_ w W->C_ 135 #[.int .i64 Y,.int .i64 1] W λe w'=>e=.returned (.string (strOfNums (Ba Y 1)))/\E_ w w'):=λW hW=>Ea hW _ 1 o_ o_ o_;have cM:Hid (({data:=#[71,82]}:ByteArray)++strOfNums (Ba n 1)++strOfNums (Ba Y 1)=strOfNums [71,82,n%256,Y%256]):=by show _=_;rw[show({data:=#[71,82]}:ByteArray)=strOfNums [71,82] from rfl,Cl,Cl];rfl
 have cL:E_ w w:=bz_;have H:=Ex (n:Nat) 1;have l2:=Ex (Y:Nat) 1;have F:¬9223372036854775807<2+(strOfNums (Ba n 1)).size:=o_;have z2:¬9223372036854775807<2+(strOfNums (Ba n 1)).size+(strOfNums (Ba Y 1)).size:=o_;clear H l2;go_enter Tryz.func76,Tryz.ntmps76;go_upto_region 1 with fail;generalize strOfNums (Ba (n:Nat) 1)=s1 at *;generalize strOfNums (Ba (Y:Nat) 1)=s2 at *;go_cut [3] (λv wx=>v=.string (({data:=#[71,82]}:ByteArray)++s1++s2)/\Hid (E_ w wx))
 case first=>
  refine Al (λw'=>w'.cell? (A_ db 0)=some (I_ (n:Nat))/\w'.cell? (A_ db 1)=some (.slice af Y cf)) 13 k_ ⟨d0,d1⟩ (λhHeld=>?_);refine Ah 0 ?_;refine Ah 1 ?_;refine Ah 2 ?_;refine Ah 3 ?_;refine Ah 6 ?_;refine Ah 7 ?_;refine Ah 8 ?_;refine Ah 9 ?_;refine Ah 10 ?_;refine Af (i:=4) k_ rfl (λKK hK=>?_);go_simp;refine(c7 _ cL.drew).mono ?_;rintro e w2 ⟨rfl,m⟩;go_simp;refine hK _ _ ⟨Ac m d0,Ac m d1⟩ (λhHeld=>?_);clear hK KK;try simp only[Act.put,sA,sB,sC]
  refine Ah 5 ?_;refine Af (i:=11) k_ rfl (λKK hK=>?_);go_simp;refine(bG _ m).mono ?_;rintro e w3 ⟨rfl,y⟩;go_simp;refine hK _ _ ⟨Ac y d0,Ac y d1⟩ (λhHeld=>?_);clear hK KK;try simp only[Act.put,sA,sB,sC]
  refine Ah 12 ?_;refine Ai (i:=13) k_ rfl k_ (λKK hK=>?_);go_simp;refine hK _ _ ?_;clear hK KK;try simp only[Act.put,sA,sB,sC]
  refine Ak k_ ?_ _;go_wp2;go_meet
  exact⟨rfl,y⟩
 case rest=>
 obtain⟨rfl,aG⟩:=hcut;rw[cM];clear c7 bG cM cL F z2;obtain⟨H0,c8⟩:∃H0:List Int,H0=[71,82,(n:Int)%256,Y%256]:=⟨_,rfl⟩;rw[<- c8] at u ⊢;clear c8
 have bQ:Hid (∀i,(H0++(q.take i).flatMap Pj).length<=1000000):=λi=>by have C:=M.out;rw[u] at C;simp only[Qe] at C ⊢;have:=Rn Pj q i;omega
 go_upto_region 3 with fail;go_loopw [3,4] (λt3 t4 wr=>∃(i:Nat) (S:ByteArray),t3=.string S/\t4=.int .i64 i/\i<=Y/\Hid (S=strOfNums (H0++(q.take i).flatMap Pj))/\Hid (E_ w wr)) (λ_ t4 _=>Y-(intOf t4).toNat)
 case atStart=>exact⟨0,_,rfl,rfl,qg_,by show _=_;simp,aG⟩
 case round=>
  clear aG;obtain⟨i,S,rfl,rfl,hi,c,A⟩:=hrel;have a:=A.out;have y1:=Ac a d1
  by_cases hil:i<Y
  ·have g0:0<=(i:Int):=o_;have g1:i<(Y:Int):=o_;have aY:i<q.length:=(by rw[a7.1];exact hil);obtain⟨qf,dN,ab,cb,aw,cw,e2,f0,f1,f2,f3,oI,oS⟩:=aL.get aY;have d6:af=some ⟨qf,0,none⟩:=(by injection e2);subst d6;clear e2;have L:=HK _ (Nc Ay aY);have HT:Hid ((q.take (i+1)).flatMap Pj=(q.take i).flatMap Pj++Pj (q.getD i Ay)):=Ko Pj q Ay aY;obtain⟨K,hK⟩:=ey_ (q.getD i Ay);rw[hK] at f0 f1 f2 f3 oI oS L HT;have a8:Hid (Pj K=ZfF K.e.wd++[(K.d:Int)%256]++[(((K.e.bs.length+K.e.ww.length:Nat)):Int)%256]++Kb K.e.bs++Km K.e.ww):=Zld L.one;clear hK;generalize Pj K=kA at *;obtain⟨⟨wd,T,G⟩,dd⟩:=K;simp only at f0 f1 f2 f3 oI oS a8;have cX:Hid (∀x∈T,-4294967296<=x/\x<=1000000000000):=L.bs
   have cR:Hid (∀s∈G,s.size<=1000):=L.ww;have dP:dd<=1000000:=L.d;have cF:T.length<=1000:=L.one.1;have bN:G.length<=1000:=L.one.2.1;clear L;have z0:=Ac a f0;have F:=Ac a f1;have z2:=Ac a f2;have z3:=Ac a f3;have aO:Hid (Ag w a5 (.slice ab T.length cb) T/\Cc w a5 (.slice aw G.length cw) G):=⟨oI,oS⟩;clear f0 f1 f2 f3 oI oS;obtain⟨nb,aJ⟩:=ey_ T.length;obtain⟨nw,bB⟩:=ey_ G.length;have a9:Hid (T.length=nb/\G.length=nw):=⟨aJ,bB⟩;rw[aJ] at F aO a8 cF;rw[bB] at z2 aO a8 bN;clear aJ bB;go_upto_region 6 with fail;obtain⟨D,Z⟩:=ex_ (wr.alloc (.cells #[.bool wd,.slice ab nb cb,.slice aw nw cw,I_ dd] 227));rw[<- Z];have aQ:E_ w D:=by rw[Z];exact a.alloc a.size _
   have x0:D.cell? (A_ wr.heap.size 0)=some (.bool wd):=(by rw[Z];simp[go_sem]);have x1:D.cell? (A_ wr.heap.size 1)=some (.slice ab nb cb):=(by rw[Z];simp[go_sem]);have x2:D.cell? (A_ wr.heap.size 2)=some (.slice aw nw cw):=(by rw[Z];simp[go_sem]);have x3:D.cell? (A_ wr.heap.size 3)=some (I_ dd):=(by rw[Z];simp[go_sem]);clear Z y1 z0 F z2 z3 A;generalize wr.heap.size=fb at *;have a1:Hid (E_ w D):=aQ;clear a aQ;obtain⟨kd,aK⟩:∃kd:ByteArray,kd=strOfNums (ZfF wd):=⟨_,rfl⟩;have aT:Hid (kd=strOfNums (ZfF wd)):=aK;go_upto_if 42 with fail
   go_cut [6] (λv wx=>v=.string kd/\wx=D)
   case first=>
    cases wd
    ·have b7:kd={data:=#[110]}:=aK;subst b7;go_wp2;go_meet
     exact⟨rfl,rfl⟩
    have b7:kd={data:=#[119]}:=aK;subst b7;go_wp2;go_meet
    exact⟨rfl,rfl⟩
   case rest=>
   obtain⟨rfl,hw⟩:=hcut;obtain rfl:=hw.symm;clear aK x0;have aH:Hid (∀W,E_ D W->C_ 135 #[.int .i64 dd,.int .i64 1] W λe w'=>e=.returned (.string (strOfNums (Ba dd 1)))/\E_ D w'):=λW hW=>Ea hW _ 1 o_ o_ o_;obtain⟨nn,bP⟩:∃nn:Nat,nn=nb+nw:=⟨_,rfl⟩;rw[<- bP] at a8;have q1:nb+nw=(nn:Int):=o_;have dI:nn<=2000:=o_;clear bP;have aE:Hid (∀W,E_ D W->C_ 135 #[.int .i64 nn,.int .i64 1] W λe w'=>e=.returned (.string (strOfNums (Ba nn 1)))/\E_ D w'):=λW hW=>Ea hW _ 1 o_ o_ o_;obtain⟨H1,bC⟩:∃H1:List Int,H1=H0++(q.take i).flatMap Pj++ZfF wd++[(dd:Int)%256]++[(nn:Int)%256]:=⟨_,rfl⟩
   have bD:Hid (S++kd++strOfNums (Ba dd 1)++strOfNums (Ba nn 1)=strOfNums H1):=(by show _=_;rw[bC,c,aT,Cl,Cl,Cl];rfl);have aS:Hid (H0++(q.take (i+1)).flatMap Pj=H1++Kb T++Km G):=(by show _=_;rw[HT,a8,bC];simp only[List.append_assoc]);have r:S.size<=1000000:=by rw[c,Br];exact bQ i
   have dC:kd.size=1:=by
    rw[aT,Br]
    cases wd<;>rfl
   have H:=Ex (dd:Nat) 1;have l2:=Ex (nn:Nat) 1;have F:¬9223372036854775807<S.size+kd.size:=o_;have z2:¬9223372036854775807<S.size+kd.size+(strOfNums (Ba dd 1)).size:=o_;have z3:¬9223372036854775807<S.size+kd.size+(strOfNums (Ba dd 1)).size+(strOfNums (Ba nn 1)).size:=o_;have aC:Hid ((H1++Kb T++Km G).length<=1000000):=(by rw[<- aS];exact bQ (i+1));have d9:IntKind.i64.wrap nn=nn:=Cb o_ o_;clear bC HT a8 aT c dC H l2;have bX:E_ D D:=bz_;go_upto_region 9 with fail;generalize strOfNums (Ba (dd:Nat) 1)=s1 at *;generalize strOfNums (Ba (nn:Nat) 1)=s2 at *;go_cut [3] (λv wx=>v=.string (S++kd++s1++s2)/\Hid (E_ D wx))
   case first=>
    refine Al (λw'=>w'.cell? (A_ fb 1)=some (.slice ab nb cb)/\w'.cell? (A_ fb 2)=some (.slice aw nw cw)/\w'.cell? (A_ fb 3)=some (I_ (dd:Nat))) 16 k_ ⟨x1,x2,x3⟩ (λhHeld=>?_);refine Ah 0 ?_;refine Ah 1 ?_;refine Ah 2 ?_;refine Ah 3 ?_;refine Ah 4 ?_;refine Ah 7 ?_;refine Ah 8 ?_;refine Ah 9 ?_;refine Ah 10 ?_;refine Ah 11 ?_;refine Ah 12 ?_;refine Ah 13 ?_;refine Af (i:=5) k_ rfl (λKK hK=>?_);go_simp;refine(aH _ bX.drew).mono ?_;rintro e w2 ⟨rfl,m⟩;go_simp;refine hK _ _ ⟨Ac m x1,Ac m x2,Ac m x3⟩ (λhHeld=>?_);clear hK KK;try simp only[Act.put,sA,sB,sC]
    refine Ah 6 ?_;refine Af (i:=14) k_ rfl (λKK hK=>?_);go_simp;refine(aE _ m).mono ?_;rintro e w3 ⟨rfl,y⟩;go_simp;refine hK _ _ ⟨Ac y x1,Ac y x2,Ac y x3⟩ (λhHeld=>?_);clear hK KK;try simp only[Act.put,sA,sB,sC]
    refine Ah 15 ?_;refine Ai (i:=16) k_ rfl k_ (λKK hK=>?_);go_simp;refine hK _ _ ?_;clear hK KK;try simp only[Act.put,sA,sB,sC]
    refine Ak k_ ?_ _;go_wp2;go_meet
    exact⟨rfl,y⟩
   case rest=>
   obtain⟨rfl,aG⟩:=hcut;rw[bD];clear aH aE bD bX x3 q1 d9 F z2 z3 r;go_upto_region 11 with fail;go_loopw [3,7] (λt3 t7 wr=>∃(k:Nat) (S:ByteArray),t3=.string S/\t7=.int .i64 k/\k<=nb/\Hid (S=strOfNums (H1++Kb (T.take k)))/\Hid (E_ D wr)) (λ_ t7 _=>nb-(intOf t7).toNat)
   case atStart=>exact⟨0,_,rfl,rfl,qg_,by show _=_;simp[Kb],aG⟩
   case round=>
    clear aG;obtain⟨k,S2,rfl,rfl,c9,c,A⟩:=hrel;have a:=A.out;have y1:=Ac a x1
    by_cases hkb:k<nb
    ·have k0:0<=(k:Int):=o_;have k1:k<(nb:Int):=o_;have O:k<T.length:=(by rw[a9.1];exact hkb);obtain⟨qb,rfl,_,_,cx⟩:=aO.1.atK a9.1 (k:=k) hkb;have y2:=Ac a (Ac a1 cx.1);have d5:=cX _ (Nc 0 O);have I:Hid (Kb (T.take (k+1))=Kb (T.take k)++Ba (T.getD k 0) 4):=rq O;clear cx;generalize T.getD k 0=x at *;have P:Hid (C_ 135 #[.int .i64 x,.int .i64 4] wr λe w'=>e=.returned (.string (strOfNums (Ba x 4)))/\E_ D w'):=Ea a _ 4 o_ o_ o_;have a0:Hid (S2++strOfNums (Ba x 4)=strOfNums (H1++Kb (T.take (k+1)))):=by show _=_;rw[I,c,Cl,List.append_assoc]
     have r:S2.size<=1000000:=(by rw[c,Br];have C:=aC.out;simp only[Qe,ff,List.length_take] at C ⊢;omega);have H:=Ex x 4;have F:¬9223372036854775807<S2.size+(strOfNums (Ba x 4)).size:=o_;clear I c A d5 H r;generalize strOfNums (Ba x 4)=s3 at *;go_wp2_with fail
     refine P.mono ?_;rintro e w2 ⟨rfl,m⟩;have J:Hid (E_ D w2):=m;clear m P a;go_wp2;go_roundw;case rel=>exact⟨k+1,_,rfl,g_,o_,a0,J⟩
     case measure=>exact z_
    have bF:k=nb:=o_;subst bF;have cD:¬k<(k:Int):=o_;rw[List.take_of_length_le (by rw[a9.1];omega)] at c;obtain⟨H2,cI⟩:∃H2:List Int,H2=H1++Kb T:=⟨_,rfl⟩;rw[<- cI] at c aS aC;clear cI;generalize wr=wa at *;go_upto_region 15 with fail;clear y1 a;go_loopw [3,8] (λt3 t8 wr=>∃(j:Nat) (S:ByteArray),t3=.string S/\t8=.int .i64 j/\j<=nw/\Hid (S=strOfNums (H2++Km (G.take j)))/\Hid (E_ D wr)) (λ_ t8 _=>nw-(intOf t8).toNat)
    case atStart=>exact⟨0,_,rfl,rfl,qg_,by show _=_;rw[c];simp[Km],A⟩
    case round=>
     clear c A;obtain⟨j,R,rfl,rfl,dM,c,A⟩:=hrel;have a:=A.out;have y2:=Ac a x2
     by_cases hjw:j<nw
     ·have j0:0<=(j:Int):=o_;have j1:j<(nw:Int):=o_;have bL:j<G.length:=(by rw[a9.2];exact hjw);obtain⟨qw,rfl,_,cx⟩:=aO.2.atW a9.2 hjw ByteArray.empty;have x4:=Ac a1 cx;have y3:=Ac a x4;have cV:=cR _ (Nc ByteArray.empty bL);have I:Hid (Km (G.take (j+1))=Km (G.take j)++((G.getD j ByteArray.empty).size:Int)%256::Aq (G.getD j ByteArray.empty)):=ux bL _;clear cx;generalize G.getD j ByteArray.empty=t at *;have P:Hid (∀W,E_ D W->C_ 135 #[.int .i64 t.size,.int .i64 1] W λe w'=>e=.returned (.string (strOfNums (Ba t.size 1)))/\E_ D w'):=λW hW=>Ea hW _ 1 o_ o_ o_
      have a0:Hid (R++strOfNums (Ba t.size 1)++t=strOfNums (H2++Km (G.take (j+1)))):=(by show _=_;have h3:=Cl (H2++Km (G.take j)++Ba (t.size:Nat) 1) (Aq t);rw[zw] at h3;rw[I,c,Cl,h3,iz];simp only[List.append_assoc];rfl);have r:R.size<=1000000:=by rw[c,Br];have C:=aC.out;have h2:=Rn (λs=>((s.size:Nat):Int)%256::Aq s) G j;simp only[Qe,Km] at C h2 ⊢;omega
      have H:=Ex (t.size:Nat) 1;have F:¬9223372036854775807<R.size+(strOfNums (Ba t.size 1)).size:=o_;have z2:¬9223372036854775807<R.size+(strOfNums (Ba t.size 1)).size+t.size:=o_;clear I c A cV H r;generalize strOfNums (Ba (t.size:Nat) 1)=s3 at *;go_upto_region 17 with fail;refine Al (λw'=>w'.cell? (A_ fb 2)=some (L_ qw nw cw)/\w'.cell? (A_ qw j)=some (.string t)) 15 k_ ⟨y2,y3⟩ (λhHeld=>?_);refine Ah 0 ?_;refine Ah 1 ?_;refine Ah 2 ?_;refine Ah 3 ?_;refine Ah 4 ?_;refine Ah 5 ?_;refine Ah 6 ?_;refine Ah 9 ?_;refine Ah 10 ?_;refine Ah 11 ?_;refine Ah 12 ?_;refine Ah 13 ?_;refine Af (i:=7) k_ rfl (λKK hK=>?_);go_simp;refine(P _ a.drew).mono ?_;rintro e w2 ⟨rfl,m⟩;go_simp
      refine hK _ _ ⟨Ac m x2,Ac m x4⟩ (λhHeld=>?_);clear hK KK;try simp only[Act.put,sA,sB,sC]
      refine Ah 8 ?_;refine Ah 14 ?_;refine Ai (i:=15) k_ rfl k_ (λKK hK=>?_);go_simp;refine hK _ _ ?_;clear hK KK;try simp only[Act.put,sA,sB,sC]
      refine Ak k_ ?_ _;have J:Hid (E_ D w2):=m;clear m hHeld;clear P a y2 y3;go_wp2;go_roundw;case rel=>exact⟨j+1,_,rfl,g_,o_,a0,J⟩
      case measure=>exact z_
     have c5:j=nw:=o_;subst c5;have dQ:¬j<(j:Int):=o_;rw[List.take_of_length_le (by rw[a9.2];omega),<- aS] at c;have J:Hid (E_ w wr):=a1.trans (a.mono a1.size);clear A a;go_wp2;go_roundw;case rel=>exact⟨i+1,_,rfl,g_,o_,c,J⟩
     case measure=>exact z_
  have bU:i=Y:=o_;subst bU;have dR:¬i<(i:Int):=o_;rw[List.take_of_length_le (by rw[a7.1];omega)] at c;obtain⟨H3,bT⟩:∃H3:List Int,H3=H0++q.flatMap Pj:=⟨_,rfl⟩;rw[<- bT] at c u;clear bT aL HK;have y2:=Ac a d2;have P:Hid (C_ 135 #[.int .i64 V,.int .i64 1] wr λe w'=>e=.returned (.string (strOfNums (Ba V 1)))/\E_ w w'):=Ea a _ 1 o_ o_ o_;obtain⟨H4,aN⟩:∃H4:List Int,H4=H3++[(V:Int)%256]:=⟨_,rfl⟩;have bW:Hid (S++strOfNums (Ba V 1)=strOfNums H4):=(by show _=_;rw[aN,c,Cl];rfl);rw[<- aN] at u
  have r:S.size<=1000000:=by
   rw[c,Br];have C:=M.out;rw[u,aN] at C
   grind
  have H:=Ex (V:Nat) 1;have F:¬9223372036854775807<S.size+(strOfNums (Ba V 1)).size:=o_
  have bE:Hid (∀b,(H4++(l.take b).flatMap Gw).length<=1000000):=λb=>by have C:=M.out;rw[u] at C;simp only[Qe] at C ⊢;have:=Rn Gw l b;omega
  clear aN c H r;generalize strOfNums (Ba (V:Nat) 1)=s1 at *;go_wp2_with fail
  refine P.mono ?_;rintro e w2 ⟨rfl,m⟩;have J:Hid (E_ w w2):=m;clear m P A a y1 y2;go_upto_region 20 with fail;clear F;rw[bW];clear bW;go_loopw [3,9] (λt3 t9 wr=>∃(b:Nat) (S:ByteArray),t3=.string S/\t9=.int .i64 b/\b<=V/\Hid (S=strOfNums (H4++(l.take b).flatMap Gw))/\Hid (E_ w wr)) (λ_ t9 _=>V-(intOf t9).toNat)
  case atStart=>exact⟨0,_,rfl,rfl,qg_,by show _=_;simp,J⟩
  case round=>
   clear J;obtain⟨b,S2,rfl,rfl,hb,c,A⟩:=hrel;have a:=A.out;have y2:=Ac a d2
   by_cases hbb:b<V
   ·have b0:0<=(b:Int):=o_;have b1:b<(V:Int):=o_;have aA:b<l.length:=(by rw[a7.2.1];exact hbb);obtain⟨q2,k2,ag,cg,e2,cB,aF⟩:=b6.2 b (by rw[List.length_map];exact aA);obtain⟨q3,k3,ac,cc,e3,cC,aM⟩:=aV.2 b (by rw[List.length_map];exact aA);have cY:a2=some ⟨q2,0,none⟩:=(by injection e2);have dD:a3=some ⟨q3,0,none⟩:=(by injection e3);subst cY dD;have eF:(l.map BS.fs).getD b []=(l.getD b Dx).fs:=(by simp[List.getD,aA]);have eN:(l.map BS.N).getD b []=(l.getD b Dx).N:=(by simp[List.getD,aA]);rw[eF] at cB aF;rw[eN] at cC aM;have Q:=cQ _ (Nc Dx aA);have HT:Hid ((l.take (b+1)).flatMap Gw=(l.take b).flatMap Gw++Gw (l.getD b Dx)):=Ko Gw l Dx aA;clear e2 e3 eF eN;generalize l.getD b Dx=B at *;obtain⟨E,N,g⟩:=B
    have aZ:Hid (Gw ⟨E,N,g⟩=[(E.length:Int)%256]++Wl E++Lb N g):=rfl;simp only at cB aF cC aM;have b9:N.length=n:=Q.len;have bR:E.length<=1000:=Q.few;have cS:Hid (∀k,E.getD k 0<=1000000):=Q.fl
    have b3:Hid (∀W,E_ w W->C_ 137 #[.pointer (some ⟨db,0,none⟩),.slice ag E.length cg] W λe w'=>e=.returned (.int .i64 g)/\E_ w w'):=λW hW=>by have C:=ui db n cg ag E q W (HV.dk.below hW) (aF.below hW) Q.fk bR;have h2:g=Dv q E:=Q.gs;rw[<- h2] at C;exact C.mono (λ_ _ h=>⟨h.1,hW.trans (h.2.mono hW.size)⟩)
    have b5:Hid (∀W,E_ w W->C_ 136 #[.slice ac N.length cc,.int .i64 g] W λe w'=>e=.returned (.string (strOfNums (Lb N g)))/\E_ w w'):=λW hW=>(Zf0 ac cc g N W (aM.below hW) (by rw[b9];exact hn) Q.g6 Q.val).mono (λ_ _ h=>⟨h.1,hW.trans (h.2.mono hW.size)⟩);have dG:Hid (NuV w ag E):=aF;clear aF aM Q;have aB:=Ac a cB;obtain⟨fl,aI⟩:=ey_ E.length;have cH:Hid (E.length=fl):=aI;rw[aI] at cB bR b3 aZ aB;rw[b9] at cC b5;clear aI b9;have P:Hid (C_ 135 #[.int .i64 fl,.int .i64 1] wr λe w'=>e=.returned (.string (strOfNums (Ba fl 1)))/\E_ w w'):=Ea a _ 1 o_ o_ o_;obtain⟨H5,b8⟩:∃H5:List Int,H5=H4++(l.take b).flatMap Gw++[(fl:Int)%256]:=⟨_,rfl⟩
    have cO:Hid (S2++strOfNums (Ba fl 1)=strOfNums H5):=(by show _=_;rw[b8,c,Cl];rfl);have cE:Hid (H4++(l.take (b+1)).flatMap Gw=H5++Wl E++Lb N g):=(by show _=_;rw[HT,aZ,b8];simp only[List.append_assoc]);have r:S2.size<=1000000:=(by rw[c,Br];exact bE b);have H:=Ex (fl:Nat) 1;have F:¬9223372036854775807<S2.size+(strOfNums (Ba fl 1)).size:=o_;have aC:Hid ((H5++Wl E++Lb N g).length<=1000000):=(by rw[<- cE];exact bE (b+1));clear b8 c HT aZ H r;generalize strOfNums (Ba (fl:Nat) 1)=s1 at *;go_wp2_with fail
    refine P.mono ?_;rintro e w3 ⟨rfl,y⟩;have aD:Hid (E_ w w3):=y;clear y P A a y2 aB;go_upto_region 24 with fail;clear F;rw[cO];clear cO;go_loopw [3,10] (λt3 t10 wr=>∃(k:Nat) (S:ByteArray),t3=.string S/\t10=.int .i64 k/\k<=fl/\Hid (S=strOfNums (H5++Wl (E.take k)))/\Hid (E_ w wr)) (λ_ t10 _=>fl-(intOf t10).toNat)
    case atStart=>exact⟨0,_,rfl,rfl,qg_,by show _=_;simp[Wl],aD⟩
    case round=>
     clear aD;obtain⟨k,R,rfl,rfl,c9,c,A⟩:=hrel;have a:=A.out;have y2:=Ac a d2;have aB:=Ac a cB
     by_cases hkf:k<fl
     ·have k0:0<=(k:Int):=o_;have k1:k<(fl:Int):=o_;have O:k<E.length:=(by rw[cH];exact hkf);obtain⟨qg,rfl,cx⟩:=dG k O;have y4:=Ac a cx;have dJ:=cS k;have I:Hid (Wl (E.take (k+1))=Wl (E.take k)++[((E.getD k 0:Nat):Int)%256]):=Zaz O;clear cx;generalize E.getD k 0=f at *;have P:Hid (C_ 135 #[.int .i64 f,.int .i64 1] wr λe w'=>e=.returned (.string (strOfNums (Ba f 1)))/\E_ w w'):=Ea a _ 1 o_ o_ o_;have a0:Hid (R++strOfNums (Ba f 1)=strOfNums (H5++Wl (E.take (k+1)))):=(by show _=_;rw[I,c,Cl,List.append_assoc];rfl);have r:R.size<=1000000:=by rw[c,Br];have C:=aC.out;simp only[Qe,Wl,List.length_map,List.length_take] at C ⊢;omega
      have H:=Ex (f:Nat) 1;have F:¬9223372036854775807<R.size+(strOfNums (Ba f 1)).size:=o_;clear I c A H r;generalize strOfNums (Ba (f:Nat) 1)=s3 at *;go_wp2_with fail
      refine P.mono ?_;rintro e w4 ⟨rfl,o⟩;have U:Hid (E_ w w4):=o;clear o P a y2 aB y4;go_wp2;go_roundw;case rel=>exact⟨k+1,_,rfl,g_,o_,a0,U⟩
      case measure=>exact z_
     have bI:k=fl:=o_;subst bI;have cD:¬k<(k:Int):=o_;rw[List.take_of_length_le (by rw[cH];omega)] at c;have dB:Hid (R++strOfNums (Lb N g)=strOfNums (H4++(l.take (b+1)).flatMap Gw)):=(by show _=_;rw[cE,c,Cl]);have F:¬9223372036854775807<R.size+(strOfNums (Lb N g)).size:=by rw[c,Br,Br];have C:=aC.out;simp only[Qe] at C ⊢;omega
     clear c;generalize strOfNums (Lb N g)=s4 at *;go_upto_region 27 with fail;have y3:=Ac a d3;have cG:=Ac a cC;refine Al (λw'=>w'.cell? (A_ db 2)=some (L_ q2 V c2)/\w'.cell? (A_ db 3)=some (L_ q3 V c3)/\w'.cell? (A_ q2 b)=some (.slice ag k cg)/\w'.cell? (A_ q3 b)=some (.slice ac n cc)) 19 k_ ⟨y2,y3,aB,cG⟩ (λhHeld=>?_);refine Ah 0 ?_;refine Ah 1 ?_;refine Ah 2 ?_;refine Ah 3 ?_;refine Ah 4 ?_;refine Ah 5 ?_;refine Ah 6 ?_;refine Ah 7 ?_;refine Ah 8 ?_;refine Ah 9 ?_;refine Ah 10 ?_;refine Ah 11 ?_;refine Ah 12 ?_;refine Ah 13 ?_;refine Ah 14 ?_;refine Ah 15 ?_;refine Af (i:=16) k_ rfl (λKK hK=>?_);go_simp;refine(b3 _ a.drew).mono ?_;rintro e w4 ⟨rfl,o⟩;go_simp;refine hK _ _ ⟨Ac o d2,Ac o d3,Ac o cB,Ac o cC⟩ (λhHeld=>?_)
     clear hK KK;try simp only[Act.put,sA,sB,sC]
     refine Af (i:=17) k_ rfl (λKK hK=>?_);go_simp;refine(b5 _ o).mono ?_;rintro e w5 ⟨rfl,z⟩;go_simp;refine hK _ _ ⟨Ac z d2,Ac z d3,Ac z cB,Ac z cC⟩ (λhHeld=>?_);clear hK KK;try simp only[Act.put,sA,sB,sC]
     refine Ah 18 ?_;refine Ai (i:=19) k_ rfl k_ (λKK hK=>?_);go_simp;refine hK _ _ ?_;clear hK KK;try simp only[Act.put,sA,sB,sC]
     refine Ak k_ ?_ _;have U:Hid (E_ w w5):=z;clear z hHeld;clear o b3 b5 A a y2 aB y3 cG;go_wp2;go_roundw;case rel=>exact⟨b+1,_,rfl,g_,o_,dB,U⟩
     case measure=>exact z_
   have cN:b=V:=o_;subst cN;have aJ:¬b<(b:Int):=o_;rw[List.take_of_length_le (by rw[a7.2.1];omega)] at c;obtain⟨H6,bM⟩:∃H6:List Int,H6=H4++l.flatMap Gw:=⟨_,rfl⟩;rw[<- bM] at c u;clear bM b6 aV;have y4:=Ac a d4;have P:Hid (C_ 135 #[.int .i64 lx,.int .i64 2] wr λe w'=>e=.returned (.string (strOfNums (Ba lx 2)))/\E_ w w'):=Ea a _ 2 o_ o_ o_;obtain⟨H7,aP⟩:∃H7:List Int,H7=H6++Ba lx 2:=⟨_,rfl⟩;have bO:Hid (S2++strOfNums (Ba lx 2)=strOfNums H7):=(by show _=_;rw[aP,c,Cl]);rw[<- aP] at u;have r:S2.size<=1000000:=by rw[c,Br];have C:=M.out;rw[u,aP] at C;simp only[Qe] at C ⊢;omega
   have H:=Ex (lx:Nat) 2;have F:¬9223372036854775807<S2.size+(strOfNums (Ba lx 2)).size:=o_
   have cU:Hid (∀k,(H7++(X.take k).flatMap xB).length<=1000000):=λk=>by have C:=M.out;rw[u] at C;simp only[Qe] at C ⊢;have:=Rn xB X k;omega
   clear aP c H r;generalize strOfNums (Ba (lx:Nat) 2)=s1 at *;go_wp2_with fail
   refine P.mono ?_;rintro e w3 ⟨rfl,y⟩;have aD:Hid (E_ w w3):=y;clear y P A a y2 y4;go_upto_region 30 with fail;clear F;rw[bO];clear bO;go_loopw [3,11] (λt3 t11 wr=>∃(k:Nat) (S:ByteArray),t3=.string S/\t11=.int .i64 k/\k<=lx/\Hid (S=strOfNums (H7++(X.take k).flatMap xB))/\Hid (E_ w wr)) (λ_ t11 _=>lx-(intOf t11).toNat)
   case atStart=>exact⟨0,_,rfl,rfl,qg_,by show _=_;simp,aD⟩
   case round=>
    clear aD;obtain⟨k,R,rfl,rfl,c9,c,A⟩:=hrel;have a:=A.out;have y4:=Ac a d4
    by_cases hkx:k<lx
    ·have k0:0<=(k:Int):=o_;have k1:k<(lx:Int):=o_;have aU:k<X.length:=(by rw[a7.2.2];exact hkx);obtain⟨qx,cx,ex,x0,x1,x2⟩:=bY.2 k aU;have cP:a4=some ⟨qx,0,none⟩:=(by injection ex);subst cP;clear ex;have c6:=HX _ (Nc Fk aU);have HT:Hid ((X.take (k+1)).flatMap xB=(X.take k).flatMap xB++xB (X.getD k Fk)):=Ko xB X Fk aU;generalize X.getD k Fk=x at *;obtain⟨xr,xf,xb⟩:=x;simp only at x0 x1 x2 c6;obtain⟨dL,dO,dK⟩:=c6;have z0:=Ac a x0;have F:=Ac a x1;have z2:=Ac a x2;have aH:Hid (∀W,E_ w W->C_ 135 #[.int .i64 xr,.int .i64 1] W λe w'=>e=.returned (.string (strOfNums (Ba xr 1)))/\E_ w w'):=λW hW=>Ea hW _ 1 o_ o_ o_
     have aE:Hid (∀W,E_ w W->C_ 135 #[.int .i64 xf,.int .i64 1] W λe w'=>e=.returned (.string (strOfNums (Ba xf 1)))/\E_ w w'):=λW hW=>Ea hW _ 1 o_ o_ o_;have bV:Hid (∀W,E_ w W->C_ 135 #[.int .i64 xb,.int .i64 1] W λe w'=>e=.returned (.string (strOfNums (Ba xb 1)))/\E_ w w'):=λW hW=>Ea hW _ 1 o_ o_ o_;have a0:Hid (R++strOfNums (Ba xr 1)++strOfNums (Ba xf 1)++strOfNums (Ba xb 1)=strOfNums (H7++(X.take (k+1)).flatMap xB)):=by show _=_;rw[HT,c,Cl,Cl,Cl];simp only[List.append_assoc];rfl
     have r:R.size<=1000000:=(by rw[c,Br];exact cU k);have H:=Ex (xr:Nat) 1;have l2:=Ex (xf:Nat) 1;have l3:=Ex (xb:Nat) 1;have u1:¬9223372036854775807<R.size+(strOfNums (Ba xr 1)).size:=o_;have u2:¬9223372036854775807<R.size+(strOfNums (Ba xr 1)).size+(strOfNums (Ba xf 1)).size:=o_;have u3:¬9223372036854775807<R.size+(strOfNums (Ba xr 1)).size+(strOfNums (Ba xf 1)).size+(strOfNums (Ba xb 1)).size:=o_;clear HT c H l2 l3 r;generalize strOfNums (Ba (xr:Nat) 1)=t1 at *;generalize strOfNums (Ba (xf:Nat) 1)=t2 at *;generalize strOfNums (Ba (xb:Nat) 1)=t3 at *;go_upto_region 32 with fail
     refine Al (λw'=>w'.cell? (A_ db 4)=some (L_ qx lx c4)/\w'.cell? (A_ qx (k*3))=some (I_ (xr:Nat))/\w'.cell? (A_ qx (k*3+1))=some (I_ (xf:Nat))/\w'.cell? (A_ qx (k*3+2))=some (I_ (xb:Nat))) 31 k_ ⟨y4,z0,F,z2⟩ (λhHeld=>?_);refine Ah 0 ?_;refine Ah 1 ?_;refine Ah 2 ?_;refine Ah 3 ?_;refine Ah 4 ?_;refine Ah 5 ?_;refine Ah 6 ?_;refine Ah 7 ?_;refine Ah 8 ?_;refine Ah 11 ?_;refine Ah 12 ?_;refine Ah 13 ?_;refine Ah 14 ?_;refine Ah 15 ?_;refine Ah 16 ?_;refine Ah 17 ?_;refine Ah 18 ?_;refine Ah 21 ?_;refine Ah 22 ?_;refine Ah 23 ?_;refine Ah 24 ?_;refine Ah 25 ?_;refine Ah 26 ?_;refine Ah 27 ?_;refine Ah 28 ?_;refine Af (i:=9) k_ rfl (λKK hK=>?_);go_simp;refine(aH _ a.drew).mono ?_;rintro e w4 ⟨rfl,o⟩;go_simp
     refine hK _ _ ⟨Ac o d4,Ac o x0,Ac o x1,Ac o x2⟩ (λhHeld=>?_);clear hK KK;try simp only[Act.put,sA,sB,sC]
     refine Ah 10 ?_;refine Af (i:=19) k_ rfl (λKK hK=>?_);go_simp;refine(aE _ o).mono ?_;rintro e w5 ⟨rfl,z⟩;go_simp;refine hK _ _ ⟨Ac z d4,Ac z x0,Ac z x1,Ac z x2⟩ (λhHeld=>?_);clear hK KK;try simp only[Act.put,sA,sB,sC]
     refine Ah 20 ?_;refine Af (i:=29) k_ rfl (λKK hK=>?_);go_simp;refine(bV _ z).mono ?_;rintro e w6 ⟨rfl,a6⟩;go_simp;refine hK _ _ ⟨Ac a6 d4,Ac a6 x0,Ac a6 x1,Ac a6 x2⟩ (λhHeld=>?_);clear hK KK;try simp only[Act.put,sA,sB,sC]
     refine Ah 30 ?_;refine Ai (i:=31) k_ rfl k_ (λKK hK=>?_);go_simp;refine hK _ _ ?_;clear hK KK;try simp only[Act.put,sA,sB,sC]
     refine Ak k_ ?_ _;have U:Hid (E_ w w6):=a6;clear a6 hHeld;clear o z aH aE bV A a y4 z0 F z2;go_wp2;go_roundw;case rel=>exact⟨k+1,_,rfl,g_,o_,a0,U⟩
     case measure=>exact z_
    have cJ:k=lx:=o_;subst cJ;have cD:¬k<(k:Int):=o_;rw[List.take_of_length_le (by rw[a7.2.2];omega),<- u] at c;have dH:=c.out;subst dH;clear c u;have bZ:=dE wr;go_wp2_with fail
    refine bZ.mono ?_;rintro e w4 ⟨rfl,o⟩;have U:Hid (E_ w w4):=a.trans (o.mono a.size);clear o bZ A a y4;go_wp2;go_ret;exact⟨rfl,U⟩
section
variable {m n budget:Nat} {es:List ES} {Bb:List (List Nat)}
def ZgW(c:Po m n es Bb){g}(b:g<m+1) r:(Bb.getD g []).getD r 0<((Eb es Bb (m+1)).getD g Ay).many:=by
 rw[Fi es Bb b];show _<(es.getD g Ph).cnt+2;rw[Qc]
 rcases Nat.lt_or_ge r (Bb.getD g []).length with a|a
 rw[Qd a];exact c.bin g b _ (Qf _)
 grind
def ZlQ(c:Po m n es Bb){r}(d:r<n){g}(a:g<m+1):((Gh es Bb (m+1)).getD g []).getD r false=sO (Eb es Bb (m+1)) Bb g r:=by unfold sO;rw[Li es Bb a,Fi es Bb a];have b:r<(Bb.getD g []).length:=(by rw[c.lb g a];exact d);unfold oF Dc;rw[Qc,List.getElem?_map,Qd b,Qc (l:=Bb.getD g []),Qd b];rfl
def ZeI:(Ao m n budget es Bb).ks=Eb es Bb (m+1):=Ky _ _ _ _ _
def yx:(Ao m n budget es Bb).ks.length=m+1:=by rw[ZeI];exact Di _ _ _
def Zka:(Ao m n budget es Bb).bs.map BS.fs=Dq (Ha m (Eb es Bb (m+1)) (Gh es Bb (m+1)) n budget):=by
  have:=az (Gh es Bb (m+1)) Bb n (Eb es Bb (m+1)) (Ha m (Eb es Bb (m+1)) (Gh es Bb (m+1)) n budget) ⟨Eb es Bb (m+1),[],[]⟩;unfold Ao Ew
  simpa using this
def Zkb{G}(c:G∈Ha m (Eb es Bb (m+1)) (Gh es Bb (m+1)) n budget){f}(b:f∈G.fs):f<m+1:=by
 have a:f∈Fh (Ha m (Eb es Bb (m+1)) (Gh es Bb (m+1)) n budget):=by grind [Fh]
 grind [Ng]
def ZiV(j:Po m n es Bb){X}(p:X.Perm (Ao m n budget es Bb).xs){f r}(k:f<m+1)(l:r<n):xbF X f r (Jr (Ao m n budget es Bb).ks ((Ao m n budget es Bb).bs.map BS.fs) ((Ao m n budget es Bb).bs.map BS.N) r f)=(Bb.getD f []).getD r 0:=by
 have b:=Di es Bb (m+1);have o:∀r,_->∀g,g<(Eb es Bb (m+1)).length->_=sO _ _ g r:=λr l g hg=>ZlQ j l o_;have h:=Zar (n:=n) b (Ng m (Eb es Bb (m+1)) _ n _) (Tt m _ (Gh es Bb (m+1)) n budget) (λi hi r=>ZgW j hi r) o;have c:=Zaq (n:=n) (Gs:=Ha m (Eb es Bb _) _ n budget) (λG hG f k=>by rw[b];exact Zkb hG k) (λi hi r=>ZgW j o_ r) o;have a:(Ao m n _ _ _).bs.map _=_:=c;rw[ZeI,Zka,a];have d:=λx=>p.mem_iff.trans (h x);unfold xbF
 cases hfd:X.find? (λy=>decide (rl r f y)) with
 | some y=>
  grind
 | none=>
  rw[List.find?_eq_none] at hfd
  by_cases e:Jr (Eb es Bb (m+1)) (Dq (Ha m (Eb es Bb (m+1)) (Gh es Bb (m+1)) n budget)) ((Dq (Ha m (Eb es Bb (m+1)) (Gh es Bb (m+1)) n budget)).map (λfs=>He (Eb es Bb (m+1)) Bb fs n)) r f=(Bb.getD f []).getD r 0
  exact e;exact absurd (decide_eq_true (show rl r f _ from⟨rfl,rfl⟩)) (hfd _ ((d ⟨r,f,(Bb.getD f _).getD r 0⟩).2 ⟨l,k,decide_eq_true e,rfl⟩))
end
def bv{α:Type}(f:α->List Int) c:∀(L:List α),(∀x∈L,(f x).length<=c)->(L.flatMap f).length<=L.length*c
 |[],_=>s_
 |x::L,h=>by have h1:=h x s_;have h2:=bv f c L (λy hy=>h y (by simp[hy]));rw[List.flatMap_cons,Qe,List.length_cons,Nat.succ_mul];omega
def Zii{n D}(a:Mv n D)(c:∀K∈D.ks,od K){X}(d:X.Perm D.xs):(Ob D X).length<=100000:=by have g:=bv Pj _ _ (λK hK=>ZeC (c K hK));have h:=bv _ _ _ (λb hb=>(a.bun b hb).2.2.2.2);have f:=bv xB 3 X (λx _=>qa_);have i:=a.k4;have j:=a.b4;have e:=a.xl;rw[<- d.length_eq] at e;unfold Ob;simp only[Qe,List.length_cons,List.length_nil,Gc];omega
def ZbE{m n a d c}(P:m+1<=4)(E:n<=200)(g:Po m n d c)(j:∀K∈(Ao m n a d c).ks,od K)(v:∀K∈(Ao m n a d c).ks,∀x∈K.e.bs,-4294967296<=x){X}(A:X.Perm (Ao m n a d c).xs) F t L M H Q C B D w (h:RfX w t F n L M H Q C B D (Ao m n a d c).ks ((Ao m n a d c).bs.map BS.fs) ((Ao m n a d c).bs.map BS.N) X):C_ 76 #[.pointer (some ⟨F,0,none⟩)] w λe w'=>e=.returned (.string (strOfNums (Mm (Ao m n a d c) X)))/\Below w.heap.size w w':=by
 have f:=Jm (a:=a) P E g;have p:=Zii f j A;have o:=ZeT (Ao m n a d c) X;have q:=(f.bok _ (f.mem f.b0)).len;have z:Mm (Ao m n a d c) X=Sg n (Ao m n a d c).ks (Ao m n a d c).bs X++Ba (Jv (Sg n (Ao m n a d c).ks (Ao m n a d c).bs X)) 4:=(by unfold Mm Ob Sg;rw[q]);have u:Ob (Ao m n a d c) X=Sg n (Ao m n a d c).ks (Ao m n a d c).bs X:=(by unfold Ob Sg;rw[q]);rw[u] at p o;rw[z];have J:=f.mn;have I:=f.k4;refine Zdu _ _ n _ _ _ _ _ _ _ _ _ X w h (λK hK=>?_) (λb hb=>?_) o_ (by have:=f.b4;omega) (by rw[A.length_eq];have:=f.xl;omega) (λx hx=>?_) E o_ o
 ·obtain⟨i,y,rfl⟩:=List.getElem_of_mem hK;have e:(Ao m n a d c).ks.getD i Ay=(Ao m n a d c).ks[i]:=w_;have l:=h.one i y;have G:=f.mn i y;have O:=f.dn i y;rw[e] at l G O;refine⟨l,λx hx=>⟨v _ hK x hx,?_⟩,λs hs=>?_,o_⟩
  ·rcases j _ hK with h|h
   ·grind
   grind
  rcases j _ hK with h|h
  ·grind
  grind
 ·have l:=f.bok b hb;have G:=f.g40 b hb;refine⟨l.len,by have:=f.f4 b hb;omega,f.fk b hb,λk=>?_,l.sum,o_,λr=>?_⟩
  ·rw[Qc]
   rcases Nat.lt_or_ge k b.fs.length with g|g
   ·rw[Qd g];have:=f.fk b hb _ (Qf g)
    grind
   grind
  rw[Qc]
  rcases Nat.lt_or_ge r b.N.length with g|g
  ·rw[Qd g];have:=l.le _ (Qf g)
   grind
  grind
 have:=f.xin x (A.subset hx);omega
def Fx(w w':World)(o:Nat->Nat)(g N:Nat)(c:Array Value):Prop:=∃o' c',Hx w' o' g c' N/\Dr w o o'/\Aa (λk=>o k<=13∨o k=99) w w'/\(∀j,j<4->c'[j]? =c[j]?)/\(∀k,w.heap.size<=k∨o k=99->o' k<=13∨o' k=99)/\∀k,w'.heap.size<=k->o' k=99
def Hx.norm{w o g N c}(h:Hx w o g c N):Hx w (λk=>if k<w.heap.size then o k else 99) g c N:=
 h.keep (S:=λ_=>False) (Aa.refl _ _) (λ_ _ e=>e.elim) (λk hk=>.inr (by simp[hk]))
def Hx.more{w o g N b c}(h:Hx w o g c N)(a:N<=b):Hx w o g c b:=by obtain⟨z,f,d,i⟩:=h.nx;exact⟨h.wb,h.og,h.sz,⟨z,f,d,o_⟩,h.es.keep (S:=λ_=>False) (Aa.refl _ _) (λ_ _ e=>e.elim) (Dr.refl _ _) d_ rfl rfl a,h.ns.keep (S:=λ_=>False) (Aa.refl _ _) (λ_ _ e=>e.elim) (Dr.refl _ _) d_ rfl rfl a,h.ss.keep (S:=λ_=>False) (Aa.refl _ _) (λ_ _ e=>e.elim) (Dr.refl _ _) d_ rfl rfl a,h.ls.keep (S:=λ_=>False) (Aa.refl _ _) (λ_ _ e=>e.elim) (Dr.refl _ _) d_ rfl rfl a⟩
def Fx.of_q2{w a o g N c}(h:Lt w a o g N c){b}(m:N<=b):Fx w a o g b c:=by
 obtain⟨n,f,j,i,d,l,q,p⟩:=h;have r:=d.size;refine⟨_,f,j.norm.more m,λk hk=>?_,d,l,λk hk=>?_,λk hk=>w_⟩
 ·rcases i k hk with e|e
  exact .inl e
  grind
 grind
def Fx.of_below{w w' o g N c}(h:Hx w o g c N)(hb:Below w.heap.size w w')(h9:∀k,w.heap.size<=k->o k=99){N'}(hN:N<=N'):Fx w w' o g N' c:=
 ⟨o,c,(h.keep (S:=λ_=>False) (.of_below hb) (λ_ _ e=>e.elim) (Dr.refl _ _)).more hN,Dr.refl _ _,.of_below hb,λ_ _=>rfl,λk hk=>.inr (hk.elim (h9 k) id),λk hk=>h9 k (Nat.le_trans hb.size hk)⟩
def Fx.trans{w b f o a g N c m}(l:Dr w o a)(d:Aa (λk=>o k<=13∨o k=99) w b)(u:∀j,j<4->m[j]? =c[j]?)(x:∀k,w.heap.size<=k∨o k=99->a k<=13∨a k=99)(h:Fx b f a g N m):Fx w f o g N c:=by
 obtain⟨n,s,v,i,q,t,y,p⟩:=h;refine⟨n,s,v,l.trans d.size i,d.trans2 q (λk hk=>?_),λj hj=>(t j hj).trans (u j hj),λk hk=>?_,p⟩
 ·by_cases hl:k<w.heap.size
  ·left
   rcases l k hl with e|e
   exact .inr e;omega
  omega
 rcases x k hk with e|e
 ·by_cases hl:k<b.heap.size
  ·rcases i k hl with r|r
   omega;omega
  grind
 grind
structure Jx(W:World)(dp gb db yb base m n budget:Nat)(es)(Bb)(vF vB vC vX)(kvs)(bvs cvs)(X):Prop where
 dp:W.heap[dp]? =some (.cells #[P_ gb,P_ yb] 137 (0,0))
 x:My W gb db (Ao m n budget es Bb)
 y:RfX W base yb n vF vB vC vX kvs bvs cvs (Ao m n budget es Bb).ks ((Ao m n budget es Bb).bs.map BS.fs) ((Ao m n budget es Bb).bs.map BS.N) X
structure On(m n budget)(es)(Bb)(X:List XS):Prop where
 hm:m+1<=4
 hn:n<=200
 hk:Po m n es Bb
 kn:∀K∈(Ao m n budget es Bb).ks,od K
 kr:∀K∈(Ao m n budget es Bb).ks,∀x∈K.e.bs,-4294967296<=x
 pm:X.Perm (Ao m n budget es Bb).xs
 so:Fp X
section
variable {w w':World} {dp gb db yb base m n budget:Nat} {es:List ES} {Bb:List (List Nat)} {vF vB vC vX:Value} {kvs:List (Value×Value)} {bvs cvs:List Value} {X:List XS}
def Jx.below(h:Jx w dp gb db yb base m n budget es Bb vF vB vC vX kvs bvs cvs X)(hb:Below w.heap.size w w'):Jx w' dp gb db yb base m n budget es Bb vF vB vC vX kvs bvs cvs X:=
 ⟨(hb.block _ (Qb h.dp).1).trans h.dp,h.x.below hb,h.y.keep (.of_below hb)⟩
def Jx.cells(h:Jx w dp gb db yb base m n budget es Bb vF vB vC vX kvs bvs cvs X):w.cell? (A_ dp 0)=some (P_ gb)/\w.cell? (A_ dp 1)=some (P_ yb)/\w.cell? (A_ yb 0)=some (I_ n)/\w.cell? (A_ yb 1)=some vF/\w.cell? (A_ yb 2)=some vB:=
 ⟨cq_ 0 _ 137 (0,0) h.dp,cq_ 1 _ 137 (0,0) h.dp,cq_ 0 _ 142 (0,0) h.y.ds,cq_ 1 _ 142 (0,0) h.y.ds,cq_ 2 _ 142 (0,0) h.y.ds⟩
def Zcq g C v b d c x y l B A q t D u p wc s (h:Jx w dp gb db yb base m n budget es Bb vF vB vC vX kvs bvs cvs X)(j:On m n budget es Bb X):C_ 77 #[.pointer (some ⟨g,0,none⟩),.pointer (some ⟨dp,0,none⟩),.agg #[.int .i64 8,.int .i64 C,.int .i64 v,.slice l q t,.int .i64 b,.int .i64 d,.int .i64 c,.slice B D u,.slice A p wc,.string s,.int .i64 x,.int .i64 y]] w λe w'=>e=.returned (.bool true)/\Below w.heap.size w w':=by
 have G:=x1_ (Jm (budget:=budget) j.hm j.hn j.hk);have k:Hid (∀W,Below _ w W->_):=λW hW=>h.below hW;clear h j;go_enter Tryz.func77,Tryz.ntmps77;go_upto_region 3 with fail;generalize hw1:w.alloc (.cells #[I_ 8,I_ C,I_ v,.slice l q t,I_ b,I_ d,I_ c,.slice B D u,.slice A p wc,.string s,I_ x,I_ y] 93)=w1;have a:E_ w w1:=(by rw[<- hw1];exact bA_);clear hw1;obtain⟨F,o,r,_,_⟩:=(k w1 a).cells;have z:=Zc6 _ _ n _ _ (k _ a).x G;clear o r;go_wp2_with fail
 refine z.mono ?_;rintro e H ⟨rfl,i⟩;have f:=a.trans (i.mono a.size);obtain⟨_,o,r,_,_⟩:=(k H f).cells;have E:=x1_ f;clear f i a z F;go_wp2;go_ret;exact⟨s_,E⟩
def Zat g j q r d f i x y t E s v A F B u wc z (h:Jx w dp gb db yb base m n budget es Bb vF vB vC vX kvs bvs cvs X)(o:On m n budget es Bb X)(P:j≠8)(N:j≠9)(I:j≠10)(L:j≠11):C_ 77 #[.pointer (some ⟨g,0,none⟩),.pointer (some ⟨dp,0,none⟩),.agg #[.int .i64 j,.int .i64 q,.int .i64 r,.slice t v A,.int .i64 d,.int .i64 f,.int .i64 i,.slice E F B,.slice s u wc,.string z,.int .i64 x,.int .i64 y]] w λe w'=>e=.returned (.bool true)/\Below w.heap.size w w':=by
 have c:=x2_ (Jm (budget:=budget) o.hm o.hn o.hk) o;have p:Hid (∀W,Below _ w W->_):=λW hW=>h.below hW;clear h o;go_enter Tryz.func77,Tryz.ntmps77;go_upto_region 26 with fail;generalize hw1:w.alloc (.cells #[I_ j,I_ q,I_ r,.slice t v A,I_ d,I_ f,I_ i,.slice E F B,.slice s u wc,.string z,I_ x,I_ y] 93)=w1;have b:E_ w w1:=(by rw[<- hw1];exact bA_);clear hw1;obtain⟨H,_,_,_,_⟩:=(p w1 b).cells;have C:=ZaW _ _ n _ _ (p _ b).x c.1 c.2.kn X c.2.pm c.2.so;have D:=x1_ (λW hW=>ZbE c.2.hm c.2.hn c.2.hk c.2.kn c.2.kr c.2.pm _ _ _ _ _ _ _ _ _ W (p W hW).y);generalize strOfNums (Mm (Ao m n budget es Bb) X)=sb at *;go_wp2_with fail
 refine C.mono ?_;rintro e J ⟨rfl,l⟩;have a:=b.trans (l.mono b.size);obtain⟨_,M,_,_,_⟩:=(p J a).cells;clear l b C H;go_wp2_with fail
 refine(D _ a).mono ?_;rintro e O ⟨rfl,k⟩;have G:=x1_ (a.trans (k.mono a.size));clear k a M D;go_wp2;go_ret;exact⟨s_,G⟩
end
def Dd.keep{w d c n e g f S}(h:Dd w c 0 n e g f)(t:Aa S w d)(k:¬S c)(j:c<w.heap.size):Dd d c 0 n e g f:=by have b:=λo=>cb_ (w:=w) (a:=(A_ c o)) (t.block _ j k);exact⟨h.le,λh0=>Qh (h.lt h0) t.size,λi hi=>(b _).trans (h.c0 i hi),λi hi=>(b _).trans (h.c1 i hi),λi hi=>(b _).trans (h.c2 i hi)⟩
section
variable {w w':World} {o o':Nat->Nat} {t ib yb fk fc m:Nat} {wd:Nat->Bool} {sc ct:Nat->Int} {bins:Int} {size budget:Nat} {T b:ByteArray} {cl:Bool}
def Kx(w:World)(o:Nat->Nat)(t yb fk fc m:Nat)(wd:Nat->Bool)(sc ct:Nat->Int)(bins:Int)(size budget:Nat)(T:ByteArray)(cl:Bool):Prop:=
 o yb=t/\o fk=t/\fk≠yb/\fk<w.heap.size/\Dd w fk 0 (m+1) wd sc ct/\∃S z p,mt w yb fk (m+1) fc bins size budget S z p cl/\(cl=false->S=T/\z=(Nr (Mf m wd sc T)).1/\p=(Nr (Mf m wd sc T)).2)
def Kx.lt(h:Kx w o t yb fk fc m wd sc ct bins size budget T cl):yb<w.heap.size:=by obtain⟨_,_,_,_,_,S,z,p,a,_⟩:=h;exact(Qb a).1
def Kx.keep{S}(h:Kx w o t yb fk fc m wd sc ct bins size budget T cl)(c:Aa S w w')(i:∀k,k<w.heap.size->S k->o k≠t)(l:Dr w o o')(v:t≠99):Kx w' o' t yb fk fc m wd sc ct bins size budget T cl:=by
 have a:=h.lt;obtain⟨d,g,j,b,r,q,z,p,s,u⟩:=h
 have f:∀k,k<w.heap.size->o k=t->o' k=t:=λk hk e=>by rcases l k hk with n|n<;>omega
 exact⟨f _ a d,f _ b g,j,Qh b c.size,r.keep c (λe=>i _ b e g) b,q,z,p,c.at_ s (λe=>i _ a e d),u⟩
def feedY(A:Sk m wd sc ct bins size budget)(h:Kx w o t yb fk fc m wd sc ct bins size budget T cl)(y:t≠99)(H:T.size+b.size<=200000000000000):C_ 125 #[.pointer (some ⟨yb,0,none⟩),.string b] w λe w'=>e=.returned (.tuple #[.int .i64 (fdZ m wd sc (Ws m wd sc T b cl) cl).1,.int .i64 (fdZ m wd sc (Ws m wd sc T b cl) cl).2])/\Kx w' (Db w w' o t) t yb fk fc m wd sc ct bins size budget (Ws m wd sc T b cl) cl/\Aa (λk=>o k=t) w w':=by
 have v:=h;have r:=h.lt;obtain⟨B,D,n,j,C,a,z,p,g,E⟩:=h;have F:=A.hm
 cases cl with
 | true=>
  refine(zl _ _ _ _ _ _ _ z p _ b w g).mono ?_;rintro e w' ⟨rfl,rfl⟩;have f:Ws m wd sc T b true=T:=rfl;rw[f];exact⟨rfl,v.keep (S:=λ_=>False) (Aa.refl _ _) (λ_ _ e=>e.elim) (Ep _ _ _ _) y,Aa.refl _ _⟩
 | false=>
  obtain⟨rfl,rfl,rfl⟩:=E rfl
  cases hs2:Mf m wd sc a with
  | error q=>
   obtain⟨z,p⟩:=q;have G:=Lk _ _ _ hs2;rw[hs2] at g;refine(ZbG _ _ _ _ _ _ _ z p _ b w g o_).mono ?_;rintro e w' ⟨rfl,x,rfl⟩;have f:Ws m wd sc a b false=a:=(by unfold Ws;rw[hs2];rfl);have l:fdZ m wd sc a false=(z,(p:Int)):=(by unfold fdZ;rw[hs2];rfl);have i:E_ w _:=below_drewN bz_ x;rw[f,l];exact⟨rfl,v.keep (S:=λ_=>False) (.of_below i) (λ_ _ e=>e.elim) (Ep _ _ _ _) y,.of_below i⟩
  | ok s=>
   rw[hs2] at g;have f:Ws m wd sc a b false=a++b:=(by unfold Ws;rw[hs2];rfl);have l:fdZ m wd sc (a++b) false=fdA (a++b) (Je (a++b) (m+1) wd sc ((a++b).size+1) [] 0):=(by unfold fdZ;rw[ZcT _ _ _ _ o_];rfl);rw[f,l];refine(Zf1 _ _ _ _ _ _ _ _ b _ _ _ w g C n j o_ A.sc w_).mono ?_;rintro e w' ⟨rfl,u,c⟩;have d:Aa (λk=>_=t) w _:=c.mono (λk _ hq=>by subst hq;exact B);refine⟨rfl,⟨(Dz r).trans B,(Dz j).trans D,n,Qh j c.size,C.keep c n j,a++b,_,_,u,λ_=>⟨rfl,?_,?_⟩⟩,d⟩;rw[ZcT _ _ _ _ o_];rfl;rw[ZcT _ _ _ _ o_];rfl
end
def eS(wd:Nat->Bool)(ct:Nat->Int)(bins:Int)(size:Nat)(s:RS)(i:Nat):ES:=Ck Mc (wd i) (ct i) bins size (s.cols i) s.ws
def esS(m:Nat)(wd:Nat->Bool)(ct:Nat->Int)(bins:Int)(size:Nat)(s:RS):List ES:=(List.range (m+1)).map (eS wd ct bins size s)
def bbS(m:Nat)(wd:Nat->Bool)(ct:Nat->Int)(bins:Int)(size:Nat)(s:RS):List (List Nat):=(List.range (m+1)).map (λi=>(s.cols i).map (Dy (eS wd ct bins size s i)))
section
variable {w w':World} {o o':Nat->Nat} {t ib yb fk fc m:Nat} {wd:Nat->Bool} {sc ct:Nat->Int} {bins:Int} {size budget:Nat} {T b:ByteArray} {cl:Bool}
def whole(m:Nat)(wd:Nat->Bool)(sc:Nat->Int)(T:ByteArray)(cl:Bool)(s:RS):Prop:=cl=false/\Mf m wd sc T=.ok s/\s.wt=0
def clZ(m:Nat)(wd:Nat->Bool)(sc:Nat->Int)(T:ByteArray)(cl:Bool):Int×Int:=if cl=true then(1,0) else match Mf m wd sc T with
 |.error (z,p)=>(z,p)
 |.ok _=>(2,T.size)
def clC(m:Nat)(wd:Nat->Bool)(sc:Nat->Int)(T:ByteArray)(cl:Bool):Bool:=if cl=true then true else match Mf m wd sc T with
 |.error _=>false
 |.ok _=>true
def Zl8(w:World)(o:Nat->Nat)(t ib m:Nat)(wd:Nat->Bool)(sc ct:Nat->Int)(bins:Int)(size budget:Nat)(T:ByteArray)(cl:Bool)(e:Ending)(w':World):Prop:=
 ((∀s,¬whole m wd sc T cl s)/\e=.returned (.tuple #[.pointer none,I_ (clZ m wd sc T cl).1,I_ (clZ m wd sc T cl).2])/\Oq w' (Db w w' o t) t ib m wd sc ct bins size budget T (clC m wd sc T cl)/\Aa (λk=>o k=t) w w')∨
 (∃s gb db,whole m wd sc T cl s/\e=.returned (.tuple #[P_ gb,I_ 0,I_ 0])/\Ze9 w.heap.size w' gb db (Ao m s.ws.length budget (esS m wd ct bins size s) (bbS m wd ct bins size s))/\Sl w' ib true 0 0/\Aa (λk=>k=ib) w w')
def Zk2(a:Sk m wd sc ct bins size budget)(h:Oq w o t ib m wd sc ct bins size budget T cl)(n:t≠99):C_ 50 #[.pointer (some ⟨ib,0,none⟩)] w λe w'=>Zl8 w o t ib m wd sc ct bins size budget T cl e w':=by
 have v:=h;obtain⟨u,r,A⟩:=h;have c:∀i,_->_->_/\_:=λi hi hw=>⟨(a.sc i hi).1,(a.sc i hi).2 hw⟩;have B:=a.hm
 rcases A with⟨e,z,p,hd⟩|⟨e,z,p,hs2,hd⟩|⟨e,s,K,M,tb,rb,fb,cb,hs2,hx,hk,ht⟩
 subst e;refine(xh _ z p w hd).mono ?_;rintro e w' ⟨rfl,rfl⟩;exact .inl ⟨λs q=>by simp[whole] at q,rfl,v.keep (S:=λ_=>False) (Aa.refl _ _) (λ_ _ e=>e.elim) (Ep _ _ _ _) n,Aa.refl _ _⟩;subst e;have D:=Lk _ _ _ hs2;refine(ZaE _ z p w hd D).mono ?_;rintro e w' ⟨rfl,x,rfl⟩;have d:E_ w _:=below_drewN bz_ x;have l:clZ m wd sc T false=(z,(p:Int)):=(by unfold clZ;rw[hs2];rfl);have g:clC m wd sc T false=false:=(by unfold clC;rw[hs2];rfl);refine .inl ⟨λs q=>(by have:=q.2.1;rw[hs2] at this;cases this),by rw[l],?_,.of_below d⟩;rw[g];exact v.keep (S:=λ_=>False) (.of_below d) (λ_ _ e=>e.elim) (Ep _ _ _ _) n
 subst e;have l:clZ m wd sc T false=(2,(T.size:Int)):=(by unfold clZ;rw[hs2];rfl);have g:clC m wd sc T false=true:=by unfold clC;rw[hs2];rfl
 by_cases hwt:s.wt=0
 have b:=Pw (ct:=ct) c a.b1 a.b2 (by have:=a.b1;have:=a.s1;omega) a.s2 hs2;refine(xi Mc (eS wd ct _ _ s) hx hwt (Ht.takes o_ c _ (Ht.start o_) hs2) B a.bu b.wok (λi=>rfl) b.ok b.num b.ws (by have:=a.b1;have:=a.s1;omega) a.s2 a.b1 a.b2).mono ?_;rintro e w' ⟨C,E,rfl,y,j,f⟩;exact .inr ⟨s,C,E,⟨rfl,hs2,hwt⟩,rfl,y,j,f⟩;refine(ZcJ hx hwt).mono ?_;rintro e w' ⟨rfl,j,f⟩;refine .inl ⟨λs' q=>by have:=q.2.1;rw[hs2] at this;injection this with this;subst this;exact hwt q.2.2,by rw[l],?_,f.mono (λk _ q=>by subst q;exact u)⟩;rw[g];exact⟨(Dz r).trans u,Qh r f.size,.inl ⟨rfl,0,0,j⟩⟩
def Zl9(w:World)(o:Nat->Nat)(t yb fk fc m:Nat)(wd:Nat->Bool)(sc ct:Nat->Int)(bins:Int)(size budget:Nat)(T:ByteArray)(cl:Bool)(e:Ending)(w':World):Prop:=
 ((∀s,¬whole m wd sc T cl s)/\e=.returned (.tuple #[.pointer none,I_ (clZ m wd sc T cl).1,I_ (clZ m wd sc T cl).2])/\Kx w' (Db w w' o t) t yb fk fc m wd sc ct bins size budget T (clC m wd sc T cl)/\Aa (λk=>o k=t) w w')∨
 (∃s yd,whole m wd sc T cl s/\e=.returned (.tuple #[P_ yd,I_ 0,I_ 0])/\Zam w w' yd s.ws.length (Ao m s.ws.length budget (esS m wd ct bins size s) (bbS m wd ct bins size s))/\mt w' yb fk (m+1) fc bins size budget T 0 0 true/\Aa (λk=>k=yb) w w')
def Zhf(b:Sk m wd sc ct bins size budget)(h:Kx w o t yb fk fc m wd sc ct bins size budget T cl)(M:t≠99)(Z:T.size<=200000000000000):C_ 126 #[.pointer (some ⟨yb,0,none⟩)] w λe w'=>Zl9 w o t yb fk fc m wd sc ct bins size budget T cl e w':=by
 have L:=h;have F:=h.lt;have l:∀i,_->_->_/\_:=λi hi hw=>⟨(b.sc i hi).1,(b.sc i hi).2 hw⟩;obtain⟨N,P,E,B,O,a,z,p,j,Q⟩:=h;have U:=b.hm
 cases cl with
 | true=>
  refine(qh _ _ _ _ _ _ _ z p _ w j).mono ?_;rintro e w' ⟨rfl,rfl⟩;exact .inl ⟨λs q=>by simp[whole] at q,rfl,L.keep (S:=λ_=>False) (Aa.refl _ _) (λ_ _ e=>e.elim) (Ep _ _ _ _) M,Aa.refl _ _⟩
 | false =>
  obtain⟨rfl,rfl,rfl⟩:=Q rfl
  cases hs2:Mf m wd sc a with
  | error q=>
   obtain⟨z,p⟩:=q;have H:=Lk _ _ _ hs2;rw[hs2] at j;have G:clZ m wd sc a false=(z,(p:Int)):=(by unfold clZ;rw[hs2];rfl);have D:clC m wd sc a false=false:=(by unfold clC;rw[hs2];rfl);refine(zk _ _ _ _ _ _ _ z p _ w j (by rcases H with e|e<;>omega)).mono ?_;rintro e w' ⟨rfl,x,rfl⟩;have y:E_ w _:=below_drewN bz_ x;refine .inl ⟨λs q=>(by have:=q.2.1;rw[hs2] at this;cases this),by rw[G],?_,.of_below y⟩;rw[D];exact L.keep (S:=λ_=>False) (.of_below y) (λ_ _ e=>e.elim) (Ep _ _ _ _) M
  | ok s=>
   rw[hs2] at j;have G:clZ m wd sc a false=(2,(a.size:Int)):=(by unfold clZ;rw[hs2];rfl);have D:clC m wd sc a false=true:=(by unfold clC;rw[hs2];rfl);have c:Ca _ _ _ _ _ 0=_:=hs2;have C:=Pw (ct:=ct) l b.b1 b.b2 (by have:=b.b1;have:=b.s1;omega) b.s2 c;have g:=ZbR (S:=a) (n:=m+1) (wd:=wd) (sc:=sc) o_;refine(Zdw yb fk m fc size _ bins a wd sc ct (λi=>Ck Mc (wd i) (ct i) bins size (Bn (Je a (m+1) wd sc (a.size+1) [] 0).1 i) (Fr (Je a (m+1) wd sc (a.size+1) [] 0).1)) w j O E B U b.sc o_ b.bu (by have:=b.b1;have:=b.s1;omega) b.s2 b.b1 b.b2 b.ct ?_).mono ?_
   ·rintro R rfl H
    rcases g with⟨s',q1,q2,q3,q4,q5⟩|⟨s',q1,q2,q3,q4⟩|⟨q1,q2,q3⟩
    rw[c] at q1;injection q1 with q1;subst q1;obtain⟨W,Y⟩:=Zf8 l c rfl q5;refine⟨W,Y,λi=>rfl,λi hi=>?_⟩;have r:=C.ok i hi;rw[q5.1,q5.2 i hi] at r;exact r;omega;exact absurd H q2
   rintro e w' ⟨f,A,J⟩;have d:Kx _ (Db w w' o t) t _ _ _ m _ _ _ _ _ _ a _:=⟨(Dz F).trans N,(Dz B).trans P,E,Qh B A.size,O.keep A E B,a,0,0,f,λe=>by cases e⟩
   rcases g with⟨s',q1,q2,q3,q4,q5⟩|⟨s',q1,q2,q3,q4⟩|⟨q1,q2,q3⟩
   ·rw[c] at q1;injection q1 with q1;subst q1
    rcases J with⟨g1,_⟩|⟨_,yd,rfl,hM⟩
    exact absurd q3 g1;refine .inr ⟨s,yd,⟨rfl,hs2,q2⟩,rfl,?_,f,A⟩;have I:s.ws.length=(Je a (m+1) wd sc (a.size+1) [] 0).1.length:=by rw[q5.1,List.length_map]
    have v:∀i,i<m+1->Ck Mc (wd i) (ct i) bins size (Bn (Je a (m+1) wd sc (a.size+1) [] 0).1 i) (Fr (Je a (m+1) wd sc (a.size+1) [] 0).1)=eS wd ct bins size s i:=λi hi=>by unfold eS;rw[q5.1,q5.2 i hi];rfl
    have V:Ou m (λi=>Ck Mc (wd i) (ct i) bins size (Bn (Je a (m+1) wd sc (a.size+1) [] 0).1 i) (Fr (Je a (m+1) wd sc (a.size+1) [] 0).1))=esS m wd ct bins size s:=by unfold Ou esS;exact List.map_congr_left (λi hi=>v i (by simpa using hi))
    have X:Ih m (Je a (m+1) wd sc (a.size+1) [] 0).1 (λi=>Ck Mc (wd i) (ct i) bins size (Bn (Je a (m+1) wd sc (a.size+1) [] 0).1 i) (Fr (Je a (m+1) wd sc (a.size+1) [] 0).1))=bbS m wd ct bins size s:=by
     unfold Ih bbS;refine List.map_congr_left (λi hi=>?_)
     have u:i<m+1:=by simpa using hi
     unfold Ms;show List.map (Dy (Ck Mc (wd i) (ct i) bins size (Bn (Je a (m+1) wd sc (a.size+1) [] 0).1 i) (Fr (Je a (m+1) wd sc (a.size+1) [] 0).1))) (Bn (Je a (m+1) wd sc (a.size+1) [] 0).1 i)=_;rw[v i u,q5.2 i u];rfl
    rw[V,X,<- I] at hM;exact hM
   ·rw[c] at q1;injection q1 with q1;subst q1
    rcases J with⟨_,rfl⟩|⟨g1,_⟩
    rw[q3,q4];refine .inl ⟨λs' q=>by have:=q.2.1;rw[hs2] at this;injection this with this;subst this;exact q2 q.2.2,by rw[G],?_,A.mono (λk _ q=>by subst q;exact N)⟩;rw[D];exact d;omega
   rw[c] at q1
   cases q1
end
def vh.startB{w a o q t s p n v u x g l c}(h:vh w a o q t s p n v u x g l c):∃K M,InX w K M o q s t p n v u x g l c RS.start 0/\(∀k,K k∨M k->a<=k/\k<w.heap.size)/\a<=o/\a<=q:=by
 have m:=h.tx.rd;unfold RB at m;refine⟨λk=>a<=k/\∃b d,w.heap[k]? =some (.cells b d (0,0))/\(d=3∨d=261∨d=263),λk=>k=s∨k=p,⟨h.ik,h.tx.tx,⟨.slice none 0 0,.slice none 0 0,.slice none 0 0,λ_=>.slice none 0 0,?_⟩,?_,?_⟩,?_,h.lo,h.tx.lo.1⟩
 ·refine⟨h.tx.rd,rn_,rn_,rn_,⟨_,h.tx.cl,?_,λi hi=>?_⟩,λ_ _=>rn_,Tc.of_made _ h.tx.fs ⟨h.tx.lo.2.1,?_⟩ (λk b d f j r=>⟨f,b,d,j,w_⟩),λ_ _ _ _ _=>.inl rfl,λ_ _=>.inl rfl,.inl rfl,.inr rfl,?_,?_,?_,?_,?_,?_⟩;simp[madeCells]
  ·rw[<- Array.getElem?_toList,Qu]
   grind
  ·obtain⟨b,y,_⟩:=h.tx.fs
   grind
  intro k f;simp[Value.ownBlock] at f;intro k f;simp[Value.ownBlock] at f;intro k f;simp[Value.ownBlock] at f;intro i k _ f;simp[Value.ownBlock] at f
  ·rintro k ⟨_,b,d,j,r⟩;refine⟨(Qb j).1,?_⟩;rintro(e|e)
   ·grind
   rw[e,h.tx.cl] at j;grind
  rintro k (e|e)
  ·grind
  rw[e];exact(Qb h.tx.cl).1
 refine⟨?_,?_⟩;rintro⟨_,b,d,j,r⟩;rw[h.ik] at j;grind;rintro(e|e);have:=h.ik;grind;have:=h.ik;rw[e,h.tx.cl] at this;simp at this;refine⟨?_,?_⟩;rintro⟨_,b,d,j,r⟩;rw[h.tx.tx] at j;grind;rintro(e|e);have:=h.tx.tx;grind;have:=h.tx.tx;rw[e,h.tx.cl] at this;simp at this;rintro k (e|e|e)
 ·grind
 rw[e];exact⟨h.tx.lo.2.2.1,(Qb m).1⟩;rw[e];exact⟨h.tx.lo.2.2.2,(Qb h.tx.cl).1⟩
section
variable {w:World} {o:Nat->Nat} {t m:Nat} {wd:Nat->Bool} {sc ct:Nat->Int} {bins:Int} {size budget:Nat}
def Sk.of(h:Hz (m+1) bins size budget wd sc ct=true):Sk m wd sc ct bins size budget:=by
 obtain⟨_,a,b,c,d,g,_,e,f⟩:=Lc h;refine⟨a,λi hi=>?_,λi hi hw=>?_,b,c,d,o_,o_⟩
 ·grind [Le]
 grind [Le]
def Zkn b a r (x:Dd w b a (m+1) wd sc ct)(j:Hz (m+1) bins size budget wd sc ct=true):C_ 31 #[.agg #[.slice (some ⟨b,a,none⟩) (m+1:Nat) r,.int .i64 bins,.int .i64 size,.int .i64 budget]] w λe w'=>∃ib,e=.returned (.tuple #[.pointer (some ⟨ib,0,none⟩),.int .i64 0])/\w.heap.size<=ib/\Oq w' (Db w w' o t) t ib m wd sc ct bins size budget ⟨#[]⟩ false/\Below w.heap.size w w':=by refine(ZdA b _ _ _ _ _ _ _ _ _ w x j).mono ?_;rintro e w' ⟨ib,n,l,u,s,rfl,v,i⟩;obtain⟨K,M,g,d,h,p⟩:=v.startB;have c:=(Qb g.ik).1;have f:=(Qb g.tx).1;exact⟨ib,rfl,h,⟨Kt h c,c,.inr (.inr ⟨rfl,RS.start,K,M,n,u,l,s,rfl,g,λk q=>⟨(d k q).2,Kt (d k q).1 (d k q).2⟩,Kt p f⟩)⟩,i⟩
def Zko b a n (q:Dd w b a (m+1) wd sc ct)(l:Hz (m+1) bins size budget wd sc ct=true):C_ 123 #[.agg #[.slice (some ⟨b,a,none⟩) (m+1:Nat) n,.int .i64 bins,.int .i64 size,.int .i64 budget]] w λe w'=>∃yb fk c,e=.returned (.tuple #[.pointer (some ⟨yb,0,none⟩),.int .i64 0])/\w.heap.size<=yb/\Kx w' (Db w w' o t) t yb fk c m wd sc ct bins size budget ⟨#[]⟩ false/\Below w.heap.size w w':=by refine(ZbK b _ _ _ _ _ _ _ _ _ w q l).mono ?_;rintro e w' ⟨yb,fk,c,rfl,h,p,d,j,i,g,k⟩;have f:=(Qb h).1;exact⟨yb,fk,c,rfl,i,⟨Kt i f,Kt j g,d,g,p,⟨#[]⟩,0,0,h,λ_=>⟨rfl,rfl,rfl⟩⟩,k⟩
end
section
variable {w w':World} {dp gb db yb base m n budget:Nat} {es:List ES} {Bb:List (List Nat)} {vF vB vC vX:Value} {kvs:List (Value×Value)} {bvs cvs:List Value} {X:List XS}
def ZfL x y (d:On m n budget es Bb X):∃R E:Int,∀W,Jx W dp gb db yb base m n budget es Bb vF vB vC vX kvs bvs cvs X->(C_ 44 #[.pointer (some ⟨gb,0,none⟩),.int .i64 x,.int .i64 y] W λe w'=>e=.returned (.tuple #[.int .i64 R,.int .i64 E])/\Below W.heap.size W w')/\(C_ 138 #[.pointer (some ⟨yb,0,none⟩),.int .i64 x,.int .i64 y] W λe w'=>e=.returned (.tuple #[.int .i64 R,.int .i64 E])/\Below W.heap.size W w'):=by
 have a:=Jm (budget:=budget) d.hm d.hn d.hk;have o:(Ao m n budget es Bb).ks.length=_:=yx;have k:=(a.bok _ (a.mem a.b0)).len;have t:=d.hn;have w:=d.hm
 by_cases hb:0<=x/\x<(n:Int)/\0<=y/\y<((Ao m n budget es Bb).ks.length:Int)
 ·obtain⟨r,s⟩:∃r:Nat,x=r:=⟨x.toNat,o_⟩;obtain⟨f,p⟩:∃f:Nat,y=f:=⟨y.toNat,o_⟩;subst s p;have g:r<n:=o_;have i:f<m+1:=o_;refine⟨((Bb.getD f _).getD r 0:Nat),0,λW hW=>⟨ZaX _ _ f r m n _ _ _ W hW.x d.hm d.hn d.hk i g,?_⟩⟩;have q:X.length<=1000000:=(by rw[d.pm.length_eq];have:=a.xl;omega);have l:=jq yb n r f _ _ _ X W hW.y.view ⟨s_,by simp;have:=a.b4;omega,λb hb=>?_,λb hb r=>?_,λb hb=>?_,λb hb=>?_⟩ g o_ q;rw[ZiV d.hk d.pm i g] at l;exact l
  all_goals
   simp only[List.length_map] at hb;have c:=a.mem hb
  have e:((Ao m n budget es Bb).bs.map BS.N).getD b []=((Ao m n budget es Bb).bs.getD b Dx).N:=w_;rw[e];exact(a.bok _ c).len
  ·have e:((Ao m n budget es Bb).bs.map BS.N).getD b []=((Ao m n budget es Bb).bs.getD b Dx).N:=w_;rw[e,Qc]
   rcases Nat.lt_or_ge r ((Ao m n budget es Bb).bs.getD b Dx).N.length with j|j
   ·rw[Qd j];have u:=(a.bok _ c).le _ (Qf j);have v:=a.g40 _ c
    grind
   grind
  have e:((Ao m n budget es Bb).bs.map BS.fs).getD b []=((Ao m n budget es Bb).bs.getD b Dx).fs:=w_;rw[e];have:=a.f4 _ c;omega;have e:((Ao m n budget es Bb).bs.map BS.fs).getD b []=((Ao m n budget es Bb).bs.getD b Dx).fs:=w_;rw[e];exact a.fk _ c
 refine⟨0,1,λW hW=>⟨Zc5 _ _ n x y _ W hW.x hb o_ a.b0 k o_,?_⟩⟩;exact(ZbH _ n x y _ W hW.y.view.dk hb).mono (λ_ _ h=>⟨h.1,by rw[h.2];exact bz_⟩)
def Zcp g B C f i j x y F N D H L O M G wc J (h:Jx w dp gb db yb base m n budget es Bb vF vB vC vX kvs bvs cvs X)(P:On m n budget es Bb X):C_ 77 #[.pointer (some ⟨g,0,none⟩),.pointer (some ⟨dp,0,none⟩),.agg #[.int .i64 9,.int .i64 B,.int .i64 C,.slice F H L,.int .i64 f,.int .i64 i,.int .i64 j,.slice N O M,.slice D G wc,.string J,.int .i64 x,.int .i64 y]] w λe w'=>e=.returned (.bool true)/\Below w.heap.size w w':=by
 obtain⟨R,E,l⟩:=ZfL (dp:=dp) (gb:=gb) (db:=db) (yb:=yb) (base:=base) (vF:=vF) (vB:=vB) (vC:=vC) (vX:=vX) (kvs:=kvs) (bvs:=bvs) (cvs:=cvs) x y P;have I:Hid (∀W,Below _ w W->_):=λW hW=>h.below hW;have T:Hid (∀W,_->Calls _ _ _ W λe _=>_/\_/\_):=λW hW=>(l W (h.below hW)).1.mono (λ_ _ h=>⟨h.1,hW.trans (h.2.mono hW.size),h.2⟩);have V:Hid (∀W,_->Calls _ _ _ W λe _=>_/\_/\_):=λW hW=>(l W (h.below hW)).2.mono (λ_ _ h=>⟨h.1,hW.trans (h.2.mono hW.size),h.2⟩);clear h P l;go_enter Tryz.func77,Tryz.ntmps77;go_upto_region 6 with fail;generalize hw1:w.alloc (.cells #[I_ 9,I_ B,I_ C,.slice F H L,I_ f,I_ i,I_ j,.slice N O M,.slice D G wc,.string J,I_ x,I_ y] 93)=w1;have c:E_ w w1:=by rw[<- hw1];exact bA_
 have q:w1.cell? (A_ w.heap.size 10)=some (I_ x):=(by rw[<- hw1];simp[go_sem]);have p:w1.cell? (A_ w.heap.size 11)=some (I_ y):=(by rw[<- hw1];simp[go_sem]);have U:w.heap.size<w1.heap.size:=(by rw[<- hw1];simp);clear hw1;obtain⟨r,_,_,_,_⟩:=(I w1 c).cells;go_cut [8,9] (λv1 v2 wx=>v1=.int .i64 R/\v2=.int .i64 E/\Hid (E_ w1 wx))
 case first=>
  go_region_held3 (λw'=>w'.cell? (A_ dp 0)=some (P_ gb)/\w'.cell? (A_ w.heap.size 10)=some (I_ x)/\w'.cell? (A_ w.heap.size 11)=some (I_ y)) (first|exact⟨r,q,p⟩|exact⟨Ac a r,Ac a q,Ac a p⟩) (first|(go_at_call 44;refine(T _ c.drew).mono ?_;rintro e s ⟨rfl,b,k⟩;have a:Below w1.heap.size _ _:=bz_.drew.trans k))
  all_goals go_wp2
  all_goals go_meet
  all_goals exact⟨rfl,rfl,a⟩
 case rest=>
 obtain⟨rfl,rfl,d⟩:=hcut;have A:=Ac d q;have v:=Ac d p;have b:=c.trans (d.mono c.size);obtain⟨_,z,_,_,_⟩:=(I wc b).cells;clear r q p c d;generalize wc=s at *;go_upto_region 7 with fail;go_cut [10,11] (λv1 v2 wx=>v1=.int .i64 R/\v2=.int .i64 E/\Hid (E_ s wx))
 case first=>
  go_region_held3 (λw'=>w'.cell? (A_ dp 1)=some (P_ yb)/\w'.cell? (A_ w.heap.size 10)=some (I_ x)/\w'.cell? (A_ w.heap.size 11)=some (I_ y)) (first|exact⟨z,A,v⟩|exact⟨Ac a z,Ac a A,Ac a v⟩) (first|(go_at_call 138;refine(V _ b.drew).mono ?_;rintro e w3 ⟨rfl,Y,k⟩;have a:Below s.heap.size _ _:=bz_.drew.trans k))
  all_goals go_wp2
  all_goals go_meet
  all_goals exact⟨rfl,rfl,a⟩
 case rest=>
 obtain⟨rfl,rfl,o⟩:=hcut;have S:=x1_ (b.trans (o.mono b.size));clear z A v b o;have Q:(R==R)=true:=s_;go_wp2_with fail
 refine(Kd _ _).mono ?_;rintro e w4 ⟨rfl,u⟩;obtain rfl:=u.symm;go_wp2_with fail
 refine(Kd _ _).mono ?_;rintro e Z ⟨rfl,t⟩;obtain rfl:=t.symm;go_wp2;go_ret;exact⟨s_,S⟩
end
def Lt.behind{w f l o a g N c p}(n:Dr w o a)(i:Aa (λk=>o k<=13∨o k=99) w f)(v:∀j,j<4->p[j]? =c[j]?)(y:∀k,w.heap.size<=k->a k<=13∨a k=99)(z:∀k,k<w.heap.size->o k=99->a k<=13∨a k=99)(h:Lt f l a g N p):Lt w l o g N c:=by
 obtain⟨d,t,x,m,r,u,B,q⟩:=h;have A:=i.size
 have b:∀k,a k<=13∨a k=99->d k<=13∨d k=99:=λk hk=>by
  by_cases hl:k<f.heap.size
  ·rcases hk with e|e
   ·rcases m k hl with s|s
    omega;omega
   exact q k hl e
  grind
 refine⟨d,t,x,n.trans A m,i.trans2 r (λk hk=>?_),λj hj=>(u j hj).trans (v j hj),λk hk=>b k (y k hk),λk hk h9=>b k (z k hk h9)⟩
 by_cases hl:k<w.heap.size
 ·left
  rcases n k hl with e|e
  exact .inr e;omega
 omega
def Zci.q2{w a o g N c v}(h:Zci w a o g N v c)(b:∀k,v.ownBlock=some k->o k=99):Lt w a o g (N+1) c:=by obtain⟨d,p,n,m,f,i,j,q,l⟩:=h;exact⟨d,p,n,m,f.mono (λk _ e=>e.imp id (b k)),i,j,l⟩
section
variable {w w':World} {dp gb db yb base m n budget:Nat} {es:List ES} {Bb:List (List Nat)} {vF vB vC vX:Value} {kvs:List (Value×Value)} {bvs cvs:List Value} {X:List XS}
def BdQ(b:Nat)(W:World)(LI:List Int)(LS:List ByteArray)(E:Int)(e:Ending)(w':World):Prop:=∃a1 c1 a2 c2,e=.returned (.tuple #[.slice a1 LI.length c1,.slice a2 LS.length c2,I_ E])/\Ag w' b (.slice a1 LI.length c1) LI/\Cc w' b (.slice a2 LS.length c2) LS/\Below W.heap.size W w'
def Zaw x (i:On m n budget es Bb X):∃LI LS E,LI.length<=1000/\LS.length<=1000/\∀W,Jx W dp gb db yb base m n budget es Bb vF vB vC vX kvs bvs cvs X->(C_ 27 #[.pointer (some ⟨gb,0,none⟩),.int .i64 x] W λe w'=>BdQ W.heap.size W LI LS E e w')/\(C_ 139 #[.pointer (some ⟨yb,0,none⟩),.int .i64 x] W λe w'=>BdQ 0 W LI LS E e w'):=by
 have s:=Jm (budget:=budget) i.hm i.hn i.hk;have u:(Ao m n budget es Bb).ks.length=_:=yx;have C:=i.hm
 by_cases hb:0<=x/\x<((Ao m n budget es Bb).ks.length:Int)
 ·obtain⟨f,w⟩:∃f:Nat,x=f:=⟨x.toNat,o_⟩;subst w;have a:f<(Ao m n budget es Bb).ks.length:=o_;have c:=s.edg f a;refine⟨bdI ((Ao m n budget es Bb).ks.getD f Ay).e,bdS ((Ao m n budget es Bb).ks.getD f Ay).e,0,?_,?_,λW hW=>⟨?_,?_⟩⟩
  ·unfold bdI;split
   ·grind
   exact c.lb
  ·unfold bdS;split;exact c.lw
   grind
  refine(yk _ _ f n _ W hW.x s a).mono ?_;rintro e w' ⟨A,B,rfl,d⟩;obtain⟨p,o,rfl⟩:=d.nb.shape;obtain⟨l,j,rfl⟩:=d.nw.form;exact⟨p,o,l,j,rfl,d.nb,d.nw,d.low⟩;refine(ZcQ f hW.y a).mono ?_;rintro e w' ⟨rfl,k,rfl⟩;obtain⟨h,g⟩:=hW.y.fe.each f a;have r:=hW.y.one f a;have z:bdI ((Ao m n budget es Bb).ks.getD f Ay).e=((Ao m n budget es Bb).ks.getD f Ay).e.bs:=(by unfold bdI;split;rename_i hw;exact(r.2.2.1 hw).symm;rfl);have v:bdS ((Ao m n budget es Bb).ks.getD f Ay).e=((Ao m n budget es Bb).ks.getD f Ay).e.ww:=by unfold bdS;split;rfl;rename_i hw;exact(r.2.2.2 (by simpa using hw)).symm
  rw[<- z] at h;rw[<- v] at g;obtain⟨p,o,q⟩:=h.shape;obtain⟨l,j,t⟩:=g.form;rw[q] at h;rw[t] at g;have b:E_ W _:=below_drewN bz_ k;exact⟨p,o,l,j,by rw[q,t],Ag.below (base:=0) (Du h qg_) b,Cc.below (base:=0) (Du g qg_) b,b⟩
 refine⟨[],[],1,qg_,qg_,λW hW=>⟨?_,?_⟩⟩;refine(Zc3 _ _ x _ W hW.x hb o_).mono ?_;rintro e w' ⟨rfl,rfl⟩;exact⟨none,0,none,0,rfl,Ag.nil _ _,Cc.nil _ _,bz_⟩;refine(ZaL x hW.y.view.dk hb).mono ?_;rintro e w' ⟨rfl,rfl⟩;exact⟨none,0,none,0,rfl,Ag.nil _ _,Cc.nil _ _,bz_⟩
def vy{o g N c} pk bb z D G x y fa va wa fl fc vl vc wl wc st (hB:Hx w o g c N)(h9:∀k,w.heap.size<=k->o k=99)(hN:N<=10000000)(h:Jx w dp gb db yb base m n budget es Bb vF vB vC vX kvs bvs cvs X)(hs:On m n budget es Bb X):C_ 77 #[.pointer (some ⟨g,0,none⟩),.pointer (some ⟨dp,0,none⟩),.agg #[.int .i64 10,.int .i64 pk,.int .i64 bb,.slice fa fl fc,.int .i64 z,.int .i64 D,.int .i64 G,.slice va vl vc,.slice wa wl wc,.string st,.int .i64 x,.int .i64 y]] w λe w'=>e=.returned (.bool true)/\Lt w w' o g (N+2) c:=by
 obtain⟨LI,LS,E,Z,a8,Q⟩:=Zaw (dp:=dp) (gb:=gb) (db:=db) (yb:=yb) (base:=base) (vF:=vF) (vB:=vB) (vC:=vC) (vX:=vX) (kvs:=kvs) (bvs:=bvs) (cvs:=cvs) x hs;have j:=x2_ hB h9;have HP:Hid (∀W,Below _ w W->_):=λW hW=>h.below hW;have HX:=x1_ (λW hW=>(Q W (h.below hW)).1);have HY:=x1_ (λW hW=>(Q W (h.below hW)).2);obtain⟨li,A⟩:=ey_ LI.length;obtain⟨I,C⟩:=ey_ LS.length;have a:=x4_ A C Z a8;clear h hs Q hB h9 A C Z a8;go_enter Tryz.func77,Tryz.ntmps77;go_upto_region 10 with fail;generalize hw1:w.alloc (.cells #[I_ 10,I_ pk,I_ bb,.slice fa fl fc,I_ z,I_ D,I_ G,.slice va vl vc,.slice wa wl wc,.string st,I_ x,I_ y] 93)=w1;have f:E_ w w1:=(by rw[<- hw1];exact bA_);have x0:w1.cell? (A_ w.heap.size 10)=some (I_ x):=by rw[<- hw1];simp[go_sem]
 clear hw1;obtain⟨c0,_,_,_,_⟩:=(HP w1 f).cells;go_cut [12,13,14] (λv1 v2 v3 wx=>∃T U B c2,v1=.slice T li U/\v2=.slice B I c2/\v3=.int .i64 E/\Hid (Ag wx w.heap.size (.slice T li U) LI/\Cc wx w.heap.size (.slice B I c2) LS/\E_ w1 wx))
 case first=>
  go_region_held3 (λw'=>w'.cell? (A_ dp 0)=some (P_ gb)/\w'.cell? (A_ w.heap.size 10)=some (I_ x)) (first|exact⟨c0,x0⟩|exact⟨Ac d c0,Ac d x0⟩) (first|(go_at_call 27;refine(HX _ f.drew).mono ?_;rintro e w2 ⟨T,d1,B,Y,rfl,M,L,O⟩;have d:Below w1.heap.size _ _:=bz_.drew.trans O))
  all_goals go_wp2
  all_goals go_meet
  all_goals exact⟨T,d1,B,Y,by rw[a.1],by rw[a.2.1],rfl,by rw[<- a.1];exact Du M f.size,by rw[<- a.2.1];exact Du L f.size,d⟩
 case rest=>
 obtain⟨T,d1,B,Y,rfl,rfl,rfl,p⟩:=hcut;have y0:=Ac p.2.2 x0;have l:=f.trans (p.2.2.mono f.size);obtain⟨_,U,_,_,_⟩:=(HP wc l).cells;have J:=x2_ p.1 p.2.1;clear c0 x0 f p;generalize wc=w2 at *;go_upto_region 11 with fail;go_cut [15,16,17] (λv1 v2 v3 wx=>∃V c3 a4 c4,v1=.slice V li c3/\v2=.slice a4 I c4/\v3=.int .i64 E/\Hid (Ag wx 0 (.slice V li c3) LI/\Cc wx 0 (.slice a4 I c4) LS/\E_ w2 wx))
 case first=>
  go_region_held3 (λw'=>w'.cell? (A_ dp 1)=some (P_ yb)/\w'.cell? (A_ w.heap.size 10)=some (I_ x)) (first|exact⟨U,y0⟩|exact⟨Ac d U,Ac d y0⟩) (first|(go_at_call 139;refine(HY _ l.drew).mono ?_;rintro e w3 ⟨V,d3,a4,d4,rfl,M,L,O⟩;have d:Below w2.heap.size _ _:=bz_.drew.trans O))
  all_goals go_wp2
  all_goals go_meet
  all_goals exact⟨V,d3,a4,d4,by rw[a.1],by rw[a.2.1],rfl,by rw[<- a.1];exact M,by rw[<- a.2.1];exact L,d⟩
 case rest=>
 obtain⟨V,d3,a4,d4,rfl,rfl,rfl,i⟩:=hcut;have s:=x2_ (J.1.below i.2.2) (J.2.below i.2.2);have P:=x1_ (l.trans (i.2.2.mono l.size));have S1:=Rb _ 0 _ _ _ _ s.1 i.1 (by have:=a.2.2.1;omega);have aA:=x1_ i.2.1;clear U y0 l i J HX HY;generalize wc=w3 at *;go_wp2_with fail
 refine S1.mono ?_;rintro e w4 ⟨rfl,k4,a7⟩;have q:E_ w3 w4:=(by rw[a7];exact below_drewN bz_ _);have H:=x1_ (P.trans (q.mono P.size));have v:=x2_ (s.1.below q) (s.2.below q);have S2:=zq _ 0 _ _ _ _ v.2 (aA.below q) (by have:=a.2.2.2;omega);clear a7 q S1 s aA P;go_wp2_with fail
 refine S2.mono ?_;rintro e w5 ⟨rfl,k5,a5⟩;have u:E_ w4 w5:=(by rw[a5];exact below_drewN bz_ _);have r:=x1_ (H.trans (u.mono H.size));have b:=x2_ (v.1.below u) (v.2.below u);have F:=j.1.keep (S:=λ_=>False) (.of_below r) (λ_ _ e=>e.elim) (Dr.refl _ _);have a0:=λk hk=>j.2 k (rl_ b.1 k hk).1;have a9:=λk hk=>j.2 k (rl_ b.2 k hk).1;have C1:=F.ownN (Du b.1 qg_:Ag _ 0 _ _) a0 (by have:=a.2.2.1;omega) o_;clear a5 u S2 v H F;go_wp2_with fail
 refine C1.mono ?_;rintro e w6 ⟨rfl,hq⟩;obtain⟨o6,c6,b1,b2,b3,b4,b5,b6,b7⟩:=hq
 have aB:∀k,(Value.slice B I Y).ownBlock=some k->(Value.slice T li d1).ownBlock≠some k:=λk hk e=>by
  obtain⟨q1,h1⟩:=Ad b.1 e;obtain⟨q2,h2⟩:=Ad b.2 hk
  grind
 have a6:Cc w6 0 (.slice B I Y) LS:=b3.row (Du b.2 qg_) (λk hk e=>w_);have R:=λk hk=>b6 k (rl_ b.2 k hk).2 (a9 k hk) (aB k hk);have C2:=b1.ownT a6 R (by have:=a.2.2.2;omega) o_
 have HF:Hid (∀w7,Zci w6 w7 o6 g (N+1) (.slice B I Y) c6->Lt w w7 o g (N+2) c):=λw7 q7=>by
  have q8:=q7.q2 R;have aE:=r.size;have t:=(Aa.of_below (S:=λk=>o k<=13∨o k=99) r).trans2 b3 (λk hk=>w_);refine Lt.behind (λk hk=>b2 k o_) t b4 (λk hk=>?_) (λk hk h9=>b7 k o_ h9) q8
  by_cases hl:k<w5.heap.size
  exact b7 k hl (j.2 k hk)
  grind
 clear b1 b2 b3 b4 b5 b6 b7 a6 R C1 aB a0 a9 b r j HP;go_wp2_with fail
 refine C2.mono ?_;rintro e w7 ⟨rfl,hq⟩;have HE:=x1_ (HF _ hq);clear hq C2 HF;go_wp2_with fail
 refine(Kd _ _).mono ?_;rintro e w8 ⟨rfl,aC⟩;obtain rfl:=aC.symm;go_wp2_with fail
 refine(Kd _ _).mono ?_;rintro e w9 ⟨rfl,aD⟩;obtain rfl:=aD.symm;go_wp2;go_ret;exact⟨s_,HE⟩
end
def Iq.row{w b q n a}(h:Iq w b q n n a)(f:b<=q)(p:n<=1000):∃vals:List Value,vals.length=n/\w.ownsRow b 25 1 (L_ q n n) n vals/\(∀j,j<n->Ag w b (vals.getD j Hm) (a.getD j []))/\∀i j,i<j->j<n->∀k,(vals.getD i Hm).ownBlock=some k->(vals.getD j Hm).ownBlock≠some k:=by
 obtain⟨c,e,d,l,m⟩:=h.cur;have g:c.toList.length=n:=by simp[d]
 have o:∀j,j<n->c[j]? =some (c.toList.getD j Hm):=λj hj=>w_
 refine⟨c.toList,g,⟨o_,.inr ⟨q,n,c,rfl,f,e,qa_,m_,o_,w_⟩⟩,λj hj=>?_,λi j hij hj k hk=>?_⟩
 ·grind
 grind
section
variable {w w':World} {dp gb db yb base m n budget:Nat} {es:List ES} {Bb:List (List Nat)} {vF vB vC vX:Value} {kvs:List (Value×Value)} {bvs cvs:List Value} {X:List XS}
def ox{o g N c} pk bb F H I x y fa va wa fl fc vl vc wl wc st (hB:Hx w o g c N)(h9:∀k,w.heap.size<=k->o k=99)(hN:N<=10000000)(h:Jx w dp gb db yb base m n budget es Bb vF vB vC vX kvs bvs cvs X)(hs:On m n budget es Bb X):C_ 77 #[.pointer (some ⟨g,0,none⟩),.pointer (some ⟨dp,0,none⟩),.agg #[.int .i64 11,.int .i64 pk,.int .i64 bb,.slice fa fl fc,.int .i64 F,.int .i64 H,.int .i64 I,.slice va vl vc,.slice wa wl wc,.string st,.int .i64 x,.int .i64 y]] w λe w'=>e=.returned (.bool true)/\Lt w w' o g (N+5) c:=by
 have hd:=Jm (budget:=budget) hs.hm hs.hn hs.hk;have O:=x1_ hd;have f:=x2_ hB h9;have U:Hid (∀W,Below _ w W->_):=λW hW=>h.below hW;obtain⟨B,D⟩:=ey_ ((Ao m n budget es Bb).bs.length);have J:=x1_ D;have aE:B<=4:=(by rw[<- D];exact hd.b4);obtain⟨aB,cB,V⟩:=h.y.bu.shape;rw[List.length_map,List.length_map,D] at V;subst V;clear h hs hB h9 D hd;go_enter Tryz.func77,Tryz.ntmps77;go_upto_region 18 with fail;generalize hw1:w.alloc (.cells #[I_ 11,I_ pk,I_ bb,.slice fa fl fc,I_ F,I_ H,I_ I,.slice va vl vc,.slice wa wl wc,.string st,I_ x,I_ y] 93)=w1;have r:E_ w w1:=(by rw[<- hw1];exact bA_);clear hw1;obtain⟨c0,_,_,_,_⟩:=(U w1 r).cells;have HC:=pg _ _ n _ _ (U _ r).x O;go_wp2_with fail
 refine HC.mono ?_;rintro e t ⟨q,rfl,Y,hL,R⟩;have M:=r.trans (R.mono r.size);rw[J] at hL;obtain⟨z,P,G,v,a8⟩:=hL.row Y o_;have s:=x4_ P G v a8;have l:=x2_ M r.size;obtain⟨_,c1,_,_,c4⟩:=(U t M).cells;rw[J];clear c0 HC hL r R M Y P G v a8;go_upto_region 21 with fail;go_loopw [21,22] (λt21 t22 wr=>∃(i k:Nat),t21=.bool true/\t22=.int .i64 i/\i<=B/\Hid (wr=t.drewN k)) (λ_ t22 _=>B-(intOf t22).toNat)
 case atStart=>exact⟨0,0,s_,rfl,qg_,rfl⟩
 case round=>
  obtain⟨i,k,rfl,rfl,hi,HW⟩:=hrel;have hw:=HW.out;subst hw;clear HW
  by_cases hin:i<B
  ·have i0:0<=(i:Int):=o_;have i1:i<(B:Int):=o_;have b:E_ t _:=below_drewN bz_ k;have d:=l.1.trans (b.mono l.1.size);have hp:=U _ d;obtain⟨_,e1,_,_,e4⟩:=hp.cells;have u:=s.2.1;have A:=s.2.2.1 i hin;have x0:_=some (z.getD i Hm):=Ac b (Qz u (by rw[Qc,Qd (by rw[s.1];exact hin)];rfl));obtain⟨qB,aD,a,kk,eB,xB,_,eV,_,_⟩:=hp.y.bu.at (i:=i) (by rw[List.length_map,List.length_map,J];exact hin);have aC:aB=some ⟨qB,0,none⟩:=(by injection eB);subst aC;have E:((Ao m n budget es Bb).bs.map BS.fs|>.map Av).getD i []=(Xg (Ao m n budget es Bb)).getD i []:=(by grind [Vj]);have C:=hp.y.bu.each i w_;rw[eV] at C;rw[E] at xB C
   have a0:((Xg (Ao m n budget es Bb)).getD i []).length<=1000000:=(by have a7:i<(Ao m n budget es Bb).bs.length:=w_;rw[Vj a7,Aw];have:=O.f4 _ (O.mem a7);omega);obtain⟨a5,c5,h5⟩:=A.shape;rw[h5] at x0 A
   have a9:Hid (∀e,C_ 140 #[.slice a5 ((Xg (Ao m n budget es Bb)).getD i []).length c5,.slice a ((Xg (Ao m n budget es Bb)).getD i []).length kk] ((t.drewN k).drewN e) λe' w'=>e'=.returned (.bool true)/\∃j,w'=(t.drewN k).drewN j):=λe=>by
    have T:Below (t.drewN k).heap.size (t.drewN k) _:=below_drewN bz_ e;refine(Rb _ _ _ _ _ _ ((A.below b).below T) (C.below T) a0).mono ?_
    grind [World.drewN_drewN]
   clear A C hp eV eB E h5 u d a0;generalize ((Xg (Ao m n budget es Bb)).getD i []).length=ll at *;generalize hW3:t.drewN k=w3 at *;have aA:=x1_ hW3;clear hW3 b;go_upto_region 23 with fail;go_quiet (first|(go_at_call 140;exact(a9 _).mono (λ_ _ h=>⟨h.1,h.2⟩)));go_wp2;go_roundw;case rel=>exact⟨i+1,_,rfl,g_,o_,by rw[<- aA];exact World.drewN_drewN _ _ _⟩
   case measure=>exact z_
  have aF:¬i<(B:Int):=o_;have b:E_ t _:=below_drewN bz_ k;have d:=l.1.trans (b.mono l.1.size);have Q:=l.2;have Z:=f.1.keep (S:=λ_=>False) (.of_below d) (λ_ _ e=>e.elim) (Dr.refl _ _);have u:(t.drewN k).ownsRow 0 25 1 (L_ q B B) z.length z:=by rw[s.1];exact(Aa.of_below (S:=λ_=>False) b).row (Du s.2.1 qg_) (λ_ _=>id)
  have C1:=Z.ownL (Ls:=λj=>(Xg _).getD j []) u (λk' hk'=>f.2 k' (Nat.le_trans Q (rl_ s.2.1 k' hk').1)) (λj L=>by
   have hO:=s.2.2.1 j (by rw[<- s.1];exact L)
   exact⟨Ag.below (base:=0) (Du hO qg_) b,λk' hk'=>f.2 _ (Nat.le_trans Q (rl_ hO _ hk').1)⟩) (λj=>by
   rcases Nat.lt_or_ge j (Ao m n budget es Bb).bs.length with L|L
   rw[Vj L,Aw];have:=O.f4 _ (O.mem L);omega
   grind [Xg]) (λi j hij L k' hk'=>s.2.2.2 i j hij (by rw[<- s.1];exact L) k' hk') (by rw[s.1];omega) hN (λk' hk'=>f.2 k' (Nat.le_trans d.size hk'))
  rw[s.1] at C1
  have HF:Hid (∀w7,Lt (t.drewN k) w7 o g (N+B+1) c->Lt w w7 o g (N+5) c):=λw7 q7=>by obtain⟨o',c',a1,a2,a3,a4,a5,a6⟩:=q7;exact Lt.behind (Dr.refl _ _) (.of_below d) (λ_ _=>rfl) (λk' hk'=>.inr (f.2 _ hk')) (λk' _ h9=>.inr h9) ⟨o',c',a1.more o_,a2,a3,a4,a5,a6⟩
  clear Z u b d f U s l O;generalize t.drewN k=w3 at *;go_wp2_with fail
  refine C1.mono ?_;rintro e w7 ⟨rfl,hq⟩;have HE:=x1_ (HF _ hq);clear hq C1 HF;go_wp2;go_ret;exact⟨rfl,HE⟩
end
def Fx.more{w b o g N a c}(h:Fx w b o g N c)(l:N<=a):Fx w b o g a c:=by obtain⟨i,n,f,d,e,j,k,m⟩:=h;exact⟨i,n,f.more l,d,e,j,k,m⟩
section
variable {w w' wr:World} {dp gb db yb base m n budget:Nat} {es:List ES} {Bb:List (List Nat)} {vF vB vC vX:Value} {kvs:List (Value×Value)} {bvs cvs:List Value} {X:List XS}
def rj{o g N c} a D A d i f x y r C B t v E z s wc u (j:Hx w o g c N)(b:∀k,w.heap.size<=k->o k=99)(p:N<=10000000)(h:Jx w dp gb db yb base m n budget es Bb vF vB vC vX kvs bvs cvs X)(l:On m n budget es Bb X):C_ 77 #[.pointer (some ⟨g,0,none⟩),.pointer (some ⟨dp,0,none⟩),.agg #[.int .i64 a,.int .i64 D,.int .i64 A,.slice r t v,.int .i64 d,.int .i64 i,.int .i64 f,.slice C E z,.slice B s wc,.string u,.int .i64 x,.int .i64 y]] w λe w'=>e=.returned (.bool true)/\Fx w w' o g (N+5) c:=by
 by_cases h8:a=8
 subst h8;exact(Zcq g _ _ _ _ _ x y _ _ _ _ _ _ _ _ _ _ h l).mono (λ_ _ q=>⟨q.1,.of_below j q.2 b o_⟩)
 by_cases h9':a=9
 subst h9';exact(Zcp g _ _ _ _ _ x y _ _ _ _ _ _ _ _ _ _ h l).mono (λ_ _ q=>⟨q.1,.of_below j q.2 b o_⟩)
 by_cases h10:a=10
 subst h10;exact(vy _ _ _ _ _ x y _ _ _ _ _ _ _ _ _ _ j b p h l).mono (λ_ _ q=>⟨q.1,.of_q2 q.2 o_⟩)
 by_cases h11:a=11
 subst h11;exact(ox _ _ _ _ _ x y _ _ _ _ _ _ _ _ _ _ j b p h l).mono (λ_ _ q=>⟨q.1,.of_q2 q.2 o_⟩);exact(Zat g _ _ _ _ _ _ x y _ _ _ _ _ _ _ _ _ _ h l h8 h9' h10 h11).mono (λ_ _ q=>⟨q.1,.of_below j q.2 b o_⟩)
def Fx.part{o g N t c Q}(h:Fx w w' o g N c)(b:Ii w o t Q)(f:13<t)(d:t≠99):Q w':=by obtain⟨i,m,l,j,a,_⟩:=h;exact b _ (a.mono (λk _ e=>o_))
def Zco{o g N t c} h j r a b d x y u L s A D M H v wc B (f:Fx w wr o g N c)(J:N<=10000000)(l:Ii w o t (λW=>Jx W dp gb db yb base m n budget es Bb vF vB vC vX kvs bvs cvs X))(F:13<t)(C:t≠99)(O:On m n budget es Bb X):C_ 77 #[.pointer (some ⟨g,0,none⟩),.pointer (some ⟨dp,0,none⟩),.agg #[.int .i64 h,.int .i64 j,.int .i64 r,.slice u A D,.int .i64 a,.int .i64 b,.int .i64 d,.slice L M H,.slice s v wc,.string B,.int .i64 x,.int .i64 y]] wr λe w'=>e=.returned (.bool true)/\Fx w w' o g (N+5) c:=by have G:=f.part l F C;obtain⟨P,Q,p,k,i,E,I,z⟩:=f;exact(rj _ _ _ _ _ _ x y _ _ _ _ _ _ _ _ _ _ p z J G O).mono (λ_ _ q=>⟨q.1,Fx.trans k i E I q.2⟩)
def Zjm{o g N t c}(H:Fx w wr o g N c)(hN:N<=9000000)(B:Ii w o t (λW=>Jx W dp gb db yb base m n budget es Bb vF vB vC vX kvs bvs cvs X))(A:13<t)(v:t≠99)(E:On m n budget es Bb X):C_ 42 #[.pointer (some ⟨g,0,none⟩),.pointer (some ⟨dp,0,none⟩)] wr λe w'=>e=.returned (.bool true)/\Fx w w' o g (N+6000) c:=by
 have O:Hid (∀(_ x y:_) (W:_) (M:_),Fx w W o g M c->_):=λkd x y W M hW hM=>Zco kd 0 0 0 0 0 x y none none none 0 0 0 0 0 0 ⟨#[]⟩ hW hM B A v E;obtain⟨S,V,q⟩:=(H.part B A v).y.fe.view.1;rw[yx] at q;subst q
 have I:Hid (∀W M,Fx w W o g M c->W.cell? (A_ dp 1)=some (P_ yb)/\W.cell? (A_ yb 0)=some (I_ n)/\W.cell? (A_ yb 1)=some (.slice S (m+1) V)):=λW M hW=>by
  obtain⟨_,D,u,z,_⟩:=(hW.part B A v).cells
  grind
 have T:=E.hm;have hn:=E.hn;have a:Hid (Fx w _ o g (N+30*(8-8)) c):=H;obtain⟨s,l⟩:=ex_ (m+1);rw[<- l] at I T;clear B A v E H l;generalize wr=w0 at *;go_enter Tryz.func42,Tryz.ntmps42;go_upto_region 2 with fail;go_loopw [5] (λtk wr=>∃k:Nat,8<=k/\k<=13/\tk=.int .i64 k/\Hid (Fx w wr o g (N+30*(k-8)) c)) (λtk _=>13-(intOf tk).toNat)
 case atStart=>grind
 case round=>
  clear a;obtain⟨k,U,J,rfl,a⟩:=hrel
  by_cases hk:k<=12
  ·have L:(k:Int)<=12:=o_;have d:Hid (Fx w _ o g (N+_+5*0) c):=a;clear a;generalize wr=wa at *;go_upto_region 5 with fail;go_loopw [6] (λtj wr=>∃j:Nat,j<=6/\tj=.int .i64 ((j:Int)-1)/\Hid (Fx w wr o g (N+30*(k-8)+5*j) c)) (λtj _=>6-(intOf tj+1).toNat)
   case atStart=>grind
   case round=>
    clear d;obtain⟨j,R,rfl,a⟩:=hrel
    by_cases hj:j<=5
    ·have F:(j:Int)-1<=4:=o_;have C:=O (k:Nat) ((j:Int)-1) 0 _ _ a o_;have Y:IntKind.i64.wrap (j-1+1)=(j+1:Nat)-1:=(by rw[Cb o_ o_];omega);have q2:j-1+1=((j+1:Nat):Int)-1:=o_;go_wp2_with fail
     refine C.mono ?_;rintro e P ⟨rfl,i⟩;have b:Hid (Fx w _ o g (_+5*(j+1)) c):=i;clear i C a;go_wp2;go_roundw;case rel=>exact⟨j+1,o_,w_,b⟩
     case measure=>exact z_
    have G:j=6:=o_;subst G;have F:¬((6:Nat):Int)-1<=4:=o_;have b:Hid (Fx w wr o g (N+30*(k+1-8)) c):=a.more o_;clear a;go_wp2;go_roundw;case rel=>exact⟨k+1,o_,o_,g_,b⟩
    case measure=>exact z_
  have Z:¬(k:Int)<=12:=o_;have d:Hid (Fx w _ o g (N+150+25*0) c):=a.more o_;clear a;generalize wr=wa at *;go_upto_region 11 with fail;go_loopw [8] (λtr wr=>∃r:Nat,r<=n+1/\tr=.int .i64 r/\Hid (Fx w wr o g (N+150+25*r) c)) (λtr _=>n+1-(intOf tr).toNat)
  case atStart=>grind
  case round=>
   clear d;obtain⟨r,hr,rfl,a⟩:=hrel;obtain⟨D,u,z⟩:=I _ _ a
   by_cases hrn:r<=n
   ·have L:r<=(n:Int):=o_;have d:Hid (Fx w _ o g (_+_+5*0) c):=a;clear a;go_upto_region 14 with fail;clear D u z;generalize wr=wb at *;go_loopw [9] (λtf wr=>∃f:Nat,f<=s+1/\tf=.int .i64 f/\Hid (Fx w wr o g (N+150+25*r+5*f) c)) (λtf _=>s+1-(intOf tf).toNat)
    case atStart=>grind
    case round=>
     clear d;obtain⟨f,hf,rfl,a⟩:=hrel;obtain⟨D,u,z⟩:=I _ _ a
     by_cases hfm:f<=s
     ·have F:f<=(s:Int):=o_;have C:=O 9 (r:Nat) (f:Nat) _ _ a o_;go_wp2_with fail
      refine C.mono ?_;rintro e P ⟨rfl,i⟩;have b:Hid (Fx w _ o g (_+5*(f+1)) c):=i;clear i C a D u z;go_wp2;go_roundw;case rel=>exact⟨f+1,o_,g_,b⟩
      case measure=>exact z_
     have F:¬f<=(s:Int):=o_;have b:Hid (Fx w wr o g (N+150+25*(r+1)) c):=a.more o_;clear a;go_wp2;go_roundw;case rel=>exact⟨r+1,o_,g_,b⟩
     case measure=>exact z_
   have L:¬r<=(n:Int):=o_;have Q:Hid (Fx w _ o g (N+6000) c):=a.more o_;clear a;go_wp2;go_ret;exact⟨rfl,Q⟩
end
def Zlb:(Tryz.prog.info? 96).map (λi=>(i.zero,i.size,i.bytes))=some (some (.pointer none),1,8):=k_
def ZjN:(Tryz.prog.info? 208).map (λi=>(i.zero,i.size,i.bytes))=some (some (.pointer none),1,8):=k_
structure Yg(w w':World)(g j tp ty:Nat)(c:Array Value)(v:Value)(ps)(p1 p2)(dp)(v'):Prop where
 lo:w.heap.size<=dp
 pr:w'.heap[dp]? =some (.cells #[p1,p2] tp (0,0))
 wb:WB w' g (c.setIfInBounds j v')
 row:w'.ownsRow 0 ty 1 v' (ps.length+1) (ps++[P_ dp])
 own:∀k,v'.ownBlock=some k->v.ownBlock=some k∨w.heap.size<=k
 tch:Aa (λk=>k=g∨v.ownBlock=some k) w w'
def WB.ne{w g c}(h:WB w g c){base ty size n:Nat}{v xs}(hr:w.ownsRow base ty size v n xs)(ht:ty≠90):v.ownBlock≠some g:=λe=>by
 obtain⟨cur,hc⟩:=Ad hr e;rw[h] at hc
 grind
def Zck g w:C_ 127 #[.pointer (some ⟨g,0,none⟩),.pointer none,.pointer none] w λe w'=>e=.returned (.bool true)/\w'=w:=by go_enter Tryz.func127,Tryz.ntmps127;go_wp2;go_ret;exact⟨rfl,rfl⟩
def Zbx(w:World)(a b:Nat) c p:∀j u,[p][j]? =some u->((w.alloc (.cells c a)).alloc (.cells #[p] b)).cell? (((A_ (w.heap.size+1) 0):Addr).add j)=some u:=by have:=Am (w.alloc (.cells c a)) #[p] b;rw[show(w.alloc (.cells c a)).heap.size=w.heap.size+1 by simp] at this;exact this
def Yg.of{w f}{g j l b:Nat}{c v m p1 n h}(q:WB w g c)(t:w.ownsRow 0 b 1 v h.length h)(d:b≠90)(r:f.ownsRow 0 b 1 m (h.length+1) (h++[P_ w.heap.size]))(p:((w.alloc (.cells #[p1,n] l)).alloc (.cells #[P_ w.heap.size] b)).grownBy f v.ownBlock)(u:∀k,m.ownBlock=some k->v.ownBlock=some k∨w.heap.size<=k):WB f g c/\Yg w (f.setCell (A_ g j) m) g j l b c v h p1 n w.heap.size m:=by
 have o:=q.ne t d;have z:=q.lt;have x:Aa (λk=>k=g∨_) w _:=(((Aa.refl _ w).alloc _).alloc _).grown p (λk e _=>.inr e);have a:=((q.alloc _).alloc _).grown p (λe=>o e.symm);have y:f.heap[w.heap.size]? =some (.cells #[p1,n] l (0,0)):=(by have s:((w.alloc (.cells #[p1,n] l)).alloc (.cells #[P_ w.heap.size] b)).heap[_]? =_:=(hc_ s_).trans (ha_ w _);refine(p.block _ (Qb s).1 (λe=>?_)).trans s;have:=(rl_ t _ e.symm).2;omega);have i:=a.ne r d;refine⟨a,qa_,?_,a.set j _,?_,u,x.setCell (λ_=>.inl rfl) _⟩
 ·grind [Below.heap_setCell]
 exact(Aa.setCell (S:=λk=>k=g) (Aa.refl _ _) (λ_=>rfl) _).row r (λk hk e=>i w_)
def Zcl g t s c v f w (d:WB w g c)(b:c[2]? =some v)(n:w.ownsRow 0 96 1 v f.length f)(O:f.length<=10000000):C_ 127 #[.pointer (some ⟨g,0,none⟩),.pointer (some ⟨t,0,none⟩),.pointer (some ⟨s,0,none⟩)] w λe w'=>e=.returned (.bool true)/\∃dp v',Yg w w' g 2 137 96 c v f (.pointer (some ⟨t,0,none⟩)) (.pointer (some ⟨s,0,none⟩)) dp v':=by
 obtain⟨B,h,l,i,m⟩:=info_parts Zlb;have C:=x1_ d;have x:=x1_ n;have z:=x1_ (d.ne n d_);have N:=x1_ d.lt;have A:w.cell? (A_ g 2)=some v:=(by rw[d.cell];exact b);have D:=λo=>d.frozen o;have I:=x1_ b;clear d n b;go_enter Tryz.func127,Tryz.ntmps127;go_wp2_with (at_builtin;refine Ab rfl _ _ 82 rfl 0 96 B _ 1 8 Tryz.underlying82 h l i m rfl d_ v _ f rfl (ra_ (ra_ x _) _) _ 1 1 _ rfl rfl (Zbx w 137 96 _ _) (by intro u p;simp only[List.mem_cons,List.not_mem_nil,or_false] at p;subst p;rfl) d_ m_ o_ qg_ ?_)
 intro v' y G;obtain⟨r,b,E,_,M,L,rfl⟩:=G;obtain⟨a,q⟩:=Yg.of (j:=2) C x d_ r b (λk hk=>w_);have H:Hid (Yg w _ g 2 _ 96 c v _ _ _ _ _):=q;have J:y.cell? (A_ g 2)=some v:=(by rw[a.cell];exact I);have F:=λo=>a.frozen o;clear r b E a q A D;go_wp2;go_ret;exact⟨rfl,_,_,H⟩
structure RP where
 pb:Nat
 ib:Nat
 yb:Nat
 fk:Nat
 fc:Nat
 m:Nat
 wd:Nat->Bool
 sc:Nat->Int
 ct:Nat->Int
 bins:Int
 size:Nat
 budget:Nat
 T:ByteArray
 cl:Bool
def ptR(r:RP):Value:=P_ r.pb
def ptD(d:Nat):Value:=P_ d
structure ZgQ(w:World)(o:Nat->Nat)(t)(r:RP):Prop where
 pr:w.heap[r.pb]? =some (.cells #[P_ r.ib,P_ r.yb] 210 (0,0))
 po:o r.pb=16
 cf:Sk r.m r.wd r.sc r.ct r.bins r.size r.budget
 x:Oq w o t r.ib r.m r.wd r.sc r.ct r.bins r.size r.budget r.T r.cl
 y:Kx w o (t+1) r.yb r.fk r.fc r.m r.wd r.sc r.ct r.bins r.size r.budget r.T r.cl
def Zjg(w:World)(o:Nat->Nat)(dp:Nat):Prop:=∃gb db yb base m n budget es Bb vF vB vC vX kvs bvs cvs X,Ii w o 17 (λW=>Jx W dp gb db yb base m n budget es Bb vF vB vC vX kvs bvs cvs X)/\On m n budget es Bb X
structure Es(Z:Nat->Prop)(w)(o)(g)(c)(N L)(v1 v2)(rs:List RP)(ds:List Nat):Prop where
 bk:Hx w o g c N
 n9:∀k,w.heap.size<=k->o k=99
 c1:c[1]? =some v1
 r1:w.ownsRow 0 208 1 v1 (rs.map ptR).length (rs.map ptR)
 o1:∀k,v1.ownBlock=some k->o k=14
 c2:c[2]? =some v2
 r2:w.ownsRow 0 96 1 v2 (ds.map ptD).length (ds.map ptD)
 o2:∀k,v2.ownBlock=some k->o k=15
 rd:∀i r,rs[i]? =some r->ZgQ w o (100+2*i) r
 sz:∀r∈rs,r.T.size<=L
 dt:∀d∈ds,Zjg w o d
 lo:∀k,Z k->k<w.heap.size/\o k=98
def Fa(Z:Nat->Prop)(w w':World):Prop:=Aa (λk=>¬Z k) w w'
def Fa.of_below{Z w w'}(h:Below w.heap.size w w'):Fa Z w w':=Aa.of_below h
def Fa.trans{Z w w' w2}(h:Fa Z w w')(h':Fa Z w' w2):Fa Z w w2:=Aa.trans h h'
section
variable {w w':World} {o o':Nat->Nat} {g N N' L L' t:Nat} {c c':Array Value} {v1 v2 v1' v2':Value} {rs:List RP} {ds:List Nat} {r:RP} {S Z:Nat->Prop}
def Dr.at(h:Dr w o o'){k a}(b:k<w.heap.size)(e:o k=a)(d:a≠99):o' k=a:=by rcases h k b with c|c<;>omega
def ZgQ.keep(h:ZgQ w o t r)(b:Aa S w w')(c:∀k,k<w.heap.size->S k->o k≠16/\o k≠t/\o k≠t+1)(a:Dr w o o')(f:100<=t):ZgQ w' o' t r:=by have d:=(Qb h.pr).1;exact⟨b.at_ h.pr (λe=>(c _ d e).1 h.po),a.at d h.po d_,h.cf,h.x.keep b (λk hk e=>(c k hk e).2.1) a o_,h.y.keep b (λk hk e=>(c k hk e).2.2) a o_⟩
def Zjg.keep{d}(h:Zjg w o d)(y:Aa S w w')(z:∀k,k<w.heap.size->S k->o k≠17)(l:Dr w o o'):Zjg w' o' d:=by obtain⟨t,x,s,b,m,n,a,q,p,j,u,i,v,c,f,e,X,g,r⟩:=h;exact⟨t,x,s,b,m,n,a,q,p,j,u,i,v,c,f,e,X,g.step y z l,r⟩
def Hx.put(h:Hx w o g c N)(b:Aa S w w')(p:∀k,k<w.heap.size->S k->k=g∨13<o k)(m:WB w' g c')(a:Dr w o o')(e:∀j,4<=j->c'[j]? =c[j]?)(n:c'.size=13):Hx w' o' g c' N:=by
 have i:∀k,k<w.heap.size->S k->o k=0∨13<o k:=λk hk e=>by
  rcases p k hk e with rfl|e
  exact .inl h.og;exact .inr e
 obtain⟨z,f,l,d⟩:=h.nx;refine⟨m,a.at h.wb.lt h.og d_,n,⟨z,(e _ d_).trans f,l,d⟩,?_,?_,?_,?_⟩;exact h.es.keep b (λk hk e=>w_) a d_ (e 4 d_) (e 5 d_) qa_;exact h.ns.keep b (λk hk e=>w_) a d_ (e 6 d_) (e 7 d_) qa_;exact h.ss.keep b (λk hk e=>w_) a d_ (e 8 d_) (e 9 d_) qa_;exact h.ls.keep b (λk hk e=>w_) a d_ (e _ d_) (e _ d_) qa_
def Jp{ty n a:Nat}{v xs}(h:w.ownsRow 0 ty 1 v n xs)(hc:∀k,v.ownBlock=some k->o k=a)(tc:Aa S w w')(hs:∀k,k<w.heap.size->S k->o k≠a)(ho:Dr w o o')(h9:a≠99):w'.ownsRow 0 ty 1 v n xs/\∀k,v.ownBlock=some k->o' k=a:=
 ⟨tc.row h (λk hk e=>hs k (rl_ h k hk).2 e (hc k hk)),λk hk=>ho.at (rl_ h k hk).2 (hc k hk) h9⟩
def Es.old(h:Es Z w o g c N L v1 v2 rs ds)(ho:Dr w o o')(hs:w.heap.size<=w'.heap.size):∀k,Z k->k<w'.heap.size/\o' k=98:=λk hk=>⟨Qh (h.lo k hk).1 hs,ho.at (h.lo k hk).1 (h.lo k hk).2 d_⟩
def Es.low(h:Es Z w o g c N L v1 v2 rs ds)(tc:Aa S w w')(hs:∀k,k<w.heap.size->S k->o k≠98):Fa Z w w':=tc.mono (λk hk e hz=>hs k hk e (h.lo k hz).2)
def Es.book(h:Es Z w o g c N L v1 v2 rs ds)(s:Fx w w' o g N' c):(∃o' c',Es Z w' o' g c' N' L v1 v2 rs ds)/\Fa Z w w':=by
 obtain⟨o',c',q,f,b,j,u,m⟩:=s
 have l:∀{a},13<a->a≠99->∀k,k<w.heap.size->(o k<=13∨o k=99)->o k≠a:=λh1 h2 k _ e=>o_
 obtain⟨p1,t⟩:=Jp h.r1 h.o1 b (l d_ d_) f d_;obtain⟨n,p⟩:=Jp h.r2 h.o2 b (l d_ d_) f d_;refine⟨⟨o',c',q,m,(j 1 d_).trans h.c1,p1,t,(j 2 d_).trans h.c2,n,p,λi r hr=>(h.rd i r hr).keep b (λk _ e=>o_) f o_,h.sz,λd hd=>(h.dt d hd).keep b (λk _ e=>o_) f,h.old f b.size⟩,h.low b (λk _ e=>o_)⟩
def Es.part{i r f}(h:Es Z w o g c N L v1 v2 rs ds)(m:rs[i]? =some r)(a:Aa (λk=>o k=100+2*i∨o k=100+2*i+1) w w')(b:Dr w o o')(v:∀k,w'.heap.size<=k->o' k=99)(y:ZgQ w' o' (100+2*i) f)(e:f.pb=r.pb)(l:L<=L')(x:f.T.size<=L'):Es Z w' o' g c N L' v1 v2 (rs.set i f) ds/\Fa Z w w':=by
 have t:=(List.getElem?_eq_some_iff.1 m).1
 have n:(rs.set i f).map ptR=rs.map ptR:=by
  apply List.ext_getElem?
  grind [ptR]
 obtain⟨p1,u⟩:=Jp h.r1 h.o1 a (λk _ e=>o_) b d_;obtain⟨p,s⟩:=Jp h.r2 h.o2 a (λk _ e=>o_) b d_;refine⟨⟨h.bk.keep a (λk _ e=>o_) b,v,h.c1,by rw[n];exact p1,u,h.c2,p,s,λj q hq=>?_,λq hq=>?_,λd hd=>(h.dt d hd).keep a (λk _ e=>o_) b,h.old b a.size⟩,h.low a (λk _ e=>o_)⟩
 ·rw[List.getElem?_set] at hq;split at hq
  ·grind
  exact(h.rd j q hq).keep a (λk _ e=>o_) b o_
 rcases List.mem_or_eq_of_mem_set hq with e|e
 exact Nat.le_trans (h.sz q e) l
 grind
end
end Go.Proofs.YtfcgnpchbcmdeaaGreat
