import Derived.Test.YtfcgnpchbcmdeaaGreatZrao
import Derived.Deep.OwnRows
namespace Go.Proofs.YtfcgnpchbcmdeaaGreat
set_option linter.all false
set_option maxRecDepth 100000
set_option maxHeartbeats 4000000
open Go.RowKit
def Yp(x:Ct) k t s w (d:0<=x.lo/\0<=x.hi/\x.lo<=1000000000000/\x.hi<=1000000000000)(b:0<=k/\k<=2097152)(c:0<=t/\t<=1000000000000)(a:2<=s/\s<=2097152):C_ 177 #[.agg #[.int .i64 x.v,.int .i64 x.lo,.int .i64 x.hi,.int .i64 x.wt],.int .i64 k,.int .i64 t,.int .i64 s] w λe w'=>e=.returned (.int .i64 (if(x.lo+x.hi)*(s-1)-2*k*t<0 then -((x.lo+x.hi)*(s-1)-2*k*t) else(x.lo+x.hi)*(s-1)-2*k*t))/\w'=w.alloc (.cells #[.int .i64 x.v,.int .i64 x.lo,.int .i64 x.hi,.int .i64 x.wt] 98):=by
 obtain⟨u,n,i,o⟩:=d;obtain⟨l,p⟩:=b;obtain⟨q,m⟩:=c;obtain⟨f,g⟩:=a;have p1:0<=(x.lo+x.hi)*(s-1):=Int.mul_nonneg o_ o_;have j:(x.lo+x.hi)*(s-1)<=2000000000000*2097152:=Int.mul_le_mul o_ o_ o_ o_;have r:0<=2*k*t:=Int.mul_nonneg o_ o_;have h:2*k*t<=4194304*_:=Int.mul_le_mul o_ o_ o_ o_
 by_cases hc:(x.lo+x.hi)*(s-1)-2*k*t<0
 all_goals
  first|rw[if_pos hc]|rw[if_neg hc]
  go_enter Tryz.func177,Tryz.ntmps177;go_wp2;go_ret;exact⟨rfl,rfl⟩
def ZlT:(Tryz.prog.info? 4).map (λi=>(i.zero,i.size,i.bytes))=some (some (.bool false),1,1):=k_
def Aj.not_row{w a v L b n f}(h:Aj w a v L)(d:w.rowIs b 4 n f):v.ownBlock≠some b:=by
 intro e;obtain⟨c,i,_⟩:=d
 rcases h.2 with⟨rfl,_⟩|⟨g,cap,cur,rfl,_,hg,_⟩
 simp[Value.ownBlock] at e;simp[Value.ownBlock] at e;subst e;rw[i] at hg;simp at hg
def Zg7{p:Prop}(h:p:=by
 go_wp2_with fail
 go_region_with (first|(go_at_call_of 177 (x1.v);refine(HCX _).mono ?_;rintro e w' ⟨rfl,rfl⟩)|(go_at_call_of 177 (x2.v);refine(HCY _).mono ?_;rintro e w' ⟨rfl,rfl⟩))
 all_goals go_wp2
 all_goals
  go_roundw;case rel=>exact⟨i+1,o_,o_,g_,by rw[show i+1-1=i by omega,HRD2],((hbq.alloc hbq.size _).alloc (by have:=hbq.size;simp;omega) _).drew⟩
  case measure=>exact z_):p:=h
def jv a L I size w (h:Di w a L)(g:Bq L)(hn:a=none->I=0)(b3:L.length<=2097152):C_ 121 #[.slice a L.length I,.int .i64 size] w λe w'=>∃v,e=.returned v/\Aj w' w.heap.size v (Do L size)/\Below w.heap.size w w':=by
 obtain⟨i0,l,G,E,B⟩:=info_parts Qq;have HE:=x1_ h;have HG:=x1_ g;clear h g;obtain⟨s,hs⟩:∃s:Nat,max size 2=s:=⟨(max size 2).toNat,o_⟩;have aL:2<=s:=o_
 have HC:Hid (Do L size=if L.length<=s then L else Ei L s (s-2)++[L.getD (L.length-1) e0]):=show _=_ by unfold Do;rw[hs,Int.toNat_natCast];by_cases hc:L.length<=s;rw[if_pos hc,if_pos o_];rw[if_neg hc,if_neg o_]
 have HS:=x1_ hs;clear hs;go_enter Tryz.func121,Tryz.ntmps121;go_upto_if 12 with fail
 go_cut [1] (λv wx=>v=.int .i64 s/\wx=w)
 case first=>
  have X:=HS.out
  by_cases h2:size<2
  ·have e:(s:Int)=2:=o_;go_wp2;go_meet
   exact⟨by rw[e],rfl⟩
  have e:s=size:=o_;go_wp2;go_meet
  exact⟨by rw[e],rfl⟩
 case rest=>
  obtain⟨rfl,hw⟩:=hcut;have aM:=hw.symm;clear hw;subst aM
  by_cases hle:L.length<=s
  ·have C:Hid (Do L _=L):=show _=_ by rw[HC,if_pos hle]
   have dl:decide ((L.length:_)<=(s:Int))=_:=decide_eq_true o_
   by_cases M:L.length=0
   ·have hL:=List.eq_nil_of_length_eq_zero M;subst hL
    cases a with
    | none=>
     have a5:=hn rfl;subst a5;clear hn;go_wp2_with (at_builtin;refine wpList_append_own_none rfl _ _ _ rfl w.heap.size _ _ 4 Tryz.underlying29 l (.slice _ 0 0) 0 _ rfl (Aj.nil _ _) rfl ?_)
     go_ret;exact⟨_,rfl,by rw[C];exact Aj.nil _ _,bz_⟩
    | some ad=>
     clear hn;go_wp2_with (at_builtin;refine wpList_append_own _ rfl _ _ 29 rfl w.heap.size 98 i0 _ 4 32 Tryz.underlying29 l G E B rfl d_ (.slice _ 0 0) 0 [] rfl (Aj.nil _ _) ad 0 I [] rfl rfl s_ s_ ?_ ?_ ?_ ?_)
     unfold maxLen;omega;omega;exact qa_;intro v3 w3 f c _;have hb:=bz_.grown c qa_ (λk hk=>by simp[Value.ownBlock] at hk)
     have hF:Aj w3 w.heap.size v3 []:=by simpa [Aj,flat] using f
     have Y:=x1_ hF;clear f c hF;go_wp2;go_ret;exact⟨_,rfl,by rw[C];exact Y,hb⟩
   rcases HE.out with⟨_,h1|⟨b,off,rfl,hA⟩⟩;exact absurd h1 M;clear hn;go_wp2_with (at_builtin;refine wpList_append_own _ rfl _ _ 29 rfl w.heap.size 98 i0 _ 4 32 Tryz.underlying29 l G E B rfl d_ (.slice none 0 0) 0 [] rfl (Aj.nil _ _) _ L.length I _ rfl (Ef L) (ii hA) (Sp L) ?_ ?_ ?_ ?_)
   unfold maxLen;omega;omega;exact qa_;intro v3 w3 f c _;have hb:=bz_.grown c qa_ (λk hk=>by simp[Value.ownBlock] at hk)
   have hF:Aj w3 w.heap.size v3 L:=by simpa [Aj] using f
   have Y:=x1_ hF;clear f c hF;go_wp2;go_ret;exact⟨_,rfl,by rw[C];exact Y,hb⟩
  clear hn;have h3:3<=L.length:=o_
  have C:Hid (Do L _=_):=show _=_ by rw[HC,if_neg hle]
  have dl:decide ((L.length:_)<=(s:Int))=_:=decide_eq_false o_;rcases HE.out with⟨_,M|⟨b,off,rfl,hA⟩⟩;omega;have b8:=hA.lt o_;have aQ:=run_make_row' (P:=Tryz.prog) 101 4 _ 1 Tryz.underlying101 ZlT rfl .i64 .i64 L.length o_ o_;obtain⟨a0,a1,a2,a3⟩:w.cell? (A_ b off)=some (I_ (L.getD 0 e0).v)/\w.cell? (A_ b (off+1))=some (I_ (L.getD 0 e0).lo)/\w.cell? (A_ b (off+2))=some (I_ (L.getD 0 e0).hi)/\w.cell? (A_ b (off+3))=some (I_ (L.getD 0 e0).wt):=by have M:=hA.v 0 o_;have h1:=hA.lo 0 o_;have h2:=hA.hi 0 o_;have h3:=hA.wt 0 o_;simp only[Nat.zero_mul,Nat.add_zero] at M h1 h2 h3;exact⟨M,h1,h2,h3⟩
  have aX:Hid (Ei L s 0=[_]):=show _=_ from rfl
  clear hA;generalize L.getD 0 e0=x at *;have b1:0<(L.length:Int):=o_;have b2:0<L.length:=o_;go_wp2_with (at_builtin;refine wpList_append_own _ rfl _ _ 29 rfl w.heap.size 98 i0 _ 4 32 Tryz.underlying29 l G E B rfl d_ (.slice none 0 0) 0 [] rfl (Aj.nil _ _) _ 1 1 [I_ x.v,I_ x.lo,I_ x.hi,I_ x.wt] rfl rfl (Am w _ 98) (Ql x.v x.lo x.hi x.wt) m_ o_ s_ ?_)
  intro v1 O H a9 _;have u:=bA_.grown a9 s_ (λq hq=>by simp[Value.ownBlock] at hq)
  have aF:Aj O w.heap.size v1 [x]:=by simpa [Aj,flat,Ee] using H
  have aA:=x1_ aF;clear H a9 aF a0 a1 a2 a3;go_wp2_with fail
  refine(Zae _ L _ _ (HE.below (u.alloc u.size _))).mono ?_;rintro e w2 ⟨rfl,rfl⟩;have aR:=Df HG;obtain⟨t1,t2⟩:=aR;have aW:=x1_ u.size;have aE:Hid ((O.alloc _).rowIs _ 4 _ (λi=>.bool (Ja L s 0 i))):=World.rowIs_made _ (.bool _) L.length 4;generalize htt:Ae L=t at *;have HT:=x1_ htt;clear htt aQ;go_wp2_with fail
  go_loopw [5,8] (λo tk wr=>∃m:Nat,m<=s-2/\tk=.int .i64 ((m:Int)+1)/\Hid (Aj wr w.heap.size o (Ei L s m)/\wr.rowIs O.heap.size 4 L.length (λi=>.bool (Ja L s m i)))/\E_ w wr) (λ_ tk _=>s-(intOf tk).toNat)
  case atStart=>exact⟨0,qg_,rfl,⟨by rw[aX];exact aA.alloc _,aE⟩,u.alloc u.size _⟩
  case round=>
   clear aA aE u;obtain⟨m,hm,rfl,HR,n⟩:=hrel
   rename World=>wo
   obtain⟨R,N⟩:=HR;have HO:=x1_ R;have HW:=x1_ N;have X:=n.size;have bD:=it (L:=L) s m;clear R N
   by_cases hms:m<s-2
   ·have bE:m+1<=(s:Int)-2:=o_;have z:=Fl L s (m+1) h3;have b7:=x1_ z;go_wp2_with fail
    go_loopw [9,10] (λtb ti wq=>∃i:Nat,2<=i/\i+1<=L.length/\ti=.int .i64 i/\tb=.int .i64 (min (i-1) (Cy L s (m+1)):Nat)/\E_ wo wq) (λ_ ti _=>L.length-(intOf ti).toNat)
    case atStart=>exact⟨2,qa_,o_,rfl,by rw[show min (2-1) (Cy L s (m+1))=1 by have:=z.pos;omega];rfl,bz_⟩
    case round=>
     obtain⟨i,aP,b5,rfl,rfl,hbq⟩:=hrel;have F:=n.trans (hbq.mono X);have aY:=F.size;generalize hbe:min (i-1) (Cy L s (m+1))=be at *;have a7:=x1_ hbe;have aD:1<=be/\be+2<=L.length:=(by have:=z.pos;have:=z.le;omega);obtain⟨e1,e2⟩:=aD;clear hbe
     by_cases hie:i+1<L.length
     ·rcases(HE.below F) with⟨_,M|⟨b',off',heb,hA⟩⟩;omega;simp only[Option.some.injEq,Addr.mk.injEq,and_true] at heb;obtain⟨rfl,rfl⟩:=heb;have gx:=HG.at (show i<L.length by omega);have gy:=HG.at (show be<L.length by omega);obtain⟨a0,a1,a2,a3⟩:wr.cell? (A_ b (off+i*4))=some (I_ (L.getD i e0).v)/\wr.cell? (A_ b (off+i*4+1))=some (I_ (L.getD i e0).lo)/\wr.cell? (A_ b (off+i*4+2))=some (I_ (L.getD i e0).hi)/\wr.cell? (A_ b (off+i*4+3))=some (I_ (L.getD i e0).wt):=⟨hA.v i o_,hA.lo i o_,hA.hi i o_,hA.wt i o_⟩
      obtain⟨c0,c1,c2,c3⟩:wr.cell? (A_ b (off+be*4))=some (I_ (L.getD be e0).v)/\wr.cell? (A_ b (off+be*4+1))=some (I_ (L.getD be e0).lo)/\wr.cell? (A_ b (off+be*4+2))=some (I_ (L.getD be e0).hi)/\wr.cell? (A_ b (off+be*4+3))=some (I_ (L.getD be e0).wt):=⟨hA.v be o_,hA.lo be o_,hA.hi be o_,hA.wt be o_⟩
      have HX:Hid (0<=(L.getD i e0).lo/\0<=(L.getD i e0).hi/\(L.getD i e0).lo<=1000000000000/\(L.getD i e0).hi<=1000000000000):=show _/\_ by omega
      have HY:Hid (0<=(L.getD be e0).lo/\0<=(L.getD be e0).hi/\(L.getD be e0).lo<=1000000000000/\(L.getD be e0).hi<=1000000000000):=show _/\_ by omega
      have aC:Hid (Lx L s (m+1) i=(if((L.getD i e0).lo+(L.getD i e0).hi)*(s-1)-2*(m+1)*t<0 then -(((L.getD i e0).lo+(L.getD i e0).hi)*(s-1)-2*(m+1)*t) else((L.getD i e0).lo+(L.getD i e0).hi)*(s-1)-2*(m+1)*t)):=show _=_ by unfold Lx;rw[HT];rfl
      have aB:Hid (Lx L s (m+1) be=(if((L.getD be e0).lo+(L.getD be e0).hi)*(s-1)-2*(m+1)*t<0 then -(((L.getD be e0).lo+(L.getD be e0).hi)*(s-1)-2*(m+1)*t) else((L.getD be e0).lo+(L.getD be e0).hi)*(s-1)-2*(m+1)*t)):=show _=_ by unfold Lx;rw[HT];rfl
      have HCX:Hid (∀W:World,C_ 177 _ W λe w'=>e=.returned (.int .i64 (Lx L s (m+1) i))/\_):=λW=>by rw[aC];exact Yp _ _ _ _ W HX o_ o_ o_
      have HCY:Hid (∀W:World,C_ 177 _ W λe w'=>e=.returned (.int .i64 (Lx L s (m+1) be))/\_):=λW=>by rw[aB];exact Yp _ _ _ _ W HY o_ o_ o_
      have a6:Hid ((if _<Lx L s _ be then i else be)=min i _):=show _=_ by rw[<- a7];exact Zct HG aL aP hie
      clear hA gx gy HX HY aC aB;generalize Lx L s (m+1) i=d1,Lx L s (m+1) be=d2,L.getD i e0=x1,L.getD be e0=x2 at *;have aZ:b<wr.heap.size:=o_;have b9:0<=(i:Int):=o_;have bC:i<(L.length:Int):=o_;have aI:i<(L.length:Int)-1:=o_;have aV:0<=(be:Int):=o_;have aU:be<(L.length:Int):=o_
      by_cases hd:d1<d2
      ·have HRD2:Hid (min i _=i):=show _=_ by rw[<- a6,if_pos hd]
       exact Zg7
      have HRD2:Hid (min i _=_):=show _=_ by rw[<- a6,if_neg hd]
      exact Zg7
     have A:be=Cy L s (m+1):=(by have:=a7.out;have:=z.le;omega);have J:=x1_ A;have T:=x1_ (HO.below hbq);have D:=x1_ (HW.of_block (hbq.block _ HW.lt));have ct:=D.cell (show be<L.length by omega);have bB:=D.frozen be;have U:Ja L s m be=decide (be=Jx L s m):=(by rw[A];exact Zgt HG s m h3);rw[U] at ct;have aV:0<=(be:Int):=o_;have aU:be<(L.length:Int):=o_;have aI:¬i<(L.length:Int)-1:=o_
     have a8:Hid (∀j,Ja L s _ j=_):=λj=>by rw[ZdT,<- J]
     have aK:=x1_ U;clear A U
     by_cases hbp:be=Jx L s m
     ·have Z:Hid (Ei L s (m+1)=_):=show _=_ by simp only[Ei];rw[if_pos (by rw[<- J];exact hbp)]
      have aG:Hid (∀j,Ja L s (m+1) j=Ja L s m j):=λj=>by
       rw[a8]
       by_cases e:be=j
       rw[<- e,aK,decide_eq_true hbp,Bool.true_or];simp[e]
      rw[decide_eq_true hbp] at ct;clear hbp;refine rd_ ?_;exact⟨m+1,o_,g_,⟨by rw[Z];exact T,D.congr (λj _=>by rw[aG])⟩,F⟩
     have Z:Hid (Ei L s (m+1)=_):=show _=_ by simp only[Ei];rw[if_neg (by rw[<- J];exact hbp),<- J]
     rw[decide_eq_false hbp] at ct;rcases(HE.below F) with⟨_,M|⟨b',off',heb,hA⟩⟩;omega;simp only[Option.some.injEq,Addr.mk.injEq,and_true] at heb;obtain⟨rfl,rfl⟩:=heb;obtain⟨c0,c1,c2,c3⟩:wr.cell? (A_ b (off+be*4))=some (I_ (L.getD be e0).v)/\wr.cell? (A_ b (off+be*4+1))=some (I_ (L.getD be e0).lo)/\wr.cell? (A_ b (off+be*4+2))=some (I_ (L.getD be e0).hi)/\wr.cell? (A_ b (off+be*4+3))=some (I_ (L.getD be e0).wt):=⟨hA.v be o_,hA.lo be o_,hA.hi be o_,hA.wt be o_⟩;clear hA hbp;have aJ:=aW.out;have bF:O.heap.size≠b:=o_;generalize L.getD be e0=y,hkk:Ei L s m=kk at *;clear hkk;have a4:Hid (Aj (wr.setCell _ (.bool true)) _ _ _):=T.kept (Bm (Bo _ _) be _) (T.not_row D)
     have V:Hid ((wr.setCell (A_ O.heap.size be) (.bool true)).rowIs O.heap.size 4 L.length (λj=>.bool (Ja L s (m+1) j))):=(D.set _ _).congr (λj _=>by
      rw[a8]
      by_cases e:j=be
      rw[if_pos e,e];simp;rw[if_neg e];have:(be==j)=false:=beq_eq_false_iff_ne.2 (λx=>e x.symm)
      rw[this,Bool.or_false])
     have aN:Below _ w (wr.setCell (A_ O.heap.size be) (.bool true)):=F.setCell aJ _;go_wp2_with (at_builtin;refine wpList_append_own _ rfl (.tmp 70) (.tmp 75) 29 rfl w.heap.size 98 i0 _ 4 32 Tryz.underlying29 l G E B rfl d_ _ kk.length (flat kk) rfl (a4.alloc _) _ 1 1 _ rfl rfl ?_ (Ql y.v y.lo y.hi y.wt) m_ o_ t_ ?_)
     intro v5 w5 d r _;have S:=(aN.alloc t_ _).grown r t_ (λq hq=>(a4.lt q hq).1);have Y:=x1_ (Aj.more d);have aT:Hid (w5.rowIs O.heap.size 4 L.length (λj=>.bool (Ja L s (m+1) j))):=(by have hx:=a4.not_row V;have aS:=V.lt;refine(V.alloc _).of_block (r.block _ ?_ (λe=>hx e.symm));simp at aS ⊢;omega);clear d r c0 c1 c2 c3 ct;refine rd_ ?_;exact⟨m+1,o_,g_,⟨by rw[Z];exact Y,aT⟩,S⟩
   have Q:s-2=m:=o_;have b6:¬m+1<=(s:Int)-2:=o_
   have aO:Hid (Do L _=_):=show _=_ by rw[C,Q]
   rcases(HE.below n) with⟨_,M|⟨b',off',heb,hA⟩⟩;omega;simp only[Option.some.injEq,Addr.mk.injEq,and_true] at heb;obtain⟨rfl,rfl⟩:=heb;obtain⟨c0,c1,c2,c3⟩:wo.cell? (A_ b (off+(L.length-1)*4))=some (I_ (L.getD (L.length-1) e0).v)/\wo.cell? (A_ b (off+(L.length-1)*4+1))=some (I_ (L.getD (L.length-1) e0).lo)/\wo.cell? (A_ b (off+(L.length-1)*4+2))=some (I_ (L.getD (L.length-1) e0).hi)/\wo.cell? (A_ b (off+(L.length-1)*4+3))=some (I_ (L.getD (L.length-1) e0).wt):=⟨hA.v _ o_,hA.lo _ o_,hA.hi _ o_,hA.wt _ o_⟩;clear hA;generalize L.getD (L.length-1) e0=y,hkk:Ei L s m=kk at *;clear hkk hms Q;obtain⟨q,hq⟩:∃q,L.length=q+1:=⟨L.length-1,o_⟩;have aH:L.length-1=q:=o_;rw[aH] at c0 c1 c2 c3
   have bA:L.length-1=(q:Int):=o_;go_wp2_with (at_builtin;refine wpList_append_own _ rfl (.tmp 77) (.tmp 84) 29 rfl w.heap.size 98 i0 (.agg #[I_ 0,I_ 0,I_ 0,I_ 0]) 4 32 Tryz.underlying29 l G E B rfl d_ _ kk.length (flat kk) rfl (HO.alloc _) (A_ wo.heap.size 0) 1 1 [I_ y.v,I_ y.lo,I_ y.hi,I_ y.wt] rfl rfl (Am wo #[I_ y.v,I_ y.lo,I_ y.hi,I_ y.wt] 98) (Ql y.v y.lo y.hi y.wt) m_ o_ t_ ?_)
   intro v5 w5 d r _;have S:=(n.alloc X _).grown r t_ (λq hq=>(HO.lt q hq).1);have Y:=x1_ (Aj.more d);clear d r c0 c1 c2 c3;go_wp2;go_ret;exact⟨_,rfl,by rw[aO];exact Y,S⟩
end Go.Proofs.YtfcgnpchbcmdeaaGreat
