import Derived.Test.YtfcgnpchbcmdeaaGreatZrao
import Derived.Deep.OwnRows
namespace Go.Proofs.YtfcgnpchbcmdeaaGreat
set_option linter.all false
set_option maxRecDepth 100000
set_option maxHeartbeats 4000000
open Go.RowKit
def Yp(x:Ct) k t s w (a:0<=x.lo/\0<=x.hi/\x.lo<=1000000000000/\x.hi<=1000000000000)(b:0<=k/\k<=2097152)(d:0<=t/\t<=1000000000000)(c:2<=s/\s<=2097152):C_ 177 #[.agg #[.int .i64 x.v,.int .i64 x.lo,.int .i64 x.hi,.int .i64 x.wt],.int .i64 k,.int .i64 t,.int .i64 s] w λe w'=>e=.returned (.int .i64 (if(x.lo+x.hi)*(s-1)-2*k*t<0 then -((x.lo+x.hi)*(s-1)-2*k*t) else(x.lo+x.hi)*(s-1)-2*k*t))/\w'=w.alloc (.cells #[.int .i64 x.v,.int .i64 x.lo,.int .i64 x.hi,.int .i64 x.wt] 98):=by
 obtain⟨r,u,q,l⟩:=a;obtain⟨i,f⟩:=b;obtain⟨o,p⟩:=d;obtain⟨j,n⟩:=c;have p1:0<=(x.lo+x.hi)*(s-1):=Int.mul_nonneg o_ o_;have m:(x.lo+x.hi)*(s-1)<=2000000000000*2097152:=Int.mul_le_mul o_ o_ o_ o_;have g:0<=2*k*t:=Int.mul_nonneg o_ o_;have h:2*k*t<=4194304*_:=Int.mul_le_mul o_ o_ o_ o_
 by_cases hc:(x.lo+x.hi)*(s-1)-2*k*t<0
 all_goals
  first|rw[if_pos hc]|rw[if_neg hc]
  go_enter Tryz.func177,Tryz.ntmps177;go_wp2;go_ret;exact⟨rfl,rfl⟩
def ZkM:(Tryz.prog.info? 4).map (λi=>(i.zero,i.size,i.bytes))=some (some (.bool false),1,1):=k_
def Aj.not_row{w a v L b n f}(h:Aj w a v L)(i:w.rowIs b 4 n f):v.ownBlock≠some b:=by
 intro e;obtain⟨c,d,_⟩:=i
 rcases h.2 with⟨rfl,_⟩|⟨g,cap,cur,rfl,_,hg,_⟩
 simp[Value.ownBlock] at e;simp[Value.ownBlock] at e;subst e;rw[d] at hg;simp at hg
def Zg7{p:Prop}(h:p:=by
 go_wp2_with fail
 go_region_with (first|(go_at_call_of 177 (x1.v);refine(HCX _).mono ?_;rintro e w' ⟨rfl,rfl⟩)|(go_at_call_of 177 (x2.v);refine(HCY _).mono ?_;rintro e w' ⟨rfl,rfl⟩))
 all_goals go_wp2
 all_goals
  go_roundw;case rel=>exact⟨i+1,o_,o_,g_,by rw[show i+1-1=i by omega,HRD2],((hbq.alloc hbq.size _).alloc (by have:=hbq.size;simp;omega) _).drew⟩
  case measure=>exact z_):p:=h
def jv a L M size w (h:Di w a L)(g:Bq L)(hn:a=none->M=0)(aZ:L.length<=2097152):C_ 121 #[.slice a L.length M,.int .i64 size] w λe w'=>∃v,e=.returned v/\Aj w' w.heap.size v (Do L size)/\Below w.heap.size w w':=by
 obtain⟨i0,l,D,G,E⟩:=info_parts Qq;have HE:=x1_ h;have HG:=x1_ g;clear h g;obtain⟨s,hs⟩:∃s:Nat,max size 2=s:=⟨(max size 2).toNat,o_⟩;have aL:2<=s:=o_
 have HC:Hid (Do L size=if L.length<=s then L else Ei L s (s-2)++[L.getD (L.length-1) e0]):=show _=_ by unfold Do;rw[hs,Int.toNat_natCast];by_cases hc:L.length<=s;rw[if_pos hc,if_pos o_];rw[if_neg hc,if_neg o_]
 have HS:=x1_ hs;clear hs;go_enter Tryz.func121,Tryz.ntmps121;go_upto_if 12 with fail
 go_cut [1] (λv wx=>v=.int .i64 s/\wx=w)
 case first=>
  have a4:=HS.out
  by_cases h2:size<2
  ·have e:(s:Int)=2:=o_;go_wp2;go_meet
   exact⟨by rw[e],rfl⟩
  have e:s=size:=o_;go_wp2;go_meet
  exact⟨by rw[e],rfl⟩
 case rest=>
  obtain⟨rfl,hw⟩:=hcut;have aQ:=hw.symm;clear hw;subst aQ
  by_cases hle:L.length<=s
  ·have B:Hid (Do L _=L):=show _=_ by rw[HC,if_pos hle]
   have dl:decide ((L.length:_)<=(s:Int))=_:=decide_eq_true o_
   by_cases J:L.length=0
   ·have hL:=List.eq_nil_of_length_eq_zero J;subst hL
    cases a with
    | none=>
     have aE:=hn rfl;subst aE;clear hn;go_wp2_with (at_builtin;refine wpList_append_own_none rfl _ _ _ rfl w.heap.size _ _ 4 Tryz.underlying29 l (.slice _ 0 0) 0 _ rfl (Aj.nil _ _) rfl ?_)
     go_ret;exact⟨_,rfl,by rw[B];exact Aj.nil _ _,bz_⟩
    | some ad=>
     clear hn;go_wp2_with (at_builtin;refine wpList_append_own _ rfl _ _ 29 rfl w.heap.size 98 i0 _ 4 32 Tryz.underlying29 l D G E rfl d_ (.slice _ 0 0) 0 [] rfl (Aj.nil _ _) ad 0 M [] rfl rfl s_ s_ ?_ ?_ ?_ ?_)
     unfold maxLen;omega;omega;exact qa_;intro v3 w3 f d _;have hb:=bz_.grown d qa_ (λk hk=>by simp[Value.ownBlock] at hk)
     have hF:Aj w3 w.heap.size v3 []:=by simpa [Aj,flat] using f
     have T:=x1_ hF;clear f d hF;go_wp2;go_ret;exact⟨_,rfl,by rw[B];exact T,hb⟩
   rcases HE.out with⟨_,h1|⟨b,off,rfl,hA⟩⟩;exact absurd h1 J;clear hn;go_wp2_with (at_builtin;refine wpList_append_own _ rfl _ _ 29 rfl w.heap.size 98 i0 _ 4 32 Tryz.underlying29 l D G E rfl d_ (.slice none 0 0) 0 [] rfl (Aj.nil _ _) _ L.length M _ rfl (Ef L) (ii hA) (Sp L) ?_ ?_ ?_ ?_)
   unfold maxLen;omega;omega;exact qa_;intro v3 w3 f d _;have hb:=bz_.grown d qa_ (λk hk=>by simp[Value.ownBlock] at hk)
   have hF:Aj w3 w.heap.size v3 L:=by simpa [Aj] using f
   have T:=x1_ hF;clear f d hF;go_wp2;go_ret;exact⟨_,rfl,by rw[B];exact T,hb⟩
  clear hn;have h3:3<=L.length:=o_
  have B:Hid (Do L _=_):=show _=_ by rw[HC,if_neg hle]
  have dl:decide ((L.length:_)<=(s:Int))=_:=decide_eq_false o_;rcases HE.out with⟨_,J|⟨b,off,rfl,hA⟩⟩;omega;have bE:=hA.lt o_;have aX:=run_make_row' (P:=Tryz.prog) 101 4 _ 1 Tryz.underlying101 ZkM rfl .i64 .i64 L.length o_ o_;obtain⟨a0,a1,a2,a3⟩:w.cell? (A_ b off)=some (I_ (L.getD 0 e0).v)/\w.cell? (A_ b (off+1))=some (I_ (L.getD 0 e0).lo)/\w.cell? (A_ b (off+2))=some (I_ (L.getD 0 e0).hi)/\w.cell? (A_ b (off+3))=some (I_ (L.getD 0 e0).wt):=by have J:=hA.v 0 o_;have h1:=hA.lo 0 o_;have h2:=hA.hi 0 o_;have h3:=hA.wt 0 o_;simp only[Nat.zero_mul,Nat.add_zero] at J h1 h2 h3;exact⟨J,h1,h2,h3⟩
  have aR:Hid (Ei L s 0=[_]):=show _=_ from rfl
  clear hA;generalize L.getD 0 e0=x at *;have b1:0<(L.length:Int):=o_;have b2:0<L.length:=o_;go_wp2_with (at_builtin;refine wpList_append_own _ rfl _ _ 29 rfl w.heap.size 98 i0 _ 4 32 Tryz.underlying29 l D G E rfl d_ (.slice none 0 0) 0 [] rfl (Aj.nil _ _) _ 1 1 [I_ x.v,I_ x.lo,I_ x.hi,I_ x.wt] rfl rfl (Am w _ 98) (Ql x.v x.lo x.hi x.wt) m_ o_ s_ ?_)
  intro v1 N A aF _;have u:=bA_.grown aF s_ (λq hq=>by simp[Value.ownBlock] at hq)
  have aB:Aj N w.heap.size v1 [x]:=by simpa [Aj,flat,Ee] using A
  have a6:=x1_ aB;clear A aF aB a0 a1 a2 a3;go_wp2_with fail
  refine(Zae _ L _ _ (HE.below (u.alloc u.size _))).mono ?_;rintro e w2 ⟨rfl,rfl⟩;have aO:=Df HG;obtain⟨t1,t2⟩:=aO;have aU:=x1_ u.size;have aA:Hid ((N.alloc _).rowIs _ 4 _ (λi=>.bool (Ja L s 0 i))):=World.rowIs_made _ (.bool _) L.length 4;generalize htt:Ae L=t at *;have HT:=x1_ htt;clear htt aX;go_wp2_with fail
  go_loopw [5,8] (λo tk wr=>∃m:Nat,m<=s-2/\tk=.int .i64 ((m:Int)+1)/\Hid (Aj wr w.heap.size o (Ei L s m)/\wr.rowIs N.heap.size 4 L.length (λi=>.bool (Ja L s m i)))/\E_ w wr) (λ_ tk _=>s-(intOf tk).toNat)
  case atStart=>exact⟨0,qg_,rfl,⟨by rw[aR];exact a6.alloc _,aA⟩,u.alloc u.size _⟩
  case round=>
   clear a6 aA u;obtain⟨m,hm,rfl,HR,n⟩:=hrel
   rename World=>wo
   obtain⟨Q,O⟩:=HR;have HO:=x1_ Q;have HW:=x1_ O;have a4:=n.size;have b5:=it (L:=L) s m;clear Q O
   by_cases hms:m<s-2
   ·have b9:m+1<=(s:Int)-2:=o_;have C:=Fl L s (m+1) h3;have bF:=x1_ C;go_wp2_with fail
    go_loopw [9,10] (λtb ti wq=>∃i:Nat,2<=i/\i+1<=L.length/\ti=.int .i64 i/\tb=.int .i64 (min (i-1) (Cy L s (m+1)):Nat)/\E_ wo wq) (λ_ ti _=>L.length-(intOf ti).toNat)
    case atStart=>exact⟨2,qa_,o_,rfl,by rw[show min (2-1) (Cy L s (m+1))=1 by have:=C.pos;omega];rfl,bz_⟩
    case round=>
     obtain⟨i,aH,b6,rfl,rfl,hbq⟩:=hrel;have F:=n.trans (hbq.mono a4);have b3:=F.size;generalize hbe:min (i-1) (Cy L s (m+1))=be at *;have a5:=x1_ hbe;have aD:1<=be/\be+2<=L.length:=(by have:=C.pos;have:=C.le;omega);obtain⟨e1,e2⟩:=aD;clear hbe
     by_cases hie:i+1<L.length
     ·rcases(HE.below F) with⟨_,J|⟨b',off',heb,hA⟩⟩;omega;simp only[Option.some.injEq,Addr.mk.injEq,and_true] at heb;obtain⟨rfl,rfl⟩:=heb;have gx:=HG.at (show i<L.length by omega);have gy:=HG.at (show be<L.length by omega);obtain⟨a0,a1,a2,a3⟩:wr.cell? (A_ b (off+i*4))=some (I_ (L.getD i e0).v)/\wr.cell? (A_ b (off+i*4+1))=some (I_ (L.getD i e0).lo)/\wr.cell? (A_ b (off+i*4+2))=some (I_ (L.getD i e0).hi)/\wr.cell? (A_ b (off+i*4+3))=some (I_ (L.getD i e0).wt):=⟨hA.v i o_,hA.lo i o_,hA.hi i o_,hA.wt i o_⟩
      obtain⟨c0,c1,c2,c3⟩:wr.cell? (A_ b (off+be*4))=some (I_ (L.getD be e0).v)/\wr.cell? (A_ b (off+be*4+1))=some (I_ (L.getD be e0).lo)/\wr.cell? (A_ b (off+be*4+2))=some (I_ (L.getD be e0).hi)/\wr.cell? (A_ b (off+be*4+3))=some (I_ (L.getD be e0).wt):=⟨hA.v be o_,hA.lo be o_,hA.hi be o_,hA.wt be o_⟩
      have HX:Hid (0<=(L.getD i e0).lo/\0<=(L.getD i e0).hi/\(L.getD i e0).lo<=1000000000000/\(L.getD i e0).hi<=1000000000000):=show _/\_ by omega
      have HY:Hid (0<=(L.getD be e0).lo/\0<=(L.getD be e0).hi/\(L.getD be e0).lo<=1000000000000/\(L.getD be e0).hi<=1000000000000):=show _/\_ by omega
      have a8:Hid (Lx L s (m+1) i=(if((L.getD i e0).lo+(L.getD i e0).hi)*(s-1)-2*(m+1)*t<0 then -(((L.getD i e0).lo+(L.getD i e0).hi)*(s-1)-2*(m+1)*t) else((L.getD i e0).lo+(L.getD i e0).hi)*(s-1)-2*(m+1)*t)):=show _=_ by unfold Lx;rw[HT];rfl
      have aC:Hid (Lx L s (m+1) be=(if((L.getD be e0).lo+(L.getD be e0).hi)*(s-1)-2*(m+1)*t<0 then -(((L.getD be e0).lo+(L.getD be e0).hi)*(s-1)-2*(m+1)*t) else((L.getD be e0).lo+(L.getD be e0).hi)*(s-1)-2*(m+1)*t)):=show _=_ by unfold Lx;rw[HT];rfl
      have HCX:Hid (∀W:World,C_ 177 _ W λe w'=>e=.returned (.int .i64 (Lx L s (m+1) i))/\_):=λW=>by rw[a8];exact Yp _ _ _ _ W HX o_ o_ o_
      have HCY:Hid (∀W:World,C_ 177 _ W λe w'=>e=.returned (.int .i64 (Lx L s (m+1) be))/\_):=λW=>by rw[aC];exact Yp _ _ _ _ W HY o_ o_ o_
      have a9:Hid ((if _<Lx L s _ be then i else be)=min i _):=show _=_ by rw[<- a5];exact Zct HG aL aH hie
      clear hA gx gy HX HY a8 aC;generalize Lx L s (m+1) i=d1,Lx L s (m+1) be=d2,L.getD i e0=x1,L.getD be e0=x2 at *;have aY:b<wr.heap.size:=o_;have bC:0<=(i:Int):=o_;have bA:i<(L.length:Int):=o_;have aN:i<(L.length:Int)-1:=o_;have aI:0<=(be:Int):=o_;have aT:be<(L.length:Int):=o_
      by_cases hd:d1<d2
      ·have HRD2:Hid (min i _=i):=show _=_ by rw[<- a9,if_pos hd]
       exact Zg7
      have HRD2:Hid (min i _=_):=show _=_ by rw[<- a9,if_neg hd]
      exact Zg7
     have H:be=Cy L s (m+1):=(by have:=a5.out;have:=C.le;omega);have I:=x1_ H;have V:=x1_ (HO.below hbq);have z:=x1_ (HW.of_block (hbq.block _ HW.lt));have ct:=z.cell (show be<L.length by omega);have bB:=z.frozen be;have X:Ja L s m be=decide (be=Jx L s m):=(by rw[H];exact Zgt HG s m h3);rw[X] at ct;have aI:0<=(be:Int):=o_;have aT:be<(L.length:Int):=o_;have aN:¬i<(L.length:Int)-1:=o_
     have a7:Hid (∀j,Ja L s _ j=_):=λj=>by rw[ZdT,<- I]
     have aK:=x1_ X;clear H X
     by_cases hbp:be=Jx L s m
     ·have Y:Hid (Ei L s (m+1)=_):=show _=_ by simp only[Ei];rw[if_pos (by rw[<- I];exact hbp)]
      have aJ:Hid (∀j,Ja L s (m+1) j=Ja L s m j):=λj=>by
       rw[a7]
       by_cases e:be=j
       rw[<- e,aK,decide_eq_true hbp,Bool.true_or];simp[e]
      rw[decide_eq_true hbp] at ct;clear hbp;refine rd_ ?_;exact⟨m+1,o_,g_,⟨by rw[Y];exact V,z.congr (λj _=>by rw[aJ])⟩,F⟩
     have Y:Hid (Ei L s (m+1)=_):=show _=_ by simp only[Ei];rw[if_neg (by rw[<- I];exact hbp),<- I]
     rw[decide_eq_false hbp] at ct;rcases(HE.below F) with⟨_,J|⟨b',off',heb,hA⟩⟩;omega;simp only[Option.some.injEq,Addr.mk.injEq,and_true] at heb;obtain⟨rfl,rfl⟩:=heb;obtain⟨c0,c1,c2,c3⟩:wr.cell? (A_ b (off+be*4))=some (I_ (L.getD be e0).v)/\wr.cell? (A_ b (off+be*4+1))=some (I_ (L.getD be e0).lo)/\wr.cell? (A_ b (off+be*4+2))=some (I_ (L.getD be e0).hi)/\wr.cell? (A_ b (off+be*4+3))=some (I_ (L.getD be e0).wt):=⟨hA.v be o_,hA.lo be o_,hA.hi be o_,hA.wt be o_⟩;clear hA hbp;have aV:=aU.out;have bD:N.heap.size≠b:=o_;generalize L.getD be e0=y,hkk:Ei L s m=kk at *;clear hkk;have U:Hid (Aj (wr.setCell _ (.bool true)) _ _ _):=V.kept (Bm (Bo _ _) be _) (V.not_row z)
     have Z:Hid ((wr.setCell (A_ N.heap.size be) (.bool true)).rowIs N.heap.size 4 L.length (λj=>.bool (Ja L s (m+1) j))):=(z.set _ _).congr (λj _=>by
      rw[a7]
      by_cases e:j=be
      rw[if_pos e,e];simp;rw[if_neg e];have:(be==j)=false:=beq_eq_false_iff_ne.2 (λx=>e x.symm)
      rw[this,Bool.or_false])
     have aW:Below _ w (wr.setCell (A_ N.heap.size be) (.bool true)):=F.setCell aV _;go_wp2_with (at_builtin;refine wpList_append_own _ rfl (.tmp 70) (.tmp 75) 29 rfl w.heap.size 98 i0 _ 4 32 Tryz.underlying29 l D G E rfl d_ _ kk.length (flat kk) rfl (U.alloc _) _ 1 1 _ rfl rfl ?_ (Ql y.v y.lo y.hi y.wt) m_ o_ t_ ?_)
     intro v5 w5 c r _;have S:=(aW.alloc t_ _).grown r t_ (λq hq=>(U.lt q hq).1);have T:=x1_ (Aj.more c);have aS:Hid (w5.rowIs N.heap.size 4 L.length (λj=>.bool (Ja L s (m+1) j))):=(by have hx:=U.not_row Z;have aM:=Z.lt;refine(Z.alloc _).of_block (r.block _ ?_ (λe=>hx e.symm));simp at aM ⊢;omega);clear c r c0 c1 c2 c3 ct;refine rd_ ?_;exact⟨m+1,o_,g_,⟨by rw[Y];exact T,aS⟩,S⟩
   have R:s-2=m:=o_;have b7:¬m+1<=(s:Int)-2:=o_
   have aG:Hid (Do L _=_):=show _=_ by rw[B,R]
   rcases(HE.below n) with⟨_,J|⟨b',off',heb,hA⟩⟩;omega;simp only[Option.some.injEq,Addr.mk.injEq,and_true] at heb;obtain⟨rfl,rfl⟩:=heb;obtain⟨c0,c1,c2,c3⟩:wo.cell? (A_ b (off+(L.length-1)*4))=some (I_ (L.getD (L.length-1) e0).v)/\wo.cell? (A_ b (off+(L.length-1)*4+1))=some (I_ (L.getD (L.length-1) e0).lo)/\wo.cell? (A_ b (off+(L.length-1)*4+2))=some (I_ (L.getD (L.length-1) e0).hi)/\wo.cell? (A_ b (off+(L.length-1)*4+3))=some (I_ (L.getD (L.length-1) e0).wt):=⟨hA.v _ o_,hA.lo _ o_,hA.hi _ o_,hA.wt _ o_⟩;clear hA;generalize L.getD (L.length-1) e0=y,hkk:Ei L s m=kk at *;clear hkk hms R;obtain⟨q,hq⟩:∃q,L.length=q+1:=⟨L.length-1,o_⟩;have aP:L.length-1=q:=o_;rw[aP] at c0 c1 c2 c3
   have b8:L.length-1=(q:Int):=o_;go_wp2_with (at_builtin;refine wpList_append_own _ rfl (.tmp 77) (.tmp 84) 29 rfl w.heap.size 98 i0 (.agg #[I_ 0,I_ 0,I_ 0,I_ 0]) 4 32 Tryz.underlying29 l D G E rfl d_ _ kk.length (flat kk) rfl (HO.alloc _) (A_ wo.heap.size 0) 1 1 [I_ y.v,I_ y.lo,I_ y.hi,I_ y.wt] rfl rfl (Am wo #[I_ y.v,I_ y.lo,I_ y.hi,I_ y.wt] 98) (Ql y.v y.lo y.hi y.wt) m_ o_ t_ ?_)
   intro v5 w5 c r _;have S:=(n.alloc a4 _).grown r t_ (λq hq=>(HO.lt q hq).1);have T:=x1_ (Aj.more c);clear c r c0 c1 c2 c3;go_wp2;go_ret;exact⟨_,rfl,by rw[aG];exact T,S⟩
end Go.Proofs.YtfcgnpchbcmdeaaGreat
