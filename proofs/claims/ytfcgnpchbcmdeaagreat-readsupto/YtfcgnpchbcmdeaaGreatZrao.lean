import Derived.Test.YtfcgnpchbcmdeaaGreatZran
import Derived.Deep.CutBlock
import Derived.Laws.AppendOwnNone
namespace Go.Proofs.YtfcgnpchbcmdeaaGreat
set_option linter.all false
set_option maxRecDepth 100000
set_option maxHeartbeats 4000000
open Go.RowKit
def atK(L:List Ct)(s k:Nat):Nat:=if k=0 then 1 else Cy L s k
def ZfR{L}(g:Bq L){s k r:Nat}{whole rest}(c:3<=L.length)(l:2<=s)(h:0<=rest)(j:rest<(s:Int)-1)(f:whole*(s-1)+rest=4*(k+1:Nat)*Ae L)(b:Zd3 L (if 0<rest then whole+1 else whole) (atK L s k) r):r=Cy L s (k+1):=by
 have d:∀i,Il L i+Il L (i+1)<(if 0<rest then whole+1 else whole)↔Pa L s (k+1) i=true:=λi=>by rw[ZhK o_ h j f];unfold Pa;grind
 have a:1<=atK L s k:=(by unfold atK;split;omega;exact(Fl L s k c).pos);refine Zak.unique ⟨Nat.le_trans a b.ge,b.le,λi h1 h2=>?_,?_⟩ (Fl L s _ c)
 ·by_cases hi:atK L s k<=i
  exact(d i).1 (b.yes i hi h2);unfold atK at hi;split at hi;omega;exact tg g ((Fl L s k c).yes i h1 o_)
 rcases b.no with e|e
 exact .inl e
 grind
def ZlP{L} s k (a:3<=L.length):atK L s k+2<=L.length:=by unfold atK;split;omega;exact(Fl L s k a).le
def it{L} s:∀k,(Ei L s k).length<=k+1
 |0=>by simp[Ei]
 | k+1=>by
  have:=it (L:=L) s k;simp only[Ei]
  grind
def ii{w b a L}(h:Ip w b a L):∀j u,(flat L)[j]? =some u->w.cell? (((A_ b a):Addr).add j)=some u:=by
 intro j u k;have n:j<L.length*4:=by rw[<- Ef];grind
 have g:∀L i r,i<L.length->r<4->(flat L)[i*4+r]? =(Ee (L.getD i e0))[r]?:=by
  intro L
  induction L with
  |nil=>grind
  | cons e L ih=>
   intro i r d m
   cases i with
   |zero=>grind [flat,Ee]
   | succ i=>
    grind [flat,Ee]
 have c:=g L (j/4) (j%4) o_ o_;rw[show j/4*4+j%4=j by omega,k] at c;have f:=Go.WideShapes.add_plain b a j;rw[f];have d:j/4<L.length:=o_;have l:j%4<4:=o_
 rcases(show j%4=0∨j%4=1∨j%4=2∨j%4=3 by omega) with e|e|e|e
 rw[e] at c;rw[show a+j=a+j/4*4 by omega,h.v _ d];exact c.symm;rw[e] at c;rw[show a+j=a+j/4*4+1 by omega,h.lo _ d];exact c.symm;rw[e] at c;rw[show a+j=a+j/4*4+2 by omega,h.hi _ d];exact c.symm;rw[e] at c;rw[show a+j=a+j/4*4+3 by omega,h.wt _ d];exact c.symm
def Sp L:∀u∈flat L,u.oneCell'=true:=by
 induction L with
 |nil=>simp[flat]
 | cons e L ih=>
  intro u a;simp only[flat,List.mem_append] at a
  rcases a with a|a
  ·simp[Ee] at a;rcases a with rfl|rfl|rfl|rfl<;>rfl
  exact ih u a
def Ql a b c d:∀u∈[I_ a,I_ b,I_ c,I_ d],u.oneCell'=true:=by intro u e;simp at e;rcases e with rfl|rfl|rfl|rfl<;>rfl
def Zb8{whole rest a k b:Int}(c:0<a)(g:0<=rest)(e:k<=a)(d:0<=b)(h:whole*a+rest=k*b):whole<=b:=by
 have f:whole*a<=b*a:=by
  have:k*b<=a*b:=Int.mul_le_mul_of_nonneg_right e d
  grind
 exact Int.le_of_mul_le_mul_right f c
def Aj.kept{w w' base v L r}(h:Aj w base v L)(hg:w.grownBy w' (some r))(hne:v.ownBlock≠some r):Aj w' base v L:=World.ownsRow.kept h hg (.inr hne)
def Aj.not_mul{w a v L b f j d i}(h:Aj w a v L)(c:Pg w b f j d i):v.ownBlock≠some b:=by
 intro e
 rcases h.2 with⟨rfl,_⟩|⟨g,cap,cur,rfl,_,hg,_⟩
 simp[Value.ownBlock] at e;simp[Value.ownBlock] at e;subst e;rw[c] at hg;simp at hg
def Zem a L T i w (h:Di w a L)(g:Bq L)(hn:a=none->T=0):C_ 47 #[.slice a L.length T,.int .i64 i] w λe w'=>∃v,e=.returned v/\Aj w' w.heap.size v (Do L i)/\Below w.heap.size w w':=by
 obtain⟨S,f,A,z,p⟩:=info_parts Qq;have hl:=h.1;have HE:=x1_ h;have HG:=x1_ g;clear h g;obtain⟨s,hs⟩:∃s:Nat,max i 2=s:=⟨(max i 2).toNat,o_⟩;have aV:2<=s:=o_
 have HC:Hid (Do L i=if L.length<=s then L else Ei L s (s-2)++[L.getD (L.length-1) e0]):=show _=_ by grind [Do]
 have HS:=x1_ hs;clear hs;go_enter Tryz.func47,Tryz.ntmps47;go_upto_region 1 with fail;go_cut [1] (λv wx=>v=.int .i64 s/\wx=w)
 case first=>
  have a4:=HS.out
  by_cases h2:i<2
  ·have e:(s:Int)=2:=o_;go_wp2;go_meet
   grind
  have e:s=i:=o_;go_wp2;go_meet
  grind
 case rest=>
  obtain⟨rfl,hw⟩:=hcut;have aB:=hw.symm;clear hw;subst aB
  by_cases hle:L.length<=s
  ·have G:Hid (Do L _=L):=show _=_ by rw[HC,if_pos hle]
   have dl:decide ((L.length:_)<=(s:Int))=_:=decide_eq_true o_
   by_cases h0:L.length=0
   ·have hL:=List.eq_nil_of_length_eq_zero h0;subst hL
    cases a with
    | none=>
     have a9:=hn rfl;subst a9;clear hn;go_wp2_with (at_builtin;refine wpList_append_own_none rfl _ _ _ rfl w.heap.size _ _ 4 Tryz.underlying29 f (.slice _ 0 0) 0 _ rfl (Aj.nil _ _) rfl ?_)
     go_ret;exact⟨_,rfl,by rw[G];exact Aj.nil _ _,bz_⟩
    | some ad=>
     clear hn;go_wp2_with (at_builtin;refine wpList_append_own _ rfl _ _ _ rfl w.heap.size 98 S _ 4 _ Tryz.underlying29 f A z p rfl d_ (.slice _ 0 0) 0 [] rfl (Aj.nil _ _) _ 0 _ [] rfl rfl s_ s_ ?_ ?_ ?_ ?_)
     omega;omega;omega;intro v3 F d c _;have hb:=bz_.grown c qa_ (λk O=>by simp[Value.ownBlock] at O)
     have hF:Aj F w.heap.size v3 []:=by simpa [Aj,flat] using d
     have HF:=x1_ hF;clear d c hF;go_wp2;go_ret;exact⟨_,rfl,by rw[G];exact HF,hb⟩
   rcases HE.out with⟨_,h1|⟨b,off,rfl,hA⟩⟩;exact absurd h1 h0;clear hn;go_wp2_with (at_builtin;refine wpList_append_own _ rfl _ _ 29 rfl w.heap.size 98 S _ 4 32 Tryz.underlying29 f A z p rfl d_ (.slice _ 0 0) 0 [] rfl (Aj.nil _ _) _ _ _ _ rfl (Ef L) (ii hA) (Sp L) ?_ ?_ ?_ ?_)
   unfold maxLen;omega;omega;omega;intro v3 F d c _;have hb:=bz_.grown c qa_ (λk O=>by simp[Value.ownBlock] at O)
   have hF:Aj F w.heap.size v3 L:=by simpa [Aj] using d
   have HF:=x1_ hF;clear d c hF;go_wp2;go_ret;exact⟨_,rfl,by rw[G];exact HF,hb⟩
  clear hn;have h3:3<=L.length:=o_;have bD:s<=4194304:=o_
  have G:Hid (Do L _=_):=show _=_ by rw[HC,if_neg hle]
  have dl:decide ((L.length:_)<=(s:Int))=_:=decide_eq_false o_;rcases HE.out with⟨_,h0|⟨b,off,rfl,hA⟩⟩;omega;have bG:=hA.lt o_;have b5:∀W:World,(Instr.makeSlice 29 (I_ 0) (I_ s)).run Tryz.prog W=.ok (L_ W.heap.size 0 s) (W.alloc (.cells (madeCells #[I_ 0,I_ 0,I_ 0,I_ 0] (s*4)) 98)):=by intro W;have:=run_make (P:=Tryz.prog) W 29 98 S _ Tryz.underlying29 f A .i64 .i64 0 (s:Int) o_ o_ (by rw[p];omega) o_;rw[z] at this;rw[this,Int.toNat_natCast];rfl
  obtain⟨a0,a1,a2,a3⟩:w.cell? (A_ b off)=some (I_ (L.getD 0 e0).v)/\w.cell? (A_ b (off+1))=some (I_ (L.getD 0 e0).lo)/\w.cell? (A_ b (off+2))=some (I_ (L.getD 0 e0).hi)/\w.cell? (A_ b (off+3))=some (I_ (L.getD 0 e0).wt):=by
   have h0:=hA.v 0 o_;have h1:=hA.lo 0 o_;have h2:=hA.hi 0 o_;have h3:=hA.wt 0 o_
   grind
  have bB:Hid (Ei L s 0=[_]):=show _=_ from rfl
  clear hA;generalize L.getD 0 e0=x at *;have b1:0<(L.length:Int):=o_;have b2:0<L.length:=o_;have aI:Hid (Aj (((w.alloc (.cells (madeCells #[I_ 0,I_ 0,I_ 0,I_ 0] (s*4)) 98)).alloc (.cells #[I_ x.v,I_ x.lo,I_ x.hi,I_ x.wt] 98)).drew) w.heap.size _ []):=((World.ownsRow_made w _ s qa_ m_ (size_madeCells _ _):Aj _ _ _ []).alloc _)
  have aG:Hid (Aj (((w.alloc (.cells #[I_ x.v,I_ x.lo,I_ x.hi,I_ x.wt] 98)).alloc (.cells (madeCells #[I_ 0,I_ 0,I_ 0,I_ 0] (s*4)) 98)).drew) w.heap.size (L_ (w.heap.size+1) 0 s) []):=by have:=World.ownsRow_made (base:=w.heap.size) (size:=4) (e:=98) (w.alloc (.cells #[I_ x.v,I_ x.lo,I_ x.hi,I_ x.wt] 98)) (madeCells #[I_ 0,I_ 0,I_ 0,I_ 0] (s*4)) s s_ m_ (size_madeCells _ _);rw[show(w.alloc (.cells #[I_ x.v,I_ x.lo,I_ x.hi,I_ x.wt] 98)).heap.size=w.heap.size+1 by simp] at this;exact this
  have aC:Hid (∀j u,([I_ x.v,I_ x.lo,I_ x.hi,I_ x.wt]:List Value)[j]? =some u->(((w.alloc (.cells (madeCells #[I_ 0,I_ 0,I_ 0,I_ 0] (s*4)) 98)).alloc (.cells #[I_ x.v,I_ x.lo,I_ x.hi,I_ x.wt] 98)).drew).cell? (((A_ (w.heap.size+1) 0):Addr).add j)=some u):=by have:=Am (w.alloc (.cells (madeCells #[I_ 0,I_ 0,I_ 0,I_ 0] (s*4)) 98)) #[I_ x.v,I_ x.lo,I_ x.hi,I_ x.wt] 98;rw[show(w.alloc (.cells (madeCells #[I_ 0,I_ 0,I_ 0,I_ 0] (s*4)) 98)).heap.size=w.heap.size+1 by simp] at this;exact this
  have aE:Hid (∀j u,([I_ x.v,I_ x.lo,I_ x.hi,I_ x.wt]:List Value)[j]? =some u->(((w.alloc (.cells #[I_ x.v,I_ x.lo,I_ x.hi,I_ x.wt] 98)).alloc (.cells (madeCells #[I_ 0,I_ 0,I_ 0,I_ 0] (s*4)) 98)).drew).cell? (((A_ w.heap.size 0):Addr).add j)=some u):=λj u H=>by have h1:=Am w #[.int _ _,.int _ _,.int _ _,.int _ _] 98 j u H;have aL:=World.block_lt_of_cell? _ _ h1;have h2:=World.cell?_alloc_lt _ (.cells (madeCells #[I_ 0,I_ 0,I_ 0,I_ 0] (s*4)) 98) _ aL;exact h2.trans h1
  have aK:Hid (Below _ w (((w.alloc (.cells (madeCells #[I_ 0,I_ 0,I_ 0,I_ 0] (s*4)) 98)).alloc (.cells #[I_ x.v,I_ x.lo,I_ x.hi,I_ x.wt] 98)).drew)):=(bA_.alloc s_ _).drew;have aM:Hid (E_ w (((w.alloc (.cells #[I_ x.v,I_ x.lo,I_ x.hi,I_ x.wt] 98)).alloc (.cells (madeCells #[I_ 0,I_ 0,I_ 0,I_ 0] (s*4)) 98)).drew)):=(bA_.alloc s_ _).drew;go_upto_region 5 with fail;go_cut [6] (λv wx=>Hid (Aj wx w.heap.size v [x])/\E_ w wx)
  case first=>
   go_region_law (first|(refine Hk rfl _ _ 29 rfl _ 98 S _ 4 32 Tryz.underlying29 f A z p rfl d_ (.slice _ 0 s) 0 [] rfl aI _ 1 1 _ rfl rfl aC (by intro u H;simp at H;rcases H with rfl|rfl|rfl|rfl<;>rfl) m_ o_ u_ ?_;intro v3 F d c;have n:=aK.grown c u_ (λk O=>by simp[Value.ownBlock] at O;omega);clear c)|(refine Hk rfl _ _ 29 rfl _ 98 S _ 4 32 Tryz.underlying29 f A z p rfl d_ (.slice _ 0 s) 0 [] rfl aG _ 1 1 _ rfl rfl aE (by intro u H;simp at H;rcases H with rfl|rfl|rfl|rfl<;>rfl) m_ o_ u_ ?_;intro v3 F d c;have n:=aM.grown c u_ (λk O=>by simp[Value.ownBlock] at O;omega);clear c))
   all_goals go_wp2
   all_goals go_meet
   all_goals exact⟨by simpa [Aj,flat,Ee,Hid] using d,n⟩
  case rest=>
   clear aI aG aC aE aK aM b5 a0 a1 a2 a3;obtain⟨X,D⟩:=hcut;have b6:=Df HG;obtain⟨t1,t2⟩:=b6;have aR:=D.size;have b9:=x1_ D.size;go_wp2_with fail
   refine(Zb5 _ L _ _ (HE.below D)).mono ?_;rintro e w' ⟨rfl,rfl⟩
   have bC:Hid (∀k:Nat,_=_*(4*Ae L)):=λk=>by rw[<- Int.mul_assoc,Int.mul_comm (k:Int) 4]
   generalize htt:Ae L=t at *;have HT:=x1_ htt;clear htt;go_wp2_with fail
   go_loopw [6,8,9,36] (λo ta tt tk wr=>∃(k:Nat) (whole rest:Int),k<=s-2/\ta=.int .i64 (atK L s k:Nat)/\tt=.int .i64 (Jx L s k:Nat)/\tk=.int .i64 k/\Hid (Aj wr w.heap.size o (Ei L s k)/\Pg wr w'.heap.size (4*t) ((s:Int)-1) whole rest/\whole*((s:Int)-1)+rest=(k:Int)*(4*t)/\0<=rest/\rest<(s:Int)-1/\0<=whole)/\E_ w wr) (λ_ _ _ tk _=>s-(intOf tk).toNat)
   case atStart=>
    refine⟨0,0,0,qg_,rfl,rfl,rfl,⟨?_,?_,s_,o_,o_,o_⟩,D.alloc D.size _⟩;rw[bB];exact X.alloc _;exact hn_
   case round=>
    clear X D aR;obtain⟨k,whole,rest,O,rfl,rfl,rfl,HR,B⟩:=hrel;obtain⟨Q,hM,a7,aS,bI,bH⟩:=HR;have aB:=Zb8 o_ aS o_ o_ a7;have X:=x1_ Q;have HM:=x1_ hM;have HQ:=x1_ a7;have a4:=B.size;have HA:=x1_ (ZlP s k h3);have bM:=it (L:=L) s k;clear Q hM a7
    by_cases hks:k<s-2
    ·have aL:k<(s:Int)-2:=o_;go_wp2_with fail
     refine(Zid _ _ _ _ _ _ HM o_ o_ o_ o_).mono ?_;rintro e w1 ⟨rfl,wh,re,U,aA,q1,q2,q3,q4,V⟩;have aO:=X.not_mul HM;have aF:=x1_ (X.kept V aO);have I:=x1_ U;have bF:=b9.out;have Z:=B.grown V a4 (λq hq=>by simp at hq;omega);have a8:wh*(s-1)+re=(k+1:Nat)*(4*t):=(by rw[aA,HQ];rw[show((k+1:Nat):Int)=(k:Int)+1 by omega,Int.add_mul,Int.one_mul]);have bK:=Zb8 o_ q1 o_ o_ a8;have a5:=x1_ a8;have aN:=x1_ (HE.below Z);have aW:=x1_ U.lt;clear U aA a8 V aO;go_wp2_with fail
     refine(ql _ _ _ _ _ _ I o_).mono ?_;rintro e w2 ⟨rfl,rfl⟩;generalize hgoal:(if 0<re then wh+1 else wh)=goal;have b3:=x1_ hgoal;clear hgoal;generalize hat:atK L s k=at0 at *;have aY:=x1_ hat;clear hat;go_wp2_with fail
     refine(Zbm _ L T at0 goal _ aN HG HA).mono ?_;rintro e F ⟨r,rfl,hN,n⟩;have aJ:=ZfR HG h3 aV q1 q2 (by rw[HT,a5,<- Int.mul_assoc,Int.mul_comm 4 ((k+1:Nat):Int),Int.mul_assoc]) (by rw[aY,b3];exact hN);have E:=x1_ aJ;have bN:=hN.le;have N:=x1_ (aF.below n)
     have M:Hid (Pg _ _ _ _ _ _):=show _=_ from(n.block _ I.lt).trans I
     have J:=Z.trans (n.mono Z.size);have bA:=J.size;have aU:=x1_ (HE.below J);clear aJ hN n aN aF I;generalize hprev:Jx L s k=prev at *;have aP:=x1_ hprev;clear hprev
     have aD:Hid (atK L s (k+1)=r):=show _=_ by rw[E];simp[atK]
     have aH:Hid (Jx L s (k+1)=r):=show _=_ by rw[E];simp[Jx]
     have bL:0<=(r:Int):=o_;have bQ:r<(L.length:Int):=o_
     by_cases hrp:r=prev
     ·have a6:Hid (Ei L s (k+1)=_):=show _=_ by simp only[Ei];rw[if_pos (by rw[<- E,aP];exact hrp)]
      have aX:(r !=(prev:Int))=false:=(by rw[bne_eq_false_iff_eq];omega);have b8:=x1_ hrp;clear hrp;refine rd_ ?_;exact⟨k+1,wh,re,o_,by rw[aD],by rw[aH,b8],g_,⟨by rw[a6];exact N,M,a5,q1,q2,q3⟩,J⟩
     have a6:Hid (Ei L s (k+1)=_):=show _=_ by simp only[Ei];rw[if_neg (by rw[<- E,aP];exact hrp),<- E]
     have aX:(r !=(prev:Int))=true:=(by rw[bne_iff_ne];omega);rcases aU.out with⟨_,h0|⟨b',off',heb,hA⟩⟩;omega;simp only[Option.some.injEq,Addr.mk.injEq,and_true] at heb;obtain⟨rfl,rfl⟩:=heb;obtain⟨c0,c1,c2,c3⟩:F.cell? (A_ b (off+r*4))=some (I_ (L.getD r e0).v)/\F.cell? (A_ b (off+r*4+1))=some (I_ (L.getD r e0).lo)/\F.cell? (A_ b (off+r*4+2))=some (I_ (L.getD r e0).hi)/\F.cell? (A_ b (off+r*4+3))=some (I_ (L.getD r e0).wt):=⟨hA.v r o_,hA.lo r o_,hA.hi r o_,hA.wt r o_⟩;clear hA;generalize L.getD r e0=y,hkk:Ei L s k=kk at *;have bO:=x1_ hkk;clear hkk
     go_wp2_with (at_builtin;refine wpList_append_own _ rfl (.tmp 46) (.tmp 51) 29 rfl w.heap.size 98 S _ 4 32 Tryz.underlying29 f A z p rfl d_ _ kk.length (flat kk) rfl (N.alloc _) _ 1 1 [I_ y.v,I_ y.lo,I_ y.hi,I_ y.wt] rfl rfl ?_ ?_ ?_ ?_ ?_ ?_)
     exact Am _ _ _
     ·intro u H;simp at H;rcases H with rfl|rfl|rfl|rfl<;>rfl
     unfold maxLen;omega;omega;simp;omega;intro v5 w5 l C _;have Y:=(J.alloc bA _).grown C t_ (λq hq=>(N.lt q hq).1);have HF:=x1_ (Aj.more l)
     have aT:Hid (Pg w5 w'.heap.size (4*t) (s-1) wh re):=show _=_ by have aQ:=M.lt;have hx:=N.not_mul M;rw[C.block _ t_ (λe=>hx e.symm),hb_ F _ _ aQ];exact M
     clear l C c0 c1 c2 c3;refine rd_ ?_;exact⟨k+1,wh,re,o_,by rw[aD],by rw[aH],g_,⟨by rw[a6];exact HF,aT,a5,q1,q2,q3⟩,Y⟩
    have R:s-2=k:=o_;have bE:¬k<(s:Int)-2:=o_
    have aZ:Hid (Do L _=_):=show _=_ by rw[G,R]
    rcases(HE.below B) with⟨_,h0|⟨b',off',heb,hA⟩⟩;omega;simp only[Option.some.injEq,Addr.mk.injEq,and_true] at heb;obtain⟨rfl,rfl⟩:=heb;obtain⟨c0,c1,c2,c3⟩:wr.cell? (A_ b (off+(L.length-1)*4))=some (I_ (L.getD (L.length-1) e0).v)/\wr.cell? (A_ b (off+(L.length-1)*4+1))=some (I_ (L.getD (L.length-1) e0).lo)/\wr.cell? (A_ b (off+(L.length-1)*4+2))=some (I_ (L.getD (L.length-1) e0).hi)/\wr.cell? (A_ b (off+(L.length-1)*4+3))=some (I_ (L.getD (L.length-1) e0).wt):=⟨hA.v _ o_,hA.lo _ o_,hA.hi _ o_,hA.wt _ o_⟩;clear hA;generalize L.getD (L.length-1) e0=y,hkk:Ei L s k=kk at *;clear hkk hks R;obtain⟨m,hm⟩:∃m,L.length=m+1:=⟨L.length-1,o_⟩;have b7:L.length-1=m:=o_;rw[b7] at c0 c1 c2 c3
    have bP:L.length-1=(m:Int):=o_;go_wp2_with (at_builtin;refine wpList_append_own _ rfl (.tmp 55) (.tmp 60) 29 rfl w.heap.size 98 S (.agg #[I_ 0,I_ 0,I_ 0,I_ 0]) 4 32 Tryz.underlying29 f A z p rfl d_ _ kk.length (flat kk) rfl (X.alloc _) (A_ wr.heap.size 0) 1 1 [I_ y.v,I_ y.lo,I_ y.hi,I_ y.wt] rfl rfl (Am wr #[I_ y.v,I_ y.lo,I_ y.hi,I_ y.wt] 98) (Ql y.v y.lo y.hi y.wt) m_ o_ t_ ?_)
    intro v5 w5 l C _;have Y:=(B.alloc a4 _).grown C t_ (λq hq=>(X.lt q hq).1);have HF:=x1_ (Aj.more l);clear l C c0 c1 c2 c3;go_wp2;go_ret;exact⟨_,rfl,by rw[aZ];exact HF,Y⟩
def Jc(p:Int×Int):Ct:=⟨p.1,0,0,p.2⟩
def Ut{A B x k c}(b:A.length=k)(a:c<4) u:(flat (A++x::B)).set (k*4+c) u=flat A++((Ee x).set c u++flat B):=by grind [Cu,flat,Ef]
def Wx{A B}{x:Ct}{k}(a:A.length=k) y:(flat (A++x::B)).set (k*4+1) (I_ y)=flat (A++⟨x.v,y,x.hi,x.wt⟩::B):=by rw[Ut a o_,Cu];rfl
def Wy{A B}{x:Ct}{k}(a:A.length=k) y:(flat (A++x::B)).set (k*4+2) (I_ y)=flat (A++⟨x.v,x.lo,y,x.wt⟩::B):=by rw[Ut a o_,Cu];rfl
def Wz{A B}{x:Ct}{k}(a:A.length=k) y:(flat (A++x::B)).set (k*4+3) (I_ y)=flat (A++⟨x.v,x.lo,x.hi,y⟩::B):=by rw[Ut a o_,Cu];rfl
theorem Aj.at{w b g d A B x k n}(h:Aj w b (L_ g n d) (A++x::B))(e:n=(A++x::B).length)(f:A.length=k):w.cell? (A_ g (k*4))=some (I_ x.v)/\w.cell? (A_ g (k*4+1))=some (I_ x.lo)/\w.cell? (A_ g (k*4+2))=some (I_ x.hi)/\w.cell? (A_ g (k*4+3))=some (I_ x.wt)/\∀o,w.frozen? (A_ g o)=false:=by
 subst e
 have a:∀c,c<4->w.cell? (A_ g (k*4+c))=(Ee x)[c]?:=λc hc=>by
  rw[World.ownsRow.cellAt h (k*4+c) t_,Cu]
  grind [flat,Ef]
 exact⟨a 0 o_,a 1 o_,a 2 o_,a 3 o_,λo=>World.ownsRow.frozenAt h o⟩
def Aj.store{w a g b n j L c u}(h:Aj w a (L_ g n b) L)(d:n=L.length)(f:c.length=L.length)(e:(flat L).set j u=flat c):Aj (w.setCell (A_ g j) u) a (L_ g n b) c:=by
 subst d;have:=(World.ownsRow.stored h j u).1;unfold Aj
 grind
def Oc{M}(c:∀p∈M,0<=p.2) k:0<=By (M.take k)/\By (M.take k)<=By M:=by
 have d:∀N:List (Int×Int),(∀p∈N,0<=p.2)->0<=By N:=by
  intro N b
  induction N with
  |nil=>simp[By]
  |cons p r ih=>grind [By]
 have a:=Rc (M.take k) (M.drop k);rw[List.take_append_drop] at a
 grind
def Su(M:List (Int×Int))(k:Nat):List Ct:=Bv 0 (M.take k)++(M.drop k).map Jc
def Zf5 M k:(Su M k).length=M.length:=by simp[Su,Kq];omega
def Zix g d M a w (h:Aj w a (L_ g M.length d) (M.map Jc))(s:∀p∈M,0<=p.2)(J:By M<=1000000000000)(N:M.length<=4194304):C_ 84 #[.slice (some ⟨g,0,none⟩) M.length d] w λe w'=>e=.returned (.tuple #[])/\Aj w' a (.slice (some ⟨g,0,none⟩) M.length d) (Bv 0 M)/\w.grownBy w' (some g):=by
 have y:=x1_ h;have m:=x1_ s;go_enter Tryz.func84,Tryz.ntmps84;go_wp2_with fail
 go_loopw [2,7] (λtt ti wr=>∃k:Nat,k<=M.length/\ti=.int .i64 k/\tt=.int .i64 (By (M.take k))/\Hid (Aj wr a (.slice (some ⟨g,0,none⟩) M.length d) (Su M k)/\w.grownBy wr (some g))) (λ_ ti _=>M.length-(intOf ti).toNat)
 case atStart=>exact⟨0,qg_,rfl,rfl,by simpa [Su,Bv] using y.out,Bo _ _⟩
 case round=>
  obtain⟨k,L,rfl,rfl,v⟩:=hrel;obtain⟨f,n⟩:=v;have r:=x1_ n
  by_cases hkl:k<M.length
  ·have q:=List.drop_eq_getElem_cons hkl;have j:Su M k=Bv 0 (M.take k)++Jc M[k]::(M.drop (k+1)).map Jc:=(by unfold Su;rw[q];rfl);have c:(Bv 0 (M.take k)).length=k:=(by rw[Kq];simp;omega);have b:=Zf5 M k;rw[j] at f b;obtain⟨x,H,C,F,I⟩:=f.at (by rw[b]) c;have O:=Oc m k;have l:=Oc m (k+1);have i:By (M.take (k+1))=By (M.take k)+M[k].2:=by rw[Qi hkl,Rc];simp[By]
   have A:Hid (Aj ((wr.setCell (A_ g (k*4+1)) (I_ (By (M.take k)))).setCell (A_ g (k*4+2)) (I_ (By (M.take k)+M[k].2))) a (L_ g M.length d) (Su M (k+1))):=by have t:=f.store (by rw[b]) s_ (Wx c (By (M.take k)));have u:=t.store w_ s_ (Wy c (By (M.take k)+M[k].2));have e:Su M (k+1)=Bv 0 (M.take k)++⟨M[k].1,By (M.take k),By (M.take k)+M[k].2,M[k].2⟩::(M.drop (k+1)).map Jc:=(by grind [Su,Vs,Bv]);rw[e];exact u
   have o:=x1_ i;have z:=m _ (Qf hkl);simp only[Jc] at x H C F;rw[i] at l;generalize By (M.take k)=tot,M[k].2=wt,M[k].1=vv at *;have D:0<=(k:Int):=o_;have B:k<(M.length:Int):=o_;refine rd_ ?_;exact⟨k+1,o_,g_,by rw[o],A,Bm (Bm r _ _) _ _⟩
  have E:M.length=k:=o_;have G:Hid (Aj wr a (L_ g M.length d) (Bv 0 M)):=(by grind [Su]);go_wp2;go_end0;exact⟨rfl,G,r⟩
def ZhR:(Tryz.prog.info? 29).map (λi=>(i.zero,i.size,i.bytes))=some (some (.slice none 0 0),1,24):=k_
def Gk(L:List Ct)(z:Int)(k:Nat):List Ct:=List.replicate k (Hg z)++L.drop k
def ZaT L z {k}(a:k<=L.length):(Gk L z k).length=L.length:=by simp[Gk];omega
def ZcX L z {k}(a:k<L.length):Gk L z k=List.replicate k (Hg z)++L.getD k e0::L.drop (k+1):=by unfold Gk;grind [List.drop_eq_getElem_cons]
def yg L z k:Gk L z (k+1)=List.replicate k (Hg z)++⟨z,0,0,0⟩::L.drop (k+1):=by unfold Gk;rw[List.replicate_succ'];simp[Hg]
def WB.grown{w w' g c row}(h:WB w g c)(hg:w.grownBy w' row)(hne:some g≠row):WB w' g c:=(hg.block g h.lt hne).trans h
def WB.alloc{w g c}(h:WB w g c) o:WB (w.alloc o) g c:=(hb_ w o g h.lt).trans h
def WB.other{w g c}(h:WB w g c){p}(hp:g≠p.block) u:WB (w.setCell p u) g c:=(Below.heap_setCell w p u g hp).trans h
def Gj.grown{w w' b x0 x1 x2 x3 row}(h:Gj w b x0 x1 x2 x3)(hg:w.grownBy w' row)(hne:some b≠row):Gj w' b x0 x1 x2 x3:=(hg.block b h.lt hne).trans h
def Jo{w:World}{base e size n g j:Nat}{v u xs}(h:w.ownsRow base e size v n xs)(hg:g<base):(w.setCell (A_ g j) u).ownsRow base e size v n xs:=
 ((Aa.refl (λk=>k=g) w).setCell (p:=(A_ g j)) (λ_=>rfl) u).row h (λk hk e=>by have:=(rl_ h k hk).1;omega)
def Zfw{A B}{x:Ct}{k}(a:A.length=k) y:(flat (A++x::B)).set (k*4) (I_ y)=flat (A++⟨y,x.lo,x.hi,x.wt⟩::B):=by have:=Ut (B:=B) (x:=x) a (show 0<4 by omega) (I_ y);rw[Nat.add_zero] at this;rw[this,Cu];rfl
def Zim{w:World}{a e b n:Nat}{v c}(h:w.ownsRow a e b v n c)(d:0<n):∃q p,v=L_ q n p:=by
 rcases h.2 with⟨_,h0⟩|⟨q,p,cur,e,_⟩
 omega
 grind
def WB.drew{w g c}(h:WB w g c):WB w.drew g c:=h
def jk{B q n p k}(h:B<=q)(e:(L_ q n p).ownBlock=some k):B<=k:=by
 have e:some q=_:=e
 grind
def Zg8{p:Prop}(h:p:=by
 clear hK K;try simp only[Act.put,List.setIfInBounds_toArray,List.set_cons_zero,List.set_cons_succ]
 refine wpAnyH_ready (rs:=[14]) k_ s_ ?_;refine AllReadyH.cons rfl (λK hK=>?_) AllReadyH.nil;refine Hk rfl (.tmp 64) (.tmp 73) 25 rfl base 3 l0 (I_ 0) 1 8 Tryz.underlying25 linf lz0 lz1 lz2 rfl d_ vm ms.length (ms.map (Value.int .i64)) j_ (ra_ HM5' _) (A_ w5.heap.size 0) 4 4 [I_ z,I_ z,I_ z,I_ z] j_ rfl (Am w5 #[I_ z,I_ z,I_ z,I_ z] 3) i_ m_ o_ t_ ?_;intro v6 w6 hown6 hgrow;obtain⟨q6,p6,rfl⟩:=Zim hown6 (Nat.succ_pos _);have HO6:=x1_ hown6;have HG6:Hid ((w5.alloc (.cells _ 3)).drew.grownBy _ _):=hgrow;have HW6:=x1_ ((HW5.alloc _).drew.grown hgrow hgvm)
 have e5:=(HW6.cell 5).trans ((Array.getElem?_setIfInBounds_ne d_).trans HC1.2);have ef:=λo=>HW6.frozen o;have eb:=(((HB5.alloc _).drew.grown hgrow hbvm).cells).1;clear hown6 hgrow;refine hK _ _ eb (λhHeld=>?_);clear hK K;try simp only[Act.put,List.setIfInBounds_toArray]
 refine wpAnyH_take (i:=15) (v:=?_) rfl k_ k_ k_ (λ_ _ _ h=>h) (Or.inl ⟨by rfl,?_⟩) a_ ?_
 rotate_left;· intro w hSw;(try dsimp only at hSw);go_simp;try with_reducible rfl
 try simp only[Act.put]
 refine wpAnyH_take (i:=16) (v:=?_) rfl k_ k_ k_ (λ_ _ _ h=>h) (Or.inl ⟨by rfl,?_⟩) a_ ?_
 rotate_left;· intro w hSw;(try dsimp only at hSw);go_simp;try with_reducible rfl
 try simp only[Act.put]
 refine wpAnyH_ready (rs:=[17]) k_ s_ ?_;refine AllReadyH.cons rfl (λK hK=>?_) AllReadyH.nil;go_simp;refine hK _ _ (by go_keep) (λhHeld=>?_);clear hK K;refine wpAnyH_done k_ ?_ _
 have HM6:Hid (∀u,Ft w5 z u->Ft (w6.setCell (A_ g 5) (L_ q6 (ms.length+4) p6)) z u):=λu hu=>by
  have t1:=(((Aa.refl _ _).alloc _).drew).grown HG6 (λk' e _=>e.symm)
  have h1:=hu.touch t1 (λk' cur _ hh e=>by
   obtain⟨cur',hc'⟩:=Ad HM5' e.symm
   rw[hc'] at hh;simp at hh)
  exact h1.touch (S:=λk'=>k'=g) ((Aa.refl (λk'=>k'=g) _).setCell (p:=(A_ g 5)) (λ_=>rfl) _) (λk' cur _ hh e=>by subst e;rw[HW6] at hh;simp at hh)
 have HEF:Hid ((w6.setCell (A_ g 5) (L_ q6 (ms.length+4) p6)).ownsRow base 29 1 (L_ q4 (vs.length+4) p4) (vs.length+4) (vs++[.slice a k cp,L_ q1 (k+1) p1,L_ q2 (k+2) p2,L_ q3 (k+3) p3])):=
  Jo (World.ownsRow.kept (w:=(w5.alloc (.cells #[I_ z,I_ z,I_ z,I_ z] 3)).drew) (ra_ HE5 _) HG6 (An HM5' HE5 d_)) hgb
 have HTF:Hid (Aa _ w (w6.setCell _ (L_ q6 (ms.length+4) p6))):=
  (((HT5.alloc _).drew).grown HG6 (λk' e _=>.inr (.inr (.inr e.symm)))).setCell (p:=(A_ g 5)) (λ_=>.inl rfl) _
 have HWF:Hid (WB (w6.setCell _ (L_ q6 (ms.length+4) p6)) g _):=HW6.set 5 _;have HOF:Hid ((w6.setCell (A_ g 5) (L_ q6 (ms.length+4) p6)).ownsRow base 3 1 (L_ q6 (ms.length+4) p6) (ms.length+4) (ms.map (Value.int .i64)++[I_ z,I_ z,I_ z,I_ z])):=Jo HO6 hgb;clear HW6 HO6 HG6 e5 ef eb d5 df b0 bf d5a n1 n2;go_wp2;go_end0;refine⟨rfl,.slice _ (vs.length+4) p4,L_ q6 (ms.length+4) p6,[.slice a k cp,.slice _ (k+1) p1,L_ q2 (k+2) p2,L_ q3 (k+3) p3],?_,HEF,?_,rfl,?_,HTF,?_⟩;rw[<- HCC];exact HWF;unfold Ag;rw[<- HZ,Qe,List.map_append,List.length_replicate];exact HOF
 ·intro u hu;rw[<- HZ];simp only[List.mem_cons,List.not_mem_nil,or_false] at hu
  rcases hu with rfl|rfl|rfl|rfl
  exact⟨HM6 _ HM5.1,HQ0⟩;exact⟨HM6 _ HM5.2.1,λk' h=>jk HQ1 h⟩;exact⟨HM6 _ HM5.2.2.1,λk' h=>jk HQ2 h⟩;exact⟨HM6 _ HM5.2.2.2,λk' h=>jk HQ3 h⟩
 rcases HD4.out with h|h
 exact .inl h
 exact .inr ⟨q4,rfl,h⟩):p:=h
def jh g base c v B vm L vs ms b w (hW:WB w g c)(h4:c[4]? =some B)(h5:c[5]? =some vm)(bK:c[12]? =some (I_ b))(hgb:g<base)(cI:base<=w.heap.size)(hL:Aj w base v L)(a7:w.ownsRow base 29 1 B vs.length vs)(a0:Ag w base vm ms)(hl:L.length<=4194304)(cL:vs.length<=100000000)(cD:ms.length<=100000000)(hx:0<=b/\b<=100000000):C_ 174 #[.pointer (some ⟨g,4,none⟩),v] w λe w'=>e=.returned (.tuple #[])/\∃ve' vm' news,WB w' g (((c.setIfInBounds 12 (I_ (b+1))).setIfInBounds 4 ve').setIfInBounds 5 vm')/\w'.ownsRow base 29 1 ve' (vs.length+4) (vs++news)/\Ag w' base vm' (ms++List.replicate 4 (-(b+1)))/\news.length=4/\(∀u∈news,Ft w' (-(b+1)) u/\∀k,u.ownBlock=some k->base<=k)/\Aa (λk=>k=g∨some k=v.ownBlock∨some k=B.ownBlock∨some k=vm.ownBlock) w w'/\(ve'.ownBlock=B.ownBlock∨∃k,ve'.ownBlock=some k/\w.heap.size<=k):=by
 obtain⟨i0,I,aR,aQ,aJ⟩:=info_parts Qq;obtain⟨j0,aV,bX,bW,bT⟩:=info_parts ZhR;obtain⟨l0,linf,lz0,lz1,lz2⟩:=info_parts Ss;obtain⟨n,hn⟩:=ex_ L.length
 obtain⟨a,cp,rfl,ha⟩:∃a cp,v=.slice a n cp/\(n=0∨∃d,a=some ⟨d,0,none⟩/\base<=d/\d<w.heap.size):=by
  rcases hL.2 with⟨rfl,h0⟩|⟨d,cap,cur,rfl,hb,hh,_⟩
  exact⟨none,0,by rw[hn,h0],.inl (hn.trans h0)⟩;exact⟨_,cap,by rw[hn],.inr ⟨d,rfl,hb,(Qb hh).1⟩⟩
 rw[<- hn] at hl;have V:=x1_ hn;have HA:=x1_ ha;have a1:=x1_ hW;have c5:=x1_ hL;have a6:=x1_ a7;have a5:=x1_ a0;have bU:w.cell? (A_ g 12)=some (I_ b):=(by rw[hW.cell];exact bK);have df:=λo=>hW.frozen o;have cF:=hW.lt;obtain⟨z,hz⟩:=ex_ (-(b+1));have HZ:=x1_ hz;have H4:=x1_ h4;have H5:=x1_ h5;have a9:=λk hk=>rl_ hL k hk;have b5:=x1_ (An hL a7 d_);have bM:=x1_ (An hL a0 d_);have bC:=x1_ (An a7 a0 d_);have aA:=x1_ a9;have HC1:Hid ((c.setIfInBounds 12 (I_ (b+1)))[4]? =some B/\(c.setIfInBounds 12 (I_ (b+1)))[5]? =some vm):=⟨by rw[Array.getElem?_setIfInBounds_ne d_];exact h4,by rw[Array.getElem?_setIfInBounds_ne d_];exact h5⟩
 have bB:Hid (Aa (λk=>k=g∨some k=(Value.slice a n cp).ownBlock) w ((w.setCell _ (I_ (b+1))).alloc (.cells #[I_ (-(b+1)),I_ 0,I_ 0,I_ 0] 98))):=((Aa.refl _ w).setCell (p:=(A_ g 12)) (λ_=>.inl rfl) _).alloc _;have bR:Hid (Aj ((w.setCell (A_ g 12) (I_ (b+1))).alloc (.cells #[I_ (-(b+1)),I_ 0,I_ 0,I_ 0] 98)) base (.slice a n cp) (Gk L z 0)):=(by have:Gk L z 0=L:=(by simp[Gk]);rw[this];exact(Jo hL hgb).alloc _);have y:Hid (WB ((w.setCell _ (I_ (b+1))).alloc (.cells #[I_ (-(b+1)),I_ 0,I_ 0,I_ 0] 98)) g _):=(hW.set 12 _).alloc _
 have j:Hid (Gj ((w.setCell (A_ g 12) (I_ (b+1))).alloc (.cells #[I_ (-(b+1)),I_ 0,I_ 0,I_ 0] 98)) w.heap.size z 0 0 0):=(by have:=Gj.new (w.setCell (A_ g 12) (I_ (b+1))) (-(b+1)) 0 0 0;rw[show(w.setCell (A_ g 12) (I_ (b+1))).heap.size=w.heap.size by simp[World.setCell]] at this;rw[hz];exact this);obtain⟨c1,aL⟩:=ex_ (c.setIfInBounds 12 (I_ (b+1)));have HCC:=x1_ aL;rw[<- aL] at HC1 y;clear aL;clear hW hL a7 a0 ha hn h4 h5 bK hz a9;obtain⟨cG,cB⟩:=hx;go_enter Tryz.func174,Tryz.ntmps174;go_wp2_with fail
 go_loopw [5] (λti wr=>∃k:Nat,k<=n/\ti=.int .i64 k/\Hid (Aj wr base (.slice a n cp) (Gk L z k))/\Hid (Aa (λk=>k=g∨some k=(Value.slice a n cp).ownBlock) w wr)/\Hid (WB wr g c1)/\Hid (Gj wr w.heap.size z 0 0 0)) (λti _=>n-(intOf ti).toNat)
 case atStart=>exact⟨0,qg_,rfl,bR,bB,y,j⟩
 case round=>
  obtain⟨k,U,rfl,HR,HT,HW,HB⟩:=hrel;obtain⟨b0,b1,b2,b3,bf⟩:=HB.cells;clear bU df bB bR y j
  by_cases hk:k<n
  ·have cM:0<=(k:Int):=o_;have cH:k<(n:Int):=o_
   rcases HA.out with h0|⟨d,rfl,cJ,cE⟩
   omega;have m:=HR.out;have W:(Gk L z k).length=n:=(by rw[ZaT L z (by have:=V.out;omega),V]);rw[ZcX L z (by have:=V.out;omega)] at m W;have aK:(List.replicate k (Hg z)).length=k:=s_;obtain⟨c0,cC,c2,c3,cf⟩:=m.at W.symm aK;have bY:=x1_ (yg L z k);have Y:=x1_ aK;have bZ:=x1_ m;have X:=x1_ W.symm;clear m W aK;generalize L.getD k e0=x at *;have s:g≠d:=o_;have r:w.heap.size≠d:=o_;go_wp2_with fail
   go_roundw
   case rel=>
    refine⟨k+1,o_,g_,?_,?_,?_,?_⟩;rw[bY.out];exact((((bZ.out.store X.out s_ (Zfw Y.out _)).store (X.out.trans s_) s_ (Wx Y.out _)).store (X.out.trans s_) s_ (Wy Y.out _)).store (X.out.trans s_) s_ (Wz Y.out _))
    exact(((HT.setCell (p:=(A_ d (k*4))) (λ_=>.inr rfl) _).setCell (p:=(A_ d (k*4+1))) (λ_=>.inr rfl) _).setCell (p:=(A_ d (k*4+2))) (λ_=>.inr rfl) _).setCell (p:=(A_ d (k*4+3))) (λ_=>.inr rfl) _;exact(((HW.other (p:=(A_ d (k*4))) s _).other (p:=(A_ d (k*4+1))) s _).other (p:=(A_ d (k*4+2))) s _).other (p:=(A_ d (k*4+3))) s _;exact(((HB.other (p:=(A_ d (k*4))) r _).other (p:=(A_ d (k*4+1))) r _).other (p:=(A_ d (k*4+2))) r _).other (p:=(A_ d (k*4+3))) r _
   case measure=>exact z_
  have bV:k=n:=o_;subst bV;have G:Gk L z k=List.replicate k (Hg z):=by unfold Gk;rw[List.drop_eq_nil_of_le (by have:=V.out;omega),List.append_nil]
  have bO:Hid (wr.ownsRow base 98 4 (.slice a k cp) k (flat (List.replicate k (Hg z)))):=(by have:=HR.out;rw[G] at this;unfold Aj at this;rw[List.length_replicate] at this;exact this);have cA:=HB.lt
  have aO:some w.heap.size≠_:=λe=>by have:=aA _ e.symm;omega
  have aM:some g≠_:=λe=>by have:=aA _ e.symm;omega
  clear G HR hk U HA c5;have aD:=bO;have aW:=HT;have aF:=HW;have bL:=HB;clear bO HT HW HB a1;have a1:=aF;clear aF;go_wp2_with (at_builtin;refine Ab rfl (.tmp 32) (.tmp 34) 29 rfl base 98 i0 _ 4 32 Tryz.underlying29 I aR aQ aJ rfl d_ (.slice a k cp) k _ rfl (ra_ aD.out _) ⟨wr.heap.size,0,none⟩ 1 1 [.int .i64 z,.int .i64 0,.int .i64 0,.int .i64 0] rfl rfl (Am wr _ 98) i_ d_ m_ o_ t_ ?_)
  intro y1 w1 hX;obtain⟨bE,a4,c4,aX,q1,p1,rfl⟩:=hX;have F:Aj w1 base (L_ q1 (k+1) p1) (List.replicate (k+1) (Hg z)):=(by unfold Aj;rw[List.length_replicate,<- Mo];exact bE);have HQ1:=x1_ ((rl_ F q1 rfl).1);have bA:Hid (Ft _ z _):=.own F m_;have aE:=x1_ aX;have b9:=x1_ ((aW.alloc _).grown a4 (λk' e _=>.inr e.symm));have y:=x1_ ((a1.alloc _).grown a4 aM);have j:=x1_ ((bL.alloc _).grown a4 aO);have aI:=j.lt;clear bE a4 c4 aX F;clear b0 b1 b2 b3 bf;obtain⟨b0,b1,b2,b3,bf⟩:=j.cells
  go_wp2_with (at_builtin;refine Ab rfl (.tmp 36) (.tmp 39) 29 rfl base 98 i0 _ 4 32 Tryz.underlying29 I aR aQ aJ rfl d_ (.slice a k cp) k _ rfl (ra_ aE _) (A_ w1.heap.size 0) 2 2 [I_ z,I_ 0,I_ 0,I_ 0,I_ z,I_ 0,I_ 0,I_ 0] rfl rfl (Am w1 _ 98) (by intro u hu;simp only[List.mem_cons,List.not_mem_nil,or_false] at hu;rcases hu with rfl|rfl|rfl|rfl|rfl|rfl|rfl|rfl<;>rfl) d_ m_ o_ t_ ?_)
  intro y2 w2 hX;obtain⟨aS,N,aY,U,q2,p2,rfl⟩:=hX;have q:Aj w2 base (L_ q2 (k+2) p2) (List.replicate (k+2) (Hg z)):=(by unfold Aj;rw[List.length_replicate,<- Mo];exact aS);have HQ2:=x1_ ((rl_ q q2 rfl).1);have bG:Hid (Ft _ z _):=.own q m_;have aC:=x1_ U;have bD:=x1_ ((b9.alloc _).grown N (λk' e _=>.inr e.symm));have b8:=x1_ ((y.alloc _).grown N aM);have a3:=x1_ ((j.alloc _).grown N aO);have aN:=a3.lt;obtain⟨b0,b1,b2,b3,bf⟩:=a3.cells;have J:=x1_ ((bA.alloc _).append N aY s_ q m_ ⟨_,_,rfl⟩ (by simp[yr]));clear aS N aY U q
  go_wp2_with (at_builtin;refine Ab rfl (.tmp 41) (.tmp 45) 29 rfl base 98 i0 _ 4 32 Tryz.underlying29 I aR aQ aJ rfl d_ (.slice a k cp) k _ rfl (ra_ aC _) (A_ w2.heap.size 0) 3 3 [I_ z,I_ 0,I_ 0,I_ 0,I_ z,I_ 0,I_ 0,I_ 0,I_ z,I_ 0,I_ 0,I_ 0] rfl rfl (Am w2 _ 98) (by intro u hu;simp only[List.mem_cons,List.not_mem_nil,or_false] at hu;rcases hu with rfl|rfl|rfl|rfl|rfl|rfl|rfl|rfl|rfl|rfl|rfl|rfl<;>rfl) d_ m_ o_ t_ ?_)
  intro y3 R hX;obtain⟨aU,A,aH,bS,q3,p3,rfl⟩:=hX;have f:Aj R base (L_ q3 (k+3) p3) (List.replicate (k+3) (Hg z)):=by unfold Aj;rw[List.length_replicate,<- Mo];exact aU
  have HQ3:=x1_ ((rl_ f q3 rfl).1);have bP:Hid (Ft _ z _):=.own f m_;have Q:=x1_ bS;have a8:=x1_ ((bD.alloc _).grown A (λk' e _=>.inr e.symm));have Z:=x1_ ((b8.alloc _).grown A aM);have a2:=x1_ ((a3.alloc _).grown A aO);have aP:=a2.lt;obtain⟨b0,b1,b2,b3,bf⟩:=a2.cells;have H:=x1_ ((J.alloc _).append A aH s_ f m_ ⟨_,_,rfl⟩ (by simp[yr]));have E:=x1_ ((bG.alloc _).append A aH s_ f m_ ⟨_,_,rfl⟩ (by simp[yr]));clear aU A aH bS f;have HQ0:=x1_ (λk' h=>(rl_ Q k' h).1)
  have aZ:Hid (Ft R z (.slice a k cp)):=by have:Aj R base (.slice a k cp) (List.replicate k (Hg z)):=(by unfold Aj;rw[List.length_replicate];exact Q);exact .own this m_
  have P:=x1_ (a8.row a6 (λk' hk' e=>by
   rcases e with e|e
   have:=(rl_ a6 k' hk').1;omega
   rcases b5.out with h|h
   rw[h] at hk';cases hk'
   exact h (hk'.trans e)))
  have aB:Hid (Ag R base vm ms):=a8.row a5 (λk' hk' e=>by
   rcases e with e|e
   have:=(rl_ a5 k' hk').1;omega
   rcases bM.out with h|h
   rw[h] at hk';cases hk'
   exact h (hk'.trans e))
  have d4:R.cell? (A_ g 4)=some B:=(by rw[Z.cell];exact HC1.1);have df:=λo=>Z.frozen o;clear aD aE aC Q aW b9 bD a1 y b8 bL j a3 bA bG J aI aN;go_wp2_with (at_builtin;refine Ab rfl (.tmp 51) (.tmp 56) 80 rfl base 29 j0 (.slice none 0 0) 1 24 Tryz.underlying80 aV bX bW bT rfl d_ B vs.length vs rfl (ra_ P _) (A_ R.heap.size 0) 4 4 [.slice a k cp,L_ q1 (k+1) p1,L_ q2 (k+2) p2,L_ q3 (k+3) p3] rfl rfl (Am R _ 29) i_ d_ m_ o_ t_ ?_)
  intro y4 T hX;obtain⟨aT,l,bN,_,q4,p4,rfl⟩:=hX;have bF:=x1_ aT;have c6:Hid ((R.alloc (.cells _ 29)).grownBy _ _):=l
  have HD4:Hid (some q4=B.ownBlock∨w.heap.size<=q4):=by
   rcases bN with h|⟨h,_⟩
   exact .inl h;simp[Value.ownBlock] at h;right;omega
  have b6:_≠_:=λe=>by have:=(rl_ a6 g e.symm).1;omega
  have bI:some w.heap.size≠B.ownBlock:=λe=>by have:=(rl_ a6 _ e.symm).2;omega
  have C:=x1_ ((Z.alloc _).grown l b6);have bQ:=x1_ ((a2.alloc _).grown l bI);have aG:Hid (Ag _ _ _ _):=World.ownsRow.kept (ra_ aB _) l bC
  have bH:Hid (Aa (λk'=>k'=g∨some k'=(Value.slice a k cp).ownBlock∨some k'=B.ownBlock∨some k'=vm.ownBlock) w T):=
   ((a8.mono (λk' _ e=>by rcases e with e|e;exact .inl e;exact .inr (.inl e))).alloc _).grown l (λk' e _=>.inr (.inr (.inl e.symm)))
  have b7:∀u k' cur,B.ownBlock=some k'->R.heap[k']? =some (.cells cur 98 (0,0))->u=k'->False:=λu k' cur hk' hh _=>by obtain⟨cur',hc'⟩:=Ad P hk';rw[hc'] at hh;simp at hh
  have M:Hid (∀u,Ft R z u->Ft T z u):=λu hu=>by have t:=((Aa.refl _ _).alloc _).grown l (λk' e _=>e.symm);exact hu.touch t (λk' cur hk' hh e=>b7 _ _ _ e.symm hh rfl)
  clear aT l bN b7 d4 df b0 b1 b2 b3 bf aP;have D:=x4_ (M _ aZ) (M _ H) (M _ E) (M _ bP);clear M aZ H E bP a8 Z a2 P aB c6;have df:=λo=>C.frozen o;have d4:T.cell? (A_ g 4)=some B:=(by rw[C.cell];exact HC1.1);go_wp2_with fail
  have HW5:Hid (WB _ g (c1.setIfInBounds 4 (L_ q4 (vs.length+4) p4))):=C.set 4 _;have HB5:Hid (Gj (T.setCell (A_ g 4) (L_ q4 (vs.length+4) p4)) _ z 0 0 0):=bQ.other t_ _;have HE5:Hid ((T.setCell (A_ g 4) (L_ q4 (vs.length+4) p4)).ownsRow base 29 1 (L_ q4 (vs.length+4) p4) (vs.length+4) _):=Jo bF hgb;have HM5':Hid (Ag (T.setCell ⟨g,4,_⟩ (L_ q4 (vs.length+4) p4)) _ vm _):=Jo aG hgb;have HT5:Hid (Aa _ w (T.setCell _ (L_ q4 (vs.length+4) p4))):=bH.setCell (p:=(A_ g 4)) (λ_=>.inl rfl) _
  have O:Hid (∀u,Ft T z u->Ft (T.setCell _ (L_ q4 (vs.length+4) p4)) z u):=λu hu=>
   hu.touch (S:=λk'=>k'=g) ((Aa.refl (λk'=>k'=g) _).setCell (p:=(A_ g 4)) (λ_=>rfl) _) (λk' cur _ hh e=>by subst e;rw[C] at hh;simp at hh)
  have HM5:=x4_ (O _ D.1) (O _ D.2.1) (O _ D.2.2.1) (O _ D.2.2.2);clear C bQ bF aG bH D O d4 df;generalize T.setCell (A_ g 4) (L_ q4 (vs.length+4) p4)=w5 at *;have d5:w5.cell? (A_ g 5)=some vm:=(by rw[HW5.cell,Array.getElem?_setIfInBounds_ne d_];exact HC1.2);have df:=λo=>HW5.frozen o;obtain⟨b0,_,_,_,bf⟩:=HB5.cells
  have hgvm:_≠_:=λe=>by have:=(rl_ a5 g e.symm).1;omega
  have c9:base<=w5.heap.size:=by have:=HT5.size;omega
  have hbvm:some w.heap.size≠vm.ownBlock:=λe=>by have:=(rl_ a5 _ e.symm).2;omega
  have c7:g≠w.heap.size:=o_;have c8:w.heap.size≠g:=o_;have d5a:(w5.alloc (.cells #[I_ z,I_ z,I_ z,I_ z] 3)).cell? _=_:=((HW5.alloc _).cell 5).trans ((Array.getElem?_setIfInBounds_ne d_).trans HC1.2);have n1:=World.new_ne _ _ d5;have n2:=World.new_ne _ _ b0;refine wp_region_held_drew (S:=λw'=>w'.cell? (A_ w.heap.size 0)=some (I_ z)) k_ ?_ (λhHeld=>?_);exact b0;refine wpAnyH_take (i:=0) (v:=?_) rfl k_ k_ k_ (λ_ _ _ h=>h) (Or.inl ⟨by rfl,?_⟩) a_ ?_
  rotate_left;· intro w hSw;(try dsimp only at hSw);go_simp;try with_reducible rfl
  try simp only[Act.put,List.setIfInBounds_toArray]
  refine wpAnyH_take (i:=1) (v:=?_) rfl k_ k_ k_ (λ_ _ _ h=>h) (Or.inl ⟨by rfl,?_⟩) a_ ?_
  rotate_left;· intro w hSw;(try dsimp only at hSw);go_simp;try with_reducible rfl
  try simp only[Act.put]
  refine wpAnyH_take (i:=2) (v:=?_) rfl k_ k_ k_ (λ_ _ _ h=>h) (Or.inl ⟨by rfl,?_⟩) a_ ?_
  rotate_left;· intro w hSw;(try dsimp only at hSw);go_simp;try with_reducible rfl
  try simp only[Act.put]
  refine wpAnyH_take (i:=3) (v:=?_) rfl k_ k_ k_ (λ_ _ _ h=>h) (Or.inl ⟨by rfl,?_⟩) a_ ?_
  rotate_left;· intro w hSw;(try dsimp only at hSw);go_simp;try with_reducible rfl
  try simp only[Act.put]
  refine wpAnyH_take (i:=5) (v:=?_) rfl k_ k_ k_ (λ_ _ _ h=>h) (Or.inl ⟨by rfl,?_⟩) a_ ?_
  rotate_left;· intro w hSw;(try dsimp only at hSw);go_simp;try with_reducible rfl
  try simp only[Act.put]
  refine wpAnyH_take (i:=6) (v:=?_) rfl k_ k_ k_ (λ_ _ _ h=>h) (Or.inl ⟨by rfl,?_⟩) a_ ?_
  rotate_left;· intro w hSw;(try dsimp only at hSw);go_simp;try with_reducible rfl
  try simp only[Act.put]
  refine wpAnyH_take (i:=7) (v:=?_) rfl k_ k_ k_ (λ_ _ _ h=>h) (Or.inl ⟨by rfl,?_⟩) a_ ?_
  rotate_left;· intro w hSw;(try dsimp only at hSw);go_simp;try with_reducible rfl
  try simp only[Act.put]
  refine wpAnyH_take (i:=8) (v:=?_) rfl k_ k_ k_ (λ_ _ _ h=>h) (Or.inl ⟨by rfl,?_⟩) a_ ?_
  rotate_left;· intro w hSw;(try dsimp only at hSw);go_simp;try with_reducible rfl
  try simp only[Act.put]
  refine wpAnyH_take (i:=9) (v:=?_) rfl k_ k_ k_ (λ_ _ _ h=>h) (Or.inl ⟨by rfl,?_⟩) a_ ?_
  rotate_left;· intro w hSw;(try dsimp only at hSw);go_simp;try with_reducible rfl
  try simp only[Act.put]
  refine wpAnyH_take (i:=10) (v:=?_) rfl k_ k_ k_ (λ_ _ _ h=>h) (Or.inl ⟨by rfl,?_⟩) a_ ?_
  rotate_left;· intro w hSw;(try dsimp only at hSw);go_simp;try with_reducible rfl
  try simp only[Act.put]
  refine wpAnyH_take (i:=11) (v:=?_) rfl k_ k_ k_ (λ_ _ _ h=>h) (Or.inl ⟨by rfl,?_⟩) a_ ?_
  rotate_left;· intro w hSw;(try dsimp only at hSw);go_simp;try with_reducible rfl
  try simp only[Act.put]
  refine wpAnyH_take (i:=12) (v:=?_) rfl k_ k_ k_ (λ_ _ _ h=>h) (Or.inl ⟨by rfl,?_⟩) a_ ?_
  rotate_left;· intro w hSw;(try dsimp only at hSw);go_simp;try with_reducible rfl
  try simp only[Act.put]
  refine wpAnyH_ready (rs:=[4,13]) k_ s_ ?_;refine AllReadyH.cons rfl (λK hK=>?_) (AllReadyH.cons rfl (λK hK=>?_) AllReadyH.nil)
  ·go_simp;refine hK _ _ hHeld (λhHeld=>?_);clear hK K;try simp only[Act.put,List.setIfInBounds_toArray,List.set_cons_zero,List.set_cons_succ]
   refine wpAnyH_ready (rs:=[13]) k_ s_ ?_;refine AllReadyH.cons rfl (λK hK=>?_) AllReadyH.nil;go_simp;refine hK _ _ (by go_keep) (λhHeld=>?_);exact Zg8
  go_simp;refine hK _ _ (by go_keep) (λhHeld=>?_);clear hK K;try simp only[Act.put,List.setIfInBounds_toArray,List.set_cons_zero,List.set_cons_succ]
  refine wpAnyH_ready (rs:=[4]) k_ s_ ?_;refine AllReadyH.cons rfl (λK hK=>?_) AllReadyH.nil;go_simp;refine hK _ _ hHeld (λhHeld=>?_);exact Zg8
def Zw j g L n l w (b:Di w j L)(c:Di w g L):C_ 173 #[.slice j L.length n,.slice g L.length l] w λe w'=>e=.returned (.bool true)/\Below w.heap.size w w':=by
 have o:=b.1;have h:=x1_ b;have f:=x1_ c;clear b c;go_enter Tryz.func173,Tryz.ntmps173;go_wp2_with fail
 go_loopw [5] (λti wr=>∃i:Nat,i<=L.length/\ti=.int .i64 i/\E_ w wr) (λti _=>L.length-(intOf ti).toNat)
 case atStart=>exact⟨0,qg_,rfl,bz_⟩
 case round=>
  obtain⟨i,r,rfl,a⟩:=hrel;have m:=a.size
  by_cases hil:i<L.length
  ·rcases h.out.below a with⟨_,h0|⟨b1,o1,rfl,b⟩⟩;omega;rcases f.out.below a with⟨_,h0|⟨b2,o2,rfl,c⟩⟩;omega;have s:=b.v i hil;have y:=b.lo i hil;have p:=b.hi i hil;have u:=b.wt i hil;have q:=c.v i hil;have A:=c.lo i hil;have t:=c.hi i hil;have z:=c.wt i hil;clear b c h f;generalize L.getD i e0=x at *;have k:0<=(i:Int):=o_;have d:i<(L.length:Int):=o_;go_wp2_with fail
   go_big_quiet (fail);refine rd_ ?_;exact⟨i+1,o_,g_,by grind [below_drewN]⟩
  have d:¬i<(L.length:Int):=o_;go_wp2;go_ret;exact⟨rfl,a⟩
def Nl{w:World}{b f e a n:Nat}{v i}(h:w.ownsRow f e a v n i)(k:b<=f):w.ownsRow b e a v n i:=by
 refine⟨h.1,?_⟩
 rcases h.2 with l|⟨g,c,d,e,j,r⟩
 exact .inl l;exact .inr ⟨g,c,d,e,Nat.le_trans k j,r⟩
def Aj.view{w b v L}(h:Aj w b v L)(f:L.length<=4194304):∃a c,v=.slice a L.length c/\Di w a L/\(a=none->c=0):=by
 have d:=h
 rcases h.2 with⟨rfl,h0⟩|⟨g,cap,cur,rfl,_,hh,_⟩
 exact⟨none,0,by rw[h0],⟨f,.inl h0⟩,λ_=>rfl⟩;refine⟨_,cap,rfl,⟨f,.inr ⟨g,0,rfl,?_⟩⟩,λe=>by cases e⟩
 have j:∀i,i<L.length->w.cell? (A_ g (i*4))=some (I_ (L.getD i e0).v)/\w.cell? (A_ g (i*4+1))=some (I_ (L.getD i e0).lo)/\w.cell? (A_ g (i*4+2))=some (I_ (L.getD i e0).hi)/\w.cell? (A_ g (i*4+3))=some (I_ (L.getD i e0).wt)/\∀o,w.frozen? (A_ g o)=false:=λi hi=>by have e:L=L.take i++L.getD i e0::L.drop (i+1):=(by grind [List.drop_eq_getElem_cons,List.take_append_drop]);rw[e] at d;exact Aj.at (n:=L.length) (by rw[<- e] at d ⊢;exact d) (by rw[<- e]) t_
 refine⟨λ_=>(Qb hh).1,λi hi=>?_,λi hi=>?_,λi hi=>?_,λi hi=>?_⟩
 ·grind
 ·grind
 ·grind
 grind
def Gv(w:World)(g:Nat)(c:Array Value)(Ls:List (List Ct))(nx:Int):Prop:=
 ∃ vu ve vm us vs ms,
  WB w g c/\c.size=13/\c[0]? =some vu/\c[4]? =some ve/\c[5]? =some vm/\c[12]? =some (I_ nx)/\
  w.ownsRow (g+1) 29 1 vu us.length us/\w.ownsRow (g+1) 29 1 ve vs.length vs/\Ag w (g+1) vm ms/\Ch vu ve/\
  us.length=Ls.length/\vs.length=ms.length/\ms.length<=4*nx/\us.length<=nx/\
  (∀i,i<Ls.length->Aj w (g+1) (us.getD i (.slice none 0 0)) (Ls.getD i []))/\
  (∀i,i<vs.length->Ft w (ms.getD i 0) (vs.getD i (.slice none 0 0))/\∀k,(vs.getD i (.slice none 0 0)).ownBlock=some k->g+1<=k)
def Gv.lt{w g c b a}(h:Gv w g c b a):g<w.heap.size:=by obtain⟨_,_,_,_,_,_,h,_⟩:=h;exact h.lt
def Gv.below{w m g c o n}(h:Gv w g c o n)(b:Below w.heap.size w m):Gv m g c o n:=by obtain⟨y,D,z,r,x,v,p,E,u,F,B,q,C,s,A,j,f,l,e,k,d,a⟩:=h;have t:Aa (λ_=>False) w _:=.of_below b;exact⟨y,D,z,r,x,v,p.below b p.lt,E,u,F,B,q,t.row C (λ_ _=>id),t.row s (λ_ _=>id),t.row A (λ_ _=>id),j,f,l,e,k,λi hi=>(d i hi).below b,λi hi=>⟨(a i hi).1.below b,(a i hi).2⟩⟩
def sg{α:Type} l (x d:α){i}(a:i<l.length+1):(l++[x]).getD i d=if i<l.length then l.getD i d else x:=w_
def sf{α:Type}(l r:List α) d i:(l++r).getD i d=if i<l.length then l.getD i d else r.getD (i-l.length) d:=w_
def Pp(w w':World):Prop:=∀(k:Nat) cur t,w.heap[k]? =some (.cells cur t (0,0))->t≠90->t≠29->t≠3->w'.heap[k]? =some (.cells cur t (0,0))
def Pp.of_below{w w'}(h:Below w.heap.size w w'):Pp w w':=λk _ _ hk _ _ _=>(h.block k (Qb hk).1).trans hk
def Pp.trans{a b c}(h:Pp a b)(h':Pp b c):Pp a c:=λk cur t hk h1 h2 h3=>h' k cur t (h k cur t hk h1 h2 h3) h1 h2 h3
def ZdM g c Ls P v u L O w (hS:Gv O g c Ls P)(hb:Below O.heap.size O w)(hv:Aj w O.heap.size v L)(V:Aj w O.heap.size u L)(aH:Ch v u)(hl:L.length<=4194304)(hn:P<=10000000):C_ 114 #[.pointer (some ⟨g,0,none⟩),v,u] w λe w'=>e=.returned (.bool true)/\∃c',Gv w' g c' (Ls++[L]) (P+1)/\(∀j,j≠0->j≠4->j≠5->j≠12->c'[j]? =c[j]?)/\Below g w w'/\w.heap.size<=w'.heap.size/\Pp O w':=by
 have bH:=hS.lt;have aV:=hS.below hb;obtain⟨D,ve,vm,r,Z,ms,h1,h2,h3,h4,h5,h6,h7,h8,h9,aU,aG,aQ,a4,aP,aS,aL⟩:=hS;obtain⟨a1,c1,rfl,aF,_⟩:=hv.view hl;obtain⟨a2,c2,rfl,aC,_⟩:=V.view hl;obtain⟨j0,a8,bC,b9,b7⟩:=info_parts ZhR;have aX:g+1<=w.heap.size:=(by have:=hb.size;omega);have S:=x3_ aG aS aL;have l:=x4_ h7 h8 h9 h1;have tw:Aa (λ_=>False) _ w:=.of_below hb;have HW:=x1_ (h1.below hb bH);have HV:Hid (Aj w (g+1) _ L):=Nl hv o_;have M:=x1_ (λk a=>(rl_ hv k a).1);have HU:Hid (Aj w (g+1) _ L):=Nl V o_;have aW:=x1_ (λk a=>rl_ V k a);have b6:=x1_ aH;have B:=x1_ (tw.row h7 (λ_ _=>id));have aE:=x1_ (tw.row h8 (λ_ _=>id))
 have J:Hid (Ag w _ _ _):=tw.row h9 (λ_ _=>id);have HC:=x4_ h3 h4 h5 h6;have bK:=x1_ aF;have bF:=x1_ aC;have aD:=x1_ (λk a=>(rl_ h7 k a).2);have bL:=x1_ (λk a=>(rl_ h8 k a).2);have T:=x1_ aU;have hN:=n3_ aP a4 aQ;obtain⟨bT,bN,aO⟩:=hN;have aJ:=x1_ aO;have aZ:Z.length<=100000000:=o_;have bI:ms.length<=100000000:=o_;have bR:r.length<=100000000:=o_;have aY:0<=P:=o_;have HB:=x1_ hb;clear aV aO hb h1 h3 h4 h5 h6 h7 h8 h9 aU aG aQ a4 aP aS aL hv V aH aF aC tw;go_enter Tryz.func114,Tryz.ntmps114;go_wp2_with fail
 refine(Zw _ _ L _ _ w bK bF).mono ?_;rintro e w1 ⟨rfl,a3⟩;have y:=x1_ a3;have t1:Aa (λ_=>False) w _:=.of_below a3;have aI:=x1_ t1;clear a3 t1;go_wp2_with fail
 refine(jh g (g+1) c _ ve vm L Z ms P w1 (HW.below y o_) HC.2.1 HC.2.2.1 HC.2.2.2 o_ (Nat.le_trans aX y.size) (HV.below y) (aI.row aE (λ_ _=>id)) (aI.row J (λ_ _=>id)) hl aZ bI ⟨aY,o_⟩).mono ?_;rintro e H ⟨rfl,Q,a0,n,o1,o2,o3,o4,o5,o6,o7⟩;have A:=x1_ o1;have a9:=x1_ o2;have aA:=x1_ o3;have x:=x2_ o4 o5;have aK:=x1_ o6;have b5:=x1_ o7;clear o1 o2 o3 o4 o5 o6 o7;obtain⟨cc,N⟩:=ex_ (((c.setIfInBounds 12 (I_ (P+1))).setIfInBounds 4 Q).setIfInBounds 5 a0);have C:=x1_ N;rw[<- N] at A;have a7:Hid (cc[0]? =some D):=by show cc[0]? =some D;rw[N,Array.getElem?_setIfInBounds_ne d_,Array.getElem?_setIfInBounds_ne d_,Array.getElem?_setIfInBounds_ne d_];exact HC.1
 clear N;have U:=x1_ (((Aa.of_below HB).below (y)).trans aK);have m:=x1_ ((Aa.of_below y).trans aK)
 have Y:=x1_ (m.row B (λk a e=>by
  rcases e with e|e|e|e
  have:=(rl_ B k a).1;omega;have h1:=M k e.symm;have h2:=aD k a;omega
  ·rcases T.out with h|h|h
   ·grind
   ·grind
   grind
  rcases An J B d_ with h|h
  ·grind
  grind))
 have d0:H.cell? (A_ g 0)=some D:=(by rw[A.cell];exact a7);have df:=λo=>A.frozen o;have bS:g+1<=H.heap.size:=(by have:=m.size;omega);go_wp2_with (at_builtin;refine Ab rfl (.tmp 20) (.tmp 22) 80 rfl (g+1) 29 j0 (.slice none 0 0) 1 24 Tryz.underlying80 a8 bC b9 b7 rfl d_ D r.length r rfl (ra_ Y _) _ 1 1 [.slice a2 L.length c2] rfl rfl (Am H _ 29) (by intro u V;simp only[List.mem_cons,List.not_mem_nil,or_false] at V;rcases V with rfl;rfl) d_ m_ o_ t_ ?_)
 intro y3 F hX;obtain⟨a6,W,a5,_,q,G,rfl⟩:=hX
 have aB:_≠_:=λe=>by have:=(rl_ B g e.symm).1;omega
 have X:=x1_ ((A.alloc _).grown W aB);have bA:=x1_ a6;have d:=x1_ (((Aa.refl _ _).alloc _).grown W (λk e _=>e.symm))
 have bB:Hid (some q=D.ownBlock∨q=H.heap.size+1):=by
  rcases a5 with h|⟨h,_⟩
  exact .inl h;simp[Value.ownBlock] at h;exact .inr h
 have bU:=λo=>X.frozen o;have bP:F.cell? (A_ g 0)=some D:=(by rw[X.cell];exact a7);clear a6 W a5 d0 df;go_wp2;go_ret;refine⟨rfl,cc.setIfInBounds 0 (L_ q (r.length+1) G),?_,?_,?_,?_,?_⟩
 ·have aR:cc.size=13:=(by rw[C];simp[h2]);have E:Aa (λk=>k=g∨_) H (F.setCell _ (L_ q (r.length+1) G)):=(d.mono (λk _ e=>.inr e)).setCell (p:=(A_ g 0)) (λ_=>.inl rfl) _
  have I:Aa (λk=>k=g∨some k=(Value.slice a1 L.length c1).ownBlock∨some k=ve.ownBlock∨some k=vm.ownBlock∨some k=D.ownBlock) O (F.setCell (A_ g 0) (L_ q (r.length+1) G)):=
   (U.mono (λk _ e=>w_)).trans (E.mono (λk _ e=>w_))
  have aM:∀k b,O.heap[k]? =some (.cells b 98 (0,0))->¬(k=g∨some k=(Value.slice a1 L.length c1).ownBlock∨some k=ve.ownBlock∨some k=vm.ownBlock∨some k=D.ownBlock):=λk b s e=>by
   have a:=(Qb s).1
   rcases e with e|e|e|e|e
   subst e;rw[l.2.2.2] at s;simp at s;have:=M k e.symm;omega;obtain⟨f,z⟩:=Ad l.2.1 e.symm;grind;obtain⟨f,z⟩:=Ad l.2.2.1 e.symm;grind;obtain⟨f,z⟩:=Ad l.1 e.symm;grind
  have aT:∀k b,H.heap[k]? =some (.cells b 98 (0,0))->¬(k=g∨some k=D.ownBlock):=λk b s e=>by
   rcases e with e|e
   subst e;rw[A] at s;simp at s;obtain⟨f,z⟩:=Ad Y e.symm;grind
  have aN:Aj H (g+1) (.slice a2 L.length c2) L:=m.row HU (λk a e=>by
   have bM:=aW k a
   rcases e with e|e|e|e
   omega
   ·rcases b6.out with h|h|h
    ·grind
    ·grind
    grind
   have:=bL k e.symm;omega
   rcases An J HU d_ with h|h
   ·grind
   grind)
  have bD:Aj (F.setCell (A_ g 0) (L_ q (r.length+1) G)) (g+1) (.slice a2 L.length c2) L:=E.row aN (λk a e=>by
   obtain⟨b,hc⟩:=Ad aN a
   grind)
  have R:∀k,Q.ownBlock=some k->some k≠D.ownBlock:=λk a e=>by
   rcases b5.out with h|⟨k',h,bO⟩
   ·rcases T.out with h'|h'|h'
    ·grind
    ·grind
    grind
   rw[h] at a
   have e1:k'=k:=by simpa using a
   have e2:=aD k e.symm;have e3:=HB.size;have e4:=y.size;omega
  have bG:(F.setCell (A_ g 0) (L_ q (r.length+1) G)).ownsRow (g+1) 29 1 Q _ (Z++n):=Jo (d.row a9 (λk a e=>R k a e)) o_
  have b8:Ag (F.setCell (A_ g 0) (L_ q (r.length+1) G)) (g+1) a0 (ms++List.replicate 4 (-(P+1))):=Jo (d.row aA (λk a e=>by
   rcases An Y aA d_ with h|h
   ·grind
   grind)) o_
  refine⟨L_ q (r.length+1) G,Q,a0,r++[.slice a2 L.length c2],Z++n,ms++List.replicate 4 _,X.set 0 _,by simp[aR],?_,?_,?_,?_,?_,?_,b8,?_,?_,?_,?_,?_,?_,?_⟩;simp[aR];rw[Array.getElem?_setIfInBounds_ne d_,C,Array.getElem?_setIfInBounds_ne d_];simp[h2];rw[Array.getElem?_setIfInBounds_ne d_,C];simp[h2];rw[Array.getElem?_setIfInBounds_ne d_,C,Array.getElem?_setIfInBounds_ne d_,Array.getElem?_setIfInBounds_ne d_];simp[h2];rw[Qe];exact Jo bA o_;rw[Qe,x.1];exact bG
  ·right;right;intro e;have e':_=some q:=e.symm
   rcases bB.out with h|h
   exact R _ e' h;have:=(rl_ a9 q e').2;omega
  simp[S.out.1];simp[x.out.1,aJ.out];simp;omega;simp;omega
  ·intro i hi;rw[Qe] at hi;rw[sg _ _ _ (by rw[S.1];exact hi),sg _ _ _ hi]
   by_cases h:i<Ls.length
   ·rw[if_pos (by rw[S.1];exact h),if_pos h]
    exact I.row (S.2.1 i h) (λk a e=>by
     obtain⟨b,hc⟩:=Ad (S.2.1 i h) a
     exact aM k _ hc e)
   rw[if_neg (by rw[S.1];exact h),if_neg h];exact bD
  intro i hi;rw[Qe,x.1] at hi;rw[sf,sf,<- aJ]
  by_cases h:i<Z.length
  rw[if_pos h,if_pos h];exact⟨(S.2.2 i h).1.touch I (λk b _ s=>aM k _ s),(S.2.2 i h).2⟩;rw[if_neg h,if_neg h];have e1:(List.replicate 4 (-(P+1))).getD (i-Z.length) 0= -(P+1):=(by rw[List.getD,List.getElem?_replicate,if_pos o_];rfl);have e2:n.getD (i-Z.length) (.slice none 0 0)∈n:=(by rw[List.getD,Qd (by rw[x.1];omega)];exact Qf _);rw[e1];exact⟨(x.2 _ e2).1.touch E (λk b _ s=>aT k _ s),(x.2 _ e2).2⟩
 intro j n0 n4 n5 bQ;rw[Array.getElem?_setIfInBounds_ne o_,C,Array.getElem?_setIfInBounds_ne o_,Array.getElem?_setIfInBounds_ne o_,Array.getElem?_setIfInBounds_ne o_]
 ·have b3:Aa (λk=>g<=k) w H:=m.mono (λk _ e=>by
   show g<=k
   rcases e with e|e|e|e
   omega;have:=M k e.symm;omega;have:=(rl_ aE k e.symm).1;omega
   have:=(rl_ J k e.symm).1;omega)
  have bE:Aa (λk=>g<=k) H F:=d.mono (λk _ e=>by
   show g<=k
   have:=(rl_ B k e.symm).1;omega)
  have t:Aa _ w (F.setCell _ (L_ q (r.length+1) G)):=(b3.trans bE).setCell (p:=(A_ g 0)) (λ_=>Qa g) _;exact⟨t.os,t.tape,t.output,t.size,λk a=>t.block k o_ o_⟩
 have h1:=m.size;have h2:=d.size;simp[World.setCell];omega;have E:Aa (λk=>k=g∨_) H (F.setCell _ (L_ q (r.length+1) G)):=(d.mono (λk _ e=>.inr e)).setCell (p:=(A_ g 0)) (λ_=>.inl rfl) _
 have I:Aa (λk=>k=g∨some k=(Value.slice a1 L.length c1).ownBlock∨some k=ve.ownBlock∨some k=vm.ownBlock∨some k=D.ownBlock) O (F.setCell (A_ g 0) (L_ q (r.length+1) G)):=
  (U.mono (λk _ e=>w_)).trans (E.mono (λk _ e=>w_))
 intro k b t s t1 t2 t3;have a:=(Qb s).1;refine I.at_ s (λe=>?_)
 rcases e with e|e|e|e|e
 subst e;rw[l.2.2.2] at s;grind;have:=M k e.symm;omega;obtain⟨f,z⟩:=Ad l.2.1 e.symm;grind;obtain⟨f,z⟩:=Ad l.2.2.1 e.symm;grind;obtain⟨f,z⟩:=Ad l.1 e.symm;grind
def ZeU(k n:Int):Int:=if k<0∨n<=k then 0 else k
def ug k n w:C_ 74 #[.int .i64 k,.int .i64 n] w λe w'=>e=.returned (.int .i64 (ZeU k n))/\w'=w:=by
 unfold ZeU
 by_cases h1:k<0
 ·rw[if_pos (.inl h1)];go_enter Tryz.func74,Tryz.ntmps74;go_wp2;go_ret;exact⟨rfl,rfl⟩
 by_cases h2:n<=k
 ·rw[if_pos (.inr h2)];go_enter Tryz.func74,Tryz.ntmps74;go_wp2;go_ret;exact⟨rfl,rfl⟩
 rw[if_neg o_];go_enter Tryz.func74,Tryz.ntmps74;go_wp2;go_ret;exact⟨rfl,rfl⟩
def Zby k {n}(h:0<n):∃i:Nat,i<n/\ZeU k n=i:=by unfold ZeU;split;exact⟨0,h,rfl⟩;exact⟨k.toNat,o_,o_⟩
theorem Fj{w:World}{b e c n:Nat}{v d}(h:w.ownsRow b e c v n d):∃a p,v=.slice a n p/\(0<n->∃q,a=some ⟨q,0,none⟩/\q<w.heap.size):=by
 rcases h.2 with⟨rfl,h0⟩|⟨q,p,cur,rfl,_,hh,_⟩
 ·grind
 grind
theorem Qy{w:World}{a e n p q:Nat}{c}(h:w.ownsRow a e 1 (L_ q n p) n c){i x}(d:c[i]? =some x):w.cell? (A_ q i)=some x:=by
 have:=World.ownsRow.cells h (g:=q) rfl i x d;have b:((A_ q 0):Addr).add i=(A_ q i):=by unfold Addr.add;split<;>simp_all
 grind
end Go.Proofs.YtfcgnpchbcmdeaaGreat
