import Derived.Test.YtfcgnpchbcmdeaaGreatZraj
import Derived.Deep.RegionWith
import Derived.Deep.DeepCutAuto
import Derived.Test.YtfcgnpchbcmdeaaGreatZrah
namespace Go.Proofs.YtfcgnpchbcmdeaaGreat
set_option linter.all false
set_option maxRecDepth 100000
set_option maxHeartbeats 4000000
open Go.RowKit
def Bl(L:List Ct)(i:Nat)(v:Int):Ct:=if i<L.length/\(L.getD i e0).v=v then L.getD i e0 else⟨v,Cn L i,Dm L i,0⟩
def Gj(w:World)(b:Nat)(x0 x1 x2 x3:Int):Prop:=w.heap[b]? =some (.cells #[I_ x0,I_ x1,I_ x2,I_ x3] 98 (0,0))
def Gj.cells{w b c e a d}(h:Gj w b c e a d):w.cell? (A_ b 0)=some (I_ c)/\w.cell? (A_ b 1)=some (I_ e)/\w.cell? (A_ b 2)=some (I_ a)/\w.cell? (A_ b 3)=some (I_ d)/\(∀o,w.frozen? (A_ b o)=false):=by unfold Gj at h;refine⟨?_,?_,?_,?_,λo=>fr_ w b o _ _ h⟩<;>simp[World.cell?,h]
def Gj.lt{w b x0 x1 x2 x3}(h:Gj w b x0 x1 x2 x3):b<w.heap.size:=(Qb h).1
def Gj.set1{w b c e a d}(h:Gj w b c e a d) y:Gj (w.setCell (A_ b 1) (I_ y)) b c y a d:=by have:=hs_ w b 1 _ 98 (I_ y) h;exact this
def Gj.other{w b c e a d}(h:Gj w b c e a d){p}(f:b≠p.block) u:Gj (w.setCell p u) b c e a d:=by unfold Gj at *;rw[Below.heap_setCell w p u b f];exact h
def Gj.alloc{w b c e a d}(h:Gj w b c e a d) o:Gj (w.alloc o) b c e a d:=by have f:=h.lt;unfold Gj at *;rw[hb_ w o b f];exact h
def Gj.new(w:World) x0 x1 x2 x3:Gj (w.alloc (.cells #[I_ x0,I_ x1,I_ x2,I_ x3] 98)) w.heap.size x0 x1 x2 x3:=ha_ w _
def Gj.drew{w b x0 x1 x2 x3}(h:Gj w b x0 x1 x2 x3):Gj w.drew b x0 x1 x2 x3:=h
def Hi a L t c v w (h:Di w a L)(g:Bq L)(Q:c<=L.length)(o:∀i,i<c->(L.getD i e0).v<v)(n:c<L.length->v<=(L.getD c e0).v):C_ 175 #[.slice a L.length t,.int .i64 v] w λe w'=>e=.returned (.agg #[.int .i64 (Bl L c v).v,.int .i64 (Bl L c v).lo,.int .i64 (Bl L c v).hi,.int .i64 (Bl L c v).wt])/\Below w.heap.size w w':=by
 have V:=h.1;have A:=x1_ h;have C:=x1_ g;have E:=x1_ o;have I:=x1_ n;clear h g o n;go_enter Tryz.func175,Tryz.ntmps175;go_wp2_with fail
 refine(Zae a L _ _ (A.below bA_)).mono ?_;rintro e w' ⟨rfl,rfl⟩;go_wp2_with fail
 go_loopw [6] (λi wr=>∃k:Nat,k<=c/\i=.int .i64 k/\E_ w wr/\Gj wr w.heap.size 0 0 0 0/\Gj wr (w.heap.size+1) v (Cn L k) (Ae L) 0) (λi _=>L.length-(intOf i).toNat)
 case atStart=>
  refine⟨0,qg_,rfl,bA_.alloc s_ _,?_,?_⟩;exact(Gj.new w 0 0 0 0).alloc _;have G:(w.alloc (.cells #[I_ 0,I_ 0,I_ 0,I_ 0] 98)).heap.size=w.heap.size+1:=s_;have:=Gj.new (w.alloc (.cells #[I_ 0,I_ 0,I_ 0,I_ 0] 98)) v 0 (Ae L) 0;rw[G] at this;exact this
 case round=>
  obtain⟨k,U,rfl,f,q,y⟩:=hrel;obtain⟨s,n1,u,z,Y⟩:=q.cells;obtain⟨R,m1,m2,S,W⟩:=y.cells;have D:=x1_ q;have N:=x1_ y;clear q y
  by_cases hkl:k<L.length
  ·rcases A.out with⟨_,h0|⟨b,off,rfl,hA⟩⟩;omega;have Z:=hA.lt o_;have d:=hA.below f;have O:=d.v k hkl;have c1:=d.lo k hkl;have T:=d.hi k hkl;have c3:=d.wt k hkl;have M:=C.at hkl;obtain⟨g1,g2,g3,g4,X,g6⟩:=M;have H:0<=(k:Int):=o_;have F:k<(L.length:Int):=o_
   by_cases hki:k<c
   ·have r:=E k hki;have l:((L.getD k e0).v==v)=_:=beq_eq_false_iff_ne.2 o_
    have B:Hid (Cn L (k+1)=(L.getD k e0).lo+(L.getD k e0).wt):=show _=_ by simp[Cn]
    clear hA d;generalize (L.getD k e0).v=x0,(L.getD k e0).lo=x1,(L.getD k e0).hi=x2,(L.getD k e0).wt=x3 at *;go_wp2_with fail
    go_region
    all_goals go_wp2
    all_goals
     go_roundw
     case rel=>
      refine⟨k+1,o_,g_,(f.setCell s_ _).drew,(D.other s_ _).drew,?_⟩;rw[B];exact(N.set1 _).drew
     case measure=>exact z_
   have j:c=k:=o_;subst j;have r:=I hkl
   by_cases he:(L.getD c e0).v=v
   ·have m:Hid (Bl L _ v=_):=show _=_ by unfold Bl;rw[if_pos ⟨hkl,he⟩]
    have l:=beq_iff_eq.2 he;have P:=x1_ he;clear hA d he r;generalize L.getD c e0=x at *;go_wp2;exact bodyPost_ret (v:=.agg #[I_ x.v,I_ x.lo,I_ x.hi,I_ x.wt]) (by simp[results,Tryz.results175,go_sem,s,n1,u,z]) rfl ⟨by rw[m],(((f.setCell s_ _).setCell s_ _).setCell s_ _).setCell s_ _⟩
   have m:Hid (Bl L _ v=⟨v,_,_-_,0⟩):=show _=_ by unfold Bl;rw[if_neg (λhc=>he hc.2)];unfold Dm;rw[if_neg o_]
   have l:=beq_eq_false_iff_ne.2 he;have J:v<(L.getD c e0).v:=o_;clear hA d he r;generalize (L.getD c e0).v=x0,(L.getD c e0).lo=x1,(L.getD c e0).hi=x2,(L.getD c e0).wt=x3 at *;go_wp2_with fail
   go_region
   all_goals go_wp2
   all_goals exact bodyPost_ret (v:=.agg #[I_ v,I_ (Cn L c),I_ (x2-x3),I_ 0]) (by simp[results,Tryz.results175,go_sem,s,n1,u,z]) rfl ⟨by rw[m],(by repeat(first|omega|with_reducible refine Below.drew ?_|with_reducible refine Below.setCell ?_ s_ _))⟩
  have j:c=k:=o_;subst j
  have m:Hid (Bl L _ v=⟨v,_,Ae L,0⟩):=show _=_ by unfold Bl;rw[if_neg (λhc=>hkl hc.1)];unfold Dm;rw[if_pos o_]
  go_wp2;exact bodyPost_ret (v:=.agg #[I_ v,I_ (Cn L c),I_ (Ae L),I_ 0]) (by simp[results,Tryz.results175,go_sem,s,n1,u,z]) rfl ⟨by rw[m],(by repeat(first|omega|with_reducible refine Below.drew ?_|with_reducible refine Below.setCell ?_ s_ _))⟩
def Ee(e:Ct):List Value:=[I_ e.v,I_ e.lo,I_ e.hi,I_ e.wt]
def flat:List Ct->List Value
 |[]=>[]
 |e::L=>Ee e++flat L
theorem Cu a b:flat (a++b)=flat a++flat b:=by
 induction a with
 |nil=>rfl
 |cons e L ih=>simp[flat,ih]
theorem Ef L:(flat L).length=L.length*4:=by
 induction L with
 |nil=>rfl
 |cons e L ih=>simp[flat,Ee,ih];omega
def ZhF x:flat [x]=[I_ x.v,I_ x.lo,I_ x.hi,I_ x.wt]:=rfl
def Qq:(Tryz.prog.info? 98).map (λi=>(i.zero,i.size,i.bytes))=some (some (.agg #[I_ 0,I_ 0,I_ 0,I_ 0]),4,32):=k_
def Aj(w:World)(base:Nat)(v:Value)(L:List Ct):Prop:=w.ownsRow base 98 4 v L.length (flat L)
def Aj.nil w base:Aj w base (.slice none 0 0) []:=World.ownsRow_nil w base 98 4
def Aj.alloc{w base v L}(h:Aj w base v L) o:Aj (w.alloc o) base v L:=ra_ h o
def Aj.below{w d base v L}(h:Aj w base v L)(i:Below w.heap.size w d):Aj d base v L:=by
 refine⟨h.1,?_⟩
 rcases h.2 with j|⟨g,a,b,e,f,c,r⟩
 exact .inl j;exact .inr ⟨g,a,b,e,f,(i.block g (Qb c).1).trans c,r⟩
def Rr a b:∀n i j,(Dw a b n i j).length<=n
 |0,_,_=>by simp[Dw]
 | n+1,i,j=>by
  have h1:=Rr a b n (i+1) j;have h2:=Rr a b n i (j+1);have h3:=Rr a b n (i+1) (j+1)
  grind [Dw]
theorem Km a b:(Bp a b).length<=a.length+b.length:=Rr a b _ 0 0
def tz(a b:List Ct)(i j:Nat)(v:Int):Ct:=⟨v,(Bl a i v).lo+(Bl b j v).lo,(Bl a i v).hi+(Bl b j v).hi,(Bl a i v).wt+(Bl b j v).wt⟩
theorem Xn{L i}(a:i<L.length):Bl L i (L.getD i e0).v=L.getD i e0:=by unfold Bl;grind
theorem jn{L i v}(h:i<L.length->(L.getD i e0).v≠v):Bl L i v=⟨v,Cn L i,Dm L i,0⟩:=by unfold Bl;grind
def ZeM{a b i j}(c:i<a.length)(h:j<b.length->(a.getD i e0).v<(b.getD j e0).v):tz a b i j (a.getD i e0).v=seen b j (a.getD i e0):=by unfold tz seen;rw[Xn c,jn (λhj=>o_)];simp
def ZeN{a b i j}(c:j<b.length)(h:i<a.length->(b.getD j e0).v<(a.getD i e0).v):tz a b i j (b.getD j e0).v=seen a i (b.getD j e0):=by grind [tz,seen,Xn,jn,Ct.mk.injEq]
def Zic{a b i j}(c:i<a.length)(d:j<b.length)(h:(a.getD i e0).v=(b.getD j e0).v):tz a b i j (a.getD i e0).v=Li (a.getD i e0) (b.getD j e0):=by grind [tz,Li,Xn]
def Hh{L}(g:Bq L){i}(a:i<=L.length) v:0<=(Bl L i v).lo/\(Bl L i v).lo<=1000000000000/\0<=(Bl L i v).hi/\(Bl L i v).hi<=1000000000000/\0<=(Bl L i v).wt/\(Bl L i v).wt<=1000000000000:=by
 unfold Bl;split;rename_i h;have:=g.at h.1;omega;have b:=dr g a;have c:=Df g
 grind
structure Mi(a b:List Ct)(i j):Prop where
 hi:i<=a.length
 hj:j<=b.length
 va:i<a.length->0<j->(b.getD (j-1) e0).v<(a.getD i e0).v
 vb:j<b.length->0<i->(a.getD (i-1) e0).v<(b.getD j e0).v
def Mx{L}(g:Bq L){i v}(b:i<=L.length)(h:0<i->(L.getD (i-1) e0).v<v):∀k,k<i->(L.getD k e0).v<v:=by
 intro k c;have a:=h o_
 by_cases e:k=i-1
 rw[e];exact a;have:=(g.lt (show k<i-1 by omega) o_).1;omega
def Mi.a{a b}(ga:Bq a){i j}(s:Mi a b i j)(hi:i<a.length)(h:j<b.length->(a.getD i e0).v<(b.getD j e0).v):Mi a b (i+1) j:=
 ⟨o_,s.hj,λh1 h0=>by have:=s.va hi h0;have:=(ga.lt (show i<i+1 by omega) h1).1;omega,λh1 _=>by simpa using h h1⟩
def Mi.b{a b}(gb:Bq b){i j}(s:Mi a b i j)(hj:j<b.length)(h:i<a.length->(b.getD j e0).v<(a.getD i e0).v):Mi a b i (j+1):=
 ⟨s.hi,o_,λh1 _=>by simpa using h h1,λh1 h0=>by have:=s.vb hj h0;have:=(gb.lt (show j<j+1 by omega) h1).1;omega⟩
def Mi.ab{a b}(ga:Bq a)(gb:Bq b){i j}(_s:Mi a b i j)(hi:i<a.length)(hj:j<b.length)(h:(a.getD i e0).v=(b.getD j e0).v):Mi a b (i+1) (j+1):=
 ⟨o_,o_,λh1 _=>by have:=(ga.lt (show i<i+1 by omega) h1).1;grind,λh1 _=>by have:=(gb.lt (show j<j+1 by omega) h1).1;grind⟩
structure Td(a b)(i j)(out):Prop where
 st:Mi a b i j
 eq:out++Md a b i j=Bp a b
def Td.len{a b i j c}(h:Td a b i j c):c.length<=a.length+b.length:=by have d:=congrArg List.length h.eq;have e:=Km a b;simp at d;omega
def Td.a{a b}(ga:Bq a){i j out}(r:Td a b i j out)(hi:i<a.length)(h:j<b.length->(a.getD i e0).v<(b.getD j e0).v):Td a b (i+1) j (out++[seen b j (a.getD i e0)]):=
 ⟨r.st.a ga hi h,by rw[List.append_assoc,<- r.eq,Zks hi h];rfl⟩
def Td.b{a b}(gb:Bq b){i j out}(r:Td a b i j out)(hj:j<b.length)(h:i<a.length->(b.getD j e0).v<(a.getD i e0).v):Td a b i (j+1) (out++[seen a i (b.getD j e0)]):=
 ⟨r.st.b gb hj h,by rw[List.append_assoc,<- r.eq,Zkt hj h];rfl⟩
def Td.ab{a b}(ga:Bq a)(gb:Bq b){i j out}(r:Td a b i j out)(hi:i<a.length)(hj:j<b.length)(h:(a.getD i e0).v=(b.getD j e0).v):Td a b (i+1) (j+1) (out++[Li (a.getD i e0) (b.getD j e0)]):=
 ⟨r.st.ab ga gb hi hj h,by rw[List.append_assoc,<- r.eq,ZiB hi hj h];rfl⟩
def Am(w:World) c t:∀j u,c.toList[j]? =some u->(w.alloc (.cells c t)).cell? (((A_ w.heap.size 0):Addr).add j)=some u:=by
 intro j u b;have a:((A_ w.heap.size 0):Addr).add j=(A_ w.heap.size j):=by unfold Addr.add;split<;>simp_all
 grind [cell_of_row,heap_alloc_new]
def Aj.more{w a v L}{x:Ct}(h:w.ownsRow a 98 4 v (L.length+1) (flat L++[I_ x.v,I_ x.lo,I_ x.hi,I_ x.wt])):Aj w a v (L++[x]):=by unfold Aj;rw[Cu,ZhF,Qe];exact h
def bkJ{p:Prop}(h:p:=by
 obtain⟨p1,p2,p3,p4,p5,p6⟩:=P1;obtain⟨q1,q2,q3,q4,q5,q6⟩:=P2;go_wp2_with fail
 go_big_quiet (fail);go_wp2_with fail
 refine(HPA _ (HEA.below (below_drewN bz_ _))).mono ?_;rintro e w1 ⟨rfl,hb1⟩;have hbw1:Below wr.heap.size _ _:=(below_drewN bz_ _).trans hb1;have HEB1:=x1_ (HEB.below hbw1);go_wp2_with fail
 refine(HPB _ (HEB1.below bA_)).mono ?_;rintro e w2 ⟨rfl,hb2⟩;have hX:Gj w2 w1.heap.size pa.v pa.lo pa.hi pa.wt:=(by unfold Gj;rw[hb2.block _ s_];exact hn_);obtain⟨_,x1,x2,x3,_⟩:=hX.cells;have hzz:w1.heap.size<w2.heap.size:=(by have:=hb2.size;simp at this;omega);have hbw2:=hbw1.trans ((bA_.trans (hb2.mono s_)).mono hbw1.size);have HO2:=x1_ (HO.below hbw2);have hs2:=Nat.le_trans hsz hbw2.size;go_wp2_with (at_builtin;refine wpList_append_own _ rfl (.tmp 60) (.tmp 78) 29 rfl w.heap.size 98 i0 _ 4 32 Tryz.underlying29 hinf hz0 hz1 hz2 rfl d_ _ out.length (flat out) rfl ((HO2.alloc _).alloc _) _ 1 1 [I_ vp,I_ (pa.lo+pb.lo),I_ (pa.hi+pb.hi),I_ (pa.wt+pb.wt)] rfl rfl ?_ ?_ ?_ ?_ ?_ ?_)
 have:=Am (w2.alloc (.cells #[I_ pb.v,I_ pb.lo,I_ pb.hi,I_ pb.wt] 98)) #[I_ vp,I_ (pa.lo+pb.lo),I_ (pa.hi+pb.hi),I_ (pa.wt+pb.wt)] 98;rw[show(w2.alloc (.cells #[I_ pb.v,I_ pb.lo,I_ pb.hi,I_ pb.wt] 98)).heap.size=w2.heap.size+1 by simp] at this;exact this
 ·intro u hu;simp at hu;rcases hu with rfl|rfl|rfl|rfl<;>rfl
 unfold maxLen;omega;omega;simp;omega;intro v3 w3 hown3 hgrow _;have hb3:=(((hbw2.mono hsz).alloc hs2 _).alloc t_ _).grown hgrow t_ (λk hk=>(HO2.lt k hk).1);have hb4:=hbel.trans hb3;try have ca3:=(hb3.cell (p:=(A_ b1 (o1+i*4))) hbb1).trans ca0
 try have cb3:=(hb3.cell (p:=(A_ b2 (o2+j*4))) hbb2).trans cb0
 have HF:Hid (Aj w3 w.heap.size v3 (out++[X])):=(by rw[HNX];exact Aj.more hown3);try clear ca0
 try clear cb0
 go_wp2;go_roundw
 case rel=>first|exact⟨i+1,j,_,g_,g_,⟨HX,HF⟩,hb4⟩|exact⟨i+1,j+1,_,g_,g_,⟨HX,HF⟩,hb4⟩|exact⟨i,j+1,_,g_,g_,⟨HX,HF⟩,hb4⟩
 case measure=>simp[intOf];omega):p:=h
def wn{p:Prop}(h:p:=by
 have gj:decide ((b.length:_)<=(j:Int))=_:=decide_eq_false o_;have gj2:decide (b.length<=j)=_:=decide_eq_false o_
 exact bkJ):p:=h
def Yx H F a b z y w (x:Di w H a)(m:Di w F b)(J:Bq a)(P:Bq b):C_ 120 #[.slice H a.length z,.slice F b.length y] w λe w'=>∃v,e=.returned v/\Aj w' w.heap.size v (Bp a b)/\Below w.heap.size w w':=by
 obtain⟨i0,hinf,hz0,hz1,hz2⟩:=info_parts Qq;have Y:=x.1;have Z:=m.1;have M:=x1_ x;have C:=x1_ m;have d:=x1_ J;have f:=x1_ P;clear x m J P;go_enter Tryz.func120,Tryz.ntmps120;go_wp2_with fail
 go_loopw [5,6,7] (λo ti tj wr=>∃(i j:Nat) (out:List Ct),ti=.int .i64 i/\tj=.int .i64 j/\Hid (Td a b i j out/\Aj wr w.heap.size o out)/\E_ w wr) (λ_ ti tj _=>(a.length-(intOf ti).toNat)+(b.length-(intOf tj).toNat))
 case atStart=>exact⟨0,0,[],rfl,rfl,⟨⟨⟨qg_,qg_,λ_ h=>absurd h o_,λ_ h=>absurd h o_⟩,by simp[jw]⟩,Aj.nil _ _⟩,bz_⟩
 case round=>
  obtain⟨i,j,out,rfl,rfl,Q,hbel⟩:=hrel;obtain⟨R,q⟩:=Q;have L:=R.len;have hi:=R.st.hi;have l:=R.st.hj;have hsz:=hbel.size;have I:=M.below hbel;have O:=C.below hbel;have HEA:=x1_ I;have HEB:=x1_ O;have HO:=x1_ q;have c:=x1_ R;clear R q I O
  by_cases hil:i<a.length
  ·rcases HEA.out with⟨_,h0|⟨b1,o1,rfl,x⟩⟩;omega;have ca0:=x.v i hil;have hbb1:b1<w.heap.size:=by rcases M.out with⟨_,h0|⟨b1',o1',e,hA'⟩⟩;omega;simp at e;rw[e.1];exact hA'.lt o_
   have U:0<=(i:Int):=o_;have S:i<(a.length:Int):=o_
   by_cases hjl:j<b.length
   ·rcases HEB.out with⟨_,h0|⟨b2,o2,rfl,m⟩⟩;omega;have cb0:=m.v j hjl;have hbb2:b2<w.heap.size:=(by rcases C.out with⟨_,h0|⟨b2',o2',e,hB'⟩⟩;omega;simp at e;rw[e.1];exact hB'.lt o_);have E:0<=(j:Int):=o_;have B:j<(b.length:Int):=o_;clear x m
    rcases Int.lt_trichotomy (a.getD i e0).v (b.getD j e0).v with t|r|s
    ·have P1:=Hh d hi (a.getD i e0).v;have P2:=Hh f l (a.getD i e0).v;have g:=x1_ (ZeM hil (λ_=>t));have HX:=x1_ (c.a d hil (λ_=>t));have HPA:Hid (∀W,Di W (some ⟨b1,o1,none⟩) a->_):=λW hW=>Hi _ a z i _ W hW d hi (λk hk=>(d.lt hk hil).1) (λ_=>Int.le_refl _);have HPB:Hid (∀W,Di W (some ⟨b2,o2,none⟩) b->_):=λW hW=>Hi _ b y j _ W hW f l (Mx f l (c.st.va hil)) (λh=>by have:=(λ_=>t) h;omega);have HNX:Hid (seen b j (a.getD i e0)=⟨(a.getD i e0).v,(Bl a i (a.getD i e0).v).lo+(Bl b j (a.getD i e0).v).lo,(Bl a i (a.getD i e0).v).hi+(Bl b j (a.getD i e0).v).hi,(Bl a i (a.getD i e0).v).wt+(Bl b j (a.getD i e0).v).wt⟩):=g.symm;generalize seen b j (a.getD i e0)=X at *;clear g
     generalize Bl a i (a.getD i e0).v=pa at *;generalize Bl b j (a.getD i e0).v=pb at *;generalize (a.getD i e0).v=vp at *;generalize (b.getD j e0).v=vb at *;have A:decide (vp<=vb)=_:=decide_eq_true o_;have D:(_==vp)=_:=beq_self_eq_true _;have N:(vb==vp)=_:=beq_eq_false_iff_ne.2 o_;exact wn
    ·have P1:=Hh d hi (a.getD i e0).v;have P2:=Hh f l (a.getD i e0).v;have g:=x1_ (Zic hil hjl r);have HX:=x1_ (c.ab d f hil hjl r);have HPA:Hid (∀W,Di W (some ⟨b1,o1,none⟩) a->_):=λW hW=>Hi _ a z i _ W hW d hi (λk hk=>(d.lt hk hil).1) (λ_=>Int.le_refl _);have HPB:Hid (∀W,Di W (some ⟨b2,o2,none⟩) b->_):=λW hW=>Hi _ b y j _ W hW f l (Mx f l (c.st.va hil)) (λ_=>o_);have HNX:Hid (Li (a.getD i e0) (b.getD j e0)=⟨(a.getD i e0).v,(Bl a i (a.getD i e0).v).lo+(Bl b j (a.getD i e0).v).lo,(Bl a i (a.getD i e0).v).hi+(Bl b j (a.getD i e0).v).hi,(Bl a i (a.getD i e0).v).wt+(Bl b j (a.getD i e0).v).wt⟩):=g.symm;generalize Li (a.getD i e0) (b.getD j e0)=X at *;clear g;generalize Bl a i (a.getD i e0).v=pa at *
     generalize Bl b j (a.getD i e0).v=pb at *;generalize (a.getD i e0).v=vp at *;generalize (b.getD j e0).v=vb at *;subst r;have A:decide (vp<=vp)=_:=decide_eq_true o_;have D:(_==vp)=_:=beq_self_eq_true _;exact wn
    have P1:=Hh d hi (b.getD j e0).v;have P2:=Hh f l (b.getD j e0).v;have g:=x1_ (ZeN hjl (λ_=>s));have HX:=x1_ (c.b f hjl (λ_=>s));have HPA:Hid (∀W,Di W (some ⟨b1,o1,none⟩) a->_):=λW hW=>Hi _ a z i _ W hW d hi (Mx d hi (c.st.vb hjl)) (λh=>by have:=(λ_=>s) h;omega);have HPB:Hid (∀W,Di W (some ⟨b2,o2,none⟩) b->_):=λW hW=>Hi _ b y j _ W hW f l (λk hk=>(f.lt hk hjl).1) (λ_=>Int.le_refl _);have HNX:Hid (seen a i (b.getD j e0)=⟨(b.getD j e0).v,(Bl a i (b.getD j e0).v).lo+(Bl b j (b.getD j e0).v).lo,(Bl a i (b.getD j e0).v).hi+(Bl b j (b.getD j e0).v).hi,(Bl a i (b.getD j e0).v).wt+(Bl b j (b.getD j e0).v).wt⟩):=g.symm;generalize seen a i (b.getD j e0)=X at *;clear g;generalize Bl a i (b.getD j e0).v=pa at *
    generalize Bl b j (b.getD j e0).v=pb at *;generalize (a.getD i e0).v=va at *;generalize (b.getD j e0).v=vp at *;have A:decide (va<=vp)=_:=decide_eq_false o_;have D:(va==vp)=_:=beq_eq_false_iff_ne.2 o_;have N:(_==vp)=_:=beq_self_eq_true _;exact wn
   have P1:=Hh d hi (a.getD i e0).v;have P2:=Hh f l (a.getD i e0).v;have g:=x1_ (ZeM hil (λh=>absurd h hjl));have HX:=x1_ (c.a d hil (λh=>absurd h hjl));have HPA:Hid (∀W,Di W (some ⟨b1,o1,none⟩) a->_):=λW hW=>Hi _ a z i _ W hW d hi (λk hk=>(d.lt hk hil).1) (λ_=>Int.le_refl _);have HPB:Hid (∀W,Di W F b->_):=λW hW=>Hi _ b y j _ W hW f l (Mx f l (c.st.va hil)) (λh=>absurd h hjl);have HNX:Hid (seen b j (a.getD i e0)=⟨(a.getD i e0).v,(Bl a i (a.getD i e0).v).lo+(Bl b j (a.getD i e0).v).lo,(Bl a i (a.getD i e0).v).hi+(Bl b j (a.getD i e0).v).hi,(Bl a i (a.getD i e0).v).wt+(Bl b j (a.getD i e0).v).wt⟩):=g.symm;generalize seen b j (a.getD i e0)=X at *;clear g;generalize Bl a i (a.getD i e0).v=pa at *
   generalize Bl b j (a.getD i e0).v=pb at *;generalize (a.getD i e0).v=vp at *;have D:(_==vp)=_:=beq_self_eq_true _;have gj:decide ((b.length:_)<=(j:Int))=_:=decide_eq_true o_;have gj2:decide (b.length<=j)=_:=decide_eq_true o_;exact bkJ
  by_cases hjl:j<b.length
  ·rcases HEB.out with⟨_,h0|⟨b2,o2,rfl,m⟩⟩;omega;have cb0:=m.v j hjl;have hbb2:b2<w.heap.size:=by rcases C.out with⟨_,h0|⟨b2',o2',e,hB'⟩⟩;omega;simp at e;rw[e.1];exact hB'.lt o_
   have E:0<=(j:Int):=o_;have B:j<(b.length:Int):=o_;clear m;have V:decide ((i:_)<(a.length:Int))=_:=decide_eq_false o_;have T:=decide_eq_false o_;have P1:=Hh d hi (b.getD j e0).v;have P2:=Hh f l (b.getD j e0).v;have g:=x1_ (ZeN hjl (λh=>absurd h hil));have HX:=x1_ (c.b f hjl (λh=>absurd h hil));have HPA:Hid (∀W,Di W H a->_):=λW hW=>Hi _ a z i _ W hW d hi (Mx d hi (c.st.vb hjl)) (λh=>absurd h hil);have HPB:Hid (∀W,Di W (some ⟨b2,o2,none⟩) b->_):=λW hW=>Hi _ b y j _ W hW f l (λk hk=>(f.lt hk hjl).1) (λ_=>Int.le_refl _)
   have HNX:Hid (seen a i (b.getD j e0)=⟨(b.getD j e0).v,(Bl a i (b.getD j e0).v).lo+(Bl b j (b.getD j e0).v).lo,(Bl a i (b.getD j e0).v).hi+(Bl b j (b.getD j e0).v).hi,(Bl a i (b.getD j e0).v).wt+(Bl b j (b.getD j e0).v).wt⟩):=g.symm;generalize seen a i (b.getD j e0)=X at *;clear g;generalize Bl a i (b.getD j e0).v=pa at *;generalize Bl b j (b.getD j e0).v=pb at *;generalize (b.getD j e0).v=vp at *;have N:(_==vp)=_:=beq_self_eq_true _;exact wn
  have n:out=Bp a b:=(by have:=c.eq;rw[uk hil hjl,List.append_nil] at this;exact this);have G:=x1_ (n ▸ HO);clear n;go_wp2;go_ret;exact⟨_,rfl,G,hbel⟩
def Ss:(Tryz.prog.info? 3).map (λi=>(i.zero,i.size,i.bytes))=some (some (I_ 0),1,8):=k_
def Ag(w:World)(base:Nat)(v:Value)(zs:List Int):Prop:=w.ownsRow base 3 1 v zs.length (zs.map (Value.int .i64))
def Ag.nil w base:Ag w base (.slice none 0 0) []:=World.ownsRow_nil w base 3 1
def Ag.below{w f base v d}(h:Ag w base v d)(j:Below w.heap.size w f):Ag f base v d:=by
 refine⟨h.1,?_⟩
 rcases h.2 with k|⟨g,a,b,e,i,c,r⟩
 exact .inl k;exact .inr ⟨g,a,b,e,i,(j.block g (Qb c).1).trans c,r⟩
def Ag.kept{w w' base v zs row}(h:Ag w base v zs)(hg:w.grownBy w' row)(hne:v.ownBlock=none∨v.ownBlock≠row):Ag w' base v zs:=World.ownsRow.kept h hg hne
def Ag.more{w a v zs}{x:Int}(h:w.ownsRow a 3 1 v (zs.length+1) (zs.map (Value.int .i64)++[I_ x])):Ag w a v (zs++[x]):=by grind [Ag]
def xd(x:Int):Int:=if 1000000000<x then 1000000000 else x
def gh x:Ga x=if xd x< -1000000000 then -1000000000 else xd x:=by grind [Ga,xd]
def Zcs(y:Int):Bool:=decide (y<1∨1000<y)
def ZcI y:Is y=if Zcs y=true then 1 else y:=by grind [Is,Zcs]
def Fn(M:List (Int×Int))(x:Int):Bool:=match M.getLast? with
 |none=>true
 |some p=>decide (p.1<x)
def Zfy x:Fn [] x=true:=rfl
def To N p x:Fn (N++[p]) x=decide (p.1<x):=by simp[Fn]
def ZhJ{M}(c:M.Pairwise λp q=>p.1<q.1){x}(h:Fn M x=true):∀p∈M,p.1<x:=by
 rcases List.eq_nil_or_concat M with a|⟨N,p,a⟩
 subst a;simp;rw[List.concat_eq_append] at a;subst a;rw[To] at h;simp at h;intro q b
 rcases List.mem_append.1 b with b|b
 have:=(List.pairwise_append.1 c).2.2 q b p s_;omega
 grind
structure Ir(P M:List (Int×Int)):Prop where
 rise:M.Pairwise λp q=>p.1<q.1
 sub:∀p∈M,∃q∈P,q.1=p.1
 wt:∀p∈M,p.2=No P p.1
 low:∀q∈P,Fn M q.1=false->∃p∈M,p.1=q.1
def Ir.nil P:Ir P []:=⟨s_,s_,s_,λq _ h=>by rw[Zfy] at h;cases h⟩
structure Pf(P M:List (Int×Int))(i)(fd)(le wt:Int):Prop where
 no:fd=false->le=0/\wt=0/\∀q∈P.take i,Fn M q.1=false
 yes:fd=true->(∃q∈P.take i,Fn M q.1=true/\q.1=le)/\(∀q∈P.take i,Fn M q.1=true->le<=q.1)/\wt=No (P.take i) le
def Pf.start P M:Pf P M 0 false 0 0:=⟨(λ_=>⟨rfl,rfl,s_⟩),(λh=>by cases h)⟩
def Pf.new{P M i c d j}(h:Pf P M i c d j) g (f:Fn M P[i].1=true)(k:c=false∨P[i].1<d):Pf P M (i+1) true P[i].1 P[i].2:=by
 refine⟨(λh=>by cases h),λ_=>?_⟩;simp only[Qi g];refine⟨⟨P[i],List.mem_append.2 (.inr s_),f,rfl⟩,λq a b=>?_,?_⟩
 ·rcases List.mem_append.1 a with a|a
  ·cases hfd:c with
   |false=>have:=(h.no hfd).2.2 q a;grind
   | true=>
    have:=(h.yes hfd).2.1 q a b
    grind
  grind
 rw[Lm,me (λq a e=>?_)];simp[No];have b:Fn M q.1=true:=by rw[e];exact f
 cases hfd:c with
 |false=>have:=(h.no hfd).2.2 q a;grind
 | true=>
  have:=(h.yes hfd).2.1 q a b
  grind
def Pf.same{P M i a b}(h:Pf P M i true a b) c (d:P[i].1=a):Pf P M (i+1) true a (b+P[i].2):=by
 obtain⟨⟨q,f,j,e⟩,k,g⟩:=h.yes rfl;refine⟨(λh=>by cases h),λ_=>?_⟩;simp only[Qi c];refine⟨⟨q,List.mem_append.2 (.inl f),j,e⟩,λq' hq' hf'=>?_,?_⟩
 ·grind
 rw[Lm,g];simp[No,d]
def Pf.pass{P M i b a f}(h:Pf P M i b a f) j (m:b=false->Fn M P[i].1=false)(l:b=true->P[i].1≠a/\(Fn M P[i].1=true->a<=P[i].1)):Pf P M (i+1) b a f:=by
 refine⟨λhf=>?_,λhf=>?_⟩
 ·obtain⟨n,g,d⟩:=h.no hf
  grind [Qi]
 obtain⟨⟨q,k,c,e⟩,g,d⟩:=h.yes hf;simp only[Qi j];refine⟨⟨q,List.mem_append.2 (.inl k),c,e⟩,λq' hq' hf'=>?_,?_⟩
 ·grind
 rw[Lm,d];simp[No,(l hf).1]
def Ir.done{P M c b}(h:Ir P M)(d:Pf P M P.length false c b):Ed P M:=by obtain⟨_,_,a⟩:=d.no rfl;rw[List.take_of_length_le qa_] at a;exact⟨h.rise,h.sub,λq hq=>h.low q hq (a q hq),h.wt⟩
def Ir.more{P M g f}(h:Ir P M)(m:Pf P M P.length true g f):Ir P (M++[(g,f)]):=by
 obtain⟨⟨q,k,n,e⟩,j,l⟩:=m.yes rfl;rw[List.take_of_length_le qa_] at k j l;refine⟨?_,?_,?_,?_⟩;rw[List.pairwise_append];refine⟨h.rise,s_,λa ha b hb=>?_⟩;simp at hb;rw[hb];have:=ZhJ h.rise n a ha;simp;omega
 ·intro p c
  rcases List.mem_append.1 c with c|c
  exact h.sub p c
  grind
 ·intro p c
  rcases List.mem_append.1 c with c|c
  exact h.wt p c
  grind
 intro r i d;rw[To] at d;simp at d
 cases hM:Fn M r.1 with
 |false=>obtain⟨p,c,e⟩:=h.low r i hM;grind
 |true=>have:=j r i hM;exact⟨(g,f),s_,t_⟩
def Ir.len{P M}(h:Ir P M):M.length<=P.length:=by
 have g:∀(M:List (Int×Int)) (U:List Int),(M.Pairwise λp q=>p.1<q.1)->(∀p∈M,p.1∈U)->M.length<=U.length:=by
  intro M
  induction M with
  |nil=>simp
  | cons e M ih=>
   intro U a c;rw[List.pairwise_cons] at a;have j:=c e s_
   have d:=ih _ a.2 (λf hf=>by
    have b:f.1≠e.1:=w_
    exact(List.mem_erase_of_ne b).2 (c f (by simp[hf])))
   grind
 have:=g M (P.map (·.1)) h.rise (λp a=>by obtain⟨q,i,e⟩:=h.sub p a;grind)
 simpa using this
def ZeR(W:World){n}(a:W.heap.size=n) x:∀j u,[I_ x][j]? =some u->(W.alloc (.cells #[I_ x] 3)).cell? (((A_ n 0):Addr).add j)=some u:=by subst a;exact Am W _ 3
def Ch(v u:Value):Prop:=v.ownBlock=none∨u.ownBlock=none∨v.ownBlock≠u.ownBlock
def Ch.symm{v u}(h:Ch v u):Ch u v:=by
 rcases h with h|h|h
 exact .inr (.inl h);exact .inl h;exact .inr (.inr (Ne.symm h))
def Ch.keeps{v u}(h:Ch v u):u.ownBlock=none∨u.ownBlock≠v.ownBlock:=by
 rcases h with h|h|h
 ·grind
 exact .inl h
 grind
def Ch.moved{w a v c u e}(h:Ch v u)(d:Ag w a u e)(b:c.ownBlock=v.ownBlock∨c.ownBlock=some w.heap.size):Ch c u:=by
 rcases b with b|b
 unfold Ch;rw[b];exact h
 cases hk:u.ownBlock with
 |none=>exact .inr (.inl hk)
 | some k=>
  have:=(rl_ d k hk).2;refine .inr (.inr ?_)
  grind
structure Aa(S:Nat->Prop)(w w':World):Prop where
 os:w'.os=w.os
 tape:w'.tape=w.tape
 output:w'.output=w.output
 size:w.heap.size<=w'.heap.size
 block:∀k,k<w.heap.size->¬S k->w'.heap[k]? =w.heap[k]?
theorem Aa.refl S w:Aa S w w:=⟨rfl,rfl,rfl,qa_,λ_ _ _=>rfl⟩
def Aa.trans{S a b c}(h:Aa S a b)(k:Aa S b c):Aa S a c:=
 ⟨k.os.trans h.os,k.tape.trans h.tape,k.output.trans h.output,Nat.le_trans h.size k.size,λi hi hs=>(k.block i (Qh hi h.size) hs).trans (h.block i hi hs)⟩
def Aa.mono{S S' a b}(h:Aa S a b)(hs:∀k,k<a.heap.size->S k->S' k):Aa S' a b:=
 ⟨h.os,h.tape,h.output,h.size,λk hk hn=>h.block k hk (λe=>hn (hs k hk e))⟩
def Aa.of_below{S a b}(h:Below a.heap.size a b):Aa S a b:=⟨h.os,h.tape,h.output,h.size,λk hk _=>h.block k hk⟩
def Aa.below{S a b c}(h:Aa S a b)(k:Below b.heap.size b c):Aa S a c:=h.trans (.of_below k)
def Aa.alloc{S a b}(h:Aa S a b) o:Aa S a (b.alloc o):=h.below bA_
def Aa.drew{S a b}(h:Aa S a b):Aa S a b.drew:=h.below bz_.drew
def Aa.setCell{S a b}(h:Aa S a b){p}(hp:p.block<a.heap.size->S p.block) u:Aa S a (b.setCell p u):=
 ⟨h.os,h.tape,h.output,by have:=h.size;simpa [World.setCell] using this,λk hk hn=>(Below.heap_setCell b p u k (λe=>hn (e ▸ hp (e ▸ hk)))).trans (h.block k hk hn)⟩
def Aa.grown{S a b c row}(h:Aa S a b)(hg:b.grownBy c row)(hr:∀k,row=some k->k<a.heap.size->S k):Aa S a c:=
 ⟨hg.os.trans h.os,hg.tape.trans h.tape,hg.output.trans h.output,Nat.le_trans h.size hg.size,λk hk hn=>(hg.block k (Qh hk h.size) (λe=>hn (hr k e.symm hk))).trans (h.block k hk hn)⟩
def Aa.row{S a b}(h:Aa S a b){c e d v n l}(m:a.ownsRow c e d v n l)(o:∀k,v.ownBlock=some k->¬S k):b.ownsRow c e d v n l:=by
 refine⟨m.1,?_⟩
 rcases m.2 with q|⟨g,i,j,rfl,p,f,rest⟩
 exact .inl q;exact .inr ⟨g,i,j,rfl,p,(h.block g (Qb f).1 (o g rfl)).trans f,rest⟩
def Aa.at_{S a b}(h:Aa S a b){g o}(hg:a.heap[g]? =some o)(hs:¬S g):b.heap[g]? =some o:=(h.block g (Qb hg).1 hs).trans hg
def Ft(w:World)(z:Int)(v:Value):Prop:=∃a n c,v=.slice a n c/\n<=maxLen/\(n=0∨∃g cur,a=some ⟨g,0,none⟩/\w.heap[g]? =some (.cells cur 98 (0,0))/\∀i,i<n->cur[i*4]? =some (I_ z)/\cur[i*4+1]? =some (I_ 0)/\cur[i*4+2]? =some (I_ 0)/\cur[i*4+3]? =some (I_ 0))
def Hg(z:Int):Ct:=⟨z,0,0,0⟩
def Uu z:∀n i,i<n->∀c,c<4->(flat (List.replicate n (Hg z)))[i*4+c]? =(Ee (Hg z))[c]?
 |0,i,h=>o_
 |n+1,0,_=>λc hc=>by grind [flat,Ee]
 |n+1,i+1,h=>λc hc=>by simp only[List.replicate_succ,flat];rw[List.getElem?_append_right (by simp[Ee];omega),show(i+1)*4+c-(Ee (Hg z)).length=i*4+c by simp[Ee];omega];exact Uu z n i o_ c hc
def Mo z n m:flat (List.replicate n (Hg z))++flat (List.replicate m (Hg z))=flat (List.replicate (n+m) (Hg z)):=by rw[<- Cu,List.replicate_append_replicate]
theorem Ft.of_row{w d g n f m a c z}(j:Aj w d (L_ g m f) (List.replicate m (Hg z)))(l:m<=maxLen)(o:n<=m)(h:a=some ⟨g,0,none⟩):Ft w z (.slice a n c):=by
 subst h
 rcases j.2 with⟨e,_⟩|⟨g',cap',cur,e,_,hh,_,_,_,ht⟩
 ·cases e
 injection e with e1 e2 e3;injection e1 with e1;injection e1 with e1;subst e1;refine⟨_,n,c,rfl,o_,.inr ⟨g,cur,rfl,hh,λi hi=>?_⟩⟩
 have b:∀k,k<4->cur[i*4+k]? =(Ee (Hg z))[k]?:=λk hk=>by rw[<- Uu z m i o_ k hk,<- ht,List.getElem?_take,if_pos t_];simp
 exact⟨b 0 o_,b 1 o_,b 2 o_,b 3 o_⟩
def Ft.nil w z a c:Ft w z (.slice a 0 c):=⟨a,0,c,rfl,by simp[maxLen],.inl rfl⟩
def Ft.own{w a v m z}(b:Aj w a v (List.replicate m (Hg z)))(d:m<=maxLen):Ft w z v:=by
 have c:=b
 rcases b.2 with⟨rfl,_⟩|⟨g',cap',cur,e,_,hh,_,_,_,ht⟩
 exact .nil _ _ _ _
 grind [of_row]
def Ft.touch{S w w' z v}(h:Ft w z v)(t:Aa S w w')(i:∀k cur,v.ownBlock=some k->w.heap[k]? =some (.cells cur 98 (0,0))->¬S k):Ft w' z v:=by obtain⟨a,n,c,rfl,d,e|⟨g,cur,rfl,b,f⟩⟩:=h;exact⟨a,n,c,rfl,d,.inl e⟩;exact⟨_,n,c,rfl,d,.inr ⟨g,cur,rfl,t.at_ b (i g _ rfl b),f⟩⟩
def Ft.below{w w' z v}(h:Ft w z v)(hb:Below w.heap.size w w'):Ft w' z v:=h.touch (S:=λ_=>False) (.of_below hb) (λ_ _ _ _=>id)
def Ft.alloc{w z v}(h:Ft w z v) o:Ft (w.alloc o) z v:=h.below bA_
def yr:Value->Nat
 |.slice _ n _=>n
 |_=>0
def Ft.append{w j z}{u v i:Value}{b m N}(h:Ft w z u)(o:w.grownBy j v.ownBlock)(l:i.ownBlock=v.ownBlock∨i.ownBlock=some N/\Below N w j)(r:w.heap.size=N)(s:Aj j b i (List.replicate m (Hg z)))(q:m<=maxLen)(A:∃g cap,i=L_ g m cap)(B:yr u<=m):Ft j z u:=by
 subst r
 rcases l with l|⟨_,p⟩
 ·obtain⟨a,n,c,rfl,f,t|⟨g,k,rfl,d,x⟩⟩:=h;exact⟨a,n,c,rfl,f,.inl t⟩;obtain⟨y,cap,rfl⟩:=A
  by_cases e:g=y
  subst e;exact .of_row s q (by simpa [yr] using B) rfl;refine⟨_,n,c,rfl,f,.inr ⟨g,k,rfl,?_,x⟩⟩;rw[o.block g (Qb d).1 (by rw[<- l];simpa [Value.ownBlock] using e)];exact d
 exact h.below p
def Pc{P} w k t C e i z d l (F:P.underlying t=some (.slice e))(D:P.info? e=some i)(H:i.zero=some z)(q:i.size=d)(B:i.bytes=l)(J:z.cells.size=d)(I:0<d) v n E (p:w.ownsRow k e d v n E) a m c f (y:f.length=m*d)(h:∀j u,f[j]? =some u->w.cell? (a.add j)=some u)(M:∀u∈f,u.oneCell'=true)(L:0<m)(s:n+m<=maxLen)(o:(n+m)*l<=140737488355328)(r:k<=w.heap.size):∃v' w',(Builtin.append_ #[t,t] C #[v,.slice (some a) m c]).run P w=.ok v' w'/\w'.ownsRow k e d v' (n+m) (E++f)/\w.grownBy w' v.ownBlock/\(v'.ownBlock=v.ownBlock∨v'.ownBlock=some w.heap.size/\Below w.heap.size w w')/\w'.ownsRow k e d v n E/\∃g cap,v'=L_ g (n+m) cap:=by
 obtain⟨v',w',G,R,O,S,Q,N⟩:=Pb (P:=P) w k t C e i z d l F D H q B J I v n E p a m c f y h M L s o r;refine⟨v',w',G,R,O,?_,Q,N⟩
 subst q B
 rcases p.2 with⟨rfl,rfl⟩|⟨g,cap,cur,rfl,hbg,hg,hnc,hcm,hcs,htake⟩
 have b:=run_append_nil (P:=P) w t C e i z F D H a m c _ y h L (by simp only[maxLen] at s;omega) w_;rw[G] at b;simp only[Result.ok.injEq] at b;right;refine⟨by rw[b.1];rfl,?_⟩;rw[b.2];exact(bz_.drew).alloc s_ _
 by_cases hroom:n+m<=cap
 have A:n*i.size+f.length<=cur.size:=(by rw[y,hcs,<- Nat.add_mul];exact Nat.mul_le_mul_right _ hroom);have b:=run_append_room (P:=P) w t C e i F D g n _ _ hg a m c _ y h M hroom A;rw[G] at b;simp only[Result.ok.injEq] at b;left;rw[b.1];rfl;have x:=p.cells (g:=g) rfl;have b:=run_append_grow (P:=P) w t C e i z F D H _ n cap _ p.1 x a m c _ y h o_ (by simp only[maxLen] at s;omega) (growslice_fits o_ o);rw[G] at b;simp only[Result.ok.injEq] at b;right;refine⟨by rw[b.1];rfl,?_⟩;rw[b.2];exact(bz_.drew).alloc s_ _
def Ab{P w y rest o a Q}(D:o.guard=none) s x t (J:o.op=.call {callee:=.builtin .append,args:=#[s,x],argTypes:=#[t,t]}) f e (i:TypeInfo) z b k (O:P.underlying t=some (.slice e))(I:P.info? e=some i)(L:i.zero=some z)(r:i.size=b)(F:i.bytes=k)(G:z.cells.size=b)(E:0<b) v n B (M:a.eval s=v)(A:w.ownsRow f e b v n B) H m c (d:List Value)(U:a.eval x=.slice (some H) m c)(N:d.length=m*b)(q:∀j u,d[j]? =some u->w.cell? (H.add j)=some u)(V:∀u∈d,u.oneCell'=true)(R:0<m)(C:n+m<=maxLen)(l:(n+m)*k<=140737488355328)(p:f<=w.heap.size)(h:∀v' w',Hid (w'.ownsRow f e b v' (n+m) (B++d)/\w.grownBy w' v.ownBlock/\(v'.ownBlock=v.ownBlock∨v'.ownBlock=some w.heap.size/\Below w.heap.size w w')/\w'.ownsRow f e b v n B/\∃g cap,v'=L_ g (n+m) cap)->wpList P y Q rest (a.put o.dst v') w'):wpList P y Q (o::rest) a w:=by
 refine wpList_plain D λK hK=>?_;obtain⟨v',w',S,T⟩:=Pc (P:=P) w f t o.type e i z b k O I L r F G E v n B A H m c d N q V R C l p;unfold Oper.wp;simp only[execOp,J,resolve,invoke,builtin,Sem.run_bind,Sem.run_pure,Result.andThen_ok,List.map_toArray,List.map_cons,List.map_nil,M,U,S];exact hK _ _ (h _ _ T)
def An{w:World}{l c a b d f n1 i:Nat}{v u m j}(h:w.ownsRow l a d v n1 m)(g:w.ownsRow c b f u i j)(k:a≠b):u.ownBlock=none∨u.ownBlock≠v.ownBlock:=by
 rcases g.2 with⟨rfl,_⟩|⟨g1,xd,cur1,rfl,_,hg1,_⟩
 exact .inl rfl
 rcases h.2 with⟨rfl,_⟩|⟨g2,cap2,cur2,rfl,_,hg2,_⟩
 exact .inr (by simp[Value.ownBlock]);refine .inr λe=>?_;simp[Value.ownBlock] at e
 grind
theorem Ad{w:World}{a e b n:Nat}{v d}(h:w.ownsRow a e b v n d){k}(c:v.ownBlock=some k):∃cur,w.heap[k]? =some (.cells cur e (0,0)):=by
 rcases h.2 with⟨rfl,_⟩|⟨g2,cap2,cur2,rfl,_,hg2,_⟩
 ·cases c
 simp[Value.ownBlock] at c;grind
def WB(w:World)(g:Nat)(c:Array Value):Prop:=w.heap[g]? =some (.cells c 90 (0,0))
def WB.lt{w g c}(h:WB w g c):g<w.heap.size:=(Qb h).1
def WB.cell{w g c}(h:WB w g c) j:w.cell? (A_ g j)=c[j]?:=cell_of_row w g j c 90 (0,0) h
def WB.frozen{w g c}(h:WB w g c) j:w.frozen? (A_ g j)=false:=fr_ w g j c 90 h
def WB.set{w g c}(h:WB w g c) j u:WB (w.setCell (A_ g j) u) g (c.setIfInBounds j u):=by have:=hs_ w g j c 90 u h;unfold WB;rw[this]
def WB.below{B w w' g c}(h:WB w g c)(hb:Below B w w')(hg:g<B):WB w' g c:=(hb.block g hg).trans h
def Ag.alloc{w base v zs}(h:Ag w base v zs) o:Ag (w.alloc o) base v zs:=ra_ h o
def Bu{w f rest o a Q}(p:o.guard=none) s x (C:o.op=.call {callee:=.builtin .append,args:=#[s,x],argTypes:=#[25,25]}) b v m z (y:a.eval s=v)(i:Ag w b v m) g c (A:a.eval x=L_ g 1 c)(E:w.cell? (A_ g 0)=some (I_ z))(G:m.length<=1000000000)(d:b<=w.heap.size)(h:∀v' w',Hid (Ag w' b v' (m++[z])/\w.grownBy w' v.ownBlock/\(v'.ownBlock=v.ownBlock∨v'.ownBlock=some w.heap.size/\Below w.heap.size w w'))->wpList Tryz.prog f Q rest (a.put o.dst v') w'):wpList Tryz.prog f Q (o::rest) a w:=by
 obtain⟨t,e,q,n,l⟩:=info_parts Ss;refine Ab p s x 25 C _ 3 t _ 1 8 Tryz.underlying25 e q n l rfl d_ v _ _ y i _ 1 c [I_ z] A rfl ?_ ?_ d_ m_ o_ d ?_
 ·intro j u k
  cases j with
  |zero=>simp at k;subst k;simpa [Addr.add] using E
  |succ j=>simp at k
 intro u r;simp at r;subst r;rfl;intro v' w' H;obtain⟨B,F,D,_,_⟩:=H;exact h _ _ ⟨Ag.more B,F,D⟩
def Ce(bins tot hi:Int):Int:=bins*hi/tot
def Fe(tot bins:Int):Int->List Ct->List Int
 |_,[]=>[]
 |share,e::r=>if share<=Ce bins tot e.hi then e.v::Fe tot bins (Ce bins tot e.hi+1) r else Fe tot bins share r
def Bx(L:List Ct)(bins:Int):List Int:=
 if L.length=0 then[] else if L.length<=bins then(L.take (L.length-1)).map (λe=>e.v) else Fe (Ae L) bins 1 (L.take (L.length-1))
def Zfn{L:List Ct}{k m}(a:k<m)(b:m<=L.length):(L.take m).drop k=L.getD k e0::(L.take m).drop (k+1):=by grind [List.drop_eq_getElem_cons]
def um{a b c}(g:0<=a)(i:a<=16)(d:0<=c)(f:c<=b)(j:1<=b):0<=Ce a b c/\Ce a b c<=16:=by
 unfold Ce;have e:=Int.mul_nonneg g d;have h:=Int.mul_le_mul i f d o_;constructor;exact Int.ediv_nonneg e o_;have:=Int.ediv_le_ediv (show 0<b by omega) h
 rwa [Int.mul_ediv_cancel _ o_] at this
def Vw c a b w (h:0<=b)(i:b<=16)(d:0<=c)(m:c<=a)(k:1<=a)(o:a<=1000000000000):C_ 317 #[.int .i64 c,.int .i64 a,.int .i64 b] w λe w'=>e=.returned (.int .i64 (Ce b a c))/\w'=w:=by
 have l:=Int.mul_nonneg h d;have r:_*c<=_*1000000000000:=Int.mul_le_mul i o_ d o_;have j:=um h i d m k;have f:a≠0:=o_;have n:=beq_eq_false_iff_ne.2 f
 have g:Hid (Ce _ a _=(_*c).tdiv _):=show _=_ by unfold Ce;rw[Int.tdiv_eq_ediv_of_nonneg l]
 unfold Hid at g;rw[g] at j ⊢;obtain⟨q,p⟩:=j;go_enter Tryz.func317,Tryz.ntmps317;go_wp2;go_ret;exact⟨rfl,rfl⟩
def ZcD b d L n c w (h:Ip w b d L)(l:L.length<=n)(T:L.length≠0)(Q:L.length<=4194304)(i:(L.length:Int)<=c):C_ 273 #[.slice (some ⟨b,d,none⟩) L.length n,.int .i64 c] w λe w'=>∃v,e=.returned v/\Ag w' w.heap.size v (Bx L c)/\Below w.heap.size w w':=by
 obtain⟨Z,E,U,G,S⟩:=info_parts Ss
 have H:Hid (Bx L _=_):=show _=_ by unfold Bx;rw[if_neg T,if_pos i]
 have g:=h.lt o_;have N:=x1_ h;obtain⟨m,D⟩:∃m,L.length=m+1:=⟨L.length-1,o_⟩;have A:=x1_ D;rw[D] at l Q i ⊢;have O:(((m:Int)+1)==0)=_:=beq_eq_false_iff_ne.2 o_;have t:m+1<=c:=o_;go_enter Tryz.func273,Tryz.ntmps273;go_wp2_with fail
 go_loopw [28,6] (λti o wr=>∃k:Nat,ti=.int .i64 k/\k<=m/\Hid (Ag wr w.heap.size o ((L.take k).map (λe=>e.v)))/\E_ w wr) (λti _ _=>m-(intOf ti).toNat)
 case atStart=>exact⟨0,rfl,qg_,Ag.nil _ _,bz_⟩
 case round=>
  obtain⟨k,rfl,B,r,a⟩:=hrel
  by_cases hkm:k<m
  ·have q:=N.out;have f:k<L.length:=by rw[A];omega
   obtain⟨Y,a1,W,a3⟩:wr.cell? (A_ b (d+k*4))=some (I_ (L.getD k e0).v)/\wr.cell? (A_ b (d+k*4+1))=some (I_ (L.getD k e0).lo)/\wr.cell? (A_ b (d+k*4+2))=some (I_ (L.getD k e0).hi)/\wr.cell? (A_ b (d+k*4+3))=some (I_ (L.getD k e0).wt):=
    ⟨(a.cell (p:=(A_ b _)) g).trans (q.v k f),(a.cell (p:=(A_ b _)) g).trans (q.lo k f),(a.cell (p:=(A_ b _)) g).trans (q.hi k f),(a.cell (p:=(A_ b _)) g).trans (q.wt k f)⟩
   have P:Hid ((L.take _).map (λe=>e.v)=(L.take k).map (λe=>e.v)++[(L.getD k e0).v]):=show _=_ by rw[Og L f];simp
   have j:Hid (((L.take k).map (λe=>e.v)).length=k):=w_;generalize (L.take k).map (λe=>e.v)=out,L.getD k e0=x at *;have R:0<=(k:Int):=o_;have I:k<(m:Int):=o_;have u:=a.size;have z:out.length<=1000000000:=(by rw[j];omega);go_wp2_with (at_builtin;refine Bu rfl (.tmp 32) _ rfl _ _ _ x.v rfl ((r.alloc _).alloc _) _ 1 rfl ?_ z ?_ ?_)
   ·simp[go_sem]
   simp;omega;intro X M C;have s:E_ w M:=(by obtain⟨q1,J,V⟩:=C.out;exact a.trans (((bz_.alloc u _).alloc t_ _).grown J t_ (λk B=>(r.lt k B).1)));have y:=x1_ C.1;refine rd_ ?_;exact⟨k+1,g_,o_,by rw[P];exact y,s⟩
  have F:¬k<(m:Int):=o_
  have y:Hid (Ag wr w.heap.size u6 (Bx L c)):=show Ag _ _ _ _ by rw[H,A];have:k=m:=o_;subst this;exact r
  go_wp2;go_ret;exact⟨_,rfl,y,a⟩
def Zay b j L D a w (h:Ip w b j L)(g:Bq L)(C:L.length<=D)(hl:L.length<=4194304)(a7:2<=a)(F:a<=16)(l:a<(L.length:Int)):C_ 273 #[.slice (some ⟨b,j,none⟩) L.length D,.int .i64 a] w λe w'=>∃v,e=.returned v/\Ag w' w.heap.size v (Bx L a)/\Below w.heap.size w w':=by
 have R:L.length≠0:=o_;have n:=h.lt o_;have HE:=x1_ h;have HG:=x1_ g;obtain⟨m,E⟩:∃m,L.length=m+1:=⟨L.length-1,o_⟩;have V:=x1_ E
 have HB:Hid (Bx L a=Fe _ _ 1 (L.take m)):=show _=_ by unfold Bx;rw[if_neg R,if_neg o_,E];rfl
 have P:Ae L=(L.getD m e0).hi:=(by unfold Ae;rw[if_neg R,E];rfl);have T:=h.hi m o_;rw[<- P] at T;have X:1<=Ae L:=(by have:=g.at (show m<L.length by omega);rw[P];omega);have t2:=(Df g).2;have B:Hid (∀k,k<_->_):=λk I=>Ll g I;rw[E] at C hl l ⊢;have a6:(((m:Int)+1)==0)=_:=beq_eq_false_iff_ne.2 o_;have J:¬m+1<=a:=o_;have b1:0<=(m:Int)+1-1:=o_;have b2:m+1-1<(m:Int)+1:=o_;clear h g R E l P;generalize Ae L=tot at *;go_enter Tryz.func273,Tryz.ntmps273;go_wp2_with fail
 go_loopw [48,6,10] (λti o ts wr=>∃(k:Nat) (c:Int) (i:List Int),ti=.int .i64 k/\ts=.int .i64 c/\1<=c/\c<=17/\k<=m/\i.length<=k/\Hid (Ag wr w.heap.size o i)/\Hid (i++Fe tot a c ((L.take m).drop k)=Bx L a)/\E_ w wr) (λti _ _ _=>m-(intOf ti).toNat)
 case atStart=>exact⟨0,1,[],rfl,rfl,d_,d_,qg_,qa_,Ag.nil _ _,by show _=_;rw[HB];rfl,bz_⟩
 case round=>
  clear T;obtain⟨k,c,i,rfl,rfl,Z,a4,I,a9,A,q,d⟩:=hrel
  by_cases hkm:k<m
  ·have z:=HE.out;have f:k<L.length:=by rw[V];omega
   obtain⟨a0,a1,a2,a3⟩:wr.cell? (A_ b (j+k*4))=some (I_ (L.getD k e0).v)/\wr.cell? (A_ b (j+k*4+1))=some (I_ (L.getD k e0).lo)/\wr.cell? (A_ b (j+k*4+2))=some (I_ (L.getD k e0).hi)/\wr.cell? (A_ b (j+k*4+3))=some (I_ (L.getD k e0).wt):=
    ⟨(d.cell (p:=(A_ b _)) n).trans (z.v k f),(d.cell (p:=(A_ b _)) n).trans (z.lo k f),(d.cell (p:=(A_ b _)) n).trans (z.hi k f),(d.cell (p:=(A_ b _)) n).trans (z.wt k f)⟩
   have t:0<=(L.getD k e0).hi:=(by have:=HG.at f;omega);have u:=B k f;have U:=Zfn hkm (by rw[V];omega);have s:=q.out;rw[U] at s;clear U q;generalize L.getD k e0=x at *;have M:=um (show 0<=a by omega) F t u X;obtain⟨s1,s2⟩:=M;have a8:0<=(k:Int):=o_;have a5:k<(m:Int):=o_;have G:=d.size;have S:i.length<=1000000000:=o_;simp only[Fe] at s;have H:=x1_ (λW=>Vw _ _ _ W o_ F t u X t2);generalize Ce a tot x.hi=r at *;clear z f t u
   by_cases hc:c<=r
   ·rw[if_pos hc] at s;have q:=x1_ s;clear s;go_wp2_with fail
    refine(H _).mono ?_;rintro e w1 ⟨rfl,rfl⟩;go_wp2_with (at_builtin;refine Bu rfl (.tmp 60) _ rfl _ _ _ x.v rfl ((A.alloc _).alloc _) _ 1 rfl ?_ S ?_ ?_)
    ·simp[go_sem]
    simp;omega;intro v3 w3 O;have Q:E_ w w3:=by obtain⟨q1,q2,q3⟩:=O.out;exact d.trans (((bz_.alloc G _).alloc t_ _).grown q2 t_ (λk I=>(A.lt k I).1))
    have y:=x1_ O.1;clear O;go_wp2;go_roundw;case rel=>exact⟨k+1,r+1,i++[x.v],g_,g_,o_,o_,o_,t_,y,by show _=_;rw[List.append_assoc];exact q,Q⟩
    case measure=>exact z_
   rw[if_neg hc] at s;have q:=x1_ s;clear s;go_wp2_with fail
   refine(H _).mono ?_;rintro e w1 ⟨rfl,rfl⟩;have y:=A.alloc (.cells #[I_ x.v,I_ x.lo,I_ x.hi,I_ x.wt] 98);have N:=x1_ y;clear y;go_wp2;go_roundw;case rel=>exact⟨k+1,c,i,g_,rfl,o_,o_,o_,o_,N,q,d.trans (bz_.alloc G _)⟩
   case measure=>exact z_
  have Y:¬k<(m:Int):=o_
  have y:Hid (Ag wr w.heap.size u6 (Bx L a)):=show Ag _ _ _ _ by have:=q.out;rw[List.drop_eq_nil_of_le t_] at this;simp only[Fe,List.append_nil] at this;rw[<- this];exact A
  clear A q;go_wp2;go_ret;exact⟨_,rfl,y,d⟩
def ZcC a L i c w (h:Di w a L)(g:Bq L)(d:L.length<=i)(l:2<=c)(k:c<=16):C_ 273 #[.slice a L.length i,.int .i64 c] w λe w'=>∃v,e=.returned v/\Ag w' w.heap.size v (Bx L c)/\Below w.heap.size w w':=by
 obtain⟨n,f|⟨b,o,rfl,m⟩⟩:=h
 ·have j:Bx L c=[]:=(by unfold Bx;rw[if_pos f]);rw[j,f];go_enter Tryz.func273,Tryz.ntmps273;go_wp2;go_ret;exact⟨_,rfl,Ag.nil _ _,bz_⟩
 by_cases f:L.length=0
 ·have j:Bx L c=[]:=(by unfold Bx;rw[if_pos f]);rw[j,f];go_enter Tryz.func273,Tryz.ntmps273;go_wp2;go_ret;exact⟨_,rfl,Ag.nil _ _,bz_⟩
 by_cases hf:(L.length:Int)<=c
 exact ZcD b _ L _ _ w m d f n hf;exact Zay b _ L _ _ w m g d n l k o_
end Go.Proofs.YtfcgnpchbcmdeaaGreat
namespace Go.Proofs.YtfcgnpchbcmdeaaGreat
set_option linter.all false
set_option maxRecDepth 100000
set_option maxHeartbeats 4000000
def iq(p:Int×Int):List (Int×Int)->List (Int×Int)
 |[]=>[p]
 |q::r=>if p.1<q.1 then p::q::r else if p.1=q.1 then(q.1,q.2+p.2)::r else q::iq p r
def Zb:List (Int×Int)->List (Int×Int)
  |[]=>[]
  |p::r=>iq p (Zb r)
def Xc p:∀M x,(∃q∈iq p M,q.1=x)↔(p.1=x∨∃q∈M,q.1=x)
 |[],x=>by simp[iq]
 | q::r,x=>by
  simp only[iq];split;simp;split;rename_i h;simp[h];have ih:=Xc p r x
  grind
def sh p:∀M,M.Pairwise (λp q=>p.1<q.1)->(iq p M).Pairwise λp q=>p.1<q.1
 |[],_=>by simp[iq]
 | q::r,h=>by
  rw[List.pairwise_cons] at h;simp only[iq];split
  ·grind [List.pairwise_cons]
  split;rw[List.pairwise_cons];exact h;rename_i h1 h2;rw[List.pairwise_cons];refine⟨λx hx=>?_,sh p r h.2⟩
  rcases(Xc p r x.1).1 ⟨x,hx,rfl⟩ with e|⟨y,hy,e⟩
  omega
  grind
def ZeA p:∀M,M.Pairwise (λp q=>p.1<q.1)->∀q∈iq p M,(q.1≠p.1->q∈M)/\(q.1=p.1->(∃z,(q.1,z)∈M/\q.2=z+p.2)∨(q.2=p.2/\∀y∈M,y.1≠q.1))
 |[],_,q,hq=>by grind [iq]
 | x::r,h,q,hq=>by
  rw[List.pairwise_cons] at h;simp only[iq] at hq;split at hq
  ·grind
  split at hq
  ·grind
  rename_i h1 h2
  rcases List.mem_cons.1 hq with rfl|hq
  ·grind
  obtain⟨i1,i2⟩:=ZeA p r h.2 q hq
  grind
def Rb:∀ps:List (Int×Int),Ed ps (Zb ps)
  |[]=>Ed.nil
  | p ::r=>by
    have ih:=Rb r;have hv:=Xc p (Zb r);refine⟨sh p _ ih.rise,λq hq=>?_,λq hq=>?_,λq hq=>?_⟩
    · rcases(hv q.1).1 ⟨q,hq,rfl⟩ with e|⟨y,hy,e⟩
      · grind
      obtain⟨z,hz,e2⟩:=ih.sub y hy
      grind
    · rcases List.mem_cons.1 hq with rfl|hq
      obtain⟨x,hx,e⟩:=(hv q.1).2 (.inl rfl);exact⟨x,hx,e⟩;obtain⟨y,hy,e⟩:=ih.all q hq;obtain⟨x,hx,e2⟩:=(hv q.1).2 (.inr ⟨y,hy,e⟩);exact⟨x,hx,e2⟩
    obtain⟨i1,i2⟩:=ZeA p (Zb r) ih.rise q hq;simp only[No]
    by_cases e:q.1=p.1
    · rw[if_pos e.symm]
      rcases i2 e with⟨z,hz,e2⟩|⟨e2,hn⟩
      · have:=ih.wt _ hz
        grind
      have:No r q.1=0:=me (λy hy he=>by
        obtain⟨x,hx,e3⟩:=ih.all y hy
        grind)
      omega
    rw[if_neg (λh=>e h.symm),ih.wt q (i1 e)];omega
def ZbY{ps M}(h:Ed ps M):Zb ps=M:=(Rb ps).unique h
def Iz(vs ws:List Int):List Ct:=Bv 0 (Zb (Ar vs ws))
def Er a b:Ae (Bp a b)=Ae a+Ae b:=by grind [Yt,Bp,Km,Ae]
def Fm{L} a:Ae (Do L a)=Ae L:=by grind [Do,Ae]
theorem sj{L} s:∀k,(Ei L s k).length<=k+1
 |0=>by simp[Ei]
 | k+1=>by
  have:=sj (L:=L) s k
  grind [Ei]
def Ia L {size}(h:2<=size):(Do L size).length<=size:=by grind [Do,sj]
def Bg(size:Int):List (List Ct)->List Ct->List (List Ct)
 |[],l=>[l]
 |o::r,l=>if o.length=0 then l::r else[]::Bg size r (Do (Bp o l) size)
def Bh:List (List Ct)->Int
  |[]=>0
  |l::r=>Ae l+Bh r
structure Fo(Ls:List (List Ct)):Prop where
 good:∀l∈Ls,Bq l
 len:∀l∈Ls,l.length<=32
def Eh:∀{Ls:List (List Ct)},(∀l∈Ls,Bq l)->0<=Bh Ls
  |[],_=>by simp[Bh]
  |l::r,h=>by have:=(Df (h l s_)).1;have:=Eh (Ls:=r) (λl hl=>h l (by simp[hl]));simp only[Bh];omega
def Fo.nil:Fo []:=⟨s_,s_⟩
def Rx{size}(hs:2<=size)(hs2:size<=32):∀{Ls l},Fo Ls->Bq l->l.length<=32->Bh Ls+Ae l<=1000000000000->Fo (Bg size Ls l)/\Bh (Bg size Ls l)=Bh Ls+Ae l
 |[],l,h,g,hl,ht=>by refine⟨⟨?_,?_⟩,?_⟩;simp[Bg,g];simp[Bg,hl];simp[Bg,Bh]
 | o ::r,l,h,g,hl,ht=>by
  have go:=h.good o s_;have hr:Fo r:=⟨λx hx=>h.good x (by simp[hx]),λx hx=>h.len x (by simp[hx])⟩;have p1:=Eh hr.good;have p2:=(Df go).1;have p3:=(Df g).1;simp only[Bh] at ht;simp only[Bg];split
  ·rename_i h0;refine⟨⟨λx hx=>?_,λx hx=>?_⟩,?_⟩
   ·rcases List.mem_cons.1 hx with rfl|hx
    exact g;exact hr.good x hx
   ·rcases List.mem_cons.1 hx with rfl|hx
    exact hl;exact hr.len x hx
   grind [Ae,Bh]
  have gj:=Gb go g o_;have gc:=gj.sub (Hf gj size);have tc:Ae (Do (Bp o l) size)=Ae o+Ae l:=(by rw[Fm,Er]);have lc:=Ia (Bp o l) hs;obtain⟨i1,i2⟩:=Rx hs hs2 hr gc o_ o_;refine⟨⟨λx hx=>?_,λx hx=>?_⟩,?_⟩
  ·rcases List.mem_cons.1 hx with rfl|hx
   exact Bq.nil;exact i1.good x hx
  ·rcases List.mem_cons.1 hx with rfl|hx
   simp;exact i1.len x hx
  grind [Ae,Bh]
def lf size:∀Ls l,(Bg size Ls l).length<=Ls.length+1
 |[],l=>by simp[Bg]
 | o::r,l=>by
  have:=lf size r (Do (Bp o l) size)
  grind [Bg]
def Dk(size:Nat):Nat->List (List Ct)->List Int->List Int->List (List Ct)
 |0,Ls,_,_=>Ls
 |f+1,Ls,vs,ws=>if vs.length=0 then Ls else Dk size f (Bg size Ls (Iz (vs.take size) (ws.take size))) (vs.drop size) (ws.drop size)
def Ff(size:Int):List Ct->List (List Ct)->List Ct
 |all,[]=>all
 |all,l::r=>Ff size (Do (Bp all l) size) r
def Dl(size:Nat)(vs ws:List Int):List Ct:=Ff size [] (Dk size vs.length [] vs ws)
end Go.Proofs.YtfcgnpchbcmdeaaGreat
namespace Go.Proofs.YtfcgnpchbcmdeaaGreat
set_option linter.all false
set_option maxRecDepth 100000
set_option maxHeartbeats 4000000
open Go.RowKit
def ij{sz}:∀(cs:List (List Value)) i,(∀c∈cs,c.length=sz)->i<cs.length->∀o,o<sz->cs.flatten[i*sz+o]? =(cs.getD i [])[o]?
 |[],i,_,h=>by simp at h
 |x::L,0,hc,_=>λo ho=>w_
 |x::L,i+1,hc,h=>λo ho=>by have hx:=hc x s_;rw[List.flatten_cons,List.getElem?_append_right w_,show(i+1)*sz+o-x.length=i*sz+o by grind];exact ij L i (λc h=>hc c (by simp[h])) (by simpa using h) o ho
def Yr{sz}:∀(cs:List (List Value)),(∀c∈cs,c.length=sz)->cs.flatten.length=cs.length*sz
 |[],_=>s_
 |x::L,h=>by rw[List.flatten_cons,Qe,Yr L (λc hc=>h c (by simp[hc])),h x s_,List.length_cons,Nat.add_mul];omega
def Uv{sz}:∀(cs:List (List Value)) i,(∀c∈cs,c.length=sz)->i<=cs.length->(cs.take i).flatten=cs.flatten.take (i*sz)
 |[],i,_,h=>s_
 |x::L,0,_,_=>s_
 |x::L,i+1,hc,h=>by have hx:=hc x s_;rw[List.take_succ_cons,List.flatten_cons,List.flatten_cons,Uv L i (λc h=>hc c (by simp[h])) (by simpa using h),List.take_append,List.take_of_length_le (l:=x) w_,hx,show(i+1)*sz-sz=i*sz by grind]
structure Yk(w:World)(base ty sz:Nat)(v)(cs:List (List Value)):Prop where
 row:w.ownsRow base ty sz v cs.length cs.flatten
 wid:∀c∈cs,c.length=sz
section
variable {w w':World} {base ty sz:Nat} {v v':Value} {cs:List (List Value)}
def Yk.nil w base ty sz:Yk w base ty sz (.slice none 0 0) []:=⟨rn_,s_⟩
def Yk.touch{K}(h:Yk w base ty sz v cs)(t:Aa K w w')(h1:∀q,v.ownBlock=some q->¬K q):Yk w' base ty sz v cs:=⟨t.row h.row h1,h.wid⟩
def Yk.below(h:Yk w base ty sz v cs)(hb:Below w.heap.size w w'):Yk w' base ty sz v cs:=h.touch (.of_below (S:=λ_=>False) hb) (λ_ _=>id)
def Yk.shape(h:Yk w base ty sz v cs):∃a c,v=.slice a cs.length c:=by
 rcases h.row.2 with⟨rfl,h0⟩|⟨g,cap,cur,rfl,_⟩
 ·grind
 grind
def Yk.at(h:Yk w base ty sz v cs){i}(a:i<cs.length):∃q c,v=L_ q cs.length c/\cs.length<=c/\base<=q/\q<w.heap.size/\(∀o,w.frozen? (A_ q o)=false)/\∀o,o<sz->∀u,(cs.getD i [])[o]? =some u->w.cell? (A_ q (i*sz+o))=some u:=by
 rcases h.row.2 with⟨_,h0⟩|⟨g,cap,cur,rfl,hb,hh,hnc,_⟩
 omega;refine⟨g,cap,rfl,hnc,hb,(Qb hh).1,λo=>fq_ o _ _ hh,λo ho u hu=>?_⟩;rw[World.ownsRow.cellAt h.row (i*sz+o) (by have:=Nat.mul_le_mul_right sz (show i+1<=cs.length by omega);grind),ij cs i h.wid a o ho];exact hu
def Yk.more{x}(h:Yk w base ty sz v cs)(r:w'.ownsRow base ty sz v' (cs.length+1) (cs.flatten++x))(a:x.length=sz):Yk w' base ty sz v' (cs++[x]):=by
 refine⟨?_,λc hc=>?_⟩
 ·grind
 rcases List.mem_append.1 hc with e|e
 exact h.wid c e
 grind
def Yk.upto{a n c i}(h:Yk w base ty sz (.slice a n c) cs)(b:i<=cs.length):Yk w base ty sz (.slice a i c) (cs.take i):=by
 have d:∀c∈cs.take i,_:=λc hc=>h.wid c (List.mem_of_mem_take hc);refine⟨⟨Yr _ d,?_⟩,d⟩;rw[List.length_take,Nat.min_eq_left b]
 rcases h.row.2 with⟨e,h0⟩|⟨g,cap,cur,e,hb,hh,hnc,hm,hs,ht⟩
 ·grind
 injection e with e1 e2 e3;subst e1 e3;refine .inr ⟨g,c,cur,rfl,hb,hh,o_,hm,hs,?_⟩;rw[Uv cs i h.wid b,<- ht,List.take_take,Nat.min_eq_left (Nat.mul_le_mul_right _ b)]
end
def bJ(tot bins j:Int):Int->List Ct->List Int
 |_,[]=>[]
 |s,e::r=>if s<=min (Ce bins tot e.hi) j then e.v::bJ tot bins j (min (Ce bins tot e.hi) j+1) r else bJ tot bins j s r
theorem Ug tot bins j s e r:bJ tot bins j s (e::r)=if s<=min (Ce bins tot e.hi) j then e.v::bJ tot bins j (min (Ce bins tot e.hi) j+1) r else bJ tot bins j s r:=rfl
theorem bp tot bins j:∀M s,j<s->bJ tot bins j s M=[]
 |[],s,h=>rfl
 |e::r,s,h=>by unfold bJ;rw[if_neg o_];exact bp _ _ j r s h
def ZgW{tot bins j}:∀M s,(∀e∈M,Ce bins tot e.hi<=j)->bJ tot bins j s M=Fe tot bins s M
 |[],s,h=>rfl
 | e::r,s,h=>by
  have h1:=h e s_;have h2:=ZgW (tot:=tot) (bins:=bins) (j:=j) r
  grind [Ug,Fe]
def wg b a j:∀M s,s<=j+1->M.Pairwise (λe f=>e.v<f.v)->bJ b a (j+1) s M=if M.findIdx (λe=>decide (j+1<=Ce a b e.hi))<M.length/\(bJ b a j s M).getLast?≠some (M.getD (M.findIdx (λe=>decide (j+1<=Ce a b e.hi))) e0).v then bJ b a j s M++[(M.getD (M.findIdx (λe=>decide (j+1<=Ce a b e.hi))) e0).v] else bJ b a j s M
 |[],s,hs,hp=>by simp[bJ]
 | e ::r,s,hs,hp=>by
  have hp2:=List.pairwise_cons.1 hp
  by_cases hr:j+1<=Ce a b e.hi
  ·grind [Ug,bp]
  have hf:(e::r).findIdx (λe=>decide (j+1<=Ce a b e.hi))=r.findIdx (λe=>decide (j+1<=Ce a b e.hi))+1:=(by simp[List.findIdx_cons,hr]);rw[hf];have hg:(e::r).getD (r.findIdx (λe=>decide (j+1<=Ce a b e.hi))+1) e0=r.getD _ e0:=rfl;rw[hg];have m1:min (Ce a b e.hi) (j+1)=Ce a b e.hi:=o_;have m2:min (Ce a b e.hi) j=Ce a b e.hi:=o_
  by_cases h1:s<=Ce a b e.hi
  ·have c:=wg b a j r (Ce a b e.hi+1) o_ hp2.2
   grind [Ug]
  have c:=wg b a j r s hs hp2.2
  grind [Ug]
end Go.Proofs.YtfcgnpchbcmdeaaGreat
