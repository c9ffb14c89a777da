import Derived.Test.YtfcgnpchbcmdeaaGreatZsaq
import Derived.Test.YtfcgnpchbcmdeaaGreatZsap
open List renaming length->F,take->ZU,drop->ZF,getD->Z
open _root_ renaming Int->E,List->U,Nat->H,rfl->X
open Array renaming size->B
open Option renaming some->T,none->ZP
open Go renaming Value->ZY,World->ZT
open Go.Value renaming int->ZX,ownBlock->ZW,slice->ZH,pointer->Y7
open Go.IntKind renaming i64->ZQ
open Go.World renaming alloc->ZN
open Or renaming inl->ZM
open Int renaming toNat->ZL
open Go.Ending renaming returned->ZI
open Go.Proofs renaming intOf->ZA
namespace Go.Proofs.YtfcgnpchbcmdeaaGreat
set_option linter.all false
set_option maxRecDepth 100000
set_option maxHeartbeats 8000000
open Go.RowKit List Nat Go.World Go.Proofs.Tryz Go.Value Go.IntKind Go.Lib Go.Region
def gd{c e a d}(f:e=min (a+d) c){b:U E}(g:F b=c):ZU (e-a) (ZF a b)=ZU d (ZF a b):=by grind [take_of_length_le]
def Zcg f7 g0 {d:H}(a3 a4:H){a:H}{j f o}(b4:Ck o f7 d j)(d4:Ck o g0 d f)(l5:d<=1000)(k6:d<=a3)(k7:d<=a4)(f1:2<=a)(i5:a<=32):C_ 289 #[V f7 d a3,V g0 d a4,I a] o λr p=>∃n,r=ZI n/\Ai p (B o.1) n (Dw a j f)/\E_ o p:=by
 have⟨e1,e2⟩:=Y_ b4 d4;have b9:=K_ b4.1 d4.1;have g6:K (Dw a j f=skF a [] (skB a d [] j f)):=(by show _=_;rw[<- Zir f1 j f (by rw[b4.1,d4.1]),b4.1]);rw[g6];refine q_ ?_;go_wp2_with fail
 go_loopw [7,8] (λh e g=>∃(b G:H) (c:U Hy),e=ZX ZQ b/\b<=d+a/\K (jc g (B o.1) h c/\Xn b c/\Aw (c.map Hy.L)<=1000*(b:E)/\F c<=b/\d-b<=G/\skB a G (c.map Hy.o).reverse (ZF b j) (ZF b f)=skB a d [] j f)/\E_ o g) (λ_ e _=>d+a-ZL (ZA e))
 exact⟨0,d,[],X,v_,⟨jc.nil,Xn.nil,by simp[Aw],s_,O,X⟩,y_⟩;obtain⟨b,G,c,rfl,k8,A,c6⟩:=hrel;have d1:=c6.size
 by_cases k9:b<d
 ·rcases e1.out with⟨_,_,h6|⟨h0,j3,rfl,i0,_⟩⟩;omega;rcases e2.out with⟨_,_,h6|⟨h1,j4,rfl,N,_⟩⟩;omega;have⟨s,b3⟩:=W_ (min (b+a) d);go_upto_if 27 with fail
  go_cut [9] (λn e=>n=ZX ZQ s/\e=wr)
  case first=>
   by_cases a1:b+a<=d
   ·have Q:s=b+a:=O;have e:¬d<b+(a:E):=O;subst Q;go_wp2;go_meet
    exact⟨g_,X⟩
   have Q:s=d:=O;clear b3;subst Q;go_wp2;go_meet
   exact⟨X,X⟩
  obtain⟨rfl,i7⟩:=hcut;obtain rfl:=i7.s;have l2:b<=(s:E):=O;have l3:s<=(a3:E):=O;have l4:s<=(a4:E):=O;have l6:¬a3=b:=O;have l7:¬a4=b:=O
  have h7:K (∀e:ZT,E_ o e->C_ 115 #[V (T (J h0 (j3+b))) (s-b) (a3-b),V (T (J h1 (j4+b))) (s-b) (a4-b)] e λr p=>∃n,r=ZI n/\Ai p (B e.1) n (Ko (ZU a (ZF b j)) (ZU a (ZF b f)))/\E_ e p):=by intro e g;have h:=(Uo e1 g i0).i (fr:=b) (m:=s-b) O;have k:=(Uo e2 g N).i (fr:=b) (m:=s-b) O;rw[gd b3 b9.1] at h;rw[gd b3 b9.2] at k;apply (Tq _ _ _ _ _ e h k O O).m;rintro r p ⟨n,M,rfl,l,q,m⟩;refine⟨n,X,?_,m⟩;unfold Ko;rw[ZcK l];exact q
  have⟨L,b2,f3,e9,e6,t⟩:=A.out;have i2:F (ZU a (ZF b j))<=a:=t_;have f2:=kc (vs:=ZU a (ZF b j)) (ws:=ZU a (ZF b f)) O;obtain⟨R,e5⟩:∃R,G=R+1:=⟨G-1,O⟩;have⟨a8,W⟩:=W_ (skT a 0 (Ko (ZU a (ZF b j)) (ZU a (ZF b f))) (c.map Hy.o).reverse);have d9:K (skB a R a8 (ZF (b+a) j) (ZF (b+a) f)=skB a d [] j f/\d-(b+a)<=R):=by refine⟨?_,O⟩;rw[<- t,e5,W];simp only[skB];rw[aC t_,drop_drop,drop_drop]
  have⟨f6,d2⟩:=Z_ (Aw (c.map Hy.L)+Ae (Ko (ZU a (ZF b j)) (ZU a (ZF b f))));have k5:f6<=1000*(b+a:H):=O;have g7:K (SkI _ _ a8 _ c _ 0 _):=⟨b2,λ_ _=>v_,f2.1,O,d2,x_,ZM ⟨X,W⟩,O⟩;obtain⟨a0,a1,rfl⟩:=L.d;have e0:=Y L;clear L b2 f3 e6 t i2 f2 d2 e5 W A b3;generalize Ko (ZU a (ZF b j)) (ZU a (ZF b f))=f5 at *;go_upto_region 8 with fail;go_cut [10] (λn e=>∃x y,n=Y7 (T ⟨x,0,ZP⟩)/\B wr.1<=x/\K (LvB e x 0 y/\Ai e (B wr.1) y f5/\E_ wr e))
  case first=>
   go_region_held3 (λ_=>True) (trivial) (first|(go_at_call 115;refine(h7.out _ (by repeat(first|assumption|with_reducible apply Below.drew|(refine Below.alloc ?_ O _)))).m ?_;rintro r f8 ⟨y,rfl,g,e⟩;obtain⟨k,l,rfl⟩:=g.d;(try(have c2:LvB _ _ 0 _:=(e.block _ s_).T hn_;obtain⟨g1,g2,j8,j9,_⟩:=c2.cells))))
   all_goals go_wp2
   all_goals go_meet
   exact⟨_,_,X,by have:=e.size;simpa using this,hn_,g.alloc _,(y_.drew.T e).alloc (by have:=e.size;simpa using this) _⟩;have h:=e.size;simp at h;refine⟨_,_,X,x_,c2.c (M:=0),c2.D (g.m s_) (LvB.a),?_⟩;exact((r_.drew.T (e.m s_)).setCell x_ _).setCell x_ _
  obtain⟨x,j5,rfl,e7,a7⟩:=hcut;obtain⟨d8,i9⟩:∃d8,d8=wr:=⟨wr,X⟩;subst i9;have g3:=Y a7.2.2;have b7:=x3_ (e0.q a7.2.2) a7.1 (a7.2.1.m d1)
  have g5:K (∀d z,ZW (ZH a0 d a1)=T z->z≠x):=λd z a2=>by have:=(B_ e0.M.M z (by cases a0<;>exact a2)).2;omega
  go_wp2_with fail
  go_loopw [7,11] (λe m f=>∃(l k:H) (g:U Hy) (h:U Cd) (y:ZY),m=ZX ZQ ((l:E)-1)/\e=ZH a0 (F g) a1/\F g<=b/\l<=F g/\K (jc f (B o.1) (ZH a0 (F g) a1) g/\LvB f x k y/\Ai f (B o.1) y h/\SkI a b a8 f6 g l k h)/\K (E_ d8 f)) (λ_ m _=>ZL (ZA m+1))
  exact⟨F c,0,c,f5,j5,g_,X,e9,x_,⟨b7.1,b7.2.1,b7.2.2,g7⟩,g3⟩;obtain⟨l,k,g,h,y,rfl,rfl,i4,i3,q,a6⟩:=hrel
  by_cases c7:l=0
  ·subst c7;have⟨S,Q,D,m⟩:=q.out;have⟨a9,W⟩:=m.a;obtain⟨e,w,rfl⟩:=D.d;have⟨d6,d7,_,_,e8⟩:=Q.cells;have P:=c6.T (a6.m d1);have p:K (∀u,jc (ZN wr u) _ _ _/\Ai (ZN wr u) _ _ h):=λu=>⟨S.q r_,D.alloc _⟩;have r:K (Xn (b+a) (g++[⟨k,h,V e (F h) w⟩])/\Aw ((g++[(⟨k,h,V e (F h) w⟩:Hy)]).map Hy.L)<=1000*(b+a:H)/\((g++[(⟨k,h,V e (F h) w⟩:Hy)]).map Hy.o).reverse=a8):=(by refine⟨m.ok.P m.j m.y a9 O (by have:=m.l;simp only;omega),?_,?_⟩;have d2:=m.q;rw[map_append,Ku];simp only[map_cons,map_nil,Aw];omega;rw[W,map_append,reverse_append];rfl);generalize b8:F h=b5 at *;go_wp2_with (at_builtin;refine ap_ [I (k:H),V e b5 w] (p _).1.a ?_)
   rintro c3 c4 ⟨b6,v,_,_,c1,c0,b0⟩;have n:=K_ ((p _).1.P (p:=⟨k,h,V e b5 w⟩) (p _).2 v b6) (P.T ((y_.alloc P.size _).grown v t_ (λb1 a5=>(B_ (p default).1.M.M b1 a5).1)));subst b0;refine J_ ?_;exact⟨b+a,R,_,g_,O,⟨n.1,r.1,r.2.1,t_,d9.2,r.2.2 ▸ d9.1⟩,n.2⟩
  obtain⟨i,rfl⟩:∃i,l=i+1:=⟨l-1,O⟩;have⟨z,h5,a2,i1,h2,v,P⟩:=q.1.at (i:=i) O;injection a2 with hq1 _ hq3;subst hq1 hq3;have⟨d6,d7,k1,k2,e8⟩:=q.2.1.cells;have m:=q.2.2.2;have c1:(i+1:H)-1=(i:E):=O;rw[c1];have k3:=F_ i (F g)
  by_cases f0:(Z g i Vi).n=k
  ·have Q:(((Z g i Vi).n:_)==(k:E))=_:=beq_iff_eq.2 O;have⟨h9,S⟩:=m.b f0 f1 i5 O;have l1:=(m.ok.at P).2;have⟨e3,a9,d3,c4,_,_⟩:=(q.1.j _ P).e O;rw[d3] at v;have⟨e,w,i6,h8,_,_⟩:=q.2.2.1.e (p_ m.y);subst i6;have l0:=m.y;have b8:K (∀b0,Calls _ _ _ _ λr p=>∃n,_/\Ai _ (B wr.1) n _/\E_ wr _):=λb0=>(Tp _ _ _ h a9 w _ (c4.drewN b0) (h8.drewN b0) (m.ok.at P).1 m.j).m (λr p ⟨n,u,D,a5⟩=>⟨n,u,D,(below_drewN y_ b0).T a5⟩);have j0:=Mq (Z g i Vi).L h;have u:K (_/\F (Bf (Z g i Vi).L h)<=64):=⟨S,O⟩;have c0:=Y h9;have k4:=m.l;generalize (Z g i Vi).n=a5,(Z g i Vi).L=D at *;generalize l9:F D=f4,l8:F h=b5 at *;go_upto_region 12 with fail;go_quiet (fail)
   go_upto_region 13 with fail;refine Af (λp=>D_ p x 0 (I (k:H))/\D_ p x 1 (V e b5 w)/\D_ p z (i*2+1) (V e3 f4 a9)) 14 k_ ⟨d6,d7,v⟩ (λhHeld=>?_);refine G_ ?_;refine on_ 10 λKK hK=>?_;go_simp;apply (b8 _).m;rintro r f8 ⟨j7,rfl,c9,p⟩;obtain⟨g9,h4,rfl,c3,c8,_⟩:=c9.e (p_ u.2);have b6:=Y (Xb _ a c3 u.1 c8 (p_ u.2));have d0:=p.size;generalize (F (Bf D h))=j2 at *;go_simp;refine hK _ _ ⟨(T_ p d6),(T_ p d7),((p.cell (aJ _ _ v)).T v)⟩ (λhHeld=>?_);try simp only[Act.put,tA,tB,tC]
   refine on_ 12 λKK hK=>?_;go_simp;apply b6.m;rintro r f9 ⟨j6,rfl,b1,c5⟩;obtain⟨g8,h3,rfl⟩:=b1.d;have N:=p.T (c5.m d0);have e4:LvB _ _ k _:=(N.block _ e8).T q.2.1;have⟨g1,g2,j8,j9,_⟩:=e4.cells;have k0:=(N.cell (aJ _ _ v)).T v;have n:K (_/\_/\Ai f9 (B o.1) _ _):=⟨q.1.q N,e4,b1.m O⟩;have g4:=Y (a6.T (N.m a6.size));generalize (F (Ep (Bf D h) a))=j1 at *;go_simp;refine hK _ _ ⟨g1,g2,k0⟩ (λhHeld=>?_);refine G_ ?_;refine la1_ λKK hK=>?_;go_simp;apply hK _ _;try simp only[Act.put,tA,tB,tC]
   refine Fr k_ ?_ _;go_wp2;go_roundw
   case rel=>
    refine⟨i,k+1,ZU i g,_,V g8 j1 h3,g_,by rw[length_take,Nat.min_eq_left O],by rw[length_take];omega,by rw[length_take];omega,⟨?_,n.2.1.c (M:=k+1),n.2.1.D n.2.2 (LvB.a),c0⟩,((g4.setCell e7 _).setCell e7 _)⟩;rw[length_take,Nat.min_eq_left O];exact(n.1.b n.2.1 (LvB.a) (λa5 d5=>g5 _ a5 d5)).upto O
   exact z_
  have Q:(((Z g i Vi).n:_)==(k:E))=_:=aO O;have c0:=Y (m.c f0);generalize (Z g i Vi).n=a5 at *;go_upto_region 12 with fail;go_quiet (fail);refine J_ ?_;exact⟨i,k,g,h,y,g_,X,i4,O,⟨q.1.q (below_drewN y_ _),q.2.1,q.2.2.1.q (below_drewN y_ _),c0⟩,below_drewN a6 _⟩
 have a7:¬b<(d:E):=O;obtain⟨L,b2,f3,e9,e6,t⟩:=A;obtain⟨a0,a1,rfl⟩:=L.d
 have w:K (skF a [] (skB a d [] j f)=skF a [] (c.map Hy.o).reverse):=by
  show _=_;rw[<- t]
  cases G with
  |zero=>rfl
  |succ e=>simp only[skB];rw[aD (by simp;have:=b9.out;omega)]
 have g:K (_/\_/\Aw (c.map Hy.L)<=2000000):=⟨L,b2,O⟩;obtain⟨q,W⟩:∃q,q=wr:=⟨wr,X⟩;subst W;go_wp2_with fail
 go_loopw [12,13] (λh m f=>∃(l:H) (e:U Cd),m=ZX ZQ ((l:E)-1)/\l<=F c/\K (Ai f (B o.1) h e/\Bc e/\F e<=32/\Ae e+Aw ((ZU l c).map Hy.L)<=2000000/\skF a e ((ZU l c).map Hy.o).reverse=skF a [] (c.map Hy.o).reverse)/\E_ q f) (λ_ m _=>ZL (ZA m+1))
 exact⟨F c,[],g_,x_,⟨Ai.nil _ _,Bc.nil,s_,by rw[take_length];have:=g.2.2;simpa [Ae] using this,by rw[take_length]⟩,y_⟩;obtain⟨l,e,rfl,i3,A,h⟩:=hrel;have Q:=h.size
 by_cases c7:l=0
 ·subst c7;have n:K (Ai wr (B o.1) u12 (skF a [] (skB a d [] j f))/\E_ o wr):=(by have⟨u,_,_,_,k⟩:=A.out;rw[w,<- k];exact⟨u,c6.T (h.m d1)⟩);go_wp2;go_ret;exact⟨_,X,n.1,n.2⟩
 obtain⟨i,rfl⟩:∃i,l=i+1:=⟨l-1,O⟩;have⟨z,h5,a2,i1,h2,v,P⟩:=(g.1.q h).at (i:=i) O;injection a2 with hq1 _ hq3;subst hq1 hq3;obtain⟨N,s,b0,k,t⟩:=A;have⟨m,a8⟩:=g.2.1.at P;have⟨e3,a9,d3,c4,_,_⟩:=((g.1.q h).j _ P).e O;rw[d3] at v;have⟨a6,x,R,y,_,_⟩:=N.e O;subst R;rw[eg O,map_append] at k t;rw[Ku] at k;rw[reverse_append] at t;simp only[map_cons,map_nil,Aw,reverse_cons,reverse_nil,nil_append,singleton_append,skF] at k t;have b3:=Gb (Ls:=(ZU i c).map _) (λa5 d5=>(g.2.1.take i).ok.j a5 d5);have S:=Fy s m O;have a5:=Jh (Bf e (Z c i Vi).L) (size:=(a:E)) O;have j0:=Mq e (Z c i Vi).L
 have b5:Ae (Ep (Bf e (Z c i Vi).L) a)=Ae e+Ae (Z c i Vi).L:=(by rw[Gn,Fc]);have b8:=Y (Tp _ _ _ _ x a9 _ y c4 s m);have u:K (Bc (Bf e (Z c i Vi).L)/\F (Bf e (Z c i Vi).L)<=64/\Bc (Ep (Bf e (Z c i Vi).L) a)/\F (Ep (Bf e (Z c i Vi).L) a)<=32/\Ae (Ep (Bf e (Z c i Vi).L) a)+Aw ((ZU i c).map Hy.L)<=2000000/\skF a (Ep (Bf e (Z c i Vi).L) a) ((ZU i c).map Hy.o).reverse=skF a [] (c.map Hy.o).reverse):=⟨S,O,(S.e (Ge S a)),O,O,t⟩;have c1:(i+1:H)-1=(i:E):=O;rw[c1];generalize (Z c i Vi).L=D at *;generalize (F D)=f4 at *;go_wp2_with fail
 apply b8.m;rintro r f8 ⟨j7,rfl,c9,p⟩;have d0:=p.size;obtain⟨g9,h4,rfl,c3,c8,_⟩:=c9.e (p_ u.2.1);have b6:=Y (Xb _ a c3 u.1 c8 (p_ u.2.1));generalize (F (Bf e D))=j2 at *;go_wp2_with fail
 apply b6.m;rintro r f9 ⟨j6,rfl,b1,c5⟩;have n:K (Ai _ (B o.1) _ _/\_):=⟨b1.m O,h.T ((p.T (c5.m d0)).m Q)⟩;refine J_ ?_;exact⟨i,_,g_,O,⟨n.1,u.2.2⟩,n.2⟩
end Go.Proofs.YtfcgnpchbcmdeaaGreat
