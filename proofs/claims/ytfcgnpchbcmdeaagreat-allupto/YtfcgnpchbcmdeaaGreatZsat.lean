import Derived.Test.YtfcgnpchbcmdeaaGreatZsar
open _root_ renaming Nat->H,List->U,rfl->X,Int->E,Bool->ZG,Option->Y0
open List renaming length->F,getD->Z,take->ZU,drop->ZF,replicate->Y6
open Go.Value renaming ownBlock->ZW,int->ZX,bool->ZR,slice->ZH,agg->Y9,tuple->Y5,func->YX,pointer->Y7,string->YW
open Go.World renaming setCell->ZO,grownBy->Y3,ownsRow->ZD,cell?->ZV,alloc->ZN,drew->YY,drewN->Y1,frozen?->YT
open Array renaming size->B,toList->Y4
open Go renaming Value->ZY,World->ZT,madeCells->YV,maxLen->Y2,strOfNums->ZB
open Option renaming some->T,none->ZP,some->Z2
open Or renaming inl->ZM,inr->ZJ
open Bool renaming false->ZZ,true->Z0
open Go.IntKind renaming i64->ZQ
open Int renaming toNat->ZL
open Go.Ending renaming returned->ZI
open Go.Proofs renaming intOf->ZA
open Decidable renaming decide->ZE
open Go.Proofs.Tryz renaming prog->Y8
open Go.Obj renaming cells->YU
open ByteArray renaming size->ZK
namespace Go.Proofs.YtfcgnpchbcmdeaaGreat
set_option linter.all false
set_option maxRecDepth 100000
set_option maxHeartbeats 8000000
open Go.RowKit List Nat Go.World Go.Proofs.Tryz Go.Value Go.IntKind Go.Lib Go.Region
def Sx c d b f:∀(e:U H) a,a.off<=(e.foldl (Al c d b f) a).off
 |[],a=>x_
 | g::e,a=>by
  have:=Sx c d b f e (Al c d b f a g)
  grind [Al]
def Oc d e c a:∀(f:U H) b,F b.N=a->F (f.foldl (Al d e c a) b).N=a/\F (f.foldl (Al d e c a) b).r<=F b.r+F f*a
 |[],b,g=>⟨g,s_⟩
 | h ::f,b,g=>by
  have i:F (Al d e c a b h).N=a:=by show F (Jn _ _ _ _ a)=a;rw[ox O];exact g
  have j:F (Al d e c a b h).r<=F b.r+a:=by
   show F (b.r++Jv _ _ _ _ a)<=_
   grind [Zj]
  have⟨k,l⟩:=Oc d e c a f _ i;simp only[foldl_cons,length_cons]
  grind
def en.b{j e f d r q i h t m s l k}(b:en f j d r q i t s k)(y:Y3 j e (ZW q))(n:Pe f e h m l):en f (ZO e (J d 1) h) d r h i m l k:=by
 have p:=(Aa.refl _ j).grown y (λa c _=>c)
 have o:=p.g b.r (λg=>by
  have⟨u,w⟩:=Ac b.v.M g;have:=b.r
  grind)
 have z:Nu e 0 i k:=p.M b.j (λa c g=>by
  have⟨u,w⟩:=Ac b.j c;have⟨v,x⟩:=Ac b.v.M g
  grind)
 have u:je (λa=>a=d) e:=λa w D c A=>w_
 refine⟨ht_ 1 _ _ _ o,n.p ((Aa.refl (λa=>a=d) _).setCell (p:=(J _ 1)) (λ_=>X) _) (λa c g=>?_) u,Am z o C⟩;subst g;have⟨v,x⟩:=Ac n.M c
 grind
def ke(i:H)(g h:ZT)(a:H)(l c e:ZY)(j:U BS)(m:U XS):Prop:=∃d f k,en i h a l d f k j m/\Aa (DsS a c e) g h/\∀b,DsS a d f b->DsS a c e b∨B g.1<=b
def en.p{S i w' g r v u w k j x}(a:en g i r v u w k j x)(d:Aa S i w')(p:∀c s y,i.1[c]? =T (O_ y s)->s≠3->¬S c)(A:∀f,f<F j->∀c,ZW (Z k f Lm).1=T c->¬S c):en g w' r v u w k j x:=by
 have h:∀{g e N G:H} {t D},ZD i g e N t G D->e≠3->∀c,ZW t=T c->¬S c:=λR Q c W=>by grind [Ac]
 refine⟨d.g a.r (p _ _ _ a.r C),⟨d.M a.v.M (h a.v.M C),a.v.y,λf o=>⟨d.M (a.v.j f o).1 (A f o),?_⟩⟩,d.M a.j (h a.j C)⟩
 rcases(a.v.j f o).2 with⟨m,q,e,M,P,l,n,b⟩|⟨m,q,e,z,L,l,n,b⟩
 exact ZM ⟨m,q,e,M,P,l,n,d.g b.r (p _ _ _ b.r C),d.M b.M (h b.M C)⟩;exact ZJ ⟨m,q,e,z,L,l,n,d.g b.r (p _ _ _ b.r C),d.M b.M (h b.M C)⟩
structure kp(i)(d wr:ZT)(a)(m c f g)(k)(j)(l e)(h)(n):Prop where
 v:en i wr a m c g k j n
 z:Ad wr (B d.1) (L_ l e e) (An h)
 t:Aa (DsS a c f) d wr
 p:∀b,ZW g=T b->DsS a c f b∨B d.1<=b
def kp.q{m wr w2 base f j i k l e d h g c n}(a:kp base m wr f j i k l e d h g c n)(b:E_ wr w2):kp base m w2 f j i k l e d h g c n:=
 ⟨a.v.q b,a.z.q b,a.t.q b,a.p⟩
def rp v t Q r a G D d6 e0 {g6} g5 {i3 i2} L M g7 k4 k6 y k2 i5 k7 {s q} g d9 l h {f} j (f0:v<=B j.1)(b6:en v j t (L_ G (r+1) D) L M y s q)(hK:ZgN j (L_ G (r+1) D) k2 g)(e5:F g=r+1)(a9:j.1[Q]? =T (O_ #[g7,V k4 a k6,I (i3:H),I (i2:H)] 351))(d3:Ad j v g7 (An f))(e4:ZqL j (L_ d6 (r+1) e0) i5 d9 l)(e3:F d9=r+1)(e6:It j (L_ g6 (r+1) g5) k7 h)(e8:F h=r+1)(f7:∀h8∈h,F h8=a)(f6:∀i,i<r+1->F (Z l i [])=a)(f3:∀d∈f,d<r+1)(f9:a<=200)(i9:F f<=100)(f1:∀i,i<r+1->∀h9∈Z l i [],h9<=1000)(f8:∀K∈g,K.g<=100)(g0:(Jr g h l a q f).off<=64)(m9:F q<=100000)(m2:F s<=1000):C_ 207 #[P_ t,P_ Q,L_ d6 (r+1) e0,L_ g6 (r+1) g5] j λe m=>e=ZI (Y5 #[])/\ke v j m t (L_ G (r+1) D) L M (s++[⟨f,(Jr g h l a q f).N,(Jr g h l a q f).off-1⟩]) (Jr g h l a q f).r:=by
 have N:=x5_ hK e4 e6 d3 a9;have A:=x8_ e5 e3 e8 f7 f6 f3 f1 f8;have⟨W,h0,d7⟩:=y3_ b6.a f0 b6;have⟨z,P,g1⟩:=d3.d;rw[Ak] at g1;subst g1;have e1:=n_ 0 a9;have m0:=n_ 1 a9;have j0:=(Qb a9).1;have m3:=(Qb b6.r).1;have b1:Hid (Jr g h l a q _=f.foldl _ _/\_):=⟨X,g0⟩;have m5:=Gm a O;have⟨w,d2⟩:=W_ (F f);have c3:=Y d2;rw[<- d2] at i9 e1;clear f0 b6 hK e5 a9 d3 e4 e3 e6 e8 f7 f6 f3 f1 f8 g0 d2;refine dl_ ?_;go_enter func207,ntmps207;go_wp2_with fail
 go_loopw [26,9] (λb c m=>∃(k:H) (c2:ZY),b=ZX ZQ k/\k<=w/\c=ZX ZQ (((ZU k f).foldl (Al g h l a) ⟨Y6 a 0,q,1⟩).off:H)/\Hid (kp v j m t (ZH (T ⟨G,0,ZP⟩) (r+1) D) L M c2 y s (B j.1) a ((ZU k f).foldl (Al g h l a) ⟨Y6 a 0,q,1⟩).N ((ZU k f).foldl (Al g h l a) ⟨Y6 a 0,q,1⟩).r)) (λb _ _=>w-ZL (ZA b))
 case atStart=>
  refine⟨0,M,X,v_,X,?_⟩;have b:=Gl a j _ O x_;have e:An (Y6 a 0)=Y6 a 0:=(by simp[An]);exact⟨d7.q r_,w_,(Aa.refl _ _).alloc _,λk hk=>ZM (ZJ (ZJ hk))⟩
 obtain⟨k,c2,rfl,hk,rfl,S⟩:=hrel;have j7:=S.t.size
 by_cases f5:k<w
 ·have f4 :k<F f:=(by rw[<- c3];exact f5);have m8:ZU (k+1) f=ZU k f++[Z f k 0]:=(by grind [Qi]);have R:Z f k 0<r+1:=by have:Z f k 0=f[k]:=(by simp[Z,f4]);rw[this];exact A.2.2.2.2.2.1 _ (Qf _)
  have d8:Hid ((ZU (k+1) f).foldl (Al g h l a) ⟨Y6 a 0,q,1⟩=Al g h l a ((ZU k f).foldl (Al g h l a) ⟨Y6 a 0,q,1⟩) (Z f k 0)):=by
   show _=_
   grind
  have j2:((ZU (k+1) f).foldl (Al g h l a) ⟨Y6 a 0,q,1⟩).off<=64:=(by have u:=Sx g h l a (ZF (k+1) f) ((ZU (k+1) f).foldl (Al g h l a) ⟨Y6 a 0,q,1⟩);rw[<- foldl_append,take_append_drop,<- b1.1] at u;exact aG u b1.2);have b0:=Oc g h l a (ZU k f) ⟨Y6 a 0,q,1⟩ s_;have d1:ZV wr (J (match z with|some p=>p.block|none=>0) k)=T (I (Z f k 0:H))/\∃a0,z=T ⟨a0,0,ZP⟩:=by have⟨a0,d5,b,_,n,_⟩:=N.2.2.2.1.b (by rw[Ak]) f4;subst d5;rw[Bq] at n;refine⟨?_,a0,X⟩;show ZV wr (J a0 k)=_;rw[cb_ (a:=(J a0 k)) (S.t.block a0 b (W.M N.2.2.2.1 C C C a0 X))];exact n
  obtain⟨d1,a0,d5⟩:=d1;subst d5;simp only at d1;have h2:Hid (∀d,(Al g h l a ((ZU k f).foldl (Al g h l a) ⟨Y6 a 0,q,1⟩) d).off=_+_):=λd=>X
  have n1:F ((ZU k f).foldl (Al g h l a) ⟨Y6 a 0,q,1⟩).r<=200000:=by
   have a1:F (ZU k f)*a<=100*_:=Nat.mul_le_mul t_ f9
   grind
  have b2:=Y b0.1;rw[d8,h2] at j2;generalize (Z f) k 0=d,(ZU k f).foldl (Al g h l a) ⟨Y6 a 0,q,1⟩=b at *;have e9:=N.2.2.1.b S.t W;have c8:=e9.j d (A.2.2.1 ▸ R);have⟨m7,g4⟩:=e9.c (i:=d) (A.2.2.1 ▸ R);have c9:F (Z h d [])=a:=A.2.2.2.1 _ (by simp[Z,show d<F h by rw[A.2.2.1];exact R]);have e2:=A.2.2.2.2.1 d R;have⟨l0,l1,g2⟩:=c8.d;rw[g2] at g4 c8;rw[c9] at g4 c8;have h5:Hid (Al g h l a b d=⟨_,_,_⟩):=rfl;have c4:Hid (Eo j 0 (V l0 a l1) (Z h d [])/\F (Z h d [])=a):=(by have u:=N.2.2.1.j d (A.2.2.1 ▸ R);rw[g2,c9] at u;exact⟨u,c9⟩);have⟨m6,_,_,_,i0⟩:=(N.2.1.p S.t W).cells (i:=d) (A.2.1 ▸ R);have c7:=(N.2.1.j d (A.2.1 ▸ R)).2.2;have⟨b5,i1,f2⟩:=c7.d;rw[Ak,e2] at f2;rw[f2] at i0 c7;have a8:=Y (n3_ c7 e2 (A.2.2.2.2.2.2.1 d R))
  have h4:Hid (∀x:ZT,Aa (DsS t L M) j x->ZV x (J d6 (d*4+3))=T (V b5 a i1)):=λx b8=>by
   have u:=(N.2.1.p b8 W).cells (i:=d) (A.2.1 ▸ R)
   grind
  generalize (Z h) d []=o,Z l d []=m at *;obtain⟨g8,k0⟩:∃g8,g8=wr:=⟨wr,X⟩;subst k0;go_wp2_with fail
  go_loopw [35] (λn u=>∃(c:H) (a3:ZY),n=ZX ZQ c/\c<=a/\Hid (kp v j u t (ZH (T ⟨G,0,ZP⟩) (r+1) D) L M a3 y s (B j.1) a (Jn b.off o m b.N c) (b.r++Jv d o m b.N c))) (λn _=>a-ZL (ZA n))
  case atStart=>
   refine⟨0,c2,X,v_,?_⟩;rw[Zh0];show kp _ _ _ _ _ _ _ _ _ _ _ _ _ (b.r++[]);rw[append_nil];exact S
  obtain⟨c,a3,rfl,m4,n⟩:=hrel;have j7:=n.t.size
  by_cases d4:c<a
  ·have⟨c1,j5,j6,_,k9,_⟩:=c4.1.b c4.2 d4;subst j5;obtain⟨c0,j3,j4,_,g9,_⟩:=a8.1.b (by rw[Ak];exact a8.2.1) d4;subst j3;rw[Bq] at g9;have n6:ZV wr (J c1 c)=T (ZR (Z o c ZZ)):=(by rw[cb_ (a:=(J c1 c)) (n.t.block c1 j6 (W.M c4.1 C C C c1 X))];exact k9);have n7:ZV wr (J c0 c)=T (I (Z m c 0:H)):=(by rw[cb_ (a:=(J c0 c)) (n.t.block c0 j4 (W.M a8.1 C C C c0 X))];exact g9);have n8:=h4 _ n.t;have b7:F (Jn b.off o m b.N c)=a:=(by rw[ox (by have:=b2.out;omega)];exact b2);obtain⟨k3,n5⟩:=n.z.c (k:=c) (by rw[Ak];exact b7.s) d4;rw[Bq,Zgp] at k3
   have m1:Z m c 0<=1000:=(by have u:c<F m:=p_ a8.2.1;have:Z m c 0=m[c]:=(by simp[Z,u]);rw[this];exact a8.2.2 _ (Qf _));have h1:Hid (a=F (An (Jn b.off o m b.N c))):=(by rw[Ak];exact b7.s);have b3:Hid (pi b.off o m b.N c=if _/\_ then _ else _):=rfl;have b4:Hid (Jv d o m b.N (c+1)=_++(if _/\_ then _ else _)):=rfl;have c5:Hid (_=Z b.N c 0->_):=ZhZ b.off o m (p_ b2);have h6:Hid (F (b.r++Jv d o m b.N c)<=300000):=(by have:=Zj d o m b.N c;show _<=_;rw[Qe];omega);generalize (Z o) c ZZ=k5,Z m c 0=a1,Z b.N c 0=g3 at *
   cases k5 with
   | false=>
    have a2:Hid (kp v j wr t (L_ G (r+1) D) L M a3 y s (B j.1) a (Jn b.off o m b.N (c+1)) (b.r++Jv d o m b.N (c+1))):=(by have u:=b3.out;rw[aC s_] at u;rw[c5 u,b4,aC s_,append_nil];exact n);refine J_ ?_;exact⟨c+1,_,g_,O,a2⟩
   | true=>
    by_cases b9:g3=0
    ·subst b9
     have a2:Hid (kp v j (ZO wr (J (B j.1) c) (I (b.off+a1))) t (L_ G (r+1) D) L M a3 y s (B j.1) a (Jn b.off o m b.N (c+1)) (b.r++Jv d o m b.N (c+1))):=by
      have u:=b3.out;rw[aD ⟨X,X⟩] at u;rw[b4,aC s_,append_nil,<- (Zb4 b.off o _ b.N (p_ b2.out)),u];have⟨a7,e7⟩:=n.z.put (k:=c) h1 ((b.off:E)+(a1:E));have⟨c6,a4⟩:=Ac n.z (k:=B j.1) X;refine⟨n.v.p ((Aa.refl (λa5=>a5=B j.1) _).setCell (p:=(J (B j.1) c)) (λ_=>X) _) (λk h7 d0 hk a5 e=>?_) (λi a6 k hk e=>p_ (B_ (d7.v.j i a6).1 k hk).2),?_,n.t.setCell (p:=(J (B j.1) c)) (λa6=>absurd a6 (Nat.lt_irrefl _)) _,n.p⟩;subst e;rw[a4] at hk;simp at hk;exact a5 hk.2.s;show Ad _ _ _ (An ((Jn b.off o m b.N c).set c (b.off+a1)));rw[<- ZkT];have:((b.off+a1:H):E)=(b.off:E)+(a1:E):=O;rw[this];exact a7
     refine J_ ?_;exact⟨c+1,_,g_,O,a2⟩
    have n3:((g3:E)==0)=_:=aO O;have h7:Hid (b.r++Jv d o m b.N (c+1)=(b.r++Jv d o m b.N c)++[⟨c,d,a1⟩]):=(by show _=_;rw[b4,aD ⟨X,b9⟩,append_assoc]);have h3:=Y (c5 (by rw[b3,aC (λa6=>b9 a6.2)]));have⟨l3,l4,j9⟩:=n.v.j.d;subst j9;have l8:=n_ 2 n.v.r;have i7:t<B wr.1:=O;have a5:Hid _:=n.v.j;clear b9 b4 b3 c5;generalize n2:b.r++Jv d o m b.N c=c6 at *;generalize k1:F c6=l2 at *;have n0:=h6.out;go_wp2_with (at_builtin;refine ap_ [I (c:H),I (d:H),I (a1:H)] (a5.alloc _) ?_)
    rintro a7 a4 ⟨k8,u,i4,_,_⟩;have e7:Nu a4 0 a7 (c6++[⟨c,d,a1⟩]):=(by apply Nu.P;rw[k1];exact k8);have i6:=(n.v.q (y_.alloc x_ _)).P u e7;have d0:a4.1[t]? =T (O_ #[L_ G (r+1) D,L,V l3 l2 l4] 168):=(by rw[u.block t t_ (λe=>Ag a5 e.s n.v.r C X)];exact(hc_ i7).T n.v.r);have l6:=n_ 2 d0;have l9:=R_ 2 _ _ d0
    have j1:Ad (ZO a4 ⟨_,2,_⟩ a7) _ _ _:=
     Am (World.ownsRow.kept (Ad.alloc n.z _) u (Ap a5 n.z C)) d0 C
    have j8:=((n.t.alloc _).grown u (λk hk f5=>by
      rcases n.out.p k hk with a6|a6
      exact a6
      omega)).setCell (p:=(J _ 2)) (λ_=>ZM X) a7
    have⟨l5,l7,a6⟩:=e7.d
    have a2:Hid (kp v j (ZO a4 (J t 2) a7) t (L_ G (r+1) D) L M a7 y s (B j.1) a (Jn b.off o m b.N (c+1)) (b.r++Jv d o m b.N (c+1))):=by
     rw[h7,h3];refine⟨i6,j1,j8,λk hk=>?_⟩
     rcases i4 with e|e
     exact n.p k (e ▸ hk);rw[e.1] at hk;injection hk with hk;omega
    rw[a6] at a2;subst a6;generalize (F (c6++[(⟨c,d,a1⟩:XS)]))=n4 at *;refine J_ ?_;exact⟨c+1,_,g_,O,a2⟩
  have c6:¬c<(a:E):=O;have c0:c=a:=O;have⟨a7,b4,b3,b7,d0,e7,g3,g9,h1,_,_⟩:=(N.1.b n.t W).c (i:=d) (A.1 ▸ R);have c5:=n_ 0 n.v.r;have a6:=KS.a (Z g d Aj)
  have a4:Hid (∀x:ZT,C_ 146 #[Y9 #[ZR (Z g d Aj).e.a,V a7 (F (Z g d Aj).e.f) b4,V b3 (F (Z g d Aj).e.c) b7]] x (U_ (ZX ZQ (Z g d Aj).g) x)):=λx=>by rw[<- a6];exact Fq _ _ _ _ _ _ _ x O
  have a1:Hid ((ZU (k+1) f).foldl (Al g h l a) ⟨Y6 a 0,q,1⟩=⟨Jn b.off o m b.N a,b.r++Jv d o m b.N a,b.off+(Z g d Aj).g⟩):=(by show _=_;rw[d8,h5]);have a5:Hid (kp v j wr t (L_ G (r+1) D) L M a3 y s (B j.1) a (Jn b.off o m b.N a) (b.r++Jv d o m b.N a)):=(by rw[c0] at n;exact n);generalize (Z g) d Aj=u at *;generalize u.e.a=i4,F u.e.f=h6,F u.e.c=h7,u.g=h3 at *;go_wp2_with fail
  apply (a4 _).m;rintro e c1 ⟨rfl,b9⟩;have a2:Hid (kp v j c1 t (L_ G (r+1) D) L M a3 y s (B j.1) a ((ZU (k+1) f).foldl (Al g h l a) ⟨Y6 a 0,q,1⟩).N ((ZU (k+1) f).foldl (Al g h l a) ⟨Y6 a 0,q,1⟩).r):=(by rw[a1];exact a5.q b9);refine J_ ?_;exact⟨k+1,a3,g_,O,by rw[a1];go_num,a2⟩
 have h6:¬k<(w:E):=O;rw[(aI (p_ c3.out))] at S ⊢;have b0:=Oc g h l a f ⟨Y6 a 0,q,1⟩ s_;have c0:=Sx g h l a f ⟨Y6 a 0,q,1⟩;rw[<- b1.1] at S b0 c0 ⊢;have g4:=b1.2;simp only at c0;have⟨b,c1⟩:=W_ (Jr g h l a q f);have e2:=Y c1;rw[<- c1] at S b0 c0 g4 ⊢;clear c1;have b7:=b0.1;have c:_:=S
 have d8:Hid (∀x:ZT,E_ wr x->C_ 257 #[L_ (B j.1) a a,I (b.off-1:H)] x λe m=>∃o,e=ZI o/\Id m v o b.N (b.off-1)/\E_ x m):=λx b8=>by have u:=c.z.q b8;have a1:=Ad.m u v_;exact(ue a a _ _ x a1 b7 f9 O).m (λe m R=>by obtain⟨o,a2,n,a0⟩:=R;exact⟨o,a2,n.m (aG h0 (aG c.t.size b8.size)),a0⟩)
 have i1:i64.wrap (b.off-1)=(b.off-1:H):=by rw[Au O O];omega
 obtain⟨b5,c5,h2⟩:∃e7 e9,L=ZH e7 (F s) e9:=by
  rcases c.out.v.v.M.2 with⟨rfl,m⟩|⟨a0,p,d0,rfl,_⟩
  ·grind
  grind
 subst h2;have c6:=n_ 1 c.v.r;have d5:=W.at N.out.2.2.2.2 C C C;have c7:ZV (YY wr) (J Q 0)=T (V z w P):=by have:wr.1[Q]? =j.1[Q]?:=c.t.block Q j0 d5;exact(cb_ (a:=(J _ 0)) this).T e1
 have g3:Q<B wr.1:=O;have a5:=Y c.v.v.M;generalize d1:F s=b2 at *;go_upto_region 16 with fail;refine Af (λm=>ZV m (J t 1)=T (V b5 b2 c5)/\ZV m (J Q 0)=T (V z w P)) 18 k_ ⟨c6,c7⟩ (λhHeld=>?_);refine G_ ?_;refine on_ 12 λKK hK=>?_;go_simp;apply (d8 _ (y_.drew)).m;rintro e a4 ⟨a7,rfl,c9,a2⟩;have⟨c8,b3⟩:=k2_ a2 c6 c7;have⟨n,m,g9⟩:=c9.iface;subst g9;go_simp;refine hK _ _ ⟨c8,b3⟩ (λhHeld=>?_);refine G_ ?_;refine on_ 14 λKK hK=>?_;go_simp;have h5:=Qh g3 a2.size;refine hK _ _ ⟨X_ c8,X_ b3⟩ (λhHeld=>?_);try simp only[Act.put,sA,sB,sC]
 refine on_ 15 λKK hK=>?_;have a1:=(br_ (B wr.1) _).drew.T a2;refine aq_ [V z w P,.iface n (P_ m)] (ra_ ((Aa.a (S:=λ_=>False) a1).M a5 (λ_ _=>id)) _) ?_;rintro a8 c4 ⟨h4,b9,f4,_,i4,i0,h1⟩;have R:=(c.v.q a1).q (y_.alloc x_ (O_ #[V z w P,.iface n (P_ m)] 163));have a0:Aa _ (ZN a4 (O_ _ _)) _:=(Aa.refl _ _).grown b9 (λk hk _=>hk);have a3:je _ _:=λk d0 h7 hk g8=>R.a k _ _ hk (ZJ (ZM g8));have d4:Ad (ZN a4 (O_ #[V z w P,.iface n (P_ m)] 163)) v (V z w P) (An f):=by have u:=c.t.M N.2.2.2.1 (W.M N.2.2.2.1 C C C);rw[<- c3] at u;exact((Aa.a (S:=λ_=>False) a1).M u (λ_ _=>id)).alloc _
 have g2:Pe v c4 a8 (y++[(V z w P,.iface n (P_ m))]) (s++[⟨f,b.N,b.off-1⟩]):=by
  have h3:F y=b2:=p_ c.v.v.y;refine⟨by rw[Qe,Vs,d1];exact h4,by simp[h3,d1],λi a6=>?_⟩;rw[Qe] at a6;simp at a6
  by_cases u:i<F s
  have b4:Z (y++[((V z w P:ZY),(.iface n (P_ m):ZY))]) i Lm=Z y i Lm:=(by simp[Z,getElem?_append_left (show i<F y by omega)]);have o:Z (s++[(⟨f,b.N,b.off-1⟩:BS)]) i Df=Z s i Df:=(by simp[Z,getElem?_append_left u]);rw[b4,o];exact⟨a0.M (R.v.j i u).1 (a3.M (R.v.j i u).1 C C C),(R.v.j i u).2.p a0 a3⟩;have f2:i=F s:=O;subst f2;have b4:Z (y++[((V z w P:ZY),(.iface n (P_ m):ZY))]) (F s) Lm=((V z w P:ZY),(.iface n (P_ m):ZY)):=(by simp[Z,c.out.v.v.y.s]);have o:Z (s++[(⟨f,b.N,b.off-1⟩:BS)]) (F s) Df=⟨f,b.N,b.off-1⟩:=(by simp[Z]);rw[b4,o];exact⟨a0.M d4 (a3.M d4 C C C),(c9.q r_).p a0 a3⟩
 have u:=a0.g R.r (λe=>Ag (ra_ ((Aa.a (S:=λ_=>False) a1).M a5 (λ_ _=>id)) _) e R.r C X);have b4:=n_ 1 u;have h3:=R_ 1 _ _ u;have f2:ZV c4 (J Q 0)=T (V z w P):=by rw[cb_ (a:=(J Q 0)) (a0.block _ t_ (λe=>d5 (ZJ (ZM e))))];exact X_ b3
 have a6:Hid (ke v j (ZO c4 (J t 1) a8) t (L_ G (r+1) D) (V b5 b2 c5) M (s++[⟨f,b.N,b.off-1⟩]) b.r):=by
  refine⟨a8,c2,_,(R.b b9 g2),((((c.t.q a1).alloc _).grown b9 (λk hk _=>ZJ (ZM hk))).setCell (p:=(J t 1)) (λ_=>ZM X) a8),λk hk=>?_⟩
  rcases hk with e|e|e
  exact ZM (ZM e)
  ·rcases f4 with o|o
   exact ZM (ZJ (ZM (o ▸ e)));rw[o.1] at e;injection e with e;have:=a2.size;simp at this;exact ZJ (by simp at e;omega)
  exact c.p k e
 subst h1;refine hK _ _ ⟨b4,f2⟩ (λhHeld=>?_);refine G_ ?_;refine le_ ?_;go_wp2;go_end0;rw[<- e2];exact⟨X,a6⟩
end Go.Proofs.YtfcgnpchbcmdeaaGreat
namespace Go.Proofs.YtfcgnpchbcmdeaaGreat
set_option linter.all false
set_option maxRecDepth 100000
set_option maxHeartbeats 8000000
open Go.RowKit Go.Lib Go.Sort List Nat Go.World Go.Proofs.Tryz Go.Value Go.IntKind Go.Lib Go.Region
def orI(a b:E):E:=if a=0 then b else a
def Zk2{l n a c j}(o:D_ j l 0 (I a))(p:D_ j l 1 (I c)):C_ 192 #[L_ l 2 n] j (V_ (ZX ZQ (orI a c)) j):=by
 have e:K (orI a c=if a=0 then c else a):=rfl;generalize orI a c=m at *;refine q_ ?_;go_wp2_with fail
 go_loop [8] (λb=>∃d:H,b=I d/\d<=2/\(1<=d->K (a=0))/\(2<=d->K (c=0))) (λb=>2-ZL (ZA b))
 grind
 obtain⟨d,rfl,q,g,i⟩:=hrel
 rcases(show d=0∨d=1∨d=2 by omega) with rfl|rfl|rfl
 ·clear g i
  by_cases b:a=0
  ·have k:(a !=0)=ZZ:=(by simp[b]);have h:=Y b;clear b;go_wp2
   grind [ZA]
  have k:(a !=0)=Z0:=by simpa using b
  have f:K (m=a):=w_;clear b e;go_wp2;go_ret;exact⟨by rw[f];rfl,X⟩
 ·have h:=g O;clear g i
  by_cases b:c=0
  ·have k:(c !=0)=ZZ:=(by simp[b]);have f:=Y b;clear b;go_wp2
   grind [ZA]
  have k:(c !=0)=Z0:=by simpa using b
  have f:K (m=c):=(by show _=_;rw[e.out,aD h.out]);clear b e;go_wp2;go_ret;exact⟨by rw[f];rfl,X⟩
 have h:=g O;have f:K (m=0):=(by show _=_;rw[e.out,aD h.out,(i O).out]);clear g i e;go_wp2;go_ret;exact⟨by rw[f];rfl,X⟩
def Gr(a d:ZT):Prop:=∃c b,d=grow (Y1 a c) b
def Gr.refl{a}:Gr a a:=⟨0,#[],by simp;rfl⟩
def Gr.alloc{a c}(d:Gr a c) b:Gr a (ZN c b):=by obtain⟨f,e,rfl⟩:=d;exact⟨f,e++#[b],by rw[alloc_eq_grow,grow_grow]⟩
def Gr.drew{a b}(c:Gr a b):Gr a (YY b):=by obtain⟨e,d,rfl⟩:=c;exact⟨e+1,d,X⟩
def Gr.q{a w'}(b:Gr a w'):E_ a w':=by obtain⟨f,e,rfl⟩:=b;refine⟨X,X,X,by simp[grow],λd c=>?_⟩;rw[Go.Sort.heap_grow_old _ _ (by simpa using c)];rfl
def Na(x a:XS):E:=orI (compareInt x.M a.M) (compareInt x.f a.f)
def Hz x e a:C_ 148 #[Y9 #[I x.M,I x.f,I x.i],Y9 #[I e.M,I e.f,I e.i]] a λg c=>g=ZI (ZX ZQ (Na x e))/\Gr a c:=by
 have n:K (Na x e=orI _ _):=rfl;have l:K (∀b:_,Calls _ _ #[ZX _ (x.M:_),ZX _ (e.M:_)] b λg c=>_):=λb=>Tryz.cmp_Compare_int _ _ b;have m:K (∀b:_,Calls _ 151 #[ZX _ (x.f:H),ZX _ (e.f:_)] b λg c=>_):=λb=>Tryz.cmp_Compare_int _ _ b;obtain⟨h,i,o⟩:=x;obtain⟨j,k,p⟩:=e;simp only at n l m ⊢;generalize Na ⟨h,i,o⟩ ⟨j,k,p⟩=G,compareInt (h:H) (j:H)=w,compareInt (i:H) (k:H)=y at *;refine q_ ?_;go_upto_region 1 with fail;generalize f:ZN (ZN a (O_ #[I (h:H),I (i:H),I (o:H)] 184)) (O_ #[I (j:H),I (k:H),I (p:H)] 184)=d;have D:B d.1=B a.1+1+1:=(by rw[<- f];simp);have r:K (Gr a d):=(by show Gr _ _;rw[<- f];exact((Gr.refl).alloc _).alloc _);have s:D_ d (B a.1) 0 (I h):=by rw[<- f];simp[go_sem]
 have t:D_ d (B a.1) 1 (I i):=(by rw[<- f];simp[go_sem]);have u:D_ d (B a.1+1) 0 (I j):=(by rw[<- f];simp[go_sem]);have v:D_ d (B a.1+1) 1 (I k):=(by rw[<- f];simp[go_sem]);clear f D
 have q:K (∀b:ZT,D_ b (B d.1) 0 (I w)->D_ b (B d.1) 1 (I y)->C_ 192 #[L_ (B d.1) 2 2] b (V_ (ZX ZQ G) b)):=λb z A=>by rw[n];exact Zk2 z A
 go_region_held3 (λc=>D_ c (B a.1) 0 (I (h:H))/\D_ c (B a.1) 1 (I (i:H))/\D_ c (B a.1+1) 0 (I (j:H))/\D_ c (B a.1+1) 1 (I (k:H))) (exact⟨X_ s,X_ t,X_ u,X_ v⟩) (first|(go_at_call_of 151 (h);apply (l _).m;rintro g c ⟨rfl,rfl⟩)|(go_at_call_of 151 (i);apply (m _).m;rintro g c ⟨rfl,rfl⟩)|(go_at_call 192;apply (q _ (by simp[go_sem]) (by simp[go_sem])).m;rintro g c ⟨rfl,rfl⟩))
 go_wp2;go_ret;exact⟨X,(r.alloc _).drew⟩
def ho(x:XS):U ZY:=Cw x
def ltX x a:ltOf Na x a=ZE (x.M<a.M∨x.M=a.M/\x.f<a.f):=by
 obtain⟨b,c,d⟩:=x;obtain⟨e,f,g⟩:=a;unfold ltOf Na orI compareInt
 grind
def Zq6:SWO (ltOf Na) where
  irrefl a:=by rw[ltX];simp
  trans a d e b c:=by rw[ltX] at *;simp at *;omega
  ntrans a d e b c:=by rw[ltX] at *;simp at *;omega
section
variable [Inhabited XS]
def ZjJ{a b c d}:CmpLays Y8 148 #[] ho 3 Na a b c d:=
 λ_ _ _ _ e f=>Hz e f _
def Ziu c e {a} b (g:HoldsK ho 3 b c 0 a)(h:c<B b.1)(i:B a<4611686018427387904):C_ 208 #[L_ c (B a) e,YX (.func 148) #[] #[]] b λf l=>f=ZI (Y5 #[])/\∃d j k,PermIn 0 (B a) a d/\SortedIn (ltOf Na) 0 (B a) d/\l=sortWorldK ho 3 b c 0 j d k:=by exact AnyQ.slices_SortFunc Tryz.z 3 isAgg184 sizeOf184 _ (λ_=>X) (λj f d=>by simp[ho,Cw] at d;rcases d with rfl|rfl|rfl<;>rfl) _ Zq6 _ _ _ 0 _ a b (enters_of func148 k_ X) (ZjJ) g h i
def ZeV{c b a}:C_ 208 #[V c 0 b,YX (.func 148) #[] #[]] a (V_ (Y5 #[]) a):=AnyF.slices_SortFunc_none {Tryz.z with} c b _ a
def Zhj b:∀a c,a<F b->c<3->(Jw b)[a*3+c]? =(Cw (Z b a ⟨0,0,0⟩))[c]?:=by
 induction b with
 |nil=>grind
 | cons d b g=>
  intro a c e f
  cases a with
  |zero=>grind [Jw,Cw]
  | succ a=>
   grind [Jw,Cw]
theorem ZfS b:Y4 (Go.Sort.flatK ho 3 b.toArray)=Jw b:=by
 apply ext_getElem?;intro a
 by_cases d:a<F b*3
 ·have c:=Zhj b (a/3) (a%3) O O;rw[show a/3*3+a%3=a by omega] at c;rw[c,Array.getElem?_toList];simp only[Go.Sort.flatK]
  grind [ho,Cw]
 rw[getElem?_eq_none t_,getElem?_eq_none (by rw[uo];omega)]
def ZbX{e g a f m os d b}(i:F b=F d)(k:Nu e g (L_ a (F d) f) d):Nu (Go.Proofs.sortWorldK ho 3 e a 0 m b.toArray os) g (L_ a (F d) f) b/\Y3 e (Go.Proofs.sortWorldK ho 3 e a 0 m b.toArray os) (T a):=by
 rcases k.2 with⟨c,_⟩|⟨u,t,j,c,l,h,w,n,o,x⟩
 simp at c;simp only[slice.injEq,Option.some.injEq,Addr.mk.injEq,and_true,true_and] at c;obtain⟨rfl,rfl⟩:=c;have v:B (Go.Sort.flatK ho 3 b.toArray)=F d*3:=by simp[i]
 have p:(Go.Proofs.sortWorldK ho 3 e a 0 m b.toArray os).1[a]? =T (O_ (Go.Sort.putCells id 0 (Go.Sort.flatK ho 3 b.toArray) j) 184):=(by unfold Go.Proofs.sortWorldK Go.Sort.putRowK;rw[Go.Sort.heap_grow_old _ _ (by simpa using ((Qb h).1))];simp[Go.Sort.putRow,Go.Sort.mapBlock,Go.Sort.ahead,Array.getElem?_modify,h,Go.Sort.onCells]);refine⟨⟨by rw[uo],ZJ ⟨a,f,_,by simp[i],l,p,O,n,by simp[Go.Sort.putCells,o],?_⟩⟩,⟨X,X,X,?_,λs q r=>?_⟩⟩
 ·grind [ZfS,qm]
 unfold Go.Proofs.sortWorldK Go.Sort.putRowK;simp;unfold Go.Proofs.sortWorldK Go.Sort.putRowK;rw[Go.Sort.heap_grow_old _ _ (by simpa using q)];have:a≠s:=λc=>r (by rw[c]);simp[Go.Sort.putRow,Go.Sort.mapBlock,Go.Sort.ahead,Array.getElem?_modify,this]
def ZeA{e f c g a}(d:Nu e f (L_ c (F a) g) a):Go.Sort.HoldsK ho 3 e c 0 a.toArray:=by
 intro b h
 have i:b<F a*3:=by simpa using h
 refine⟨?_,?_⟩
 ·rw[Nat.zero_add,World.ownsRow.cellAt d b i,<- ZfS]
  grind
 rw[Nat.zero_add];exact World.ownsRow.frozenAt d b
end
def Em(c:U XS):Prop:=c.Pairwise λa b=>a.M<b.M∨a.M=b.M/\a.f<=b.f
def ZeX{d a e}(g:Nu e 0 d a)(A:F a<=1000000):C_ 208 #[d,YX (.func 148) #[] #[]] e λc f=>c=ZI (Y5 #[])/\(∃b:U XS,b.Perm a/\Em b/\Nu f 0 d b)/\Y3 e f (ZW d):=by
 haveI:Inhabited XS:=⟨⟨0,0,0⟩⟩
 have i:=g
 rcases g.2 with⟨rfl,m⟩|⟨l,k,z,rfl,_,o,_⟩
 have c:=length_eq_zero_iff.1 m;subst c;apply (ZeV).m;rintro c f ⟨rfl,rfl⟩;exact⟨X,⟨[],List.Perm.refl _,Pairwise.nil,g⟩,Ay⟩;have j:=Ziu l k e (ZeA i) (Qb o).1 t_;rw[show B a.toArray=F a by simp] at j;apply j.m;rintro c f ⟨rfl,b,x,y,s,u,rfl⟩;obtain⟨t,_,D⟩:=s;have n:B b=F a:=(by rw[t];simp);have h:=ZbX (m:=x) (os:=y) O i;rw[show(Y4 b).toArray=b by simp] at h;refine⟨X,⟨Y4 b,?_,?_,h.1⟩,h.2⟩
 ·have p:b.extract 0 (F a)=b:=by rw[<- n];simp
  grind
 unfold Em;rw[pairwise_iff_getElem];intro v w p r q;simp at p r;have:=u v w v_ q O;rw[ltX] at this
 grind
end Go.Proofs.YtfcgnpchbcmdeaaGreat
namespace Go.Proofs.YtfcgnpchbcmdeaaGreat
set_option linter.all false
set_option maxRecDepth 100000
set_option maxHeartbeats 8000000
open Go.RowKit List Nat Go.World Go.Proofs.Tryz Go.Value Go.IntKind Go.Lib Go.Region
def Zbu:∀(b:U E) (a:E) (c:H),a∈b->0<=idxFrom b a c/\idxFrom b a c<(c+F b:H)
 |[],a,c,d=>by simp at d
 | g::b,a,c,d=>by
  simp only[idxFrom];split;simp;omega;rename_i f;have e:a∈b:=w_;have:=Zbu b a (c+1) e
  grind
theorem Vu:∀(b:U E) (a:E),b.foldl max a=a∨b.foldl max a∈b
 |[],a=>ZM X
 | d::b,a=>by
  simp only[foldl_cons]
  rcases Vu b (max a d) with c|c
  ·grind
  right;simp[c]
def ZhI{a}(c:0<F a):maxOf a∈a:=by
 cases a with
 |nil=>simp at c
 | cons b a=>
  have d:maxOf (b::a)=foldl max b a:=by first|rfl|(simp[maxOf])|(simp[maxOf,Int.max_def])
  grind [Vu]
def ZbI b {a}(c:0<a):0<=Za b a/\Za b a<a:=by have:=Zbu (Ca b a) (maxOf (Ca b a)) 0 (ZhI (by rw[Cr];exact c));rw[Cr] at this;unfold Za Lib.idxOf;omega
def Yc(b:ES)(a:U H):H:=ZL (Za a (b.b+2))
def ZfM b a:Za a (b.b+2)=(Yc b a:H):=by have:=ZbI a (show 0<b.b+2 by omega);unfold Yc;omega
def kF(b:U ES)(c:U (U H))(a:H):KS:=⟨Z b a Sf,Yc (Z b a Sf) (Z c a [])⟩
def oF(c:U ES)(b:U (U H))(a:H):U ZG:=Cz (Z b a []) (Yc (Z c a Sf) (Z b a []))
def Ex(b:U ES)(a:U (U H))(c:H):U KS:=(range c).map (kF b a)
def Iv(b:U ES)(a:U (U H))(c:H):U (U ZG):=(range c).map (oF b a)
def Ev c b a:F (Ex c b a)=a:=by simp[Ex]
def jw{c b a}:F (Iv c b a)=a:=by simp[Iv]
def Zbx b a c:Ex b a (c+1)=Ex b a c++[kF b a c]:=by simp[Ex,range_succ]
def Gf c b {d a}(e:a<d):Z (Ex c b d) a Aj=kF c b a:=by simp[Ex,Z,e]
def Nk c b {d a}(e:a<d):Z (Iv c b d) a []=oF c b a:=by simp[Iv,Z,e]
def Ow:∀(b c:U KS) (a d:U (ZY×ZY)),F a=F b->Hg (b++c) (a++d)=Hg b a++Hg c d
 |[],c,a,d,e=>by grind [Hg]
 | f ::b,c,a,d,e=>by
  cases a with
  |nil=>simp at e
  | cons g a=>
   simp only[cons_append,Hg,append_assoc];rw[Ow b c a d (by simpa using e)]
def ZhH(a:H)(c:a<=1000000) b:(Instr.makeSlice 309 (I a) (I a)).run Y8 b=.ok (L_ (B b.1) a a) (ZN b (O_ (YV #[N_] a) 101)):=mk_ 1
def ZhG a (b:ZT) c (e:a<=1000000)(d:c<=B b.1):ZD (ZN b (O_ (YV #[N_] a) 101)) c 101 1 (L_ (B b.1) a a) a (Y6 a (N_)):=by
 have:=ownsRow_lit (base:=c) (size:=1) (e:=101) b (YV #[N_] a) a d (by unfold Y2;omega) (by simp[YV]);rw[Tl] at this
 simpa using this
structure em(b f)(c:U ES)(d:U (U H)):Prop where
 k:F c=b+1
 p:∀a,a<b+1->F (Z d a [])=f
 ok:∀a,a<b+1->Rq (Z c a Sf)
 g:∀a,a<b+1->(Z c a Sf).b<=16
 i:∀a,a<b+1->∀e∈Z d a [],e<(Z c a Sf).b+2
def Z4(b:ZT)(a:H):Prop:=b.1[a]? =T (O_ #[ZR ZZ,N_,N_,I 0] 172)
def Z4.cells{b a}(c:Z4 b a):ZV b (J a 0)=T (ZR ZZ)/\ZV b (J a 1)=T (N_)/\ZV b (J a 2)=T (N_)/\ZV b (J a 3)=T (I 0)/\(∀d,YT b (J a d)=ZZ):=by unfold Z4 at c;refine⟨?_,?_,?_,?_,λd=>fr_ b a d _ _ c⟩<;>simp[ZV,c]
def Z4.a{a:ZT}{b}(c:b=B a.1):Z4 (ZN a (O_ #[ZR ZZ,N_,N_,I 0] 172)) b:=by subst c;exact ha_ a _
def Z4.drew{b a}(c:Z4 b a):Z4 (YY b) a:=c
def Z4.call{c d a}(b:Z4 c a)(e:E_ c d):Z4 d a:=(e.block a (Qb b).1).T b
def Z4.c{f a}(g:Z4 f a){b c d e}:(ZO (ZO (ZO (ZO f (J a 0) b) (J a 1) c) (J a 2) d) (J a 3) e).1[a]? =T (O_ #[b,c,d,e] 172):=
 hs_ _ a 3 _ 172 _ (hs_ _ a 2 _ 172 _ (hs_ _ a 1 _ 172 _ (hs_ _ a 0 _ 172 _ g)))
structure Pf(i)(h wr:ZT)(j n b l k:H)(c)(m)(f)(e)(d):Prop where
 r:wr.1[j]? =T (O_ #[c,N_,N_] 168)
 w:Jq i wr c m (Ex e d l)
 p:ZD wr 0 101 1 (L_ n b b) b f
 t:∀a,a<k->Eo wr 0 (Z f a (N_)) (oF e d a)
 o:E_ h wr
 u:∀g,ZW c=T g->B h.1<=g
def Pf.q{m wr w2 base c k i g f l h j e d}(a:Pf base m wr c k i g f l h j e d)(b:E_ wr w2):Pf base m w2 c k i g f l h j e d:=
 ⟨(b.block c (Qb a.r).1).T a.r,a.w.q b,(Aa.a (S:=λ_=>False) b).M a.p (λ_ _=>id),λo n=>(a.t o n).q b,a.o.T (b.m a.o.size),a.u⟩
def Pf.z{t d q m f A y k p v6 vb vw h z g e}(a:Pf m t d f A y k k p h z g e)(M:B t.1<=f)(s:Y3 d q (ZW p))(R:ZD q 0 172 4 v6 (k+1) (Hg (Ex g e k) h++Bs (kF g e k) (vb,vw)))(G:ZW v6=ZW p∨ZW v6=T (B d.1)/\E_ d q)(u:Ad d m vb (kF g e k).e.f)(v:Bj d m vw (kF g e k).e.c):Pf m t (ZO q (J f 0) v6) f A y (k+1) k v6 (h++[(vb,vw)]) z g e/\Aa (λc=>ZW p=T c∨c=f) d (ZO q (J f 0) v6):=by
 have W:=(Aa.refl _ d).grown s (λk b _=>b);have w:=W.g a.r (λb=>Ag a.w.M b a.r C X);have j:Aa (λc=>_∨c=f) d _:=((Aa.refl _ d).grown s (λk b _=>.inl b)).setCell (p:=(J f 0)) (λ_=>.inr X) v6
 have l:∀{m b S Q:H} {D a0},ZD d m b S D Q a0->b≠172->b≠168->∀c,ZW D=T c->¬(ZW p=T c∨c=f):=λN n a1 c hq P=>by
  have⟨x,o⟩:=Ac N hq
  rcases P with b|b
  ·have⟨r,L⟩:=Ac a.w.M b
   grind
  subst b;rw[a.r] at o
  grind
 refine⟨⟨ht_ 0 _ _ _ w,⟨?_,?_,λi o=>?_⟩,j.M a.p (l a.p C C),λi o=>j.M (a.t i o) (l (a.t i o) C C),(a.o.grown s a.o.size (λc hq=>a.u c hq)).setCell M _,λc hq=>?_⟩,j⟩;rw[Ev];have b:Hg (Ex g e (k+1)) (h++[(vb,vw)])=Hg (Ex g e k) h++Bs (kF g e k) (vb,vw):=(by rw[Zbx,Ow _ _ _ _ a.w.y];simp[Hg]);rw[b];exact Am R w C;rw[Qe,a.w.y,Ev,Ev];rfl
 ·rw[Ev] at o;have a2:F h=k:=by rw[a.w.y,Ev]
  by_cases x:i<k
  have r:Z (h++[(vb,vw)]) i Lm=Z h i Lm:=w_;have n:=a.w.j i (by rw[Ev];exact x);rw[r,Gf _ _ o];rw[Gf _ _ x] at n;exact⟨j.M n.1 (l n.1 C C),j.M n.2 (l n.2 C C)⟩;have L:i=k:=O;subst L;have r:Z (h++[(vb,vw)]) i Lm=(vb,vw):=w_;rw[r,Gf _ _ o];exact⟨j.M u (l u C C),j.M v (l v C C)⟩
 rcases G with b|b
 exact a.u c (b ▸ hq);rw[b.1] at hq;injection hq with hq;have:=a.o.size;omega
def Pf.out{p h k r d l a w c v g o m}(b:Pf k p h r d l (a+1) a w v g o m)(z:B p.1<=d)(R:a<l)(t:Eo h 0 c (oF o m a)):Pf k p (ZO h (J d a) c) r d l (a+1) (a+1) w v (g.set a c) o m:=by
 have⟨N,x⟩:=Ac b.p (k:=d) X;have j:=(Aa.refl (λi=>i=d) h).setCell (p:=(J d a)) (λ_=>X) c;have q:∀{k f G D:H} {L:_} {M:_},ZD h k f G L D M->f≠101->∀i,_->¬i=d:=λA s i u f=>Ag A u x s f;have S:F g=l:=p_ b.p.1;refine⟨j.g b.r (λf=>?_),b.w.p j (λi P a0 u W f=>?_),(World.ownsRow.stored b.p a c).1,λe Q=>?_,b.o.setCell z c,b.u⟩
 ·have s:=b.r
  grind
 ·grind
 by_cases y:e=a
 subst y;have n:Z (g.set e c) e (N_)=c:=w_;rw[n];exact j.M t (q t C);have n:Z (g.set a c) e (N_)=Z g e (N_):=w_;rw[n];exact j.M (b.t e O) (q (b.t e O) C)
def Pf.a{m wr h i g a l k f d c}(e:Pf h m wr i g a a a l k f d c):It wr (L_ g a a) f (Iv d c a):=
 ⟨by rw[jw];exact e.p,λj b=>by rw[jw] at b;rw[Nk _ _ b];exact e.t j b⟩
def Bk(a:U KS)(c:U H):H:=(c.map (λb=>(Z a b Aj).g)).sum
def wj a c b:Bk a (c++[b])=Bk a c+(Z a b Aj).g:=by simp[Bk]
def Sy c e d f:∀a b,(a.foldl (Al c e d f) b).off=b.off+Bk c a
 |[],b=>by simp[Bk]
 |g::a,b=>by simp only[foldl_cons];rw[Sy c e d f a];simp[Bk,Al];omega
theorem ll a d c e f b:(Jr a d c e f b).off=1+Bk a b:=Sy a d c e b _
structure rg(e f d)(b)(a:GS):Prop where
 out:F a.out=f
 fs:∀c∈a.fs,c<e+1
 sum:a.k=Bk b a.fs
 k:a.k<=40
 y:F a.fs<=d
def rg.i{n c m budget f Ks Os a}(k:∀d∈a,rg n c m Ks d)(o:F (Z Os f [])=c)(w:f<n+1)(x:(Z Ks f Aj).g<=40):∀d∈Be Ks Os c budget a f,rg n c (m+1) Ks d:=λd g=>by
 unfold Be at g;split at g
 ·rename_i p
  rcases mem_or_eq_of_mem_set g with l|b
  have⟨e,h,i,j,b⟩:=k d l;exact⟨e,h,i,j,O⟩;have i:=findIdx_getElem (w:=p);have s:Z a (a.findIdx (Er (Z Os f []) (Z Ks f Aj).g budget)) Fm=a[a.findIdx (Er (Z Os f []) (Z Ks f Aj).g budget)]:=w_;rw[s] at b;have⟨j,q,r,u,v⟩:=k _ (Qf p);generalize a[a.findIdx (Er (Z Os f []) (Z Ks f Aj).g budget)]=e at *;subst b;unfold Er at i;simp only[Bool.and_eq_true,decide_eq_true_eq] at i;refine⟨?_,?_,?_,i.2,?_⟩;show F (orL e.out _)=c;rw[Mg (by rw[j,o])];exact j
  ·intro t h
   rcases mem_append.1 h with h|h
   exact q t h
   grind
  show e.k+_=Bk Ks (e.fs++[f]);rw[wj,r];show F (e.fs++[f])<=m+1;simp;omega
 rcases mem_append.1 g with l|b
 have⟨e,h,i,j,b⟩:=k d l;exact⟨e,h,i,j,O⟩;simp only[mem_cons,not_mem_nil,or_false] at b;subst b;refine⟨?_,?_,?_,?_,?_⟩;show F (orL (Y6 c ZZ) _)=c;rw[Mg (by rw[o];simp)];simp
 ·grind [Ve,Ju]
 simp[Ve,Ju,Bk];show 0+(Z Ks f Aj).g<=40;omega;simp[Ve,Ju]
theorem Zbz b c f d a e:F (Be b c f d a e)<=F a+1:=by unfold Be;split<;>simp
def zj{h e budget c i}(l:∀f,f<h+1->F (Z i f [])=e)(n:∀f,f<h+1->(Z c f Aj).g<=40):∀(b:U H) g a,(∀d∈b,d<h+1)->(∀d∈a,rg h e g c d)->(∀d∈b.foldl (Be c i e budget) a,rg h e (g+F b) c d)/\F (b.foldl (Be c i e budget) a)<=F a+F b
 |[],g,a,_,j=>⟨j,s_⟩
 | d::b,g,a,m,j=>by
  have k:=m d s_;have⟨q,r⟩:=zj (budget:=budget) l n b (g+1) (Be c i e budget a d) (λp o=>m p (by simp[o])) (rg.i j (l d k) k (n d k))
  grind [Zbz]
def Yt{a d budget Ks c}(h:∀b,b<a+1->F (Z c b [])=d)(i:∀b,b<a+1->(Z Ks b Aj).g<=40):(∀e∈Ib a Ks c d budget,rg a d (a+1) Ks e)/\F (Ib a Ks c d budget)<=a+1:=by
 have f:=zj (budget:=budget) h i _ 0 [] (λe g=>jv a c e g) (λe g=>by simp at g);rw[Lg] at f
 simpa [Ib] using f
def Fp(d:U (U ZG))(a:U (U H))(e:H)(c:U KS)(b:U GS):Ft:=b.foldl (Lq d a e) ⟨c,[],[]⟩
def xu d c e:∀(b:U GS) a,(b.foldl (Lq d c e) a).g=a.g
 |[],a=>X
 |f::b,a=>by simp only[foldl_cons];rw[xu d c e b];rfl
def Pk d a e c b:(Fp d a e c b).g=c:=xu d a e b _
def Zdf d c e f {a:U GS}{b}(g:b<F a):Fp d c e f (ZU (b+1) a)=Lq d c e (Fp d c e f (ZU b a)) (Z a b Fm):=by
 unfold Fp
 grind [Qi]
def ZaI e c b:∀(f:U GS) a,(∀d∈f,F d.fs<=4)->F (f.foldl (Lq e c b) a).f=F a.f+F f/\F (f.foldl (Lq e c b) a).r<=F a.r+F f*(4*b)
 |[],a,_=>⟨X,s_⟩
 | d ::f,a,g=>by
  simp only[foldl_cons];have⟨l,m⟩:=ZaI e c b f (Lq e c b a d) (λi h=>g i (by simp[h]));have j:=(Oc a.g e c b d.fs ⟨Y6 b 0,a.r,1⟩ s_).2;have k:_<=4*b:=aK _ (g d s_);have h:F (Lq e c b a d).f=F a.f+1:=by simp[Lq]
  have i:F (Lq e c b a d).r<=F a.r+4*b:=by
   show F (Jr a.g e c b a.r d.fs).r<=_;unfold Jr
   grind
  refine⟨w_,?_⟩;rw[length_cons,Nat.add_mul,Nat.one_mul];omega
def ZgR d b {n} c {a}(f:∀e∈a,F e.fs<=4)(k:n<=200)(g:F a<=4):F (Fp d b n c a).f<=4/\F (Fp d b n c a).r<=4000:=by
 have⟨h,i⟩:=ZaI d b n a ⟨c,[],[]⟩ f;have j:_*(4*n)<=4*800:=Nat.mul_le_mul g O
 grind [Fp]
def Bx(b d e:H)(c:U ES)(a:U (U H)):Ft:=Fp (Iv c a (b+1)) a d (Ex c a (b+1)) (Ib b (Ex c a (b+1)) (Iv c a (b+1)) d e)
structure Ph(d)(f)(c h i)(g e)(b)(a:Ft):Prop where
 v:DsX d f c h i e a.f b
 w:ZgN d c g a.g
 n:b.Perm a.r
 l:Em b
structure Vp(b)(h)(j)(e f g)(k i)(d)(c:Ft):Prop where
 v:en b h j e f g i c.f d
 w:Jq b h e k c.g
 n:d.Perm c.r
 l:Em d
 o:∀a,ZW e=T a->b<=a
 x:∀a,ZW f=T a->b<=a
 p:∀a,ZW g=T a->b<=a
def Lp(c:H)(j:ZT)(e:H)(a:Ft):Prop:=∃h g i f d b,Vp c j e h g i f d b a
def ZnL(i:ZT)(d:H)(a:Ft):Prop:=∃g f h e c b,Ph i d g f h e c b a
def Lp.zero{f d c b}(a:Lp f d c b):ZnL d c b:=by obtain⟨j,i,k,h,g,e,a⟩:=a;exact⟨j,i,k,h,g,e,a.v.m v_,a.w.m v_,a.n,a.l⟩
def en.l{d f i l o n c k j u h}(a:en i d l o n c k j u)(r:Y3 d f (ZW c))(q:Nu f 0 c h):en i f l o n c k j h/\Aa (λb=>ZW c=T b) d f/\je (λb=>ZW c=T b) d:=by have g:=(Aa.refl _ d).grown r (λb e _=>e);have m:je _ d:=λb w x e t=>a.a b _ _ e (ZJ (ZJ t));refine⟨⟨g.g a.r (λp=>Ag a.j p a.r C X),a.v.p g (λb e s=>?_) m,q⟩,g,m⟩;have⟨v,p⟩:=Ac a.v.M e;exact Ag a.j s p C X
structure Zjf(g)(f wr)(b)(i d e)(h)(c:Ft):Prop where
 v:en g wr b i d e h c.f c.r
 t:Aa (λa=>a=b) f wr
 x:∀a,DsS b d e a->a=b∨B f.1<=a
def Zjf.a{m wr n c e g k l p o b}(a:Zjf c m wr e g k l p o)(t:ke c wr n e g k l b.f b.r):∃f h d,Zjf c m n e g f h d b:=by
 obtain⟨f,h,d,q,r,s⟩:=t;refine⟨f,h,d,q,a.t.c r (λj i=>a.x j i),λj u=>?_⟩
 rcases s j u with i|i
 exact a.x j i;have:=a.t.size;exact ZJ O
def Zk5{i:ZT}{b c h g:H}{a j}(e:ZD i 0 c h a g j)(m:∀f,ZW a=T f->b<=f):ZD i b c h a g j:=by
 refine⟨e.1,?_⟩
 rcases e.2 with n|⟨d,k,l,rfl,_,o⟩
 exact ZM n;exact ZJ ⟨d,k,l,X,m d X,o⟩
def ZkN{q:H}(d:H){e x e0 c9:H}{f5 f b g}(j0:d+1<=4)(b1:e<=200)(d5:x<=20)(i7:q<=B g.1)(f6:ac q g (L_ e0 (d+1) c9) f5 f b)(b8:em d e f b):C_ 157 #[L_ e0 (d+1) c9,I x] g λc j=>c=ZI (Y7 (T ⟨B g.1,0,ZP⟩))/\Lp q j (B g.1) (Bx d e x f b)/\E_ g j:=by
 have⟨c2,t⟩:=Y_ f6 b8;have j1:∀p:_,(Instr.makeSlice 309 (ZX _ ((d:E)+1)) (ZX _ ((d:E)+1))).run _ p=_:=ZhH (d+1) O;clear f6 b8;refine dl_ ?_;go_enter func157,ntmps157;go_wp2_with fail
 go_loopw [19] (λs c=>∃(a:H) (b2:ZY) (a0:U (ZY×ZY)) (a1:U ZY),s=ZX ZQ a/\a<=d+1/\Hid (Pf q g c (B g.1) (B g.1+1) (d+1) a a b2 a0 a1 f b)) (λs _=>d+1-ZL (ZA s))
 case atStart=>
  refine⟨0,N_,[],Y6 (d+1) (N_),X,v_,?_⟩;refine⟨?_,⟨rn_,X,λi n=>by simp[Ex] at n⟩,?_,λi n=>O,?_,λo j=>by simp[ZW] at j⟩;exact(hc_ s_).T (ha_ g _);have:=ZhG (d+1) (ZN g (O_ #[N_,N_,N_] 168)) 0 O v_;rw[show B (ZN g (O_ #[N_,N_,N_] 168)).1=B g.1+1 by simp] at this;exact this;exact r_.alloc s_ _
 clear j1;obtain⟨a,b2,a0,a1,rfl,k4,h⟩:=hrel;have k7:=h.o.size
 by_cases N:a<d+1
 ·have d1:=c2.out.q h.out.o;have⟨k5,i2,e6,e7,e8⟩:=d1.cells (i:=a) (t.k ▸ N);have M:=d1.j a (t.k ▸ N);have b0:=t.p a N;have k2:=t.g a N;have g1:=t.i a N;have⟨k,m,d3⟩:=M.1.d;have⟨l,n,d4⟩:=M.2.1.a;have⟨D,L,b7⟩:=M.2.2.d;rw[Ak,b0] at b7;rw[d3] at e6;rw[d4] at e7;rw[b7] at e8;have a2:=x4_ (d3 ▸ M.1) (d4 ▸ M.2.1) (b7 ▸ M.2.2) b0;have d7:(Z f a Sf).b=Kz _ _ _:=rfl
  have e2:Hid (∀p:ZT,C_ 146 #[Y9 #[ZR (Z f a Sf).a,V k (F (Z f a Sf).f) m,V l (F (Z f a Sf).c) n]] p (U_ (ZX ZQ ((Z f a Sf).b+2:H)) p)):=λp=>by have c:((Z f a Sf).b+2:H)=((Kz (Z f a Sf).a (F (Z f a Sf).f) (F (Z f a Sf).c):H):E)+2:=p_ d7;rw[c];exact Fq _ _ _ _ _ _ _ p (by rw[<- d7];omega)
  have e4:Hid (∀p:ZT,E_ wr p->C_ 204 #[V D e L,I ((Z f a Sf).b+2:H)] p (U_ (ZX ZQ (Yc (Z f a Sf) (Z b a []):H)) p)):=λp d2=>by rw[<- ZfM];exact cp e p (a2.2.2.1.q d2) b0 b1 g1 O O
  have R:Hid (∀p:_,_->Calls _ _ _ p λc j=>∃o,_/\Eo j _ o (oF f b a)/\_):=λp d2=>iu D e L p d2 b0 b1;have c3:Hid (kF f b a=⟨_,_⟩):=rfl;clear d1 M b0 g1 d3 d4 b7 d7;generalize Yc (Z f a Sf) (Z b a [])=a5 at *;generalize (Z f) a Sf=b6 at *;generalize g8:b6.a=z at *;generalize g3:F b6.f=u at *;generalize g4:F b6.c=v at *;generalize b6.b=k0 at *;have j7:0<=(a:E):=O;have j8:a<(d:E)+1:=O;have i0:=x3_ g8 g3 g4;clear g8 g3 g4;go_upto_region 6 with fail;generalize y:ZN wr (O_ #[ZR z,V k u m,V l v n,V D e L] 266)=w1;have h7:Hid (∃G,w1.1[_]? =T (O_ G _ _)):=⟨_,by rw[<- y];exact hn_⟩;have j3:B w1.1=B wr.1+1:=(by rw[<- y];simp);have c1:Hid (E_ wr w1):=by show Below _ _ _;rw[<- y];exact r_
  have f2:ZV w1 (J (B wr.1) 0)=T (ZR z):=(by rw[<- y];simp[go_sem]);have f3:ZV w1 (J (B wr.1) 1)=T (V k u m):=(by rw[<- y];simp[go_sem]);have f4:ZV w1 (J (B wr.1) 2)=T (V l v n):=(by rw[<- y];simp[go_sem]);have c8:ZV w1 (J (B wr.1) 3)=T (V D e L):=(by rw[<- y];simp[go_sem]);have d9:B wr.1<B w1.1:=O;clear y i2 e6 e7 e8 j3;go_cut [9] (λo c=>∃W,o=Y7 (T ⟨W,0,ZP⟩)/\Hid (B w1.1<=W/\c.1[W]? =T (YU #[ZR z,ZH k u m,ZH l v n,ZX ZQ (a5:H)] 172 (0,0))/\E_ w1 c))
  case first=>
   go_region_held3 (λj=>ZV j (J (B wr.1) 0)=T (ZR z)/\ZV j (J (B wr.1) 1)=T (V k u m)/\ZV j (J (B wr.1) 2)=T (V l v n)/\ZV j (J (B wr.1) 3)=T (V D e L)) (exact⟨X_ f2,X_ f3,X_ f4,X_ c8⟩) (first|(go_at_call 146;apply (e2 _).m;rintro c w ⟨rfl,r⟩;have o:E_ w1 w:=bt_ bw_ r;have g6:=o.size;(try((first|(have hA:Z4 w (B w1.1):=Z4.call (Z4.drew (Z4.a (Eq.refl _))) r)|(have hA:Z4 w (B w1.1):=Z4.call (Z4.a (Eq.refl _)) r));obtain⟨s,A,G,P,j⟩:=hA.cells;have Q:=j 0;have S:=j 1;have W:=j 2;have a3:=j 3;clear j));clear r)|(go_at_call 204;apply (e4 _ (c1.T (Below.m bw_ (by omega:wr.1.size<=w1.1.size)))).m;rintro c s ⟨rfl,aB⟩;have f9:E_ w1 s:=bt_ bw_ aB;have g7:=f9.size;(try((first|(have aA:Z4 s (B w1.1):=Z4.call hA aB)|(have aA:Z4 s (B w1.1):=Z4.call (Z4.drew hA) aB));obtain⟨o,r,A,G,j⟩:=aA.cells;have P:=j 0;have Q:=j 1;have S:=j 2;have W:=j 3;clear j));(try((first|(have aA:Z4 s (B w.1):=Z4.call (Z4.a (Eq.refl _)) aB)|(have aA:Z4 s (B w.1):=Z4.call (Z4.drew (Z4.a (Eq.refl _))) aB));obtain⟨o,r,A,G,j⟩:=aA.cells;have P:=j 0;have Q:=j 1;have S:=j 2;have W:=j 3;clear j));clear aB))
   all_goals go_wp2
   all_goals go_meet
   exact⟨_,X,g7,hn_,by repeat(first|assumption|(refine Below.alloc ?_ g7 _))⟩;exact⟨_,X,g6,aA.c,by repeat(first|assumption|(refine Below.setCell ?_ g6 _))⟩;exact⟨_,X,x_,aA.c,by refine Below.setCell (Below.setCell (Below.setCell (Below.setCell f9 ?_ _) ?_ _) ?_ _) ?_ _<;>exact x_⟩
  clear e2 e4;obtain⟨W,rfl,r⟩:=hcut;have a7:=c1.T (r.2.2.m (Nat.le_of_lt d9));have S:=Y (h.q a7);have e9:=T_ r.2.2 c8;have Q:=x3_ (a2.1.q a7) (a2.2.1.q a7) (a2.2.2.1.q a7);have k3:=Qh d9 r.1;have i9:=(Qb r.2.1).1;have A:=Y r.2.1;have h8:Hid (∃G,wc.1[B wr.1]? =T (O_ G 266)):=by obtain⟨b5,j⟩:=h7;exact⟨b5,(r.2.2.block _ d9).T j⟩
  have h9:Hid (¬ZW b2=T W):=λc=>by have⟨b5,j⟩:=Ac h.w.M c;have:=(Qb j).1;omega
  have b9:=(Qb h.r).1;clear h c1 a2 r a7 f2 f3 f4 c8
  obtain⟨j5,P,c0⟩:∃i1 b5,b2=ZH i1 a b5:=by
   have s:=S.w.M;rw[Ev] at s
   rcases s.2 with⟨rfl,j⟩|⟨o,a3,G,rfl,_⟩
   exact⟨ZP,0,by rw[j]⟩;exact⟨_,_,X⟩
  subst c0;have b4:Hid (ZD wc 0 172 4 (V j5 a P) a (Hg (Ex f b a) a0)):=(by have s:=S.w.M;rw[Ev] at s;exact s);have a4:=n_ 0 S.r;have c4:=n_ 0 A;have c5:=n_ 1 A;have c6:=n_ 2 A;have c7:=n_ 3 A;go_upto_region 7 with fail;refine Af (λj=>ZV j _=T _/\ZV j _=T _/\ZV j _=T _/\ZV j _=T _/\ZV j _=T _) 10 k_ ⟨a4,c4,c5,c6,c7⟩ (λhHeld=>?_);refine G_ ?_;refine on_ 6 λKK hK=>?_;go_simp;refine hK _ _ ⟨X_ a4,X_ c4,X_ c5,X_ c6,X_ c7⟩ (λhHeld=>?_);clear hK KK;try simp only[Act.put,sA,sB,sC]
  refine on_ 7 λKK hK=>?_;refine aq_ [ZR z,V k u m,V l v n,I (a5:H)] (ra_ (w:=YY wc) b4 _) ?_;rintro v6 b3 ⟨h5,d0,f1,_,h4,h3,j4⟩;have a8:=S.q ((y_.drew).alloc x_ (O_ #[ZR z,V k u m,V l v n,I (a5:H)] 172));have a9:E_ wc (ZN (YY wc) (O_ #[ZR z,V k u m,V l v n,I a5] 172)):=(y_.drew).alloc x_ _;have g2:Bs (kF f b a) (V k u m,V l v n)=[ZR z,V k u m,V l v n,I a5]:=by rw[c3];simp[Bs,i0.out.1]
  have⟨f8,f7⟩:=a8.z (v6:=v6) (vb:=V k u m) (vw:=V l v n) x_ d0 (g2 ▸ h5) f1 (c3 ▸ (Q.1.q a9)) (c3 ▸ (Q.2.1.q a9));have e5:=Y f8;have e1:Aa _ (ZN (YY wc) (O_ _ _)) _:=(Aa.refl _ _).grown d0 (λa b8 _=>b8);have d8:¬_:=λc=>h9 c;have a6:=e1.g ((a9.block _ i9).T A) d8;have d6:=e1.g a8.r (λc=>Ag a8.w.M c a8.r C X);have f0:=n_ 0 d6;have i6:=R_ 0 _ _ d6;have g9:=n_ 0 a6;have h0:=n_ 1 a6;have h1:=n_ 2 a6;have h2:=n_ 3 a6;have a3:=(Aa.a a9).T f7;have j2:¬W=B g.1:=O;have i3:ZV (ZO b3 _ _) _=T (ZX _ _):=M_ 3 _ _ _ (a3.g A (λc=>c.elim d8 j2))
  have i4:ZV (ZO b3 (J (B g.1) 0) v6) (J (B wr.1) 3)=T (V D e L):=by obtain⟨G,s⟩:=h8;rw[cb_ (a:=(J (B wr.1) 3)) (a3.block (B wr.1) O (λc=>c.elim (λc=>Ag b4 c s C X) (λc=>O)))];exact e9
  have e3:Hid (Ad (ZO b3 (J (B g.1) 0) v6) 0 (V D e L) (An (Z b a []))):=a3.M Q.2.2 (λo j c=>c.elim (λc=>by
   have⟨G,s⟩:=Ac Q.2.2 j
   exact Ag b4 c s C X) (λc=>Ag Q.2.2 j S.r C c))
  have k6:=a3.size;subst j4;clear h5 d0 f1 a8 a9 g2 f8 f7 e1 a6 d6 a3 S Q A b4;refine hK _ _ ⟨f0,g9,h0,h1,h2⟩ (λhHeld=>?_);clear hK KK;refine G_ ?_;refine le_ ?_;have i5:_=B (ZO b3 (J (B g.1) 0) (L_ h4 (a+1) h3)).1:=rfl;clear i5;generalize (ZO b3) (J (B g.1) 0) (L_ h4 (a+1) h3)=l0 at *;clear f0 i6 g9 h0 h1 h2 hHeld c4 c5 c6 c7 a4 e9;go_wp2_with fail
  apply (R _ e3).m;rintro c h6 ⟨k9,rfl,o,g0⟩;have j:=e5.q g0;have g5:F a1=d+1:=p_ j.p.1;have j9:ZV h6 (J (B g.1+1) a)=T (Z a1 a (N_)):=(by rw[World.ownsRow.cellAt j.p a O];simp[Z,g5,N]);have k1:YT h6 (J (B g.1+1) a)=ZZ:=by have⟨G,s⟩:=Ac j.p (k:=B g.1+1) X;exact R_ a _ _ s
  have s:=Y (j.out (le_succ _) N (o.m v_));have⟨j6,k8,G⟩:=o.d;subst G;clear g5 j o g0 e5 e3 i4 i3 R;go_wp2;go_roundw;case rel=>exact⟨a+1,_,_,_,g_,O,s⟩
  case measure=>exact z_
 have e7:a=d+1:=O;have d8:¬a<(d:E)+1:=O
 have u:Hid (Pf q g wr (B g.1) (B g.1+1) (d+1) (d+1) (d+1) b2 a0 a1 f b):=(by rw[e7] at h;exact h);obtain⟨D,P,_,_,_,_,c0,_⟩:=u.w.at (i:=0) (by rw[Ev];omega);rw[Ev] at c0;subst c0;have a4:=n_ 0 u.r;have b9:=(Qb u.r).1;have f7:Hid (Bx d e x f _=Fp _ b e _ _):=rfl
 have b5:∀i,i<d+1->F (Z (Iv f b (d+1)) i [])=e:=λi n=>by rw[Nk _ _ n];show F (Cz _ _)=e;unfold Cz;rw[length_map];exact t.p i n
 have b4:∀i,i<d+1->(Z (Ex f b (d+1)) i Aj).g<=40:=λi n=>by rw[Gf _ _ n];have:=t.g i n;show(Z f i Sf).b+2<=40;omega
 have d9:∀d1∈Iv f b (d+1),F d1=e:=λd1 g3=>by
  obtain⟨i,n,rfl⟩:=aM g3;have:=b5 i (by rw[jw] at n;exact n)
  simpa [Z,n] using this
 have d6:∀K∈Ex f b (d+1),K.g<=100:=λK hK=>by obtain⟨i,n,rfl⟩:=aM hK;have:=b4 i (by rw[Ev] at n;exact n);rw[Z,Qd n] at this;simp at this;omega
 have a9:=Yt (budget:=x) b5 b4;have y:=x3_ u.w u.a (c2.q u.o);have v:Hid (F (Ex f b _)=d+1/\F (Iv f b _)=d+1/\_/\_):=⟨Ev _ _ _,jw,d9,d6⟩;have c8:=hy d e j0 v.1 v.2.1 (y.1.m v_) y.2.1 v.2.2.1 b1 d5 v.2.2.2;have⟨a8,c4⟩:=Y_ u.o u.r;have h1:=aG i7 (u.u D X);clear h u b5 b4 d9 d6 e7 c2;generalize Ib d (Ex f b (d+1)) (Iv f b (d+1)) e x=k at *;generalize Ex f b (d+1)=m at *;generalize Iv f b (d+1)=l at *;go_wp2_with fail
 apply c8.m;rintro c w ⟨j2,rfl,g2,r⟩;obtain⟨h8,g1,h7,e2,M⟩:=g2;have⟨g0,i0,h2⟩:=M.x.a;subst h2;have f4:=Y M;have W:=x3_ (y.1.q r) (y.2.1.q r) (y.2.2.q r);have⟨f3,c7⟩:=Y_ (a8.T (r.m a8.size)) ((r.block _ b9).T c4)
 have a2:Hid (je (λo=>o=B g.1) w):=λo G i9 j c=>by subst c;rw[c7] at j;simp at j;exact ZM j.2.s
 have i3:=a9.2;have c5:=Y a9.1;have g5:=Qh b9 r.size;have i2:=Qh b9 e2;clear a9 c8 M r y a8 c4 a4 e2;generalize e6:F k=L at *;have c6:=Y e6;clear e6;go_wp2_with fail
 go_loopw [60] (λs z=>∃(i:H) (a6 S:ZY) (b0:U (ZY×ZY)),s=ZX ZQ i/\i<=L/\Hid (Zjf q w z (B g.1) (ZH (T ⟨D,0,ZP⟩) (d+1) P) a6 S b0 (Fp l b e m (ZU i k)))) (λs _=>L-ZL (ZA s))
 case atStart=>
  refine⟨0,N_,N_,[],X,v_,?_⟩;refine⟨⟨c7,⟨rn_,X,λi n=>absurd n (by simp[Fp])⟩,rn_⟩,Aa.refl _ _,λo j=>?_⟩
  rcases j with c|c|c
  exact ZM c;simp[ZW] at c;simp[ZW] at c
 obtain⟨i,a6,S,b0,rfl,i4,h⟩:=hrel;have i6:=h.t.size
 have b6:∀a7∈ZU i k,F a7.fs<=4:=λa7 M=>by have:=(c5 a7 (aL M)).y;omega
 have a3:=ZgR l b (n:=e) m b6 b1 (by rw[length_take];omega);have z:=Pk l b e m (ZU i k)
 by_cases g9:i<L
 ·have Q:=c6.out ▸ g9;have e5:Z k i Fm=k[i]:=(by rw[Z,Qd Q];rfl);have A:=e5 ▸ (c5.out _ (Qf _));have a5:=f4.out.p h.out.t (λo j c=>O);have⟨h5,i1,f1,i5,d2⟩:=a5.x.at Q;have g8:g0=T ⟨h5,0,ZP⟩:=(by injection f1);subst g8;have⟨h6,j3,hK⟩:=a5.x.j i Q;have⟨h3,h4,f2⟩:=hK.out.d;rw[A.out] at f2;subst f2;unfold sv at d2;have e3:=hK.r;have e4:Ad _ q _ _:=Zk5 hK.fs (λo j=>p_ (a5.u i Q o (hK.g o j)));have d7:=W.1.b h.t a2;have e1:=W.2.1.b h.t a2;have d4:=W.2.2.p h.t a2;have e8:=ll m l b e (Fp l b e m (ZU i k)).r (Z k i Fm).fs;have f0:=A.sum;have g4:=A.k;have h0:=A.y
  have c3:=rp q (B g.1) (Z g1 i 0) d e D P e0 c9 (d+1) a6 S h6 h3 h4 b0 a0 f5 a1 m f b l wr O h.v (d7.m v_) v.1 e3 e4 (d4.m v_) t.k e1 v.2.1 v.2.2.1 t.p A.fs b1 O (λb3 R b7 d5=>by have s:=t.i b3 R b7 d5;have c1:=t.g b3 R;omega) v.2.2.2 (by rw[e8,<- f0];omega) O O;have e9:=Zdf l b e m Q
  have d0:Hid (∀s:ZT,ke q wr s (B g.1) (L_ D (d+1) P) a6 S ((Fp l b e m (ZU i k)).f++[⟨(Z k i Fm).fs,(Jr m l b e (Fp l b e m (ZU i k)).r (Z k i Fm).fs).N,(Jr m l b e (Fp l b e m (ZU i k)).r (Z k i Fm).fs).off-1⟩]) (Jr m l b e (Fp l b e m (ZU i k)).r (Z k i Fm).fs).r->∃b7 c1 b3,Zjf q w s (B g.1) (L_ D (d+1) P) b7 c1 b3 (Fp l b e m (ZU (i+1) k))):=λs R=>by apply h.a;rw[e9];show ke q wr s _ _ _ _ ((Fp l b e m (ZU i k)).f++[⟨_,(Jr (Fp l b e m (ZU i k)).g l b e _ _).N,_⟩]) (Jr (Fp l b e m (ZU i k)).g l b e _ _).r;rw[z];exact R
  have h9:=F_ i L;clear e5 A a5 f1 hK e3 e4 d7 e1 d4 e8 f0 g4 h0 e9 z b6 a3;go_wp2_with fail
  apply c3.m;rintro c s ⟨rfl,R⟩;have⟨b7,c1,b3,d3⟩:=d0 s R;have f8:=Y d3;clear c3 R d3 d0 h d2;go_wp2;go_roundw;case rel=>exact⟨i+1,b7,c1,b3,g_,O,f8⟩
  case measure=>exact z_
 have e8:¬i<(L:E):=O;have d0:ZU i k=_:=aI (by rw[c6];omega);rw[d0] at h a3 z;rw[<- f7] at h a3 z;have b3:_=T S:=M_ 2 _ _ _ h.v.r;have R:=ZeX h.v.j O;have⟨e9,f0,d2⟩:=h.v.j.d;have a5:=Y d2;have b7:=W.1.b h.t a2;have e1:Hid (Jq q wr (L_ D (d+1) P) a0 (Bx d e x f b).g):=(by rw[z];exact b7);clear b7 d0 z a3 b6 d2;rw[a5] at b3 R;go_wp2_with fail
 apply R.m;rintro c d4 ⟨rfl,⟨e3,c1,c3,Q⟩,A⟩
 have d7:Hid (Lp q d4 (B g.1) (Bx d e x f b)/\E_ g d4):=by
  rw[<- a5] at Q A;have⟨e4,d3,e5⟩:=h.v.l A Q;refine⟨⟨_,_,_,_,_,e3,e4,e1.b d3 e5,c1,c3,λo j=>aG h1 (Nat.le_of_eq (by simpa [ZW] using j)),λo j=>by rcases h.out.x o (ZJ (ZM j)) with c|c<;>omega,λo j=>by rcases h.out.x o (ZJ (ZJ j)) with c|c<;>omega⟩,?_⟩;have s:=f3.T (h.t.b (Nat.le_of_lt g5) (λo j=>Nat.le_of_eq j.s));refine s.T (d3.b O (λo j=>?_))
  rcases h.out.x o (ZJ (ZJ j)) with c|c<;>omega
 clear R c1 c3 Q A b3;go_wp2;go_ret;exact⟨X,d7⟩
def Zei r {u e s v} l {m f c b h} a (k:Ky a 0 (V r e s) b)(R:Ck a u e h)(A:F b=e)(M:e<=200)(N:∀g∈b,-1000000000<=g.num/\g.num<=1000000000)(S:∀w∈h,0<=w/\w<=99)(P:2<=f)(Q:f<=32)(G:2<=c)(L:c<=16)(a0:D_ a l 0 (I c))(a1:D_ a m 0 (I (f:H)))(a8:l<B a.1)(a9:m<B a.1):C_ 216 #[V r e s,V u e v,P_ l,P_ m] a λp d=>∃g,p=ZI g/\Wf d (B a.1) g ⟨ZZ,Fb b h c f,[]⟩/\E_ a d:=by
 have y:=Y (λi d=>ia e v b i ((Aa.a (S:=λ_=>False) d).M k (λ_ _=>id)) (R.q d) A M N S P Q G L);refine dl_ ?_;go_enter func216,ntmps216;go_wp2_with fail
 apply (y _ r_).m;rintro p t ⟨g,rfl,⟨b0,k,i⟩,q⟩;subst k;have⟨n,o,D⟩:=i.d;rw[D] at i ⊢;have d:t.1[B a.1]? =T (O_ _ 170 _):=(q.block _ s_).T hn_;have a2:=n_ 0 d;have a3:=n_ 1 d;have a4:=n_ 2 d;have a5:=R_ 0 _ _ d;have a6:=R_ 1 _ _ d;have a7:=R_ 2 _ _ d;have x:=Y (r_.T (q.m s_));have z:K (Ad t (B a.1+1) (V n (F (Fb b h c f)) o) (Fb b h c f)):=by have j:B (ZN a (O_ #[ZR ZZ,N_,N_] 170)).1=B a.1+1:=s_;rw[j] at i;exact i
 have j:=Y d;generalize (F (Fb b h c f))=W at *;go_wp2;apply bodyPost_ret (v:=Y9 #[ZR ZZ,V n W o,N_]) (by simp[results,results216,go_sem, *]) X;refine⟨_,X,⟨_,_,X,?_,rn_⟩,?_⟩;exact Ad.m (Am (Am (Am z j C) (by exact ht_ _ _ _ _ j) C) (by exact ht_ _ _ _ _ (ht_ _ _ _ _ j)) C) (le_succ _);exact((x.setCell x_ _).setCell x_ _).setCell x_ _
def ZiB{i m b a f d e c p k n l} h (g:RB h i m (V b f d) (V a e c) p k n l):C_ 155 #[P_ i] h λj o=>j=ZI (Y9 #[ZH b f d,ZH a e c])/\o=ZN h (O_ #[V b f d,V a e c] 250):=by
 have j:=n_ 1 g;have o:=n_ 2 g;have q:=(Qb g).1;refine dl_ ?_;go_enter func155,ntmps155;go_wp2;apply bodyPost_ret (v:=Y9 #[V b f d,V a e c]) (by simp[results,results155,go_sem, *]) X
 grind
def ma:∀(b:U ES) (d:U (ZY×ZY×ZY)),F d=F b->∀a,a<F b->∀(e:ES) (c:ZY×ZY×ZY),Ng (b.set a e) (d.set a c)=((((Ng b d).set (a*4) (ZR e.a)).set (a*4+1) c.1).set (a*4+2) c.2.1).set (a*4+3) c.2.2
 |[],_,_,a,f,_,_=>by simp at f
 |g::b,[],f,_,_,_,_=>by simp at f
 |g::b,h::d,_,0,_,e,c=>by simp[Ng,Md]
 | g::b,h::d,f,a+1,i,e,c=>by
  simp only[set_cons_succ,Ng];rw[ma b d (by simpa using f) a (by simpa using i) e c];have j:F (Md g h)=4:=rfl
  grind
def Zm7{a}(b:a<=4):Y4 (YV #[ZR ZZ,N_,N_,N_] (a*4))=Ng (Y6 a Sf) (Y6 a Vl):=by
 rcases(show a=0∨a=1∨a=2∨a=3∨a=4 by omega) with rfl|rfl|rfl|rfl|rfl
 all_goals kernel_rfl
def Zm8(a:H)(c:a<=4) b:(Instr.makeSlice 258 (I a) (I a)).run Y8 b=.ok (L_ (B b.1) a a) (ZN b (O_ (YV #[ZR ZZ,N_,N_,N_] (a*4)) 266)):=mk_ 4
def Mv{d:ZT}{a e f g h x j k i b} c (l:b≠a):ZV (ZO (ZO (ZO (ZO d (J a e) x) (J a f) j) (J a g) k) (J a h) i) (J b c)=ZV d (J b c):=by grind [cell?_of_block,Below.heap_setCell]
structure Lo(f wr:ZT)(i c g)(e)(b)(d:H->ES)(h:H->U H):Prop where
 M:ZD wr 0 266 4 (L_ i c c) c (Ng e b)
 k:F e=c
 l:F b=c
 n:∀a,a<g->Z e a Sf=d a
 j:∀a,a<g->Ad wr (B f.1) (Z b a Vl).1 (d a).f/\Bj wr (B f.1) (Z b a Vl).2.1 (d a).c/\Ad wr 0 (Z b a Vl).2.2 (An (h a))
 o:E_ f wr
def Lo.q{l wr w2 k j i g h f e}(a:Lo l wr k j i g h f e)(b:E_ wr w2):Lo l w2 k j i g h f e:=
 ⟨(Aa.a (S:=λ_=>False) b).M a.M (λ_ _=>id),a.k,a.l,a.n,λd c=>⟨(a.j d c).1.q b,(a.j d c).2.1.q b,(a.j d c).2.2.q b⟩,a.o.T (b.m a.o.size)⟩
def Lo.cells{o wr c h b k l j i}(m:Lo o wr c h b k l j i)(r:b<h):((∃a,ZV wr (J c (b*4))=T a)/\(∃a,ZV wr (J c (b*4+1))=T a)/\(∃a,ZV wr (J c (b*4+2))=T a)/\(∃a,ZV wr (J c (b*4+3))=T a))/\(∀g,YT wr (J c g)=ZZ):=by
 have f:=m.M
 have e:∀d,d<4->∃a,ZV wr (J c (b*4+d))=T a:=λd q=>by rw[World.ownsRow.cellAt f (b*4+d) O];have g:=f.1;exact⟨_,Qd O⟩
 have⟨p,n⟩:=Ac f (k:=c) X;exact⟨⟨e 0 O,e 1 O,e 2 O,e 3 O⟩,λg=>R_ g _ _ n⟩
def Lo.put{l c a q k j h d o}(b:Lo l c a q k j h d o)(p:k<q)(m:B l.1<=a){v}(u:Ad c (B l.1) v.1 (d k).f)(w:Bj c (B l.1) v.2.1 (d k).c)(x:Ad c 0 v.2.2 (An (o k))):Lo l (ZO (ZO (ZO (ZO c (J a (k*4)) (ZR (d k).a)) (J a (k*4+1)) v.1) (J a (k*4+2)) v.2.1) (J a (k*4+3)) v.2.2) a q (k+1) (j.set k (d k)) (h.set k v) d o:=by
 have⟨R,z⟩:=Ac b.M (k:=a) X
 have g:Aa _ c (ZO (ZO (ZO (ZO c _ (ZR (d k).a)) _ v.1) _ v.2.1) _ v.2.2):=
  ((((Aa.refl (λn=>n=a) c).setCell (p:=(J a (k*4))) (λ_=>X) _).setCell (p:=(J a (k*4+1))) (λ_=>X) _).setCell (p:=(J a (k*4+2))) (λ_=>X) _).setCell (p:=(J a (k*4+3))) (λ_=>X) _
 have f:∀{y e N M:H} {P:_} {Q:_},ZD c y e N P M Q->e≠266->∀n,_->¬n=a:=λG D n L e=>Ag G L z D e;refine⟨?_,by rw[length_set];exact b.k,by rw[length_set];exact b.l,λi A=>?_,λi A=>?_,(((b.o.setCell m _).setCell m _).setCell m _).setCell m _⟩;rw[ma j h (by rw[b.k,b.l]) k (b.k ▸ p)];exact(World.ownsRow.stored (World.ownsRow.stored (World.ownsRow.stored (World.ownsRow.stored b.M _ _).1 _ _).1 _ _).1 _ _).1
 ·by_cases e:i=k
  subst e;simp[Z,b.k,p];have:Z (j.set k (d k)) i Sf=Z j i Sf:=(by simp[Z,getElem?_set_ne (show k≠i by omega)]);rw[this];exact b.n i O
 by_cases e:i=k
 subst e;have:Z (h.set i v) i Vl=v:=(by simp[Z,b.l,p]);rw[this];exact⟨g.M u (f u C),g.M w (f w C),g.M x (f x C)⟩;have:Z (h.set k v) i Vl=Z h i Vl:=(by simp[Z,getElem?_set_ne (show k≠i by omega)]);rw[this];have⟨r,s,t⟩:=b.j i O;exact⟨g.M r (f r C),g.M s (f s C),g.M t (f t C)⟩
def Lo.h{k wr j a f g b d}(c:Lo k wr j a a f g b d):ac (B k.1) wr (L_ j a a) g ((range a).map b) ((range a).map d):=by
 have l:f=(range a).map b:=by
  apply ext_getElem;simp[c.k];intro i e h;have:=c.n i w_
  grind
 subst l;have e:F ((range a).map b)=a:=s_;refine⟨by rw[e];exact c.M,by rw[e];exact c.l,λi h=>?_⟩;rw[e] at h;have m:Z ((range a).map b) i Sf=b i:=w_;have n:Z ((range a).map d) i []=d i:=w_;rw[m,n];exact c.j i h
def Bj.e{d e c a}(b:Bj d e c a):Bj d 0 c a:=by
 refine⟨b.1,?_⟩
 rcases b.2 with f|⟨j,g,h,i,k,l⟩
 exact ZM f
 grind
theorem xz{a x}:Gq a x<a.b+2:=by grind [Gq,ES.b,Kz]
def Zmh(a:ZT)(g:ZG)(c e f d:H)(h b:E)(i:H):Prop:=
 (g=Z0/\c=210/\a.1[e]? =T (O_ #[I h] 3)/\a.1[f]? =T (O_ #[I b] 3)/\a.1[d]? =T (O_ #[YX (.func 213) #[] #[]] 261))∨
 (g=ZZ/\c=216/\a.1[e]? =T (O_ #[I b] 3)/\a.1[f]? =T (O_ #[I i] 3)/\a.1[d]? =T (O_ #[YX (.func 218) #[] #[]] 261))
def Jd.b{t K q r s u z k j}{p:H}(x:Jd t K q r s u z k j p):∃w v l n o a,q=YX w #[] v/\r=YX (.func l) #[] #[P_ n,P_ o]/\s=YX (.func 266) #[] #[P_ a]/\Zmh t u l n o a k j p:=by
 rcases x with⟨e,h,i,a,b,c,d,_,_,_,m,f,g⟩|⟨e,A,h,i,a,b,c,d,_,_,_,_,m,f,g,y⟩
 exact⟨_,_,210,h,i,a,b,c,d,ZM ⟨e,X,m,f,g⟩⟩;exact⟨_,_,216,h,i,a,b,c,d,ZJ ⟨e,X,f,g,y⟩⟩
def Zi7(p:U VS->U E->E->E->ES):Prop:=∀j m b k q f g i d c h a,Ky a 0 (V j b k) c->Ck a m b h->F c=b->b<=200->(∀n∈h,0<=n/\n<=99)->(∀e∈c,ZK e.f<=8)->ZV a (J f 0)=T (I i)->ZV a (J g 0)=T (I d)->f<B a.1->g<B a.1->2<=d->d<=16->
 C_ 210 #[V j b k,V m b q,P_ f,P_ g] a λo l=>∃e,o=ZI e/\Wf l (B a.1) e (p c h i d)/\E_ a l
def Cp(e:U VS->U E->E->E->ES)(g:ZG)(d b:E)(f:H)(a:U VS)(c:U E):ES:=if g=Z0 then e a c d b else⟨ZZ,Fb a c b f,[]⟩
def Zbd{g2 K i1}{g6 g4 e5 p c a7 b6 k8:H}{b1 l1 e2 G f d e}(W:H_ e g6 #[L_ e5 (c+1) (c+1),I b6,P_ g4,I k8] 158)(j0:RdM e K i1 g4 e5 p (c+1) b1 l1 e2 G a7 f)(c0:Ja (c+1) f)(c5:c+1<=4)(a3:b6<=20)(j7:(∃b,b<c+1/\b1 b=Z0)->Zi7 g2)(e9:∀b,d b=Cp g2 (b1 b) (e2 b) G a7 (f.a b) f.k)(f8:∀b,b<c+1->Rq (d b)/\(d b).a=b1 b/\(d b).b<=16)(f9:∀b,b<c+1->∀j∈f.a b,(-1000000000<=j.num/\j.num<=1000000000)/\ZK j.f<=8)(c7:∀b3∈f.k,0<=b3/\b3<=99)(j8:2<=a7)(j9:a7<=32)(f3:2<=G)(f4:G<=16):C_ 92 #[P_ g6] e λq h=>∃a,q=ZI (Y7 (T ⟨a,0,ZP⟩))/\B e.1<=a/\Lp (B e.1) h a (Bx c (F f.k) b6 ((range (c+1)).map d) ((range (c+1)).map (λb=>(f.a b).map (Gq (d b)))))/\E_ e h:=by
 obtain⟨n6,n8,n9,n7,a1⟩:=j0;have⟨t,wc,k4,f2,_⟩:=a1.x.e (λb3 a=>p_ (c7 b3 a));subst k4;have a5:=c0.k;have i0:=ZiB e a1.w;have a8:=n_ 0 W;have a9:=n_ 1 W;have g5:=n_ 2 W;have⟨b5,d8,A,R⟩:=y4_ a1 f2 c0.j f8;have d6:∀g:_,(Instr.makeSlice 258 (ZX _ ((c:E)+1)) (ZX _ ((c:E)+1))).run _ g=_:=Zm8 (c+1) c5;have h4:=Y e9;clear W a1 f2 c0 f8 e9;refine dl_ ?_;go_enter func92,ntmps92;go_wp2_with fail
 apply i0.m;rintro q o ⟨rfl,k6⟩;obtain rfl:=k6;go_upto_region 2 with fail;generalize a0:ZN (ZN e (O_ #[V t (F f.k) wc,L_ p (c+1) (c+1)] 250)) (O_ #[V t (F f.k) wc,L_ p (c+1) (c+1)] 250)=o;have b8:E_ e o:=(by rw[<- a0];exact r_.alloc s_ _);have g0:B o.1=B e.1+1+1:=(by rw[<- a0];simp);have j1:H_ o (B e.1+1) #[V t (F f.k) wc,L_ p (c+1) (c+1)] 250:=(by rw[<- a0];exact If s_);have m7:=T_ b8 a8;have b4:=Y g0;clear a0 g0;go_upto_region 3 with fail;rw[b4.out]
 have d5:Hid (Lo e (ZN o (O_ (YV #[ZR ZZ,N_,N_,N_] ((c+1)*4)) 266)) (B e.1+1+1) (c+1) 0 (Y6 (c+1) Sf) (Y6 (c+1) Vl) d (λb=>(f.a b).map (Gq (d b)))):=(by refine⟨?_,s_,s_,λb h=>absurd h (not_lt_zero _),λb h=>absurd h (not_lt_zero _),b8.alloc b8.size _⟩;have i:=ownsRow_lit (base:=0) (size:=4) (e:=266) o (YV #[ZR ZZ,N_,N_,N_] ((c+1)*4)) (c+1) v_ (by unfold Y2;omega) (by simp[YV]);rw[Zm7 c5,b4] at i;exact i);have h9:Hid ((ZN o (O_ (YV #[ZR ZZ,N_,N_,N_] ((c+1)*4)) 266)).1[_]? =_):=(hc_ (by rw[b4];omega)).T j1;generalize (ZN o) (O_ (YV #[ZR ZZ,N_,N_,N_] ((c+1)*4)) 266)=m at *;have⟨m6,l0⟩:=k2_ d5.o a8 a9;go_wp2_with fail
 go_loopw [25] (λh i=>∃(a:H) (e3:U ES) (e6:U (ZY×ZY×ZY)),h=ZX ZQ a/\a<=c+1/\Hid (Lo e i (B e.1+1+1) (c+1) a e3 e6 d (λb=>(f.a b).map (Gq (d b))))/\Hid (H_ i (B e.1+1) #[ZH t (F f.k) wc,ZH (T ⟨p,0,ZP⟩) (c+1) (c+1)] 250)) (λh _=>c+1-ZL (ZA h))
 case atStart=>exact⟨0,_,_,X,v_,d5,h9⟩
 obtain⟨a,e3,e6,rfl,m3,D,S⟩:=hrel;have y:=D.o;have L:=y.size;have j2:=(Qb S).1
 by_cases l:a<c+1
 ·have⟨l7,c3,l8,_,j3⟩:=b5.fs.r;have⟨n2,n3,n4,k1,k2,k3,j5⟩:=j3 a l;have⟨e4,e1,s,N,a6,M,i2,i3,i4,c4⟩:=j5.b;subst i2 i3 i4;have l2:=T_ y ((M_ _ _ _ _ c3).T k1);have l3:=T_ y ((M_ _ _ _ _ c3).T k2);have l4:=T_ y ((M_ _ _ _ _ c3).T k3);have⟨l6,f7,m2,j4⟩:=b5.u;have m0:=(Qb f7).1;have a4:=b5.y a l;have⟨P,d0,c6⟩:=a4.a;rw[A a l] at c6;have l5:=T_ y ((M_ a _ _ _ f7).T ((j4 a l).T (congrArg _ c6)));rw[c6] at a4;have d2:=n_ 1 S;have d1:=n_ 0 S;have d3:=K_ ((R a l).1) ((R a l).2.1)
  have h6:Hid (∀g:ZT,E_ e g->C_ s #[V P (F f.k) d0,V t (F f.k) wc,P_ N,P_ a6] g λq h=>∃j,q=ZI j/\Wf h (B g.1) j (d a)/\E_ g h):=λg k=>by
   have u:Ky g 0 _ _:=(Aa.a (S:=λ_=>False) (k.m x_)).M a4 (λ_ _=>id);have b0:=k.size;rw[h4 a]
   rcases c4 with⟨h,rfl,i,n,_⟩|⟨h,rfl,i,n,_⟩
   unfold Cp;rw[aD h];have v:=(Qb i).1;have w:=(Qb n).1;exact j7 ⟨a,l,h⟩ P t _ _ wc N a6 _ G _ _ g u (d8.q k) (A a l) a5 c7 (λj r=>(f9 a l j r).2) (T_ k (M_ 0 _ 3 _ i)) (T_ k (M_ 0 _ 3 _ n)) O O f3 f4;unfold Cp;rw[aC (by rw[h];decide)];have v:=(Qb i).1;have w:=(Qb n).1;exact Zei P N g u (d8.q k) (A a l) a5 (λj r=>(f9 a l j r).1) c7 j8 j9 f3 f4 (T_ k (M_ 0 _ 3 _ i)) (T_ k (M_ 0 _ 3 _ n)) O O
  have d4:Hid (D_ e M 0 (YX (.func (if(d a).a=Z0 then 213 else 218)) #[] #[])/\M<B e.1):=by
   rw[d3.2]
   rcases c4 with⟨h,_,_,_,i⟩|⟨h,_,_,_,i⟩
   rw[aD h];exact⟨M_ 0 _ _ _ i,(Qb i).1⟩;rw[aC (by rw[h];decide)];exact⟨M_ 0 _ _ _ i,(Qb i).1⟩
  have⟨h8,Q⟩:=Y_ a4 y;have l9:p<B wr.1:=O
  have j6:s=210∨s=216:=by
   rcases c4 with⟨_,h,_⟩|⟨_,h,_⟩
   exact ZM h;exact ZJ h
  have m1:∀d9 g,Sem.run Y8 (callFunc s d9) g=.ok (.enter s d9) g:=by
   rcases j6 with rfl|rfl
   exact enters_of func210 k_ X;exact enters_of func216 k_ X
  go_wp2_with fail
  apply (h6 _ (Q.T (Below.m ((br_ (B wr.1) wr).alloc x_ _) L))).m;rintro q m ⟨g7,rfl,f0,f6⟩;have h5:Hid (Wf m 0 g7 (d a)):=(by obtain⟨r,u,h,i,n⟩:=f0;exact⟨r,u,h,Ad.m i v_,Bj.e n⟩);have i5:Wf m (B e.1) g7 (d a):=by obtain⟨r,u,h,i,n⟩:=f0;have v:B e.1<=(B wr.1+1):=O;exact⟨r,u,h,Ad.m i (by simpa using v),Da n (by simpa using v)⟩
  have⟨v,w,r,x,k5,i6,i7⟩:=i5.a;subst k5;have e8:m.1[B wr.1]? =T (O_ _ 263 _):=(f6.block _ s_).T hn_;have k0:=(Qb e8).1;have d7:=K_ i6 i7;have h2:=Y (r_.T (f6.m s_));go_upto_region 8 with fail;generalize f1:ZN m (O_ #[ZR (d a).a,V v (F (d a).f) w,V r (F (d a).c) x] 170)=z;have b9:E_ m z:=(by rw[<- f1];exact r_);have a2:H_ z (B m.1) #[ZR (d a).a,V v (F (d a).f) w,V r (F (d a).c) x] 170:=(by rw[<- f1];exact hn_);have c2:=(b9.block _ k0).T e8;have d1:=n_ 0 c2;have d2:=n_ 1 c2;have g8:=n_ 2 c2;have g9:=n_ 0 a2;have h0:=n_ 1 a2;have h1:=n_ 2 a2;have k9:=(Qb a2).1;have g3:B wr.1<B z.1:=O
  have m4:B e.1+1+1<B wr.1:=(by have⟨i,h⟩:=Ac D.M (k:=B e.1+1+1) X;exact(Qb h).1);have c8:B wr.1≠B e.1+1+1:=O;have c9:B m.1≠B e.1+1+1:=O;have u:=K_ (h2.T (b9.m O)) b9
  have h3:Hid (∀g:ZT,E_ z g->C_ 156 #[Y9 #[YX e4 #[] e1,YX (.func s) #[] #[P_ N,P_ a6],YX (.func 266) #[] #[P_ M]],Y9 #[ZR (d a).a,V v (F (d a).f) w,V r (F (d a).c) x],V P (F f.k) d0] g λi h=>∃j,i=ZI j/\Ad h (B g.1) j ((f.a a).map (λb2=>(Gq (d a) b2:H)))/\E_ g h):=λg k=>by have i:=u.2.T (k.m O);have n:=(Q.T (u.1.m L)).T (k.m O);have b0:=k.size;exact Zjp 0 M P d0 g (h5.q i) d3.1 ((Aa.a (S:=λ_=>False) n).M h8 (λ_ _=>id)) (A a l) a5 ⟨_,_,X⟩ ⟨_,_,X⟩ (T_ n d4.1) (p_ d4.2)
  go_region_held3 (λh=>D_ h (B wr.1) 0 (YX e4 #[] e1)/\D_ h (B wr.1) 1 (YX (.func s) #[] #[P_ N,P_ a6])/\D_ h (B wr.1) 2 (YX (.func 266) #[] #[P_ M])/\D_ h (B m.1) 0 (ZR (d a).a)/\D_ h (B m.1) 1 (V v (F (d a).f) w)/\D_ h (B m.1) 2 (V r (F (d a).c) x)) (first|(with_reducible exact⟨(Mv 0 c8).T s0,(Mv 1 c8).T s1,(Mv 2 c8).T s2,(Mv 0 c9).T a8,(Mv 1 c9).T a9,(Mv 2 c9).T g5⟩)|(exact⟨X_ d1,X_ d2,X_ g8,X_ g9,X_ h0,X_ h1⟩)) (first|(go_at_call 156;apply (h3 _ bw_).m;rintro q b0 ⟨n5,rfl,c1,f5⟩;have h:E_ z b0:=bt_ bw_ f5;have m5:=h.size;have s0:=T_ h d1;have s1:=T_ h d2;have s2:=T_ h g8;have a8:=T_ h g9;have a9:=T_ h h0;have g5:=T_ h h1;obtain⟨⟨⟨m8,o0⟩,⟨m9,o1⟩,⟨n0,o2⟩,⟨n1,o3⟩⟩,n⟩:=(λg k=>(D.q (u.1.T (k.m O))).cells l) b0 h;have o4:=n (a*4);have o5:=n (a*4+1);have o6:=n (a*4+2);have o7:=n (a*4+3);clear n;obtain⟨e0,b7,g1⟩:=c1.d;rw[length_map] at g1;subst g1;have h7:=Y (Ad.m c1 v_);clear f5 c1))
  have e7:=u.2.T (h.m (Nat.le_of_lt k9))
  have i9:=(D.q (u.1.T (h.m (Nat.le_of_lt g3)))).put l O (v:=(V _ _ _,V r _ _,V _ _ b7)) (d7.1.q e7) (d7.2.q e7) (by
   have i:An ((f.a a).map (Gq (d a)))=(f.a a).map (λb2=>((Gq (d a) b2:H):E)):=(by simp[An]);rw[i]
   exact h7)
  have b2:Hid ((ZO (ZO (ZO (ZO b0 (J (B e.1+1+1) (a*4)) (ZR (d a).a)) (J (B e.1+1+1) (a*4+1)) (V v (F (d a).f) w)) (J (B e.1+1+1) (a*4+2)) (V r (F (d a).c) x)) (J (B e.1+1+1) (a*4+3)) (V e0 (F (f.a a)) b7)).1[B e.1+1]? =T (O_ #[V t (F f.k) wc,L_ p (c+1) (c+1)] 250)):=by have i:=λg k7 j=>Below.heap_setCell g (J (B e.1+1+1) k7) j _ (by show B e.1+1≠B e.1+1+1;omega);show _=_;rw[i,i,i,i];exact((u.1.T (h.m (Nat.le_of_lt g3))).block _ j2).T S
  have i:=Y i9;generalize (ZO (ZO (ZO (ZO b0 (J (B e.1+1+1) (a*4)) (ZR (d a).a)) (J (B e.1+1+1) (a*4+1)) (V v (F (d a).f) w)) (J (B e.1+1+1) (a*4+2)) (V r (F (d a).c) x)) (J (B e.1+1+1) (a*4+3)) (V e0 (F (f.a a)) b7))=k7 at *;go_wp2;go_roundw;case rel=>exact⟨a+1,_,_,g_,O,i,b2⟩
  case measure=>exact z_
 have w:a=c+1:=O;have i:=D.out;rw[w] at i;have l0:=T_ i.o a9
 have k:∀b,b<c+1->Z ((range (c+1)).map d) b Sf=d b:=λb h=>by simp[Z,h]
 have n:∀b,b<c+1->Z ((range (c+1)).map (λb=>(f.a b).map (Gq (d b)))) b []=(f.a b).map (Gq (d b)):=λb h=>by simp[Z,h]
 have s:em c (F f.k) ((range (c+1)).map d) ((range (c+1)).map (λb=>(f.a b).map (Gq (d b)))):=(by refine⟨s_,λb h=>?_,λb h=>?_,λb h=>?_,λb h r a3=>?_⟩;rw[n b h,length_map];exact A b h;rw[k b h];exact(R b h).1;rw[k b h];exact(R b h).2.2;rw[n b h] at a3;rw[k b h];obtain⟨b2,_,rfl⟩:=mem_map.1 a3;exact xz);have d6:=ZkN c c5 a5 a3 L i.h s;have Q:=Y i.o;go_wp2_with fail
 apply d6.m;rintro q z ⟨rfl,u,v⟩;have r:=K_ u (Q.T (v.m L));go_wp2;go_ret;exact⟨_,X,L,r⟩
def yg{b} e d a (c:Vo a b Z0 e d):C_ 50 #[P_ b] a (V_ (Y5 #[Y7 ZP,ZX ZQ 1,ZX ZQ 0]) a):=by
 have f:=n_ 1 c;refine dl_ ?_;go_enter func50,ntmps50;go_wp2;apply bodyPost_ret (v:=Y5 #[Y7 ZP,I 1,I 0]) (by simp[results,results50,go_sem]) X
 grind
def Za4{e} b a d (c:Vo d e ZZ b a)(g:b=2∨b=3):C_ 50 #[P_ e] d λf i=>f=ZI (Y5 #[Y7 ZP,ZX ZQ b,ZX ZQ a])/\∃h,i=Y1 d h:=by
 have f:=n_ 1 c;have h:=n_ 2 c;have i:=n_ 3 c
 rcases g with rfl|rfl
 all_goals go_enter func50,ntmps50
 all_goals go_wp2_with fail
 all_goals go_big_quiet (fail)
 all_goals go_wp2
 ·apply bodyPost_ret (v:=Y5 #[Y7 ZP,I 2,I a]) (by simp[results,results50,go_sem]) X
  grind
 apply bodyPost_ret (v:=Y5 #[Y7 ZP,I 3,I a]) (by simp[results,results50,go_sem]) X
 grind
def ki(d b:ZT)(a:H):Prop:=Vo b a Z0 0 0/\Aa (λc=>c=a) d b
structure Pi(b:ZT)(d a:H)(c):Prop where
 f:b.1[d]? =T (O_ #[P_ a] 110)
 g:ZnL b a c
structure xq(a)(d:ZT)(c b:H)(e):Prop where
 f:d.1[c]? =T (O_ #[P_ b] 110)
 g:Lp a d b e
 h:a<=c
 r:a<=b
section
variable {w:ZT} {K M:H->Prop} {a c rb fb cb m:H} {wd:H->ZG} {sc ct:H->E} {bins:E} {size budget:H} {s:RS} {b:H}
def InX.d(e:InX w K M a c rb fb cb (m+1) wd sc ct bins size budget s b):Aa (λd=>d=a) w (ZO (ZO w (J a 1) (ZR Z0)) (J a 0) (Y7 ZP))/\Vo (ZO (ZO w (J a 1) (ZR Z0)) (J a 0) (Y7 ZP)) a Z0 0 0:=
 ⟨((Aa.refl (λd=>d=a) w).setCell (p:=(J a 1)) (λ_=>X) _).setCell (p:=(J a 0)) (λ_=>X) _,hs_ _ a 0 _ 119 _ (hs_ _ a 1 _ 119 _ e.q)⟩
def ZdE(d:InX w K M a c rb fb cb (m+1) wd sc ct bins size budget s b)(o:s.g≠0):C_ 50 #[P_ a] w λf e=>f=ZI (Y5 #[Y7 ZP,ZX ZQ 2,ZX ZQ b])/\ki w e a:=by
 have⟨g,k⟩:=d.d;have r:=n_ 0 d.q;have t:=n_ 1 d.q;have u:=n_ 2 d.q;have p:=R_ 0 _ _ d.q;have q:=R_ 1 _ _ d.q;have i:=g.g d.r (λf=>d.o f.s);have⟨y,A,L,z,j⟩:=d.w.p g (λh e f=>by rw[f] at e;exact e.elim d.t.1 d.t.2);have h:=wx j.w;have l:ZE (s.g=0)=ZZ:=(by simp[o]);rw[l] at h;have e:Hid (ki w _ _):=⟨k,g⟩;have v:=n_ 2 i;have x:=n_ 3 i;refine dl_ ?_;go_enter func50,ntmps50;go_upto_region 7 with fail;generalize (ZO (ZO w (J a 1) (ZR Z0))) (J a 0) (Y7 ZP)=D at *;go_wp2_with fail
 apply h.m;rintro f G ⟨rfl,n⟩;obtain rfl:=n.s;go_wp2_with fail
 go_big_quiet (fail);go_wp2;apply bodyPost_ret (v:=Y5 #[Y7 ZP,I 2,I (b:H)]) (by simp[results,results50,go_sem]) X;exact⟨X,e.1,⟨e.2.os,e.2.tape,e.2.output,e.2.size,e.2.block⟩⟩
def yh A f (e:InX w K M a c rb fb cb (m+1) wd sc ct bins size budget s b)(b3:s.g=0)(S:Ja (m+1) s)(a6:m+1<=4)(a0:budget<=20)(a5:(∃d,d<m+1/\wd d=Z0)->Zi7 A)(R:∀d,f d=Cp A (wd d) (ct d) bins size (s.a d) s.k)(a7:∀d,d<m+1->Rq (f d)/\(f d).a=wd d/\(f d).b<=16)(a8:∀d,d<m+1->∀q∈s.a d,(-1000000000<=q.num/\q.num<=1000000000)/\ZK q.f<=8)(b4:∀D∈s.k,0<=D/\D<=99)(a9:2<=size)(b0:size<=32)(a1:2<=bins)(a2:bins<=16):C_ 50 #[P_ a] w λh j=>∃i g,h=ZI (Y5 #[Y7 (T ⟨i,0,ZP⟩),ZX ZQ 0,ZX ZQ 0])/\xq (B w.1) j i g (Bx m (F s.k) budget ((range (m+1)).map f) ((range (m+1)).map (λd=>(s.a d).map (Gq (f d)))))/\ki w j a:=by
 have⟨p,a3⟩:=e.d;have c2:=n_ 0 e.q;have c3:=n_ 1 e.q;have c4:=n_ 2 e.q;have b9:=R_ 0 _ _ e.q;have c0:=R_ 1 _ _ e.q;have v:=p.g e.r (λh=>e.o h.s);have o:=e.w.p p (λi g h=>by rw[h] at g;exact g.elim e.t.1 e.t.2);have r:=Zbd v o S a6 a0 a5 R a7 a8 b4 a9 b0 a1 a2;obtain⟨c6,c8,d1,c7,o⟩:=o;have t:=wx o.w;have a4:ZE (s.g=0)=Z0:=(by simp[b3]);rw[a4] at t;have n:Hid (ki w _ _):=⟨a3,p⟩;have c5:=n_ 2 v;refine dl_ ?_;go_enter func50,ntmps50;go_upto_region 7 with fail;generalize (ZO (ZO w (J a 1) (ZR Z0))) (J a 0) (Y7 ZP)=c9 at *;have⟨G,u⟩:=W_ (Bx m (F s.k) budget ((range (m+1)).map f) ((range (m+1)).map (λd=>(s.a d).map (Gq (f d)))));rw[<- u] at r;have L:=Y u;go_wp2_with fail
 apply t.m;rintro h d0 ⟨rfl,b2⟩;obtain rfl:=b2.s;go_wp2_with fail
 apply r.m;rintro h i ⟨g,rfl,c1,W,x⟩;have k:=n.2.size;have b1:=x.size;have N:Hid (xq (B w.1) (ZN i (O_ #[P_ g] 110)) (B i.1) g G/\ki w (ZN i (O_ #[P_ g] 110)) a):=(by have y:Below _ _ (ZN i (O_ #[P_ g] 110)):=x.alloc b1 _;refine⟨⟨hn_,?_,O,O⟩,?_,n.2.q y⟩;obtain⟨b7,b6,b8,b5,Q,P,e⟩:=W;have z:Below _ _ (ZN i (O_ #[P_ g] 110)):=r_;exact⟨b7,b6,b8,b5,Q,P,(e.v.m k).q z,(e.w.m k).q z,e.n,e.l,λl j=>aG k (e.o l j),λl j=>aG k (e.x l j),λl j=>aG k (e.p l j)⟩;exact(y.block _ (Qb n.1).1).T n.1);go_wp2;apply bodyPost_ret (v:=Y5 #[P_ (B i.1),I 0,I 0]) (by simp[results,results50,go_sem]) X;rw[<- L];exact⟨_,_,X,N⟩
end
def Ei(c:ZT)(b:ZY)(e:ZT)(d:ZY):Prop:=Aa (λa=>ZW b=T a) c e/\∀a,ZW d=T a->ZW b=T a∨B c.1<=a
def Ei.refl{b a}:Ei b a b a:=⟨Aa.refl _ _,λ_ c=>ZM c⟩
def Ei.T{i j k f g h}(a:Ei i f j g)(e:Ei j g k h):Ei i f k h:=by
 refine⟨a.1.c e.1 (λb c=>a.2 b c),λb c=>?_⟩
 rcases e.2 b c with d|d
 exact a.2 b d;have:=a.1.size;omega
def Ei.b{d e f v c}(a:E_ d e)(b:Ei e v f c):Ei d v f c:=
 ⟨(Aa.a a).T b.1,λi h=>(b.2 i h).imp id (λg=>aG a.size g)⟩
def Ei.a{a e c d b}(g:Y3 a e (ZW c))(i:ZW d=ZW c∨ZW d=Z2 b/\Below b a e)(j:B a.1<=b):Ei a c e d:=by
 refine⟨(Aa.refl _ a).grown g (λh f _=>f),λh f=>?_⟩
 grind
def ZaD(g:ZT)(f:ZY)(c e:U E)(d:Ending)(b:ZT):Prop:=∃a,d=ZI a/\Az b 0 a (c++e)/\Ei g f b a
def Az.P{e c d a b n}(f:ZD e c 5 1 d (F a+n) (a.map (ZX .u8)++b.map (ZX .u8)))(g:F b=n):Az e c d (a++b):=by grind [Az]
def Tu:H->E->E
 |0,a=>a
 |b+1,a=>Tu b a/256
def Ba(b:E):H->U E
 |0=>[]
 |a+1=>Ba b a++[Tu a b%256]
theorem Dr b:∀a,F (Ba b a)=a
 |0=>X
 |a+1=>by simp[Ba,Dr b a]
def Zgx{b}(c: -1000000000000<=b)(d:b<=1000000000000):∀a,-1000000000000<=Tu a b/\Tu a b<=1000000000000
 |0=>⟨c,d⟩
 |a+1=>by have:=Zgx c d a;unfold Tu;omega
def Ou e f d {b} c {j}(u:Az j 0 (V e (F b) f) b)(Q:d<=8)(R:F b<=1000000)(i: -1000000000000<=c)(v:c<=1000000000000):C_ 102 #[V e (F b) f,I c,I (d:H)] j λa g=>ZaD j (V e (F b) f) b (Ba c d) a g:=by
 have⟨p,q⟩:=Y_ u (Zgx i v);refine q_ ?_;go_wp2_with fail
 go_loopw [0,1,8] (λn m k l=>∃(a:H) (g:Y0 Addr) (h:H),n=ZH g (F b+a) h/\m=ZX ZQ (Tu a c)/\k=ZX ZQ a/\a<=d/\K (Az l 0 (ZH g (F b+a) h) (b++Ba c a)/\Ei j (ZH e (F b) f) l (ZH g (F b+a) h))) (λ_ _ k _=>d-ZL (ZA k))
 exact⟨0,e,f,X,X,X,v_,by show Az _ _ _ (b++[])/\_;rw[append_nil];exact⟨p,Ei.refl⟩⟩;obtain⟨a,g,h,rfl,rfl,rfl,N,k⟩:=hrel
 by_cases P:a<d
 ·have M:=q a;have m:K (Tu (a+1) c=_/_/\b++Ba c (a+1)=_):=⟨X,(append_assoc _ _ _).s⟩;have l:K (F (b++Ba c a)=F b+a):=(by show _=_;rw[Qe,Dr]);generalize Tu a c=A at *;have r:K (ZD wr 0 5 1 (V g (F b+a) h) (F b+a) ((b++Ba c a).map (ZX .u8))):=(by have i:=k.1;unfold Az at i;rw[l] at i;exact i);generalize b++Ba c a=G,w:F b+a=L at *;go_wp2_with (at_builtin;refine ap_ [ZX .u8 (A%256)] (r.alloc _) ?_)
  rintro n o ⟨z,t,s,_,S,y,x⟩;have D:K (Az o 0 n (b++Ba c (a+1))/\Ei j (V e (F b) f) o n):=(by refine⟨?_,k.2.T (Ei.b r_ (Ei.a t s s_))⟩;rw[m.2];refine Az.P (n:=1) ?_ X;rw[l];exact z);subst x;refine J_ ?_;exact⟨a+1,T _,y,by rw[<- w];rfl,by rw[m.1],g_,O,w_⟩
 have m:¬a<(d:E):=O;have l:a=d:=O;subst l;go_wp2;go_ret;exact⟨_,X,k⟩
def Zba(a:E):E:=if(bits .and .u32 a 1==1)=Z0 then bits .xor .u32 (a/2) 3988292384 else a/2
def gz:H->E->E
 |0,a=>a
 |b+1,a=>Zba (gz b a)
def rx(b a:E):E:=gz 8 (bits .xor .u32 b a)
def Zg5(a:U E):E:=a.foldl rx 4294967295
def Gy(a:U E):E:=bits .xor .u32 4294967295 (Zg5 a)
def Qp a x b:0<=bits a .u32 x b/\bits a .u32 x b<4294967296:=by unfold bits;simp only[wrap];constructor;exact Int.emod_nonneg _ C;exact Int.emod_lt_of_pos _ C
def ZmC{a}(b:0<=a/\a<4294967296):0<=Zba a/\Zba a<4294967296:=by unfold Zba;split;exact Qp _ _ _;omega
def yl{b}(c:0<=b/\b<4294967296):∀a,0<=gz a b/\gz a b<4294967296
 |0=>c
 |a+1=>ZmC (yl c a)
def ZfK:∀(b:U E) (a:E),0<=a/\a<4294967296->0<=b.foldl rx a/\b.foldl rx a<4294967296
 |[],_,d=>d
 |c::b,a,_=>ZfK b (rx a c) (yl (Qp _ _ _) 8)
def Az.b{a h e b i d}(g:Az a h (V e b i) d)(n:F d=b){k}(s:k<b):∃c,e=T ⟨c,0,ZP⟩/\c<B a.1/\ZV a (J c k)=T (ZX .u8 (Z d k 0)):=by
 subst n;have l:=g
 rcases l.2 with⟨f,r⟩|⟨j,p,q,f,_,m,t,_⟩
 omega;injection f with e1 e2 e3;subst e1;refine⟨j,X,(Qb m).1,?_⟩;have o:ZD a _ 5 1 _ _ _:=g;rw[World.ownsRow.cellAt o k O]
 grind
def yf y z {a m}(A:Az m 0 (V y (F a) z) a)(R:F a<=1000000)(j:∀i∈a,0<=i/\i<256):C_ 103 #[V y (F a) z] m (V_ (ZX .u32 (Gy a)) m):=by
 have⟨u,M⟩:=Y_ A j;clear A j;have⟨l,q⟩:=W_ (F a);have o:=Y q.s;rw[<- q] at u R ⊢;clear q;refine q_ ?_;go_wp2_with fail
 go_loopw [9,3] (λf n c=>∃(b:H) (e:E),f=ZX ZQ b/\n=ZX .u32 e/\b<=l/\K (e=(ZU b a).foldl rx 4294967295)/\K (m=c)) (λf _ _=>l-ZL (ZA f))
 exact⟨0,4294967295,X,X,v_,X,X⟩;obtain⟨b,e,rfl,rfl,a9,h,k⟩:=hrel;have r:=k.out;subst r;clear k;have L:0<=e/\e<4294967296:=h ▸ (ZfK _ _ C)
 by_cases G:b<l
 ·have⟨b2,P,b0,a1⟩:=u.b o G;subst P;have D:b<F a:=o ▸ G;have p:Z a b 0=a[b]:=w_
  have v:K ((ZU (b+1) a).foldl rx 4294967295=gz 8 (bits .xor .u32 e (Z a b 0))):=(by show _=_;rw[Qi D,foldl_append,<- h,p];rfl);have Q:0<=Z a b 0/\Z a b 0<256:=p ▸ (M _ (Qf _));clear p h D;generalize (Z a) b 0=i at *;obtain⟨_⟩:=L;obtain⟨a5,a6⟩:=Q;have a0:=F_ b l;have s:=Qp .xor e i;go_wp2_with fail
  generalize bits .xor .u32 e i=g at *;have N:=Y s;clear s;go_loopw [17,3] (λf n t=>∃(d:H) (c:E),f=ZX ZQ d/\n=ZX .u32 c/\d<=8/\K (c=gz d g)/\K (m=t)) (λf _ _=>8-ZL (ZA f))
  exact⟨0,g,X,X,v_,X,X⟩;obtain⟨d,c,rfl,rfl,a7,f,k⟩:=hrel;have r:=k.out;subst r;clear k;have S:0<=c/\c<4294967296:=f ▸ (yl N d);obtain⟨_⟩:=S
  by_cases a8:d<8
  ·have W:(d:E)<8:=O;have s:=Qp .xor (c/2) 3988292384;have b1:=Qp .and c 1;have w:K (gz (d+1) g=if(bits .and .u32 c 1==1)=Z0 then bits .xor .u32 (c/2) 3988292384 else c/2):=(by show Zba (gz d g)=_;rw[<- f];rfl);generalize a2:bits .and .u32 c 1=t,a3:bits .xor .u32 (c/2) 3988292384=x at *
   by_cases j:(t==1)=Z0
   ·have n:K (x=gz (d+1) g):=w_;clear w f;refine J_ ?_;exact⟨d+1,x,g_,X,O,n,True.intro⟩
   have a4:(t==1)=ZZ:=by simpa using j
   have n:K (c/2=gz (d+1) g):=w_;clear w f j;refine J_ ?_;exact⟨d+1,c/2,g_,X,O,n,True.intro⟩
  have w:¬(d:E)<8:=O;have t:d=8:=O
  have n:K (c=(ZU (b+1) a).foldl rx 4294967295):=(by show _=_;rw[v,<- t];exact f);clear t f v;refine J_ ?_;exact⟨b+1,c,g_,X,O,n,True.intro⟩
 have d:¬b<(l:E):=O;have c:ZU b a=_:=aI (p_ o.out);have n:K (e=Zg5 a):=(by have:=h.out;rw[c] at this;exact this);clear c h;obtain⟨_⟩:=L;go_wp2;go_ret;unfold Gy;rw[<- n];exact⟨X,X⟩
def hh{f h b4 a9 d i j a b}(p:Oo b 0 f h b4 a9 d)(A:Az b 0 (V i (F a) j) a)(N:ZW (ZH i (F a) j)≠T h)(b0:0<F d)(c3:F d<=1000)(c2:F a<=1000000):C_ 374 #[P_ f,V i (F a) j] b λc k=>ZaD b (V i (F a) j) a (100::d) c k:=by
 have⟨t,m,a6⟩:=y3_ A p N;have w:=n_ 2 p.r;have c1:=(Qb p.r).1;have⟨a0,M,R,S,W⟩:=info_parts Zf3;clear A p N;generalize L:F a=e,P:F d=g at *;have l:=K_ L P;clear L P;refine q_ ?_;go_upto_region 1 with fail;refine Af (λk=>ZV k _=T _) 8 k_ w (λhHeld=>?_);refine G_ ?_;refine G_ ?_;refine G_ ?_;refine G_ ?_;refine G_ ?_;refine on_ 1 λKK hK=>?_;go_simp;refine hK _ _ (X_ w) (λhHeld=>?_);clear hK KK;try simp only[Act.put,sA,sB,sC]
 refine on_ 2 λKK hK=>?_;have Q:ZD b 0 5 1 (V i e j) e (a.map (ZX .u8)):=(by have c:=t.out;unfold Az at c;rw[l.1] at c;exact c);apply Kn X _ _ 66 X 0 5 a0 _ 1 1 underlying66 M R S W X C _ e _ j_ (ra_ (w:=YY b) Q _) _ 1 1 [ZX .u8 100] j_ X (one_new _ _ 5) (by intro y k;simp at k;rcases k with rfl;rfl) C (by unfold Y2;omega) O s_;rintro c6 b7 ⟨a3,z,x,_,a2,a1,b1⟩;have G:E_ b (ZN (YY b) (O_ #[ZX .u8 100] 5)):=((br_ _ b).drew).alloc x_ _;have o:=Ei.b G (Ei.a z x x_);have r:=o.1.g m.r (λc=>Ag Q c m.r C X);have D:Az _ 0 _ _:=o.1.M m.M (λb3 k c=>a6 (by simp[ZW] at k;rw[k];exact c))
 have v:ZV b7 (J f 2)=T (L_ h g g):=(by have c:=n_ 2 r;rw[l.2] at c;exact c);have⟨q,a7,u⟩:=y3_ o D a3;subst b1;clear a3 z x G o r D;refine hK _ _ v (λhHeld=>?_);clear hK KK;try simp only[Act.put,sA,sB,sC]
 refine on_ 7 λKK hK=>?_
 refine Kn X (.tmp 7) (.tmp 11) 66 X 0 5 a0 (ZX .u8 0) 1 1 underlying66 M R S W X C (L_ a2 (e+1) a1) (e+1) (a.map (ZX .u8)++[ZX .u8 100]) j_ u.out ⟨h,0,ZP⟩ g g (d.map (ZX .u8)) j_ (by rw[length_map,l.out.2,Nat.mul_one]) (λn y k=>by
  have c:=a7.out;unfold Az at c;have a8:n<F d:=w_;have a4:=World.ownsRow.cellAt c n O;rw[k] at a4
  have a5:((J h 0):Addr).add n=(J h n):=by
   by_cases s:n=0
   subst s;rfl;simp[Addr.add,s]
  grind) (by intro y k;obtain⟨n,_,rfl⟩:=mem_map.1 k;rfl) b0 (by unfold Y2;omega) O v_ ?_
 rintro a4 s ⟨b5,n,y,_,c5,c4,b2⟩
 have a5:K (Az s 0 a4 (a++100::d)/\Ei b (V i e j) s a4):=by
  refine⟨?_,q.T (Ei.a n y x_)⟩;unfold Az;have c:F (a++100::d)=e+1+g:=by rw[Qe,length_cons,l.1,l.2];omega
  grind
 have a8:ZV s (J f 2)=T (L_ h g g):=by
  have b6:=(Aa.refl _ _).grown n (λb3 k _=>k)
  have k:¬ZW (L_ a2 (e+1) a1)=T f:=λc=>by
   have⟨b8,c0⟩:=Ac u c
   have r:=q.1.g m.r (λc=>by
    have⟨b3,b9⟩:=Ac t c;have:=m.r
    grind)
   grind
  rw[cb_ (a:=(J f 2)) (b6.block f (p_ q.1.size) k)];exact v
 subst b2;clear b5 n y;refine hK _ _ a8 (λhHeld=>?_);clear hK KK;try simp only[Act.put,sA,sB,sC]
 refine le_ ?_;go_wp2;go_ret;exact⟨_,X,a5⟩
def Bh(b:U (H×H))(a:H):E:=if a=0 then -1 else(Z b (a-1) (0,0)).1
def Sd(a:U (H×H)):H->U E
 |0=>[]
 |b+1=>Sd a b++[((Z a b (0,0)).1-Bh a b)%256,(Z a b (0,0)).2%256]
theorem Om{b}:∀a,F (Sd b a)=a*2
 |0=>X
 |a+1=>by simp[Sd,Om a];omega
def Sj(a:U (H×H)):U E:=[115,(F a:E)%256]++Sd a (F a)
def uj:∀(c:U (H×H)) (b:H),b<F c->∀a,a<2->(Td c)[b*2+a]? =(Su (Z c b (0,0)))[a]?
  |[],b,d=>by simp at d
  |f::c,0,_=>λa e=>by grind [Td,Su]
  |f::c,b+1,d=>λa e=>by simp only[Td];rw[getElem?_append_right (by simp[Su];omega),show(b+1)*2+a-F (Su f)=b*2+a by simp[Su];omega];exact uj c b (by simpa using d) a e
def Xp.b{c l f m a}(i:Xp c l (V f (F a) m) a){k}(p:k<F a):∃d,f=T ⟨d,0,ZP⟩/\d<B c.1/\ZV c (J d (k*2))=T (I (Z a k (0,0)).1)/\ZV c (J d (k*2+1))=T (I (Z a k (0,0)).2):=by
 have n:=i
 rcases n.2 with⟨g,v⟩|⟨h,t,u,g,_,o,w,_⟩
 omega;injection g with e1 e2 e3;subst e1;have r:ZD c _ _ 2 _ _ _:=i
 have j:∀b e,b<2->(Su (Z a k (0,0)))[b]? =T e->ZV c (J h (k*2+b))=T e:=λb e q s=>by rw[World.ownsRow.cellAt r (k*2+b) O];exact(uj a k p b q).T s
 exact⟨h,X,(Qb o).1,j 0 _ O X,j 1 _ O X⟩
def dx D {b7 R d5 b} h j c f (m:ku f 0 D b7 R d5 b)(z:Az f 0 (V h (F c) j) c)(e3:F b<=1000)(b3:∀x∈b,x.1<=1000/\x.2<=1000)(e7:F c<=1000000):C_ 370 #[P_ D,V h (F c) j] f λl a=>ZaD f (V h (F c) j) c (Sj b) l a:=by
 have⟨d9,q,L⟩:=y3_ z m b3;have⟨P,Q,d3⟩:=m.M.d;subst d3;have c7:=n_ 2 m.r;have s:K _:=z;have c4:K (Sj b=_++_):=rfl;clear z m b3;generalize a5:F c=e,b2:F b=d at *;have p:=K_ a5 b2;clear a5 b2;refine q_ ?_;go_wp2_with (at_builtin;refine ap_ [ZX .u8 115,ZX .u8 ((d:E)%256)] (s.alloc _) ?_)
 rintro f5 d6 ⟨b8,a0,W,_,f3,f1,d1⟩;have A:=Ei.b r_ (Ei.a a0 W s_);have a1:Az _ 0 _ (_++[_,_]):=Az.P (n:=2) (p.1 ▸ b8) X;subst d1
 have M:K (∀v c0,Ei f (V h e j) v c0->ku v 0 D b7 R (V P d Q) b):=λv c0 a2=>by refine⟨a2.1.g q.r (λl=>Ag s l q.r C X),a2.1.M q.M (λa b0 l=>?_)⟩;have⟨i,g⟩:=Ac q.M b0;exact Ag s l g C X
 have r:=K_ A a1;have c6:ZV d6 _=T (V _ _ _):=M_ 2 _ _ _ (M _ _ A).r;clear b8 a0 W A a1 c7;go_wp2_with fail
 go_loopw [1,5,22] (λo n g l=>∃(a:H) (i:Y0 Addr) (k:H),o=ZH i (e+2+a*2) k/\n=ZX ZQ (Bh b a)/\g=ZX ZQ a/\a<=d/\K (Az l 0 (ZH i (e+2+a*2) k) (c++[115,(d:E)%256]++Sd b a)/\Ei f (ZH h e j) l (ZH i (e+2+a*2) k))) (λ_ _ g _=>d-ZL (ZA g))
 exact⟨0,_,_,X,X,X,v_,by show Az _ _ _ (_++[])/\_;rw[append_nil];exact⟨r.2,r.1⟩⟩;clear r c6;obtain⟨a,i,k,rfl,rfl,rfl,b0,g⟩:=hrel
 by_cases c9:a<d
 ·have m:=M _ _ g.2;have b1:a<F b:=p.2 ▸ c9;have b5:=m.M;have b6:Xp wr 0 (V P (F b) Q) b:=p.2 ▸ b5;have⟨f2,d0,e8,d7,d8⟩:=b6.b b1;subst d0;have a9:Z b a (0,0)=b[a]:=w_;have b4:=L _ (Qf b1);rw[<- a9] at b4;have u:K (c++[115,(d:E)%256]++Sd b (a+1)=(c++[115,(d:E)%256]++Sd b a)++[((Z b a (0,0)).1-Bh b a)%256,(Z b a (0,0)).2%256]/\Bh b (a+1)=(Z b a (0,0)).1):=⟨by simp[Sd],by simp[Bh]⟩
  have c8: -1<=Bh b a/\Bh b a<=1000:=by
   unfold Bh;split;omega;have n:a-1<F b:=O;have l:Z b (a-1) (0,0)=b[a-1]:=w_;have o:=(L _ (Qf n)).1
   grind
  have G:K (F (c++[115,(d:E)%256]++Sd b a)=e+2+a*2):=(by show _=_;rw[Qe,Qe,Om,p.1];rfl);have t:K (ZD wr 0 5 1 (V i (e+2+a*2) k) (e+2+a*2) ((c++[115,(d:E)%256]++Sd b a).map (ZX .u8))):=(by have l:=g.1;unfold Az at l;rw[G] at l;exact l);generalize c++[115,(d:E)%256]++Sd b a=e0,Bh b a=w at *;obtain⟨e9,f0⟩:=b4;obtain⟨e4,e5⟩:=c8;clear a9 b5 b6 m;generalize (Z b a (0,0)).1=n,(Z b a (0,0)).2=o,a6:e+2+a*2=N at *;have c3:=Y a6;have e6:N<=1002002:=O;clear a6;have e1:=F_ a d;go_wp2_with (at_builtin;refine ap_ [ZX .u8 (((n:E)-w)%256),ZX .u8 ((o:E)%256)] ((t.alloc _).alloc _) ?_)
  rintro c1 c2 ⟨b9,y,S,_,f4,d4,d2⟩;have a8:Below _ wr (ZN (ZN wr (O_ #[I (n:H),I (o:H)] 405)) (O_ #[ZX .u8 (((n:E)-w)%256),ZX .u8 ((o:E)%256)] 5)):=r_.alloc s_ _;have a4:(ZN (ZN wr (O_ #[I (n:H),I (o:H)] 405)) (O_ #[ZX .u8 (((n:E)-w)%256),ZX .u8 ((o:E)%256)] 5)).1[B wr.1]? =_:=(hc_ s_).T hn_
  have a3:=(y.block _ t_ (λl=>by
   have:=(B_ t _ l.s).2
   omega)).T a4
  have e2:=n_ 0 a3;have l:K (Az c2 0 c1 (c++[115,(d:E)%256]++Sd b (a+1))/\Ei f (V h e j) c2 c1):=(by refine⟨?_,g.2.T (Ei.b a8 (Ei.a y S s_))⟩;rw[u.1];refine Az.P (n:=2) ?_ X;rw[G];exact b9);subst d2;have c5:=Y u.2;clear b9 y S t g a8 a4 a3 u d7 d8;have a7:N+2=e+2+(a+1)*2:=p_ c3.out;rw[a7] at l ⊢;clear a7;refine J_ ?_;exact⟨a+1,T _,d4,X,by rw[c5],g_,O,l⟩
 have t:¬a<(d:E):=O;have o:a=d:=O
 have n:K (Az wr 0 (V i (e+2+a*2) k) (c++Sj b)/\Ei f (V h e j) wr (V i (e+2+a*2) k)):=by
  refine⟨?_,g.2⟩;rw[c4,<- append_assoc];have l:=g.1
  grind
 clear o g;go_wp2;go_ret;exact⟨_,X,n⟩
def ay{j m a3 z e f g a b}(r:Oo b 0 j m a3 z e)(M:Az b 0 (V f (F a) g) a)(S:ZW (ZH f (F a) g)≠T m)(W:F e=0)(a7:F a<=1000000):C_ 374 #[P_ j,V f (F a) g] b λc k=>ZaD b (V f (F a) g) a (100::e) c k:=by
 have⟨v,i,y⟩:=y3_ M r S;have q:=n_ 2 r.r;generalize R:F a=d,a1:F e=t at *;have h:=K_ R a1;refine q_ ?_;go_upto_region 1 with fail;refine Af (λk=>ZV k _=T _) 8 k_ q (λhHeld=>?_);refine G_ ?_;refine G_ ?_;refine G_ ?_;refine G_ ?_;refine G_ ?_;refine on_ 1 λKK hK=>?_;go_simp;refine hK _ _ (X_ q) (λhHeld=>?_);try simp only[Act.put,sA,sB,sC]
 refine on_ 2 λKK hK=>?_;have s:ZD b 0 5 1 (V f d g) d (a.map (ZX .u8)):=(by have c:=v.out;unfold Az at c;rw[h.1] at c;exact c);refine aq_ [ZX .u8 100] (ra_ (w:=YY b) s _) ?_;rintro a9 n ⟨a4,L,A,_,u,l,a2⟩;have Q:E_ b (ZN (YY b) (O_ #[ZX .u8 100] 5)):=((br_ _ b).drew).alloc x_ _;have k:=Ei.b Q (Ei.a L A x_);have N:=k.1.g i.r (λc=>Ag s c i.r C X);have P:Az _ 0 _ _:=k.1.M i.M (λp o c=>y (by simp[ZW] at o;rw[o];exact c));have p:D_ n j 2 (L_ m t t):=(by have c:=n_ 2 N;rw[h.2] at c;exact c);have⟨w,a5,o⟩:=y3_ k P a4;subst a2;refine hK _ _ p (λhHeld=>?_);try simp only[Act.put,sA,sB,sC]
 refine on_ 7 λKK hK=>?_;have a0:=W;subst a0
 have a6:d+1<=l:=by
  rcases o.out.2 with⟨c,_⟩|⟨G,x,D,c,_,_,a8,_⟩
  ·cases c
  grind
 go_simp;have x:K (Az n 0 (L_ u (d+1) l) (a++100::e)/\Ei b (V f d g) n (L_ u (d+1) l)):=(by refine⟨?_,w⟩;unfold Az;have c:=length_eq_zero_iff.1 h.2;have D:F (a++100::e)=d+1:=(by rw[c,Qe,h.1];rfl);have G:(a++100::e).map (ZX .u8)=a.map (ZX .u8)++[ZX .u8 100]:=(by rw[c];simp);rw[D,G];exact o);refine hK _ _ p (λhHeld=>?_);try simp only[Act.put,sA,sB,sC]
 refine la1_ λKK hK=>?_;go_simp;apply hK _ _;try simp only[Act.put,sA,sB,sC]
 refine Fr k_ ?_ _;go_wp2;go_ret;exact⟨_,X,x⟩
structure Ie(a d)(c)(e):Prop where
 o:E_ a d
 x:Az d 0 c e
 z:∀b,ZW c=T b->B a.1<=b
def kq(d:ZT)(a:U E)(e:Ending)(f:ZT):Prop:=∃b c,e=ZI (ZH b (F a) c)/\Ie d f (V b (F a) c) a
def Ie.n{f j d i c k e}(a:Ie f j i k)(m:Az d 0 c e)(g:Ei j i d c):Ie f d c e:=by
 refine⟨a.o.T (g.1.b a.o.size (λh b=>a.z h b)),m,λh l=>?_⟩
 rcases g.2 h l with b|b
 exact a.z h b;exact aG a.o.size b
def Ie.q{b f w' e c}(a:Ie b f e c)(d:E_ f w'):Ie b w' e c:=⟨a.o.T (d.m a.o.size),(Aa.a (S:=λ_=>False) d).M a.x (λ_ _=>id),a.z⟩
def ZaD.out{b g h f a e c}(k:Ie b g f a)(l:ZaD g f a e c h):kq b (a++e) c h:=by obtain⟨n,rfl,d,m⟩:=l;obtain⟨i,j,rfl⟩:=d.a;exact⟨i,j,X,k.n d m⟩
def ax f {k o l d} b c a e (h:Oo e 0 f k o l d)(g:Az e 0 (V b (F a) c) a)(j:ZW (ZH b (F a) c)≠T k)(n:F d<=1000)(i:F a<=1000000):C_ 374 #[P_ f,V b (F a) c] e λm p=>ZaD e (V b (F a) c) a (100::d) m p:=by
 by_cases m:F d=0
 exact ay h g j m i;exact hh h g j O n i
def Ia(a:U H)(b:H):U E:=if 4*nzN a<F a then Sj (Bu a (F a)) else 100::Bg (Cf a (Lib.bitLen b)) ((F a*Lib.bitLen b+7)/8) (F a*Lib.bitLen b)
def Sr(b:U H):U E:=b.map (λa=>(a:H)%256)
def Dq(a:BS):U E:=[(F a.fs:E)%256]++Sr a.fs++Ia a.N a.g
def ZjC{a:U H}{b}(c:b<F a):Sr (ZU (b+1) a)=Sr (ZU b a)++[((Z a b 0:H):E)%256]:=by
 unfold Sr;rw[Qi c,map_append]
 grind
def Zjs{p:Prop}(h:p:=by
 clear D;go_wp2_with fail
 apply y.m;rintro c c3 ⟨P,Q,rfl,f⟩;rw[<- a6] at f ⊢;have⟨b8,o⟩:=W_ (F (e++Dq a));rw[<- o] at f ⊢;have⟨A,L⟩:=Y_ o f;clear f y o;go_wp2;go_ret
 exact⟨P,Q,by rw[<- A];rfl,by rw[<- A];exact L⟩):p:=h
def ao h {G w a c4} k l e r (b5:Ad h 0 (V G (F a.fs) w) (An a.fs))(a0:Id h 0 c4 a.N a.g)(a1:Ie h r (V k (F e) l) e)(e2:F a.fs<=1000)(b6:∀R∈a.fs,R<=1000)(e6:F e<=900000)(a2:F (Bu a.N (F a.N))<=1000/\∀x∈Bu a.N (F a.N),x.1<=1000/\x.2<=1000)(c1:F (Bg (Cf a.N (Lib.bitLen a.g)) ((F a.N*Lib.bitLen a.g+7)/8) (F a.N*Lib.bitLen a.g))<=1000):C_ 101 #[Y9 #[V G (F a.fs) w,c4],V k (F e) l] r λc i=>kq h (e++Dq a) c i:=by
 have⟨a4,c9⟩:=Y_ a1 b5;have⟨q,g,a3⟩:=a0.iface
 have M:K (∀p k l j,Ie h p (V k (F j) l) j->F j<=1000000->(q=380/\Calls Y8 370 #[P_ g,V k (F j) l] p λc i=>kq h (j++Ia a.N a.g) c i)∨(q=382/\Calls Y8 374 #[P_ g,V k (F j) l] p λc i=>kq h (j++Ia a.N a.g) c i)):=λp k l j s b1=>by
  rcases a0 with⟨o,y,c,v,z,m,_,b⟩|⟨o,y,c,u,t,m,_,b⟩
  left;rw[a3,m] at c;injection c with e3 e4;injection e4 with e4;injection e4 with e4;injection e4 with e4 _;subst e4;refine⟨e3,?_⟩;have d:=s.o;have n:ku p 0 g _ _ _ _:=⟨(d.block _ (Qb b.r).1).T b.r,(Aa.a (S:=λ_=>False) d).M b.M (λ_ _=>id)⟩;apply (dx g k l j p n s.x a2.1 a2.2 b1).m;intro c i f;unfold Ia;rw[aD o];exact f.out s;right;rw[a3,m] at c;injection c with e3 e4;injection e4 with e4;injection e4 with e4;injection e4 with e4 _;subst e4;refine⟨e3,?_⟩;have d:=s.o;have n:Oo p 0 g _ _ _ _:=⟨(d.block _ (Qb b.r).1).T b.r,(Aa.a (S:=λ_=>False) d).M b.M (λ_ _=>id)⟩;refine(ax g k l j p n s.x (λc=>?_) c1 b1).m ?_;have i:=s.z _ c;have f:=(B_ b.M t X).2;omega
  intro c i f;unfold Ia;rw[aC o];exact f.out s
 subst a3;have d0:=Y b6;have a7:K _:=a1.x;have c7:K (Dq a=_++_):=rfl
 have d4:q=380∨q=382:=by
  rcases M.out r k l e a4 O with f|f
  exact ZM f.1;exact ZJ f.1
 clear b5 a0 a1 b6 a2 c1;generalize b3:F e=n,c0:F a.fs=d at *;have t:=K_ b3 c0;clear b3 c0;refine q_ ?_;go_wp2_with (at_builtin;refine ap_ [ZX .u8 ((d:E)%256)] ((a7.alloc _).alloc _) ?_)
 rintro f1 d9 ⟨c2,S,a8,_,e9,e8,d5⟩;have b4:Below _ r (ZN (ZN r (O_ #[V G d w,.iface q (P_ g)] 163)) (O_ #[ZX .u8 ((d:E)%256)] 5)):=r_.alloc s_ _;have b0:=Ei.b b4 (Ei.a S a8 s_);have b2:Az _ 0 _ (_++[_]):=Az.P (n:=1) (t.1 ▸ c2) X
 have W:H_ d9 (B r.1) #[V G d w,.iface q (P_ g)] 163:=(S.block _ t_ (λc=>by
  have:=(B_ a7 _ c.s).2
  omega)).T ((hc_ s_).T hn_)
 have a9:=a4.out;have a5:=K_ (a9.n b2 b0) W;have d1:=n_ 0 W;subst d5;clear c2 S a8 b0 b2 W b4 a9;go_wp2_with fail
 go_loopw [1,17] (λi c f=>∃(b:H) (u:Y0 Addr) (v:H),i=ZH u (n+1+b) v/\c=ZX ZQ b/\b<=d/\K (Ie h f (ZH u (n+1+b) v) (e++[(d:E)%256]++Sr (ZU b a.fs))/\H_ f (B r.1) #[ZH G d w,.iface q (Y7 (T ⟨g,0,ZP⟩))] 163)) (λ_ c _=>d-ZL (ZA c))
 exact⟨0,_,_,X,X,v_,by rw[take_zero];show Ie _ _ _ (_++[])/\_;rw[append_nil];exact a5⟩;clear a5 d1;obtain⟨b,u,v,rfl,rfl,e5,m⟩:=hrel;have z:K (F (e++[(d:E)%256]++Sr (ZU b a.fs))=n+1+b):=by show _=_;rw[Qe,Qe,t.1];have o:F (Sr (ZU b a.fs))=b:=(by unfold Sr;rw[length_map,length_take,t.2];omega);rw[o];rfl
 by_cases b9:b<d
 ·have b8:b<F a.fs:=t.2 ▸ b9;have a6:=c9.q m.1.o;obtain⟨y,d2,e7,_,c6,_⟩:=a6.b (by rw[Ak];exact t.2) b9;rw[Bq] at c6;subst d2;have b7:Z a.fs b 0=a.fs[b]:=w_;have d3:=d0 _ (Qf b8);rw[<- b7] at d3;have A:K (e++[(d:E)%256]++Sr (ZU (b+1) a.fs)=(e++[(d:E)%256]++Sr (ZU b a.fs))++[((Z a.fs b 0:H):E)%256]):=(by show _=_;rw[ZjC b8,append_assoc (e++[(d:E)%256])]);have f:K (ZD wr 0 5 1 (V u (n+1+b) v) (n+1+b) ((e++[(d:E)%256]++Sr (ZU b a.fs)).map (ZX .u8))):=by have o:=m.1.x;unfold Az at o;rw[z] at o;exact o
  generalize e++[(d:E)%256]++Sr (ZU b a.fs)=N at *;clear b7 a6;generalize (Z a.fs) b 0=R,Q:n+1+b=o at *;have c8:=Y Q;have e1:o<=902002:=O;clear Q;have e0:=F_ b d;go_wp2_with (at_builtin;refine ap_ [ZX .u8 ((R:E)%256)] (f.alloc _) ?_)
  rintro d8 c5 ⟨c3,L,D,_,f0,d7,d6⟩;have i:K (Ie h c5 d8 (e++[(d:E)%256]++Sr (ZU (b+1) a.fs))/\H_ c5 (B r.1) #[L_ y d w,.iface q (P_ g)] 163):=(by have P:=Ei.b (v:=V _ _ _) r_ (Ei.a L D s_);refine⟨m.1.n ?_ P,P.1.g m.2 (λc=>Ag f c m.2 C X)⟩;rw[A];refine Az.P (n:=1) ?_ X;rw[z];exact c3);subst d6;clear c3 L D f m A c6;have c:o+1=n+1+(b+1):=p_ c8.out;rw[c] at i ⊢;clear c;refine J_ ?_;exact⟨b+1,T _,d7,X,g_,O,i⟩
 have c6:¬b<(d:E):=O;have b7:ZU b a.fs=_:=aI (p_ t.2);have a6:K (e++Dq a=(e++[(d:E)%256]++Sr (ZU b a.fs))++Ia a.N a.g):=(by show _=_;rw[c7,b7,append_assoc,append_assoc,append_assoc]);have c5:=n_ 1 m.2;have D:=Y (M _ _ _ _ (by rw[z];exact m.1) (by rw[z];omega));rw[z] at D;generalize e++[(d:E)%256]++Sr (ZU b a.fs)=N at *;clear m b7 M
 rcases d4 with rfl|rfl
 ·have y:C_ 370 #[P_ g,V u (n+1+b) v] wr λc i=>kq h (N++Ia a.N a.g) c i:=by
   rcases D.out with f|f
   exact f.2;exact absurd f.1 C
  exact Zjs
 have y:C_ 374 #[P_ g,V u (n+1+b) v] wr λc i=>kq h (N++Ia a.N a.g) c i:=by
  rcases D.out with f|f
  exact absurd f.1 C;exact f.2
 exact Zjs
def Lr(a:U E):U E:=a.flatMap (λb=>Ba b 4)
def ZgU{a:U E}{b}(c:b<F a):Lr (ZU (b+1) a)=Lr (ZU b a)++Ba (Z a b 0) 4:=by
 unfold Lr;rw[Qi c,flatMap_append]
 grind
def ZaS a:F (Lr a)=F a*4:=by
 induction a with
 |nil=>rfl
 | cons c a b=>
  grind [Lr,Dr]
def knB(a:KS):U E:=[110,(a.d:E)%256,a.e.b%256]++Lr a.e.f
def hw s {o} t {p} u {a} b5 b6 d m (R:a.e.a=ZZ)(c1:Ad s 0 (V o (F a.e.f) p) a.e.f)(N:Ie s m (V b5 (F d) b6) d)(f2:F a.e.f<=1000)(d2:∀x∈a.e.f,-1000000000000<=x/\x<=1000000000000)(f3:F d<=900000):C_ 100 #[Y9 #[ZR a.e.a,V o (F a.e.f) p,V t 0 u,I a.d],V b5 (F d) b6] m λf i=>kq s (d++knB a) f i:=by
 rw[R];have⟨d7,d9,e2⟩:=y3_ N c1 d2;have c7:a.e.b=F a.e.f:=by unfold ES.b Kz;rw[R];rfl
 have e0:K (knB a=[110,(a.d:E)%256,F a.e.f%256]++Lr a.e.f):=by show _=_;unfold knB;rw[c7]
 have d8:K (∀G:_,Calls _ 169 _ G λf i=>f=ZI (ZX _ ((F a.e.f:H):E))/\_):=λG=>Uj ZZ o t _ p 0 u G;have b2:K _:=N.x;clear c1 N d2 R c7;generalize a.d=h,c6:F d=g,d1:F a.e.f=c at *;have n:=K_ c6 d1;clear c6 d1;refine q_ ?_;go_upto_region 4 with fail;generalize M:ZN m (O_ #[ZR ZZ,V o c p,V t 0 u,I (h:H)] 172)=W;have c0:E_ m W:=(by rw[<- M];exact r_);have l:W.1[B m.1]? =T (O_ #[ZR ZZ,V o c p,V t 0 u,I h] 172):=(by rw[<- M];exact hn_);have S:=(Qb l).1;have a0:=n_ 0 l;have a1:=n_ 1 l;have a2:=n_ 2 l;have a3:=n_ 3 l;have b4:=K_ l c0;clear M c0 l;refine Af (λi=>ZV i _=T _/\ZV i _=T _/\ZV i _=T _/\ZV i _=T _) 11 k_ ⟨a0,a1,a2,a3⟩ (λhHeld=>?_);refine G_ ?_
 refine on_ 7 λKK hK=>?_;go_simp;apply (d8 _).m;rintro f d6 ⟨rfl,c4⟩;have y:=(br_ (B W.1) _).drew.T c4;have⟨w,a4,a5,a6⟩:=k4_ y a0 a1 a2 a3;have f0:=Qh S y.size;go_simp;refine hK _ _ ⟨w,a4,a5,a6⟩ (λhHeld=>?_);clear hK KK c4;refine G_ ?_;refine on_ 9 λKK hK=>?_;go_simp;refine hK _ _ ⟨X_ w,X_ a4,X_ a5,X_ a6⟩ (λhHeld=>?_);clear hK KK;try simp only[Act.put,sA,sB,sC]
 refine on_ 10 λKK hK=>?_;have z:=b4.2.T (y.m (Nat.le_of_lt S));refine aq_ [ZX .u8 110,ZX .u8 ((h:E)%256),ZX .u8 ((c:E)%256)] (ra_ (w:=d6) ((Aa.a (S:=λ_=>False) z).M b2 (λ_ _=>id)) _) ?_;rintro g0 g2 ⟨d5,L,b7,_,f8,f6,e9⟩;have c5:Below _ m (ZN d6 (O_ #[ZX .u8 110,ZX .u8 ((h:E)%256),ZX .u8 ((c:E)%256)] 5)):=z.alloc z.size _;have b9:=Ei.b c5 (Ei.a L b7 x_);have c3:Az _ 0 _ (_++[_,_,_]):=Az.P (n:=3) (n.1 ▸ d5) X
 have q:=(L.block _ t_ (λf=>by
  have:=(B_ b2 _ f.s).2
  omega)).T ((hc_ f0).T ((y.block _ S).T b4.1))
 have b8:=d7.out;have D:=K_ (b8.n c3 b9) q;have a7:=n_ 0 q;have a8:=n_ 1 q;have a9:=n_ 2 q;have b0:=n_ 3 q;subst e9;clear d5 L b7 c5 b9 c3 q b8 w a4 a5 a6 z;refine hK _ _ ⟨a7,a8,a9,b0⟩ (λhHeld=>?_);clear hK KK;try simp only[Act.put,sA,sB,sC]
 refine le_ ?_;clear a0 a1 a2 a3 hHeld;have e6:=n_ 1 D.2;go_wp2_with fail
 go_loopw [1,28] (λv i e=>∃(b:H) (j:Y0 Addr) (k:H),v=ZH j (g+3+b*4) k/\i=ZX ZQ b/\b<=c/\K (Ie s e (ZH j (g+3+b*4) k) (d++[110,(h:E)%256,(c:E)%256]++Lr (ZU b a.e.f))/\e.1[B m.1]? =T (YU #[ZR ZZ,ZH o c p,ZH t 0 u,ZX ZQ (h:H)] 172 (0,0)))) (λ_ i _=>c-ZL (ZA i))
 exact⟨0,_,_,X,X,v_,by rw[take_zero];show Ie _ _ _ (_++[])/\_;rw[append_nil];exact D⟩;clear D e6;obtain⟨b,j,k,rfl,rfl,e7,e⟩:=hrel;have f5:=(Qb e.2).1;have r:K (F (d++[110,(h:E)%256,c%256]++Lr (ZU b a.e.f))=g+3+b*4):=by show _=_;rw[Qe,Qe,ZaS,length_take,n.1,n.2,Nat.min_eq_left e7];rfl
 by_cases d0:b<c
 ·have c9:b<F a.e.f:=n.2 ▸ d0;have c2:=d9.q e.1.o;have⟨f7,e8,f4,_,w,_⟩:=c2.b n.2 d0;subst e8;have c8:Z a.e.f b 0=a.e.f[b]:=w_;have A:=e2 _ (Qf c9);rw[<- c8] at A;have b3:K (d++[110,(h:E)%256,c%256]++Lr (ZU (b+1) a.e.f)=(d++[110,(h:E)%256,c%256]++Lr (ZU b a.e.f))++Ba (Z a.e.f b 0) 4):=(by show _=_;rw[ZgU c9,append_assoc (d++_)]);generalize d++[110,(h:E)%256,(c:E)%256]++Lr (ZU b a.e.f)=e3 at *;clear c8 c2;generalize (Z a.e.f) b 0=x at *;have b1:C_ 102 #[V j (g+3+b*4) k,I x,I 4] wr λf i=>ZaD wr (V j (g+3+b*4) k) e3 (Ba x 4) f i:=(by have v:=e.1;rw[<- r] at v ⊢;exact Ou _ _ 4 x v.x O (by rw[r];omega) A.1 A.2);have f1:=F_ b c;clear A hHeld a7 a8 a9 b0;go_wp2_with fail
  apply b1.m;rintro f g1 ⟨f9,rfl,P,Q⟩;have v:=e.1.n P Q;have d4:=Q.1.g e.2 (λf=>Ag e.1.x f e.2 C X);have⟨e4,e5,d3⟩:=P.a;rw[Qe,Dr,r,show g+3+b*4+4=g+3+(b+1)*4 by omega] at d3;subst d3;rw[<- b3] at v;have e1:=K_ v d4;clear b1 P Q v d4 e b3 w;refine J_ ?_;exact⟨b+1,e4,e5,X,g_,O,e1⟩
 have c8:¬b<(c:E):=O;have Q:ZU b a.e.f=_:=aI (p_ n.2);have A:K (Ie s wr (V j (g+3+b*4) k) (d++knB a)/\F (d++knB a)=g+3+b*4):=(by have v:=e.1;have i:=r.out;rw[Q,append_assoc,<- e0] at v i;exact⟨v,i⟩);have c2:=n_ 2 e.2;clear Q e r hHeld a7 a8 a9 b0;obtain⟨P,b1⟩:∃P,P=wr:=⟨wr,X⟩;subst b1;go_wp2_with fail
 go_loopw [1,40] (λv i b3=>v=ZH j (g+3+b*4) k/\i=ZX ZQ 0/\K (P=b3)) (λ_ _ _=>0)
 exact⟨X,X,X⟩;obtain⟨rfl,rfl,i⟩:=hrel;have v:=i.out;subst v;clear i;go_wp2;go_ret;exact⟨j,k,by rw[A.2];rfl,A.2 ▸ A.1⟩
def loK(c:E)(b a:H):U E:=Ba c a++Y6 (b-a) 0
def Zgd{c a b}(d:b<=a):F (loK c a b)=a:=by simp[loK,Dr];omega
def Zm4{c b a}(d:a<b):(loK c b a).set a (Tu a c%256)=loK c b (a+1):=by unfold loK;rw[set_append_right _ _ (by rw[Dr];omega),Dr,Nat.sub_self,show b-a=(b-(a+1))+1 by omega,replicate_succ,set_cons_zero];simp[Ba]
def Zm3 b a:loK b a a=Ba b a:=by simp[loK]
def To(e:E)(c k:H) b (t:k<=8)(n:c<=1000000000000)(p:(0<=e/\e=c)∨(e<0/\e=c-4294967296)):C_ 135 #[I e,I k] b (U_ (YW (ZB (Ba c k))) b):=by
 have u:=Rd k O;refine dl_ ?_;go_enter func135,ntmps135;go_upto_if 8 with fail
 go_cut [0] (λa d=>a=ZX ZQ (c:H)/\d=b)
 case first=>
  rcases p with⟨d,a⟩|⟨d,a⟩
  ·subst a;have f:¬(c:E)<0:=O;go_wp2;go_meet
   grind
  have f:e+4294967296=c:=O;go_wp2;go_meet
  grind
 obtain⟨rfl,q⟩:=hcut;obtain rfl:=q.s;go_upto_region 4 with fail
 have l:K (Az (ZN b (O_ (YV #[ZX .u8 0] k) 5)) (B b.1) (L_ (B b.1) k k) (loK c k 0)/\E_ b (ZN b (O_ (YV #[ZX .u8 0] k) 5))):=by
  refine⟨?_,r_⟩
  grind [Rb,loK,Ba]
 generalize (ZN b) (O_ (YV #[ZX .u8 0] k) 5)=x at *;go_upto_region 5 with fail;go_loopw [0,6] (λh f g=>∃(a d:H),h=ZX ZQ (d:H)/\f=ZX ZQ a/\a<=k/\d<=1000000000000/\K (Tu a c=(d:E))/\K (Az g (B b.1) (ZH (T ⟨B b.1,0,ZP⟩) k k) (loK c k a)/\E_ b g)) (λ_ f _=>k-ZL (ZA f))
 case atStart=>exact⟨0,c,X,X,v_,n,X,l⟩
 obtain⟨a,d,rfl,rfl,h,v,g,f⟩:=hrel
 by_cases i:a<k
 ·have o:=F_ a k;have⟨r,s⟩:=f.1.c (k:=a) (Zgd h).s i;have j:K (Az (ZO wr (J (B b.1) a) (ZX .u8 (d%256))) (B b.1) (L_ (B b.1) k k) (loK c k (a+1))/\E_ b (ZO wr (J (B b.1) a) (ZX .u8 (d%256)))):=(by have:=f.1.put (k:=a) (Zgd h).s ((d:E)%256);rw[<- g,Zm4 i] at this;rw[<- g];exact⟨this.1,f.2.setCell x_ _⟩);have m:K (Tu (a+1) c=(d/256:H)):=(by show _=_;unfold Tu;rw[g];omega);have w:IntKind.u8.wrap (d%256)=d%256:=(by simp only[wrap,IntKind.bits,signed];simp);go_upto_region 8 with fail;generalize (ZO wr) (J (B b.1) a) (ZX .u8 ((d:E)%256))=y at *;refine J_ ?_;exact⟨a+1,d/256,g_,g_,O,O,m,j⟩
 have o:a=k:=O;subst o;have r:¬a<(a:E):=O;have m:=Pn _ _ f.1;rw[Zm3] at m;have j:=Y f.2;go_wp2;go_ret;exact⟨X,j⟩
end Go.Proofs.YtfcgnpchbcmdeaaGreat
