import Derived.Test.YtfcgnpchbcmdeaaGreatZsaq
open Option renaming some->T,none->ZP
open Go.World renaming cell?->ZV,drewN->Y1,alloc->ZN,setCell->ZO,ownsRow->ZD,frozen?->YT,grownBy->Y3
open List renaming length->F,getD->Z,take->ZU,drop->ZF
open _root_ renaming Nat->H,List->U,Option->Y0,Bool->ZG,Int->E,rfl->X,Array->YZ
open Go renaming World->ZT,Value->ZY,madeCells->YV,strOfNums->ZB
open Go.Value renaming slice->ZH,bool->ZR,int->ZX,agg->Y9,tuple->Y5,func->YX,ownBlock->ZW
open Bool renaming true->Z0,false->ZZ
open Decidable renaming decide->ZE
open Go.Ending renaming returned->ZI
open ByteArray renaming size->ZK
open Array renaming size->B,setIfInBounds->YS
open Go.IntKind renaming i64->ZQ
open Or renaming inl->ZM,inr->ZJ
open Int renaming toNat->ZL
open Go.Proofs renaming intOf->ZA
open Go.Proofs.Tryz renaming prog->Y8
open Go.Obj renaming cells->YU
namespace Go.Proofs.YtfcgnpchbcmdeaaGreat
set_option linter.all false
set_option maxRecDepth 100000
set_option maxHeartbeats 8000000
open Go.RowKit List Nat Go.World Go.Proofs.Tryz Go.Value Go.IntKind Go.Lib Go.Region
theorem Ah{b e}(f:E_ b e){a d}(c:ZV b a=T d):ZV e a=T d:=(f.cell (aJ b a c)).T c
def NuV(e:ZT)(d:Y0 Addr)(b:U H):Prop:=∀a,a<F b->∃c,d=T ⟨c,0,ZP⟩/\ZV e (J c a)=T (I (Z b a 0:H))
def NuV.q{c w' b a}(e:NuV c b a)(f:E_ c w'):NuV w' b a:=λi h=>by have⟨j,d,g⟩:=e i h;exact⟨j,d,Ah f g⟩
def Ad.f{c d e n b a}(f:Ad c d (V b n e) (An a))(h:F a=n):NuV c b a:=λk j=>by
 obtain⟨l,i,_,_,g⟩:=f.b (by rw[Ak];exact h) (k:=k) O;rw[Bq] at g
 grind
def LiV(g:ZT)(f:ZY)(a:U (U H)):Prop:=(∃h c,f=ZH h (F a) c)/\∀b,b<F a->∃e c d i,f=L_ e (F a) c/\ZV g (J e b)=T (V d (F (Z a b [])) i)/\NuV g d (Z a b [])
def LiV.q{e w' d a}(b:LiV e d a)(c:E_ e w'):LiV w' d a:=⟨b.1,λm l=>by
 have⟨n,g,f,h,i,j,k⟩:=b.2 m l
 exact⟨n,g,f,h,i,Ah c j,k.q c⟩⟩
def FeV(d:ZT)(f:ZY)(b:U KS):Prop:=(∃g e,f=ZH g (F b) e)/\∀a,a<F b->∃c e h j i k,f=L_ c (F b) e/\ZV d (J c (a*4))=T (ZR (Z b a Aj).e.a)/\
  ZV d (J c (a*4+1))=T (V h (F (Z b a Aj).e.f) j)/\ZV d (J c (a*4+2))=T (V i (F (Z b a Aj).e.c) k)/\ZV d (J c (a*4+3))=T (I (Z b a Aj).d)
def FeV.q{d w' c a}(b:FeV d c a)(q:E_ d w'):FeV w' c a:=⟨b.1,λf e=>by
 have⟨r,i,g,j,h,k,l,m,n,o,p⟩:=b.2 f e
 grind [Ah]⟩
def Vc(a:KS):Prop:=F a.e.f<=1000/\F a.e.c<=1000/\(a.e.a=Z0->a.e.f=[])/\(a.e.a=ZZ->a.e.c=[])
def Vc.g{a}(b:Vc a):F a.e.f+F a.e.c+2=a.g:=by
 unfold KS.g ES.b Kz
 cases c:a.e.a
 rw[b.2.2.2 c];simp;rw[b.2.2.1 c];simp
structure DkV(b:ZT)(c f)(a):Prop where
 g:ZV b (J c 0)=T (I (f:H))
 h:∃e,ZV b (J c 1)=T e/\FeV b e a
 x:∀d,d<F a->Vc (Z a d Aj)
def DkV.q{f w' d e c}(a:DkV f d e c)(b:E_ f w'):DkV w' d e c:=by have⟨i,g,h⟩:=a.h;exact⟨Ah b a.g,⟨i,Ah b g,h.q b⟩,a.x⟩
structure MkV(b:ZT)(f d g)(c)(a):Prop where
 i:ZV b (J f 0)=T (P_ d)
 k:∃h,ZV b (J f 1)=T h/\LiV b h a
 j:DkV b d g c
 y:F a=F c
 u:∀e,e<F a->F (Z a e [])=g
def MkV.q{h w' f e g d c}(a:MkV h f e g d c)(b:E_ h w'):MkV w' f e g d c:=by have⟨k,i,j⟩:=a.k;exact⟨Ah b a.i,⟨k,Ah b i,j.q b⟩,a.j.q b,a.y,a.u⟩
def MkV.drewN{g e c f b a}(h:MkV g e c f b a){d}:MkV (Y1 g d) e c f b a:=h.q (below_drewN y_ d)
def sO(c:U KS)(b:U (U H))(a d:H):ZG:=ZE (Z (Z b a []) d 0≠(Z c a Aj).d)
def MkV.a{h l p m e d}(b:MkV h l p m e d){a c}(g:a<F e)(k:c<m):C_ 292 #[P_ l,I c,I a] h λj i=>j=ZI (ZR (sO e d a c))/\∃f,i=Y1 h f:=by
 have⟨Q,q,t⟩:=b.k;have⟨R,r,u⟩:=b.j.h;have f:a<F d:=b.y ▸ g;obtain⟨N,y,w,D,rfl,i,n⟩:=t.2 a f;obtain⟨P,A,v,z,x,G,rfl,_,_,_,s⟩:=u.2 a g;rw[b.u a f] at i;obtain⟨L,rfl,o⟩:=n c ((b.u a f) ▸ k);have M:=Zch b.i q i o r s f k g;have j:((Z (Z d a []) c 0:H) !=((Z e a Aj).d:E))=sO e d a c:=by grind [sO]
 grind
def DkV.z{b h n a}(k:DkV b h n a){i}(m:i<F a):∃c j d f e g,ZV b (J h 1)=T (L_ c (F a) j)/\ZV b (J c (i*4))=T (ZR (Z a i Aj).e.a)/\ZV b (J c (i*4+1))=T (V d (F (Z a i Aj).e.f) f)/\ZV b (J c (i*4+2))=T (V e (F (Z a i Aj).e.c) g)/\ZV b (J c (i*4+3))=T (I (Z a i Aj).d):=by
 have⟨s,p,l⟩:=k.h;obtain⟨r,o,d,f,e,g,rfl,q⟩:=l.2 i m
 grind
def Bn(a:U (E×U VS))(b:H):U VS:=a.map (λc=>Z c.2 b Ax)
def Jp(a:U (E×U VS)):U E:=a.map Prod.fst
def kt(c:U (E×U VS)):Prop:=∀a∈c,(1<=a.1/\a.1<=99)/\∀b∈a.2,(-1000000000<=b.num/\b.num<=1000000000)/\ZK b.f<=8
def Zee{a:U (E×U VS)}{b i}(d:b<F a):Bd (Bn (ZU (b+1) a) i) (Jp (ZU (b+1) a))=Bd (Bn (ZU b a) i) (Jp (ZU b a))++(if(Z (Z a b oy).2 i Ax).a=Z0 then[] else[((Z (Z a b oy).2 i Ax).num,(Z a b oy).1)]):=by have c:Z a b oy=a[b]:=w_;unfold Bn Jp;rw[Qi d,map_append,map_append,c];exact Wu _ _ _ _ s_
def ZmO{a:U VS}{b}{Q:VS->Prop}(d:∀c∈a,Q c)(e:Q Ax):Q (Z a b Ax):=w_
def ZmB{b}(c:kt b) f:∀a∈Bn b f,(-1000000000<=a.num/\a.num<=1000000000)/\ZK a.f<=8:=λa e=>by obtain⟨g,d,rfl⟩:=mem_map.1 e;exact ZmO (Q:=λa=>(-1000000000<=a.num/\a.num<=1000000000)/\ZK a.f<=8) (c g d).2 C
def Zpr{b}(c:kt b):∀a∈Jp b,1<=a/\a<=99:=λa e=>by obtain⟨f,d,rfl⟩:=mem_map.1 e;exact(c f d).1
def Zac b7 (k b2 d7 c g:H) f L G D z a d (P:Xq d b7 k b2 a)(e4:c<b2)(t:kt a)(f3:k<=200)(c7:2<=g)(c8:g<=32)(e2:2<=f)(e3:f<=16):C_ 237 #[Y9 #[V G D z,I f,I g,I L],V b7 k d7,I c] d λe h=>∃b r,e=ZI (Y9 #[ZR ZZ,ZH b (F (Fb (Bn a c) (Jp a) f g)) r,ZH ZP 0 0,ZX ZQ 0])/\Ad h (B d.1) (V b (F (Fb (Bn a c) (Jp a) f g)) r) (Fb (Bn a c) (Jp a) f g)/\E_ d h:=by
 have⟨y,d5⟩:=Y_ P t;have⟨M,a5⟩:=ez_ (Fb (Bn a c) (Jp a) f g);rw[a5.out];have⟨j,u⟩:=W_ (ZN (ZN d (O_ #[V G D z,I f,I g,I L] 37)) (O_ #[ZR ZZ,N_,N_,I 0] 227));have b8:E_ d j:=u ▸ (r_.alloc s_ _);have f6:B d.1+2<=B j.1:=by rw[u];simp
 have d0:H_ j (B d.1) #[V G D z,I f,I g,I L] 37:=(by rw[u];exact(hc_ s_).T hn_);have d1:H_ j (B d.1+1) #[ZR ZZ,N_,N_,I 0] 227:=(by have e:=ha_ (ZN d (O_ #[V G D z,I f,I g,I L] 37)) (O_ #[ZR ZZ,N_,N_,I 0] 227);rw[show B (ZN d (O_ #[V G D z,I f,I g,I L] 37)).1=B d.1+1 by simp,<- u] at e;exact e);have w:=x3_ b8 d0 d1;have b6:=Y u;clear P t u b8 d0 d1;refine dl_ ?_;go_enter func237,ntmps237;go_upto_region 4 with fail;rw[<- b6];clear b6;go_loopw [7,8,9] (λl m h i=>∃b:H,h=ZX ZQ b/\b<=k/\K (Ad i (B j.1) l ((Bd (Bn (ZU b a) c) (Jp (ZU b a))).map Prod.fst)/\Ad i (B j.1) m ((Bd (Bn (ZU b a) c) (Jp (ZU b a))).map Prod.snd)/\Bl l m)/\E_ j i) (λ_ _ h _=>k-ZL (ZA h))
 case atStart=>exact⟨0,X,v_,⟨Ad.nil,Ad.nil,ZM X⟩,y_⟩
 obtain⟨b,rfl,o,l,n⟩:=hrel;have e6:=n.size
 by_cases a8:b<k
 ·have c3:b<F a:=y.1 ▸ a8;have c2:=w.1.T (n.m O)
  rcases(y.q c2).2 with c1|⟨a7,rfl,x⟩
  omega;have⟨b0,d6,d4,a4,_,b3⟩:=x b a8;have⟨N,b1,_⟩:=b3 c e4;have h:=Zee (i:=c) c3;have q:=Ki (Bn (ZU b a) c) (Jp (ZU b a));have e5:F (Bd (Bn (ZU b a) c) (Jp (ZU b a)))<=200:=(by unfold Bn at q ⊢;rw[length_map,length_take] at q;omega);clear q x b3;generalize (Z (Z a b oy).2) c Ax=c6 at *;generalize (Z a b oy).1=v at *;obtain⟨c9,a9,d9⟩:=c6;simp only at N b1 h;have d2:=F_ b k;have d3:=F_ c b2
  cases c9 with
  | true=>
   have a3:K (Bd (Bn (ZU (b+1) a) c) (Jp (ZU (b+1) a))=Bd (Bn (ZU b a) c) (Jp (ZU b a))):=(by show _=_;rw[h];simp);clear h;go_wp2;go_roundw;case rel=>exact⟨b+1,g_,O,a3 ▸ l,n⟩
   case measure=>exact z_
  | false=>
   have a3:K (Bd (Bn (ZU (b+1) a) c) (Jp (ZU (b+1) a))=Bd (Bn (ZU b a) c) (Jp (ZU b a))++[(a9,v)]):=(by show _=_;rw[h];simp);clear h;generalize Bd (Bn (ZU b a) c) (Jp (ZU b a))=d8 at *;have⟨W,a0,R⟩:=y3_ l.1 l.2.1 l.2.2;clear l;go_wp2_with (at_builtin;refine By X (.tmp 26) _ X _ _ _ a9 X (W.alloc _) _ 1 X ?_ ?_ ?_ ?_)
   omega;omega;intro b5 c5 r;have A:=r.2.1;have c4:=A.size;simp at c4;have⟨a1,a2⟩:=Y_ r.1 (Ad.kept (a0.alloc _) A R.a)
   have S:=Y (Bl.b R (a0.alloc (O_ #[I a9] 3)) (by
    rcases r.out.2.2 with e|e
    exact ZM e
    exact ZJ (by simpa using e.1)))
   have b4:=(y_.alloc e6 _).grown A t_ (λb o=>(W.lt b o).1)
   have c0:D_ c5 a7 (b*2) (I v):=by
    rcases y.out.2 with c1|⟨i,e,x⟩
    omega;injection e with e;injection e with e1;subst e1;have:=aJ _ _ (x b a8).1;exact(b4.cell (p:=(J a7 (b*2))) (by show a7<_;simp at this;omega)).T b0
   clear r A W a0 R b0 a4 N b1;go_wp2_with (at_builtin;refine By X (.tmp 38) _ X _ _ _ v X (a2.alloc _) _ 1 X ?_ ?_ ?_ ?_)
   ·simp[go_sem]
   simp;omega;simp;omega;intro b9 Q s;have a6:=s.2.1
   have i:K (Ad Q (B j.1) b5 ((Bd (Bn (ZU (b+1) a) c) (Jp (ZU (b+1) a))).map Prod.fst)/\Ad Q (B j.1) b9 ((Bd (Bn (ZU (b+1) a) c) (Jp (ZU (b+1) a))).map Prod.snd)/\Bl b5 b9):=by
    rw[a3];simp only[map_append,map_cons,map_nil];refine⟨Ad.kept (a1.alloc _) a6 S.s.a,s.1,?_⟩
    exact(Bl.b S.s (a1.alloc (O_ #[I v] 3)) (by
     rcases s.out.2.2 with e|e
     exact ZM e
     exact ZJ (by simpa using e.1))).s
   have m:=(y_.alloc O _).grown a6 t_ (λb o=>(a2.lt b o).1);clear s a6 a1 a2 S c0;go_wp2;go_roundw;case rel=>exact⟨b+1,g_,O,i,n.T (b4.T m)⟩
   case measure=>exact z_
 have f5:¬b<(k:E):=O;have c1:ZU b a=a:=aI (p_ y.1);rw[c1] at l;have q:=Ki (Bn a c) (Jp a);have e5:F (Bd (Bn a c) (Jp a))<=200:=(by unfold Bn at q ⊢;rw[length_map,y.1] at q;omega);obtain⟨c2,c3,_⟩:=l;have t:=d5.out
 obtain⟨a4,d8,rfl,a6,a2,_⟩:=c2.e (λv b1=>by
  obtain⟨p,h,rfl⟩:=mem_map.1 b1;have⟨⟨i,m,e⟩,_⟩:=Ti _ _ p h
  have:=ZmB t c i m;omega)
 obtain⟨N,d9,rfl,a7,a3,_⟩:=c3.e (λv b1=>by
  obtain⟨p,h,rfl⟩:=mem_map.1 b1;have⟨_,P⟩:=Ti _ _ p h
  have:=Zpr t _ P;omega)
 have c4:F ((Bd (Bn a c) (Jp a)).map Prod.fst)=F (Bd (Bn a c) (Jp a)):=s_;have c5:F ((Bd (Bn a c) (Jp a)).map Prod.snd)=F (Bd (Bn a c) (Jp a)):=s_;rw[c4] at a6 a2 ⊢;rw[c5] at a7 a3 ⊢;have b5:K (∀A,C_ 289 _ (Y1 wr A) λe h=>∃i,e=ZI i/\Ai h (B wr.1) i _/\E_ wr h):=λA=>(Zcg a4 N d8 d9 (a6.q (below_drewN y_ A)) (a7.q (below_drewN y_ A)) O a2 a3 c7 c8).m (λe h ⟨i,m,r,s⟩=>⟨i,m,r,(below_drewN y_ A).T s⟩);have b0:=Tg c7 c8 ((Bd (Bn a c) (Jp a)).map Prod.fst) ((Bd (Bn a c) (Jp a)).map Prod.snd) t_;have W:K (_/\_/\M=Bm _ _):=⟨b0.1,b0.2,a5.out.s⟩
 have x:=x3_ ((n.block _ O).T w.2.1) ((n.block _ O).T w.2.2) (w.1.T (n.m O));clear c2 c3 a6 a7 a2 a3 c4 c5 c1 t b0 q a5 w;generalize Dw g ((Bd (Bn a c) (Jp a)).map Prod.fst) ((Bd (Bn a c) (Jp a)).map Prod.snd)=a0 at *;generalize (F (Bd (Bn a c) (Jp a)))=f9 at *;have R:=n_ 1 x.1;have S:=n_ 2 x.1;go_upto_region 9 with fail;refine Af (λh=>ZV h _=T _/\ZV h _=T _) 9 k_ ⟨R,S⟩ λhHeld=>?_;refine G_ ?_;refine on_ 4 λKK hK=>?_;go_simp;apply (b5 1).m;rintro e b3 ⟨g5,rfl,c6,s⟩;obtain⟨d6,e0,rfl,b9,_,_⟩:=c6.e (p_ W.2.1);have b4:K (C_ 288 #[V d6 (F a0) e0,I f] b3 λe h=>∃i,e=ZI i/\Ad h (B b3.1) i M/\E_ b3 h):=by rw[W.2.2];exact Zb5 a0 b9 W.1 e2 e3
 have d3:=Ah s R;have d4:=Ah s S;clear c6 b9 b5;generalize (F a0)=f8 at *;go_simp;refine hK _ _ ⟨d3,d4⟩ λhHeld=>?_;clear hK KK;try simp only[Act.put,tA,tB,tC]
 refine on_ 7 λKK hK=>?_;go_simp;apply b4.m;rintro e Q ⟨g4,rfl,a9,c0⟩;obtain⟨a1,r,rfl⟩:=a9.d;have m:=s.T (c0.m s.size);have h:=(m.block _ O).T x.2.1;have f7:=s.size;have i:K (_/\Ad _ (B d.1) _ M/\_):=⟨h,a9.m O,x.out.2.2.T (m.m O)⟩;have e7:=M_ 0 _ _ _ h;have e8:=M_ 1 _ _ _ h;have e9:=M_ 2 _ _ _ h;have f0:=M_ 3 _ _ _ h;have g0:=R_ 0 _ _ h;have g1:=R_ 1 _ _ h;have g2:=R_ 2 _ _ h;have g3:=R_ 3 _ _ h;have f1:=Ah m R;have f2:=Ah m S;simp only[getElem?_toArray,getElem?_cons_zero,getElem?_cons_succ] at e7 e8 e9 f0;clear a9 c0 s m b4 h d3 d4 R S x;generalize f4:F M=c9 at *;go_simp;refine hK _ _ ⟨f1,f2⟩ λhHeld=>?_;clear hK KK
 refine G_ ?_;refine le_ ?_;go_wp2;apply bodyPost_ret (v:=Y9 #[ZR ZZ,V a1 c9 r,N_,I 0]) (by simp[results,results237,go_sem, *]) X;have d2:=Aa.h Q (B d.1+1) (ZR ZZ) (V a1 c9 r) (N_) (I 0);exact⟨a1,r,X,d2.M i.2.1 (λb o e=>Ag i.2.1 o i.1 C e),i.2.2.T (d2.b i.2.2.size (λb o=>O))⟩
def Za2 x g a c:C_ 373 #[Y9 #[I (x:H),I (g:H)],I (a:H)] c (U_ (ZX ZQ (compareInt x a)) c):=by
 have d:K (∀b:_,Calls _ _ #[ZX _ (x:_),ZX _ (a:_)] b λe f=>_):=λb=>Tryz.cmp_Compare_int _ _ b;generalize compareInt (x:H) (a:H)=h at *;refine q_ ?_;go_wp2_with fail
 apply (d _).m;rintro e i ⟨rfl,f⟩;obtain rfl:=f.s;go_wp2;go_ret;exact⟨X,r_⟩
def ZfI{x a}:compareInt (x:H) (a:H)<0↔x<a:=by unfold compareInt;omega
def ZfH{x a}:compareInt (x:H) (a:H)=0↔x=a:=by unfold compareInt;omega
structure Zi3(b:U (H×H))(d c):Prop where
 k:c<=F b
 t:∀a,a<c->(Z b a (0,0)).1<d
 h:∀a,c<=a->a<F b->d<=(Z b a (0,0)).1
def Ox(a:U (H×H))(c b:H):ZG:=ZE (b<F a/\(Z a b (0,0)).1=c)
def ZpH(d:ZT)(b:U (H×H))(c:H)(e:Ending)(f:ZT):Prop:=∃a,e=ZI (Y5 #[I (a:H),ZR (Ox b c a)])/\Zi3 b c a/\E_ d f
def Zhf t u g {b} m (l:Xp m 0 (V t (F b) u) b)(a3:b.Pairwise (λx L=>x.1<L.1))(b0:F b<=1000000):C_ 372 #[V t (F b) u,I (g:H),YX (.func 373) #[] #[]] m λw a=>ZpH m b g w a:=by
 have M:=Y l
 have P:K (∀a d,a<d->d<F b->(Z b a (0,0)).1<(Z b d (0,0)).1):=λa d a1 a9=>by grind [pairwise_iff_getElem]
 have N:=Y (λx L c=>Za2 x L g c);clear l a3;generalize W:F b=i at *;have h:=Y W;clear W;refine q_ ?_;go_wp2_with fail
 go_loopw [9,10] (λe f j=>∃(a d:H),e=I a/\f=I d/\a<=d/\d<=i/\K ((∀c,c<a->(Z b c (0,0)).1<g)/\(∀c,d<=c->c<i->g<=(Z b c (0,0)).1)/\E_ m j)) (λe f _=>ZL (ZA f)-ZL (ZA e))
 exact⟨0,i,X,X,v_,x_,λc D=>O,λc j R=>O,y_⟩;obtain⟨a,d,rfl,rfl,a1,v,e⟩:=hrel
 by_cases b1:a<d
 ·have a7:a<(d:E):=O;have S:(a+d)/2<i:=O;have⟨a4,G,a2,r,s⟩:=(show Xp m 0 (V t (F b) u) b by rw[h];exact M).b (k:=(a+d)/2) (h ▸ S);have⟨y,z⟩:=k2_ e.2.2 r s;clear r s;subst G;generalize a0:(a+d)/2=f at *;have b2:(a+d)/2=(f:E):=O;have a8:=F_ f i;clear a0
  have A:K ((∀c,c<=f->(Z b c (0,0)).1<=(Z b f (0,0)).1)/\(∀c,f<=c->c<i->(Z b f (0,0)).1<=(Z b c (0,0)).1)):=⟨λc D=>by
   rcases Nat.lt_or_ge c f with j|j
   exact Nat.le_of_lt (P c f j S)
   grind,λc D k=>by
   rcases Nat.lt_or_ge f c with j|j
   exact Nat.le_of_lt (P f c j k)
   grind⟩
  generalize (Z b f (0,0)).1=n at *;generalize (Z b f (0,0)).2=a6 at *;go_wp2_with fail
  apply (N _ _ _).m;rintro w a5 ⟨rfl,p⟩;have o:=Y (e.2.2.T (p.m e.2.2.size));clear p y z
  by_cases k:n<g
  ·have q:=(ZfI).2 k;generalize compareInt (n:H) (g:H)=Q at *;go_wp2;go_roundw;exact⟨f+1,d,g_,X,O,v,λc D=>p_ (A.1 c O),e.2.1,o⟩;exact z_
  have q:¬_:=λl=>k ((ZfI).1 l);generalize compareInt (n:H) (g:H)=Q at *;go_wp2;go_roundw;exact⟨a,f,X,X,O,O,e.1,λc j R=>p_ (A.2 c j R),o⟩;exact z_
 have a7:¬a<(d:E):=O;have a0:a=d:=O;subst a0
 by_cases A:a<i
 ·have S:=F_ a i;have⟨a4,G,a2,r,s⟩:=(show Xp m 0 (V t (F b) u) b by rw[h];exact M).b (k:=a) (h ▸ A);have⟨y,z⟩:=k2_ e.2.2 r s;clear r s;subst G;have f:K (Ox b g a=ZE ((Z b a (0,0)).1=g)):=(by show _=_;unfold Ox;rw[h];simp[A]);generalize (Z b a (0,0)).1=n at *;generalize (Z b a (0,0)).2=a6 at *;go_wp2_with fail
  apply (N _ _ _).m;rintro w a5 ⟨rfl,p⟩;have o:=Y (e.2.2.T (p.m e.2.2.size));clear p y z
  by_cases k:n=g
  ·have q:=(ZfH).2 k;rw[q];go_wp2;go_ret2
   exact⟨a,by rw[f];simp[k],⟨h ▸ v,e.1,h ▸ e.2.1⟩,o⟩
  have q:¬_:=λl=>k ((ZfH).1 l);generalize compareInt (n:H) (g:H)=Q at *;go_wp2;go_ret2
  exact⟨a,by rw[f];simp[k,q],⟨h ▸ v,e.1,h ▸ e.2.1⟩,o⟩
 have S:¬a<(i:E):=O;have f:K (Ox b g a=ZZ):=(by show _=_;unfold Ox;rw[h];simp[A]);go_wp2;go_ret2
 exact⟨a,by rw[f];rfl,⟨h ▸ v,e.1,h ▸ e.2.1⟩,e.2.2⟩
theorem Rf c:∀b a,a∈Bu c b↔a.1<b/\a.2=Z c a.1 0/\a.2≠0
 |0,a=>by simp[Bu]
 | b+1,a=>by
  obtain⟨d,e⟩:=a;rw[Bu,mem_append,Rf c b]
  grind
theorem Zo b:∀a,(Bu b a).Pairwise (λc d=>c.1<d.1)
 |0=>by simp[Bu]
 | a+1=>by
  rw[Bu,pairwise_append];refine⟨Zo b a,by split<;>simp,λc e d f=>?_⟩
  grind [Rf]
def Zka{a c b d}(l:b<c)(h:Zi3 (Bu a c) b d):(if Ox (Bu a c) b d=Z0 then(Z (Bu a c) d (0,0)).2 else 0)=Z a b 0:=by
 have n:=Zo a c;have k:=Rf a c;generalize Bu a c=g at *
 by_cases i:Z a b 0=0
 ·grind [Ox]
 have j:(b,Z a b 0)∈g:=(k _).2 ⟨l,X,i⟩;have⟨f,r,o⟩:=aM j;have p:Z g f (0,0)=(b,Z a b 0):=w_
 have q:f=d:=by
  rcases Nat.lt_trichotomy f d with e|e|e
  ·have:=h.t f e
   grind
  exact e;have m:=h.h d x_ O
  grind [pairwise_iff_getElem]
 grind [Ox]
def Ri{p A w} f {D} a i (g:ku i 0 p A w D (Bu a (F a)))(m:f<F a)(y:F a<=1000000):C_ 371 #[P_ p,I f] i (U_ (ZX ZQ (Z a f 0:H)) i):=by
 obtain⟨u,v,rfl⟩:=g.M.d;have o:=n_ 2 g.r;have s:=Y g.M;have r:=Zhf u v f i g.M (Zo a _) (p_ (Mi a (F a)));have t:K (∀b,Zi3 (Bu a _) _ b->_):=λb h=>Zka m h;clear g m y;generalize Bu a (F a)=c at *;generalize (Z a) f 0=n at *;refine q_ ?_;go_wp2_with fail
 apply r.m;rintro N S ⟨b,rfl,h,l⟩;have e:=t b h;have j:=Y l;have a0:=T_ l o;have L:=Y h;clear l h o
 cases d:Ox c f b
 ·have k:K (n=0):=(by rw[d] at e;exact e.s);clear e d;generalize (F c)=z at *;go_wp2;go_ret;exact⟨by rw[k];rfl,j⟩
 have k:K (n=(Z c b (0,0)).2):=(by rw[d] at e;exact e.s);have x:b<F c:=(by simp only[Ox,decide_eq_true_eq] at d;exact d.1);obtain⟨R,rfl,Q,G,q⟩:=s.b x;have P:=T_ j q;clear e d G q;have M:=F_ b _;generalize (Z c b (0,0)).2=W at *;generalize (F c)=z at *;go_wp2;go_ret;exact⟨by rw[k];rfl,j⟩
abbrev Xt(a b:H)(x:XS):Prop:=x.M<a∨x.M=a/\x.f<b
abbrev rt(b a:H)(x:XS):Prop:=x.M=b/\x.f=a
def Zmz x b a:Na x ⟨b,a,0⟩<0↔Xt b a x:=by
 unfold Na orI Xt compareInt
 grind
def Zmy x b a:Na x ⟨b,a,0⟩=0↔rt b a x:=by
 unfold Na orI rt compareInt
 grind
structure Zi4(b:U XS)(e d c):Prop where
 k:c<=F b
 t:∀a,a<c->Xt e d (Z b a Dm)
 h:∀a,c<=a->a<F b->¬Xt e d (Z b a Dm)
def Kh(a:U XS)(d c b:H):ZG:=ZE (b<F a/\rt d c (Z a b Dm))
def ZpI(e:ZT)(b:U XS)(d c:H)(f:Ending)(g:ZT):Prop:=∃a,f=ZI (Y5 #[I (a:H),ZR (Kh b d c a)])/\Zi4 b d c a/\E_ e g
def Zhg a9 b0 f e b j (i:Nu j 0 (V a9 (F b) b0) b)(b9:Em b)(d5:F b<=1000000):C_ 147 #[V a9 (F b) b0,Y9 #[I (f:H),I (e:H),I 0],YX (.func 148) #[] #[]] j λr g=>ZpI j b f e r g:=by
 have a6:=Y i
 have a8:K (∀a c,a<c->c<F b->(Z b a Dm).M<(Z b c Dm).M∨(Z b a Dm).M=(Z b c Dm).M/\(Z b a Dm).f<=(Z b c Dm).f):=λa c b5 c7=>by
  have:=pairwise_iff_getElem.1 b9 a c O c7 b5
  grind
 have a7:K (∀_ (h:_),Calls _ 148 #[_,Y9 #[I (f:H),I (e:H),ZX _ 0]] h λr g=>_/\_):=λd2 h=>(Hz d2 ⟨f,e,0⟩ h).m (λ_ _ i=>⟨i.1,i.2.q⟩);clear i b9;generalize b8:F b=m at *;have n:=Y b8;clear b8;refine q_ ?_;go_upto_region 1 with fail;generalize Q:ZN j (O_ #[I (f:H),I (e:H),I 0] 184)=a2;have b3:E_ j a2:=(by rw[<- Q];exact r_);have y:H_ a2 (B j.1) #[I f,I e,I 0] 184:=(by rw[<- Q];exact hn_);have c0:=(Qb y).1;have c2:=n_ 0 y;have c3:=n_ 1 y;have c4:=n_ 2 y;have s:=x4_ b3 c2 c3 c4;clear Q b3 y c2 c3 c4;go_wp2_with fail
 go_loopw [9,10] (λd g l=>∃(a c:H),d=I a/\g=I c/\a<=c/\c<=m/\K ((∀k,k<a->Xt f e (Z b k Dm))/\(∀k,c<=k->k<m->¬Xt f e (Z b k Dm))/\E_ a2 l)) (λd g _=>ZL (ZA g)-ZL (ZA d))
 exact⟨0,m,X,X,v_,x_,λk W=>O,λk o b2=>O,y_⟩;obtain⟨a,c,rfl,rfl,b5,S,l⟩:=hrel;have⟨A,D,G⟩:=k3_ l.2.2 s.2.1 s.2.2.1 s.2.2.2;have c1:=l.2.2.size;have p:=Y (s.1.T (l.2.2.m s.1.size))
 by_cases d6:a<c
 ·have d3:a<(c:E):=O;have b7:(a+c)/2<m:=O;have⟨q,a0,a1,L,M,N⟩:=a6.b n (k:=(a+c)/2) b7;have⟨u,v,w⟩:=k3_ p L M N;clear L M N;subst a0;have c9:=Qh a1 p.size;have d0:=Qh c0 c1;generalize c8:(a+c)/2=d at *;have d7:(a+c)/2=(d:E):=O;have d4:=F_ d m;clear c8
  have R:K ((∀k,k<=d->Xt f e (Z b d Dm)->Xt f e (Z b k Dm))/\(∀k,d<=k->k<m->¬Xt f e (Z b d Dm)->¬Xt f e (Z b k Dm))):=⟨λk W c6=>by
   rcases Nat.lt_or_ge k d with o|o
   have:=a8 k d o b7;omega
   grind,λk W g c6=>by
   rcases Nat.lt_or_ge d k with o|o
   have:=a8 d k o g;omega
   grind⟩
  have t:=a7 (Z b d Dm);have b6:=Zmz (Z b d Dm) f e;generalize d1:Xt f e (Z b d Dm)=c5 at *;generalize Na (Z b d Dm) ⟨f,e,0⟩=b1 at *;generalize (Z b d Dm).M=a5 at *;generalize (Z b d Dm).f=a4 at *;generalize (Z b d Dm).i=a3 at *;have P:K (∀h:_,Below _ wr h->Calls _ _ _ h λr _=>_/\_):=λh x=>(t h).m (λ_ _ i=>⟨i.1,x.T (i.2.m x.size)⟩);clear t d1;go_upto_region 5 with fail;go_region_held3 (λg=>D_ g q (d*3) (I (a5:H))/\D_ g q (d*3+1) (I (a4:H))/\D_ g q (d*3+2) (I (a3:H))/\D_ g (B j.1) 0 (I (f:H))/\D_ g (B j.1) 1 (I (e:H))/\D_ g (B j.1) 2 (I 0)) (first|exact⟨u,v,w,A,D,G⟩|grind [Below.cell]) (first|(go_at_call 148;apply (P _ y_.drew).m;rintro r g ⟨rfl,z⟩))
  have g:=Y (l.2.2.T (z.m l.2.2.size));clear z u v w A D G
  by_cases b4:b1<0
  ·have r:=b6.1 b4;go_wp2;go_roundw;exact⟨d+1,c,g_,X,O,S,λk W=>R.1 k O r,l.2.1,g⟩;exact z_
  have r:¬c5:=λi=>b4 (b6.2 i);go_wp2;go_roundw;exact⟨a,d,X,X,O,O,l.1,λk o b2=>R.2 k o b2 r,g⟩;exact z_
 have c5:¬a<(c:E):=O;have b6:a=c:=O;subst b6
 by_cases R:a<m
 ·have b4:a<(m:E):=O;have b7:0<=(a:E):=O;have⟨q,a0,a1,L,M,N⟩:=a6.b n (k:=a) R;have⟨u,v,w⟩:=k3_ p L M N;clear L M N;subst a0;have c9:=Qh a1 p.size;have d0:=Qh c0 c1;have d:K (Kh b f e a=ZE (Na (Z b a Dm) ⟨f,e,0⟩=0)):=by show _=_;unfold Kh;rw[n];simp only[R,true_and,Zmy]
  have t:=a7 (Z b a Dm);generalize Na (Z b a Dm) ⟨f,e,0⟩=b1 at *;generalize (Z b a Dm).M=a5 at *;generalize (Z b a Dm).f=a4 at *;generalize (Z b a Dm).i=a3 at *;have P:K (∀h:_,Below _ wr h->Calls _ _ _ h λr _=>_/\_):=λh x=>(t h).m (λ_ _ i=>⟨i.1,x.T (i.2.m x.size)⟩);clear t;go_upto_region 8 with fail;go_region_held3 (λg=>D_ g q (a*3) (I (a5:H))/\D_ g q (a*3+1) (I (a4:H))/\D_ g q (a*3+2) (I (a3:H))/\D_ g (B j.1) 0 (I (f:H))/\D_ g (B j.1) 1 (I (e:H))/\D_ g (B j.1) 2 (I 0)) (first|exact⟨u,v,w,A,D,G⟩|grind [Below.cell]) (first|(go_at_call 148;apply (P _ y_.drew).m;rintro r g ⟨rfl,z⟩))
  have g:=Y (p.T (z.m p.size));clear z u v w A D G;go_wp2;go_ret2
  exact⟨a,by rw[d];rfl,⟨n ▸ S,l.1,n ▸ l.2.1⟩,g⟩
 have b4:¬a<(m:E):=O;have d:K (Kh b f e a=ZZ):=(by show _=_;unfold Kh;rw[n];simp[R]);clear A D G;go_upto_region 8 with fail;go_quiet (fail);go_wp2;go_ret2
 exact⟨a,by rw[d];rfl,⟨n ▸ S,l.1,n ▸ l.2.1⟩,below_drewN p _⟩
def xbF(b:U XS)(d e c:H):H:=
 match b.find? (λa=>ZE (rt e d a)) with
 |some a=>a.i
 |none=>c
def Tk(a:Ft)(f:U XS)(d b e c:H):H:=
 if Lv a b e<=Z (Z a.f b Df).N c 0/\Z (Z a.f b Df).N c 0<Lv a b e+(Z a.g d Aj).g then Z (Z a.f b Df).N c 0-Lv a b e
 else xbF f d c (Z a.g d Aj).d
def ZlZ{b:U XS}{f e a m:H}(r:Em b)(k:Zi4 b f e a):xbF b e f m=if Kh b f e a=Z0 then(Z b a Dm).i else m:=by
 unfold xbF
 have g:∀c _,Z b c Dm=b[c]:=λc i=>by rw[Qc,Qd i];rfl
 by_cases d:Kh b f e a=Z0
 rw[aD d];simp only[Kh,decide_eq_true_eq] at d;have:b.find? (λj=>ZE (rt f e j))=T b[a]:=(by rw[find?_eq_some_iff_getElem];refine⟨by rw[<- g a d.1];exact aF d.2,a,d.1,X,λh j=>?_⟩;have:=k.t h j;rw[g h O] at this;unfold Xt at this;rw[Bool.not_eq_true',decide_eq_false_iff_not];unfold rt;omega);rw[this,g a d.1];rw[aC d]
 have:b.find? (λj=>ZE (rt f e j))=ZP:=by
  rw[find?_eq_none];intro j s;obtain⟨c,i,rfl⟩:=aM s;simp only[decide_eq_true_eq];intro l
  rcases Nat.lt_or_ge c a with n|n
  have:=k.t c n;rw[g c i] at this;unfold Xt at this;unfold rt at l;omega;apply d;simp only[Kh,decide_eq_true_eq];have h:a<F b:=O;refine⟨h,?_⟩;have o:=k.h a x_ h;rw[g a h] at o ⊢
  rcases Nat.lt_or_ge a c with p|p
  have:=pairwise_iff_getElem.1 r a c h i p;unfold Xt at o;unfold rt at l ⊢;omega;have q:c=a:=O;subst q;exact l
 rw[this]
def ZnQ{p:Prop}(h:p:=by
 have HSE:=Zcy _ f _ p _ _ _ _ _ X D w h hs hbl;have⟨hI,_⟩:=h.v.v.j bi hs.h;have⟨fa,fcc,hvf⟩:=hI.d;have hfk:=hs.n _ p x_ hs.i;rw[hs.g] at hfk;have hmn:=hs.q f hfk;have⟨qk,cK,ab,cb,aw,cw,hvK,hqkl,k0,k1,k2,k3,_⟩:=h.w.at hfk;subst hvK;have⟨xa,xc,hvX⟩:=h.v.j.d;subst hvX;have d0:w.cell? _=some (V _ _ _):=M_ 0 _ _ _ h.v.r;have d2:w.cell? _=some (V _ _ _):=M_ 2 _ _ _ h.v.r;have hdl:=(Qb h.v.r).1;rw[hvf,hvc] at HSE;have HAT:=Y hat;have HMN:=KS.a (D.g.getD f Aj)
 have HHM:K (∀W:World,Calls prog 146 #[.agg #[.bool (D.g.getD f Aj).e.a,V ab (D.g.getD f Aj).e.f.length cb,V aw (D.g.getD f Aj).e.c.length cw]] W (U_ (.int .i64 (((D.g.getD f Aj).g:Nat):Int)) W)):=λW=>by rw[<- HMN];exact Fq _ _ _ _ _ _ _ W (by unfold KS.g ES.b at hmn;omega)
 have HXW:K (∀W:_,_->Nu W 0 _ X):=λW hW=>(Aa.a (S:=λ_=>False) hW).M h.v.j (λ_ _=>id);have HFX:=Y (λW hW=>Zhg _ _ row f X W (HXW.out W hW) h.l hxl);have HLF:K (Tk D X f bi p row=if _/\_ then _ else _):=rfl;have HXB:K (∀i,Zi4 X row f i->xbF X f row (D.g.getD f Aj).d=_):=λi hi=>ZlZ h.l hi;clear HMN hvf hvc hI hs h hat hbl;generalize Tk D X f bi p row=res at *;generalize (D.f.getD bi Df).N.getD row 0=x at *;generalize Lv D bi p=off at *;generalize (An (D.f.getD bi Df).fs).length=nf at *;generalize D.g.getD f Aj=Kf at *;generalize xbF X f row Kf.d=xres at *;generalize Kf.e.a=kwd at *;generalize Kf.e.f.length=knb at *;generalize Kf.e.c.length=knw at *;generalize Kf.g=km at *;generalize Kf.d=kd at *;generalize hnk:D.g.length=nk at *
 clear hnk;generalize hnx:X.length=nx at *;have HNX:=Y hnx;clear hnx;have bf1:(0:Int)<=(f:Int):=O;have bf2:(f:Int)<(nk:Int):=O;refine dl_ ?_;go_enter func78,ntmps78;go_wp2_with fail
 apply HSE.m;rintro e w2 ⟨rfl,hb2⟩;have HB2:=Y hb2;clear hb2 HSE;go_wp2_with fail
 apply (HAT.out _ (HB2.out.alloc HB2.out.size _)).m;rintro e w3 ⟨rfl,hb3⟩;have HB3:=Y ((HB2.out.alloc HB2.out.size _).T (hb3.m (by have:=HB2.out.size;simp;omega)));have d0w:=T_ HB3.out d0;have d2w:=T_ HB3.out d2;have e0:=T_ HB3.out k0;have e1:=T_ HB3.out k1;have e2:=T_ HB3.out k2;clear hb3 HB2
 by_cases hlo:off<=x
 ·obtain⟨bn,hbn⟩:∃bn,bn=x-off:=⟨_,rfl⟩;have q1:(x:Int)-(off:Int)=(bn:Int):=O;have q2:_=(bn:Int):=Au O O;have q3:(0:Int)<=(bn:Int):=O;have HBN:=Y hbn;clear hbn;go_wp2_with fail
  apply (HHM.out _).m;rintro e w4 ⟨rfl,hb4⟩;have HB4:=Y (HB3.out.T (hb4.m HB3.out.size));clear hb4
  by_cases hhi:x<off+km
  ·have q4:(bn:Int)<(km:Int):=p_ HBN.out;have HE:K (res=bn):=(by have:=HLF.out;rw[aD ⟨hlo,hhi⟩] at this;exact this.T HBN.out.s);go_wp2;go_ret;exact⟨by rw[HE.out];rfl,HB4.out⟩
  have q4:¬(bn:Int)<(km:Int):=p_ HBN.out;have HE:K (res=xres):=(by have:=HLF.out;rw[aC (λh=>hhi h.2)] at this;exact this);have d2x:=T_ HB4.out d2;clear d0w d2w e0 e1 e2;go_wp2_with fail
  apply (HFX.out _ HB4.out).m;rintro e w5 ⟨i,rfl,hi,hb5⟩;have HB5:=Y (HB4.out.T (hb5.m HB4.out.size));have hxb:=HXB.out i hi;have⟨d0y,d2y,e3⟩:=k3_ HB5.out d0 d2 k3;clear hb5
  cases hf:Kh X row f i
  ·have HR:K (res=kd):=(by rw[hf] at hxb;exact HE.out.T hxb);clear hxb hf hi;go_wp2;go_ret;exact⟨by rw[HR.out];rfl,HB5.out⟩
  have HR:K (res=(X.getD i Dm).i):=(by rw[hf] at hxb;exact HE.out.T hxb);have hil:i<nx:=(by simp only[Kh,decide_eq_true_eq] at hf;have:=hf.1;rw[HNX.out] at this;exact this);have⟨q,hq,hql,_,_,y2⟩:=(HXW.out _ HB5.out).b HNX.out hil;subst hq;have b1:(0:Int)<=(i:Int):=O;have b2:(i:Int)<(nx:Int):=O;clear hxb hf hi;generalize (X.getD i Dm).i=xb at *;go_wp2;go_ret;exact⟨by rw[HR.out];rfl,HB5.out⟩
 have q1:_=(x:Int)-(off:_):=Au O O;have q3:¬(0:Int)<=(x:Int)-(off:Int):=O;have HE:K (res=xres):=(by have:=HLF.out;rw[aC (λh=>hlo h.1)] at this;exact this);have HB4:=Y HB3.out;go_wp2_with fail
 apply (HFX.out _ HB4.out).m;rintro e w5 ⟨i,rfl,hi,hb5⟩;have HB5:=Y (HB4.out.T (hb5.m HB4.out.size));have hxb:=HXB.out i hi;have⟨d0y,d2y,e3⟩:=k3_ HB5.out d0 d2 k3;clear hb5
 cases hf:Kh X row f i
 ·have HR:K (res=kd):=(by rw[hf] at hxb;exact HE.out.T hxb);clear hxb hf hi;go_wp2;go_ret;exact⟨by rw[HR.out];rfl,HB5.out⟩
 have HR:K (res=(X.getD i Dm).i):=(by rw[hf] at hxb;exact HE.out.T hxb);have hil:i<nx:=(by simp only[Kh,decide_eq_true_eq] at hf;have:=hf.1;rw[HNX.out] at this;exact this);have⟨q,hq,hql,_,_,y2⟩:=(HXW.out _ HB5.out).b HNX.out hil;subst hq;have b1:(0:Int)<=(i:Int):=O;have b2:(i:Int)<(nx:Int):=O;clear hxb hf hi;generalize (X.getD i Dm).i=xb at *;go_wp2;go_ret
 exact⟨by rw[HR.out];rfl,HB5.out⟩):p:=h
def zm{c f bi p row a:H}{g e i:ZY}{d b:U (ZY×ZY)}{X:U XS}{D:Ft}{w:ZT}(h:Ph w c g e i d b X D)(hs:Wh D f bi p)(hbl:F D.f<=1000)(hxl:F X<=1000000)(j:Z (Z D.f bi Df).N row 0<64)(l:Lv D bi p<=100000)(hvc:(Z b bi Lm).2=.iface 382 (P_ a))(hat:∀W:ZT,E_ w W->Calls Y8 323 #[P_ a,I (row:H)] W (U_ (ZX ZQ (Z (Z D.f bi Df).N row 0:H)) W)):Calls Y8 78 #[P_ c,I (row:H),I (f:H)] w (U_ (ZX ZQ (Tk D X f bi p row:H)) w):=by
 have k:∀W:ZT,(method 535 382 (P_ a) "At").run Y8 W=.ok (323,P_ a) W:=λW=>k_
 exact ZnQ
def sj{c f bi p row a:H}{g e i:ZY}{d b:U (ZY×ZY)}{X:U XS}{D:Ft}{w:ZT}(h:Ph w c g e i d b X D)(hs:Wh D f bi p)(hbl:F D.f<=1000)(hxl:F X<=1000000)(j:Z (Z D.f bi Df).N row 0<64)(l:Lv D bi p<=100000)(hvc:(Z b bi Lm).2=.iface 380 (P_ a))(hat:∀W:ZT,E_ w W->Calls Y8 371 #[P_ a,I (row:H)] W (U_ (ZX ZQ (Z (Z D.f bi Df).N row 0:H)) W)):Calls Y8 78 #[P_ c,I (row:H),I (f:H)] w (U_ (ZX ZQ (Tk D X f bi p row:H)) w):=by
 have k:∀W:ZT,(method 535 380 (P_ a) "At").run Y8 W=.ok (371,P_ a) W:=λW=>k_
 exact ZnQ
def Zem{a:H}(c:a<=1000000) b:(Instr.makeSlice 84 (I a) (I a)).run Y8 b=.ok (L_ (B b.1) a a) (ZN b (O_ (YV #[N_] a) 25)):=mk_ 1
structure Mx(g)(j l k e:H)(i:U (U E)):Prop where
 n:∃b:YZ ZY,g.1[l]? =T (O_ b 25)/\B b=k/\(∀a,a<e->∃c,b[a]? =T c/\Ad g j c (Z i a []))/\∀a d,a<d->d<e->∀f c h,b[a]? =T f->b[d]? =T c->ZW f=T h->ZW c≠T h
def Mx.q{g w' base a f e b}(i:Mx g base a f e b)(d:E_ g w'):Mx w' base a f e b:=by
 have⟨h,c,j,k,l⟩:=i.n
 exact⟨h,(d.block a (Qb c).1).T c,j,λp m=>by
  have⟨q,o,n⟩:=k p m
  exact⟨q,o,n.q d⟩,l⟩
def Mx.put{e g c j i f v}(o:Mx e g c j i f)(q:i<j)(t:Ad e g v (Z f i [])){l}(w:∀x,ZW v=T x->l<=x)(D:∀b:YZ ZY,e.1[c]? =T (O_ b 25)->∀a,a<i->∀d,b[a]? =T d->∀x,ZW d=T x->x<l):Mx (ZO e (J c i) v) g c j (i+1) f:=by
 have⟨b,h,m,p,u⟩:=o.n;refine⟨YS b i v,hs_ e c i b _ v h,by simp[m],λa y=>?_,λa k z A d M x n L G=>?_⟩
 rotate_left
 ·rw[aH O] at n
  by_cases r:k=i
  ·grind
  grind
 by_cases r:a=i
 subst r;exact⟨v,by simp[m,q],Am t h C⟩;have⟨d,n,s⟩:=p a O;exact⟨d,w_,Am s h C⟩
def ce(a:Ft):U (U E):=a.f.map (λb=>An b.fs)
theorem Yy{a b}(c:b<F a.f):Z (ce a) b []=An (Z a.f b Df).fs:=by grind [ce]
def Zoe(c:ZT)(a:Ft)(x:Ending)(d:ZT):Prop:=∃b,x=ZI (L_ b (F a.f) (F a.f))/\B c.1<=b/\Mx d (B c.1) b (F a.f) (F a.f) (ce a)/\E_ c d
def ry{b1 e7 e6 e8 e2 c8 c6 b a}(o:Ph a b1 e7 e6 e8 e2 c8 c6 b)(d5:0<F b.f)(f7:F b.f<=1000)(b7:∀i,i<F b.f->0<F (Z b.f i Df).fs/\F (Z b.f i Df).fs<=1000):C_ 94 #[P_ b1] a λn c=>Zoe a b n c:=by
 have⟨a5,c2⟩:=Y_ o b7;have⟨e5,f4,e1,g1,_,_⟩:=o.v.v.at (i:=0) d5;subst e1;have b0:=n_ 1 o.v.r;have d7:∀c5:_,(Instr.makeSlice _ _ (ZX _ (F b.f:_))).run _ c5=_:=Zem O;clear o b7;generalize b8:F b.f=c at *;have u:=Y b8;clear b8;refine q_ ?_;go_upto_region 2 with fail;generalize z:ZN a (O_ (YV #[N_] c) 25)=a1;have w:E_ a a1:=by rw[<- z];exact r_
 have e9:K (Mx a1 (B a.1) (B a.1) c 0 (ce b)/\E_ a a1):=(by refine⟨⟨_,by rw[<- z];exact hn_,by simp[YV],λd q=>O,λd k _ e=>O⟩,w⟩);have f5:=T_ w b0;clear z w d7 b0;go_wp2_with fail
 go_loopw [17] (λd e=>∃(i:H),d=ZX ZQ i/\i<=c/\K (Mx e (B a.1) (B a.1) c i (ce b)/\E_ a e)) (λd _=>c-ZL (ZA d))
 grind
 obtain⟨i,rfl,g0,e⟩:=hrel
 by_cases M:i<c
 ·have L:i<F b.f:=u ▸ M;have⟨e4,f2,e0,g2,Q,R⟩:=a5.v.v.at L;have d9:e4=e5:=w_;subst d9;have⟨j,b6⟩:=a5.v.v.j i L;have⟨d3,v,N⟩:=j.d;have⟨a8,a7,c1⟩:=b6.iface;rw[Ak] at N;rw[N] at Q j;rw[c1] at R;have⟨f8,f9⟩:=c2 i M;have⟨d1,d2⟩:=k2_ e.2 Q R;have⟨c4,c3⟩:=Y_ (Yy L) j
  have d8:∃r,d3=T ⟨r,0,ZP⟩:=by
   rcases j.2 with⟨n,d⟩|⟨d4,c9,d0,n,_⟩
   ·grind
   grind
  obtain⟨r,rfl⟩:=d8;have f1:=F_ i c;clear N c1 j b6 Q R e0;generalize b9:F (Z b.f i Df).fs=S at *;have m:K (F (An (Z b.f i Df).fs)=S):=(by show _=_;rw[Ak];exact b9);clear b9;go_upto_region 5 with fail;generalize A:ZN wr (O_ #[L_ r S v,.iface a8 (P_ a7)] 163)=s;have x:E_ wr s:=(by rw[<- A];exact r_);have b4:s.1[B wr.1]? =T (O_ #[L_ r S v,.iface a8 (P_ a7)] 163):=(by rw[<- A];exact hn_);have g5:=n_ 0 b4;have g:=K_ (e.1.q x) (e.2.T (x.m e.2.size));clear A b4 d1 d2 x e;have b2:=c3.q g.2
  have a3:=Tryz.slices_Clone_int _ 0 _ v _ _ (by rw[m];exact x_) O (λd q=>by
   have⟨f,aA,_,_,a2,_⟩:=b2.b m (k:=d) (by rw[<- m];exact q);injection aA with aA;injection aA with aA _;subst aA;rw[Nat.zero_add]
   exact a2)
  clear b2;go_wp2_with fail
  apply a3.m;clear a3;rintro n t ⟨a0,rfl,l,_,p⟩;have y:=g.1.q p;have c0:=g.2.size;have b5:=g.2.T (p.m c0);have b3:Ad t (B a.1) a0 (Z (ce b) i []):=by rw[c4];rw[<- m,take_length] at l;exact Ad.m (b':=B s.1) l c0
  have a4:∀h:YZ ZY,t.1[B a.1]? =T (O_ h 25)->∀d,d<i->∀W,h[d]? =T W->∀f,ZW W=T f->f<B s.1:=λh D d q W hu f P=>by have⟨c9,G,_,a6,_⟩:=g.1.n;have a9:=(p.block _ (Qb G).1).T G;rw[a9] at D;simp at D;subst D;have⟨d0,c7,a2⟩:=a6 d q;rw[c7] at hu;injection hu with hu;subst hu;exact(B_ a2 f P).2
  have⟨a9,G,d6,_⟩:=y.n
  have a2:ZV t (J (B a.1) i)=T (a9[i]' O):=by
   rw[M_ i _ 25 (0,0) G]
   grind
  have f6:=R_ i _ _ G;generalize (a9[i]' O)=g4 at a2;have f0:K (_/\Below _ a (ZO t (J (B a.1) i) a0)):=⟨y.put M b3 (λf P=>(B_ l f P).1) a4,b5.setCell x_ _⟩
  obtain⟨a6,g3,f3,rfl⟩:∃c7 e3 h,a0=ZH c7 e3 h:=by
   rcases l.2 with⟨rfl,_⟩|⟨d4,c9,d0,rfl,_⟩
   omega
   grind
  clear y b5 b3 G d6 p l a4;go_wp2;go_roundw
  grind
  exact z_
 have f:¬i<(c:E):=O;have d:i=c:=O;subst d;go_wp2;go_ret;refine⟨B a.1,by rw[u];rfl,x_,?_,e.2⟩;rw[u];exact e.1
def zf f o a d (b:Pi d f o a)(g:0<F a.f)(j:F a.f<=1000)(k:∀c,c<F a.f->0<F (Z a.f c Df).fs/\F (Z a.f c Df).fs<=1000):C_ 55 #[P_ f] d λe h=>Zoe d a e h:=by
 have s:=n_ 0 b.f;have⟨w,v,x,t,r,q,i⟩:=b.g;have n:=ry i g j k;clear b i k g j;refine q_ ?_;go_wp2_with fail
 apply n.m;rintro e y ⟨p,rfl,h⟩;have m:=Y h;clear h;generalize l:F a.f=u at *;go_wp2;go_ret;exact⟨p,by rw[l];rfl,l ▸ m⟩
theorem Sq{f e}:∀a d,(Fu f e d a).Sublist (a.map λb=>b.v)
 |[],_=>by simp[Fu]
 |b::c,d=>by unfold Fu;split;exact List.Sublist.cons_cons _ (Sq c _);exact(Sq c _).cons _
def Sp{tot bins B}:∀c b,(∀a∈c,Bz bins tot a.h<=B)->b<=B+1->F (Fu tot bins b c)<=B+1-b
 |[],b,_,d=>by simp[Fu];omega
 | a ::g,b,e,d=>by
  have j:=e a s_;have f:=λi h=>e i (mem_cons_of_mem a h);unfold Fu;split
  ·have:=Sp g (Bz bins tot a.h+1) f O
   grind
  exact Sp g _ f d
def ey{a b}:(Bm a b).Sublist ((ZU (F a-1) a).map λc=>c.v):=by grind [Bm,Sq]
def ye{a}(c:Bc a){b}:(Bm a b).Pairwise (· < ·):=by apply Pairwise.sublist ((ey).T ((take_sublist _ _).map _));rw[pairwise_map];exact c.i.imp λd=>d.1
def ZaT{a}(d:Bc a){b}(o:2<=b):F (Bm a b)<b:=by
 unfold Bm;split;simp;omega;rename_i f;split
 ·grind
 have p:=d.at (i:=F a-1) O;have r:Ae a=(Z a (F a-1) e0).h:=(by unfold Ae;rw[aC f]);have:=Sp (tot:=Ae a) (bins:=b) (B:=b-1) (ZU (F a-1) a) 1 (λm h=>?_) O;omega;obtain⟨c,k,rfl⟩:=ZkP h;rw[length_take] at k;have l:c<F a-1:=O;have e:Z (ZU (F a-1) a) c e0=Z a c e0:=w_;rw[e];have q:=(d.lt (i:=c) (j:=F a-1) l O).2.2;unfold Bz;have g:_*(Z a c e0).h<b*Ae a:=Int.mul_lt_mul_of_pos_left O O;have n:=Int.ediv_lt_of_lt_mul O g;omega
theorem uw a b {c d}(j:F a<=200)(h:2<=d)(i:d<=32)(f:2<=c):(Fb a b c d).Pairwise (· < ·)/\F (Fb a b c d)<c:=by have g:F ((Bd a b).map Prod.fst)<=2097152:=(by have:=Ki a b;simp;omega);have e:=(Tg h i _ ((Bd a b).map Prod.snd) g).1;exact⟨ye e,ZaT e f⟩
structure Vd(e)(b:RS):Prop where
 k:∀d∈b.k,0<=d/\d<=99
 M:∀a∈b.M,(-1000000000<=a.num/\a.num<=1000000000)/\ZK a.f<=8
 j:∀c,c<e->∀a∈b.a c,(-1000000000<=a.num/\a.num<=1000000000)/\ZK a.f<=8
def Vd.h{a}:Vd a RS.h:=⟨by simp[RS.h],by simp[RS.h],by simp[RS.h]⟩
def Ha.N{b}(c:Ha b){a}(f:F a<=8):(-1000000000<=(Hw b a).num/\(Hw b a).num<=1000000000)/\ZK (Hw b a).f<=8:=by have d:=c.k;have e:=c.b;refine⟨?_,?_⟩;show -1000000000<=Tm b/\Tm b<=1000000000;unfold Tm;split<;>omega;show ZK (ZB a)<=8;have:ZK (ZB a)=F a:=(by simp[ZB,ZK]);omega
def Vd.take{n o m d h i}(a:Vd n d)(e:Ja n d)(q:Cv n o m d i=.ok h):Vd n h:=by
 unfold Cv at q;split at q
 ·cases q
 split at q
 ·split at q
  ·cases q
  injection q with q;subst q;exact⟨a.k,a.M,a.j⟩;injection q with q;subst q;exact⟨a.k,a.M,a.j⟩
 split at q;injection q with q;subst q;exact⟨a.k,a.M,a.j⟩;split at q
 ·injection q with q;subst q
  have j:∀c∈d.M++[Hw d.p d.f],(-1000000000<=c.num/\c.num<=1000000000)/\ZK c.f<=8:=λc f=>by
   rcases mem_append.1 f with b|b
   exact a.M c b;simp only[mem_singleton] at b;rw[b];exact e.num.N e.f
  unfold Hm;split
  ·refine⟨λp k=>?_,s_,λl g c f=>?_⟩
   ·rcases mem_append.1 k with b|b
    exact a.k p b;simp only[mem_singleton] at b;rw[b];exact⟨e.d,e.e⟩
   simp only[g,if_true] at f
   rcases mem_append.1 f with b|b
   exact a.j l g c b
   grind
  exact⟨a.k,j,a.j⟩
 cases q
def Vd.a{a k f}(m:1<=a)(n:∀c,c<a->k c=ZZ->0<=f c/\f c<=3):∀j {b d i},Vd a b->Ja a b->Bt a k f b j i=.ok d->Vd a d
 |[],b,d,i,g,_,e=>by injection e with e;subst e;exact g
 | o::j,b,d,i,g,l,e=>by
  simp only[Bt] at e
  cases h:Cv a k f b o with
  |error q=>grind
  |ok p=>rw[h] at e;exact Vd.a m n j (g.take l h) (l.take m n h) e
structure Zi6(c):Prop where
 ok:Zi7 c
 f:∀(b) (e) (d a),F b<=200->2<=a->a<=16->Rq (c b e d a)/\(c b e d a).a=Z0/\(c b e d a).b<=16
def Za3{f e g m h c d l b}(s:(∃a,a<e+1/\g a=Z0)->Zi6 f)(t:∀a,a<e+1->g a=ZZ->0<=m a/\m a<=3)(p:2<=c)(v:c<=16)(w:2<=d)(x:d<=32)(j:Bt (e+1) g m RS.h l 0=.ok b):xg f e g h c d b:=by
 have n:=Ja.a O t l (Ja.h (show 1<=e+1 by omega)) j;have o:=Vd.a O t l (Vd.h) (Ja.h (show 1<=e+1 by omega)) j;refine⟨λk=>(s k).ok,λa q=>?_,o.j,o.k⟩;have r:F (b.a a)<=200:=(n.j a q) ▸ n.k
 cases k:g a with
 | true=>
  have i:Cp f Z0 (h a) c d (b.a a) b.k=f (b.a a) b.k (h a) c:=(by simp[Cp]);rw[i];exact(s ⟨a,q,k⟩).f _ _ _ _ r p v
 | false=>
  have i:Cp f ZZ (h a) c d (b.a a) b.k=⟨ZZ,Fb (b.a a) b.k c d,[]⟩:=(by simp[Cp]);rw[i];have⟨u,y⟩:=uw (b.a a) b.k r w x p;refine⟨⟨u.imp λj=>O,?_,s_⟩,X,?_⟩
  ·grind
  show Kz ZZ (F (Fb (b.a a) b.k c d)) 0<=16;simp[Kz];omega
def clF(b:U KS)(a:U (U H))(e:U H)(f g:H):H:=(range g).countP (λc=>sO b a f c&&e.any (λd=>sO b a d c))
def ZjF b a d e c:clF b a d e (c+1)=clF b a d e c+(if(sO b a e c&&d.any (λf=>sO b a f c))=Z0 then 1 else 0):=by unfold clF;rw[range_succ,countP_append,countP_singleton]
def Zou b a d e c:clF b a d e c<=c:=by have:=countP_le_length (p:=λf=>sO b a e f&&d.any (λg=>sO b a g f)) (l:=range c);rw[length_range] at this;exact this
def Zjk{a:U H}{b}(d:b<F a){c}:(ZU (b+1) a).any c=((ZU b a).any c||c (Z a b 0)):=by
 rw[Qi d,any_append]
 grind
def Pp{a:U H}{b}(c:b<F a):Z a b 0∈a:=w_
def ZeK M W h R g z {b} c d j (m:MkV j M W h c d)(A:NuV j z b)(a3:g<F c)(D:∀e∈b,e<F c)(b4:h<=1000)(a5:F b<=1000):C_ 291 #[P_ M,V z (F b) R,I g] j λn a=>n=ZI (ZX ZQ (clF c d b g h:H))/\∃i,a=Y1 j i:=by
 have y:=Y m;have w:=K_ A D;have b6:=m.i;have b1:=m.j.g;have⟨k,p⟩:=Z_ (F b);have x:=Y p;rw[p] at a5 ⊢;clear m A D p;refine q_ ?_;go_wp2_with fail
 go_loopw [7,8] (λl f n=>∃(a i:H),f=ZX ZQ a/\a<=h/\l=ZX ZQ (clF c d b g a:H)/\n=Y1 j i) (λ_ f _=>h-ZL (ZA f))
 exact⟨0,0,X,v_,X,X⟩;obtain⟨a,i,rfl,b5,rfl,t⟩:=hrel;subst t
 by_cases G:a<h
 ·have a0:a<(h:E):=O;have v:=Y (ZjF c d b g a);have b2:=Zou c d b g a;generalize clF c d b g a=S at *;go_wp2_with fail
  apply ((y.drewN).a a3 G).m;rintro n a9 ⟨rfl,a6,s⟩;have⟨N,r⟩:=Z_ (sO c d g a);have Q:=Y r;rw[r];subst s;clear r;go_wp2_with fail
  go_loopw [10,11] (λo l q=>∃(f i:H),l=ZX ZQ f/\f<=k/\o=ZR ((ZU f b).any (λe=>sO c d e a))/\q=Y1 j i) (λ_ l _=>k-ZL (ZA l))
  exact⟨0,i+a6,X,v_,X,s_⟩;obtain⟨f,L,rfl,b3,rfl,t⟩:=hrel;subst t
  by_cases a4:f<k
  ·have o:f<F b:=x ▸ a4;obtain⟨b7,rfl,b0⟩:=w.1 f o;have a2:=w.2 _ (Pp o);have u:K ((ZU _ b).any (λe=>sO c d e a)=_):=Zjk o;generalize (Z b) f 0=e at *;generalize (ZU f b).any (λe=>sO c d e a)=l at *;have a1:=F_ f k;go_wp2_with fail
   apply ((y.drewN).a a2 G).m;rintro n a9 ⟨rfl,a7,s⟩;subst s;have⟨a8,q⟩:=Z_ (sO c d e a);have P:K ((ZU (f+1) b).any (λe=>sO c d e a)=(l||a8)):=(by rw[<- q];exact u);rw[q];clear u q
   cases l<;>
    (go_wp2
     go_roundw;exact⟨f+1,L+a7,g_,O,by rw[P];rfl,s_⟩
     simp[ZA];omega)
  have a1:¬f<(k:E):=O;have o:ZU f b=_:=aI (p_ x.out);rw[o];have q:K (clF c d b g (a+1)=S+(if(N&&b.any (λe=>sO c d e a))=Z0 then 1 else 0)):=(by rw[<- Q];exact v);clear v o;generalize b.any (λe=>sO c d e a)=l at *
  cases N<;>cases l<;>
   (go_wp2
    go_roundw;exact⟨a+1,L,g_,O,by rw[q];first|rfl|go_num,by first|rfl|simp⟩
    simp[ZA];omega)
 have a0:¬a<(h:E):=O;obtain rfl:a=h:=O;go_wp2;go_ret;exact⟨X,_,X⟩
def Ze4{c}{a:U H}{b}(d:b<F a):Bk c (ZU (b+1) a)=Bk c (ZU b a)+(Z c (Z a b 0) Aj).g:=by
 unfold Bk;rw[Qi d,map_append,sum_append]
 grind
def ZlF{Ks fs}(b:∀a∈fs,(Z Ks a Aj).g<=2002):Bk Ks fs<=2002*F fs:=by
 induction fs with
 |nil=>simp[Bk]
 | cons a fs c=>
  grind [Bk]
def dg r a8 a1 z b c k (s:DkV k r a8 c)(m:NuV k z b)(t:∀d∈b,d<F c)(a6:F b<=1000):C_ 137 #[P_ r,V z (F b) a1] k (U_ (ZX ZQ (Bk c b:H)) k):=by
 have y:=Y s;have w:=K_ m t
 have W:=Y (λa e=>by
  have:=ZlF (Ks:=c) (fs:=ZU a b) (λd m=>by
   have e:=s.x d (t d (aL m));have:=e.g;have:=e.1;have:=e.2.1
   omega)
  rw[length_take,Nat.min_eq_left e] at this
  exact this)
 have⟨i,v⟩:=Z_ (F b);have x:=Y v;rw[v] at a6 ⊢;clear s m t v;refine q_ ?_;go_wp2_with fail
 go_loopw [5,6] (λf e g=>∃a:H,e=ZX ZQ a/\a<=i/\f=ZX ZQ (Bk c (ZU a b):H)/\E_ k g) (λ_ e _=>i-ZL (ZA e))
 exact⟨0,X,v_,X,y_⟩;obtain⟨a,rfl,e,rfl,h⟩:=hrel
 by_cases a5:a<i
 ·have u:a<F b:=x ▸ a5;obtain⟨b1,rfl,A⟩:=(w.1.q h) a u;have Q:=w.2 _ (Pp u);have⟨j,a2,n,p,o,q,D,G,L,M,N⟩:=(y.q h).z Q;have a0:K (Bk c _=_):=Ze4 u;have f:=y.x _ Q;have R:=f.g;have b6:=W a O;have P:=Km n o (F (Z c (Z b a 0) Aj).e.f) (F (Z c (Z b a 0) Aj).e.c) p q (Z c (Z b a 0) Aj).e.a (Z c (Z b a 0) Aj).d
  have S:K (∀l:ZT,C_ 189 #[Y9 #[ZR (Z c (Z b a 0) Aj).e.a,V n (F (Z c (Z b a 0) Aj).e.f) p,V o (F (Z c (Z b a 0) Aj).e.c) q,I (Z c (Z b a 0) Aj).d]] l (U_ (ZX ZQ (Z c (Z b a 0) Aj).g) l)):=λl=>by rw[<- R];exact P l f.1 f.2.1
  have b7:(Z c (Z b a 0) Aj).g<=2002:=oj_ f.1 f.2.1;clear P R f;generalize (Z c (Z b a 0) Aj).g=a7 at *;generalize (Z c (Z b a 0) Aj).e.a=b3 at *;generalize (F (Z c (Z b a 0) Aj).e.f)=a9 at *;generalize (F (Z c (Z b a 0) Aj).e.c)=b0 at *;generalize (Z c (Z b a 0) Aj).d=a3 at *;generalize (Z b) a 0=d at *;generalize Bk c (ZU a b)=b2 at *;have a4:=F_ a i;have b5:=F_ d (F c);have b8:_=(b2:E)+(a7:_):=Au O O;go_upto_region 5 with fail
  go_region_held3 (λg=>D_ g r 1 (L_ j (F c) a2)/\D_ g b1 a (I (d:H))/\D_ g j (d*4) (ZR b3)/\D_ g j (d*4+1) (V n a9 p)/\D_ g j (d*4+2) (V o b0 q)/\D_ g j (d*4+3) (I (a3:H))) (first|exact⟨D,A,G,L,M,N⟩|exact⟨Ah aA D,Ah aA A,Ah aA G,Ah aA L,Ah aA M,Ah aA N⟩) (first|(go_at_call 189;apply (S _).m;rintro b4 b9 ⟨rfl,g⟩;have aA:Below (B wr.1) _ _:=y_.drew.T g))
  go_wp2;go_roundw;exact⟨a+1,g_,O,by rw[a0];go_num,h.T (aA.m h.size)⟩;exact z_
 have a4:¬a<(i:E):=O;have f:ZU a b=_:=aI (p_ x.out);rw[f];go_wp2;go_ret;exact⟨X,h⟩
abbrev Dg:ZY:=N_
structure Mk(f:ZT)(e)(g)(c)(b:U (U E)):Prop where
 M:ZD f e 25 1 g (F b) c
 j:∀a,a<F b->Ad f e (Z c a Dg) (Z b a [])
 apart:∀a d,a<d->d<F b->Bl (Z c a Dg) (Z c d Dg)
section
variable {w w':ZT} {base:H} {v v':ZY} {vs:U ZY} {Ls:U (U E)}
def Mk.y(a:Mk w base v vs Ls):F vs=F Ls:=p_ a.M.1
def Mk.nil{w base}:Mk w base (N_) [] []:=⟨rn_,λc a=>by simp at a,λc d _ b=>by simp at b⟩
def Mk.p{K}(b:Mk w base v vs Ls)(j:Aa K w w')(i:∀a k h,w.1[a]? =T (O_ k h)->h=25∨h=3->base<=a->¬K a):Mk w' base v vs Ls:=
 ⟨j.M b.M (λa c=>by obtain⟨d,e⟩:=Ac b.M c;exact i a d _ e (ZM X) (B_ b.M a c).1),λg f=>j.M (b.j g f) (λa c=>by obtain⟨d,e⟩:=Ac (b.j g f) c;exact i a d _ e (ZJ X) (B_ (b.j g f) a c).1),b.apart⟩
def Mk.q(a:Mk w base v vs Ls)(b:E_ w w'):=a.p (.a (S:=λ_=>False) b) (λ_ _ _ _ _ _=>id)
def Mk.d(c:Mk w base v vs Ls):∃a b,v=ZH a (F Ls) b:=by
 rcases c.M.2 with⟨rfl,g⟩|⟨f,d,e,rfl,_⟩
 ·grind
 grind
def Mk.m{c}(a:Mk w base v vs Ls)(d:c<=base):Mk w c v vs Ls:=by
 refine⟨⟨a.M.1,?_⟩,λj i=>(a.j j i).m d,a.apart⟩
 rcases a.M.2 with b|⟨g,e,f,b,h,k⟩
 exact ZM b;exact ZJ ⟨g,e,f,b,aG d h,k⟩
def Mk.at(d:Mk w base v vs Ls){i}(n:i<F Ls):∃a h b k,v=L_ a (F Ls) h/\ZV w (J a i)=T (ZH b (F (Z Ls i [])) k)/\(∀e,YT w (J a e)=ZZ)/\Z vs i Dg=ZH b (F (Z Ls i [])) k/\(∃c,w.1[a]? =T (YU c 25 (0,0)))/\base<=a:=by
 rcases d.M.2 with⟨_,o⟩|⟨l,j,c,rfl,m,g,p,_⟩
 omega;have⟨b,k,f⟩:=(d.j i n).d;refine⟨l,j,b,k,X,?_,λe=>R_ e _ _ g,f,⟨c,g⟩,m⟩;rw[World.ownsRow.cellAt d.M i O,<- f]
 grind
def Mk.P{c L}(d:Mk w base v vs Ls)(i:Ad w base c L)(m:∀a,a<F Ls->Bl (Z vs a Dg) c)(g:Y3 w w' (ZW v))(o:ZD w' base 25 1 v' (F Ls+1) (vs++[c])):Mk w' base v' (vs++[c]) (Ls++[L]):=by
 have n:=d.y;have e:∀a,a<F Ls->Z (vs++[c]) a Dg=Z vs a Dg/\Z (Ls++[L]) a []=Z Ls a []:=w_;have h:Z (vs++[c]) (F Ls) Dg=c/\Z (Ls++[L]) (F Ls) []=L:=w_;refine⟨w_,λa j=>?_,λa f k l=>?_⟩
 ·rw[Qe,length_singleton] at j
  by_cases b:a<F Ls
  rw[(e a b).1,(e a b).2];exact Ad.kept (d.j a b) g (Ap d.M (d.j a b) C);obtain rfl:a=F Ls:=O;rw[h.1,h.2];exact Ad.kept i g (Ap d.M i C)
 rw[Qe,length_singleton] at l;rw[(e a O).1]
 by_cases b:f<F Ls
 rw[(e f b).1];exact d.apart a f k b
 grind
def Mk.grow{j o b d i}(c:Mk w base (L_ j (F Ls) o) vs Ls)(r:b<F Ls)(q:Y3 w w' (ZW (Z vs b Dg)))(v:Ad w' base d i)(u:ZW d=ZW (Z vs b Dg)∨ZW d=T (B w.1)):Mk (ZO w' (J j b) d) base (L_ j (F Ls) o) (vs.set b d) (Ls.set b i):=by
 have z:=c.y;have t:=World.ownsRow.kept c.M q (Ap (c.j b r) c.M C);have⟨x,s⟩:=Ac t (k:=j) X;have⟨y,_⟩:=World.ownsRow.stored t b d;refine⟨w_,λa m=>?_,λa f n e=>?_⟩
 ·rw[length_set] at m
  by_cases g:a=b
  subst g;have h:Z (vs.set a d) a Dg=d:=w_;have k:Z (Ls.set a i) a []=i:=w_;rw[h,k];exact Am v s C;have h:Z (vs.set b d) a Dg=Z vs a Dg:=w_;have k:Z (Ls.set b i) a []=Z Ls a []:=w_;rw[h,k];refine Am (Ad.kept (c.j a m) q ?_) s C
  rcases Nat.lt_or_gt_of_ne g with g|g
  exact(c.apart a b g r).s.a;exact(c.apart b a g m).a
 rw[length_set] at e;have g:∀k,k<F Ls->k≠b->Z (vs.set b d) k Dg=Z vs k Dg:=w_;have h:Z (vs.set b d) b Dg=d:=w_
 by_cases l:a=b
 subst l;rw[h,g f e O];exact Bl.b (c.apart a f n e) (c.j f e) u
 by_cases p:f=b
 subst p;rw[h,g a O l];exact(Bl.b (c.apart a f n e).s (c.j a O) u).s;rw[g a O l,g f e p];exact c.apart a f n e
end
def Mk.h{k n j t a}(c:Mk k n j t (a.map An)):LiV k j a:=by have⟨l,o,d⟩:=c.d;rw[length_map] at d;refine⟨⟨l,o,d⟩,λb u=>?_⟩;have h:b<F (a.map An):=w_;have⟨s,p,m,r,e,f,_,q,_⟩:=c.at h;have g:Z (a.map An) b []=An (Z a b []):=w_;have i:=c.j b h;rw[q,g,Ak] at i;rw[g,Ak] at f;rw[length_map] at e;exact⟨s,p,m,r,e,f,i.f X⟩
structure ja(e)(d)(f)(c)(a):Prop where
 M:Xr e d 227 4 f (zipWith Bs a c)
 y:F c=F a
 j:∀b,b<F a->Ad e d (Z c b Lm).1 (Z a b Aj).e.f/\Bj e d (Z c b Lm).2 (Z a b Aj).e.c
section
variable {w w':ZT} {base:H} {v v':ZY} {kvs:U (ZY×ZY)} {Ks:U KS}
def ja.nil{w base}:ja w base (N_) [] []:=⟨Xr.nil _,X,λb a=>by simp at a⟩
def ja.a(a:ja w base v kvs Ks):F (zipWith Bs Ks kvs)=F Ks:=by rw[length_zipWith,a.y,Nat.min_self]
def ja.p{K}(c:ja w base v kvs Ks)(n:Aa K w w')(i:∀b h a,w.1[b]? =T (O_ h a)->a=227∨a=3∨a=9->base<=b->¬K b):ja w' base v kvs Ks:=by have e:∀{a m l:H} {o:_} {p:_},ZD w _ a m o l p->(a=227∨_=3∨a=9)->_:=λd k=>n.M d (λb f=>by obtain⟨g,j⟩:=Ac d f;exact i b g _ j k (B_ d b f).1);exact⟨⟨e c.M.M (ZM X),c.M.h⟩,c.y,λg f=>⟨e (c.j g f).1 (ZJ (ZM X)),e (c.j g f).2 (ZJ (ZJ X))⟩⟩
def ja.q(a:ja w base v kvs Ks)(b:E_ w w'):=a.p (.a (S:=λ_=>False) b) (λ_ _ _ _ _ _=>id)
def ja.P{b c}(d:ja w base v kvs Ks)(l:Ad w base c.1 b.e.f)(m:Bj w base c.2 b.e.c)(k:Y3 w w' (ZW v))(t:ZD w' base 227 4 v' (F Ks+1) ((zipWith Bs Ks kvs).flatten++Bs b c)):ja w' base v' (kvs++[c]) (Ks++[b]):=by
 have i:=d.y;refine⟨?_,by simp[i],λa o=>?_⟩;rw[zipWith_append i.s];exact d.M.P w_ X;have e:∀{r q n:H} {x:_} {s:_},ZD w base r q x n s->_:=λj p=>World.ownsRow.kept j k (Ap d.M.M j p);rw[Qe,length_singleton] at o
 by_cases h:a<F Ks
 have f:Z (kvs++[c]) a Lm=Z kvs a Lm:=w_;have g:Z (Ks++[b]) a Aj=Z Ks a Aj:=w_;rw[f,g];exact⟨e (d.j a h).1 C,e (d.j a h).2 C⟩;obtain rfl:a=F Ks:=O;have f:Z (kvs++[c]) (F Ks) Lm=c:=w_;have g:Z (Ks++[b]) (F Ks) Aj=b:=(by simp[Z]);rw[f,g];exact⟨e l C,e m C⟩
def ja.h(a:ja w base v kvs Ks):FeV w v Ks:=by have⟨f,j,d⟩:=a.M.d;rw[a.a] at d;refine⟨⟨f,j,d⟩,λi c=>?_⟩;have⟨q,k,e,_,_,_,_,b⟩:=a.M.at (i:=i) (a.a ▸ c);rw[a.a] at e;have⟨g,l,n⟩:=(a.j i c).1.d;have⟨h,m,o⟩:=(a.j i c).2.a;have p:Z (zipWith Bs Ks kvs) i []=Bs (Z Ks i Aj) (Z kvs i Lm):=(by simp[Z,getElem?_zipWith,c,show i<F kvs by rw[a.y];exact c]);rw[p] at b;exact⟨q,k,g,l,h,m,e,b 0 O _ X,b 1 O _ (congrArg T n),b 2 O _ (congrArg T o),b 3 O _ X⟩
end
def Nt(g:ZT)(a b:H)(e c d f:ZY):Prop:=g.1[a]? =T (O_ #[I b,e,c,d,f] 142)
structure MkX(b:ZT)(e m f g:H)(h o p q i j)(l)(k)(d)(c:U (U H))(n):Prop where
 r:b.1[m]? =T (O_ #[P_ f,i,j] 331)
 v:Nt b f g h o p q
 A:ja b e h l d
 t:Mk b e i k (c.map An)
 w:Ad b e j (An n)
 y:F c=F d
 u:∀a,a<F c->F (Z c a [])=g
 x:∀a,a<F d->Vc (Z d a Aj)
section
variable {w w':ZT} {base a db n:H} {vF vB vC vX vb d e f g:ZY} {kvs:U (ZY×ZY)} {b:U ZY} {Ks:U KS} {Bb:U (U H)} {c:U H}
def MkX.h(e:MkX w base a db n vF vB vC vX vb d kvs b Ks Bb c):MkV w a db n Ks Bb:=
 ⟨M_ 0 _ 331 (0,0) e.r,⟨vb,M_ 1 _ 331 (0,0) e.r,e.t.h⟩,⟨M_ 0 _ 142 (0,0) e.v,⟨vF,M_ 1 _ 142 (0,0) e.v,e.A.h⟩,e.x⟩,e.y,e.u⟩
def MkX.i(h:MkX w base a db n vF vB vC vX vb d kvs b Ks Bb c)(m:Aa (λs=>s=db) w w')(r:Nt w' db n vF e f g):MkX w' base a db n vF e f g vb d kvs b Ks Bb c:=by
 have o:∀i l k,H_ w i l k->k≠142->¬i=db:=λi l k j p t=>by
  have q:=h.v;unfold Nt at q
  grind
 exact⟨m.g h.r (o _ _ _ h.r C),r,h.A.p m (λi l k j p _=>o i _ _ j w_),h.t.p m (λi l k j p _=>o i _ _ j w_),
  m.M h.w (λi j=>by obtain⟨q,u⟩:=Ac h.w j;grind),h.y,h.u,h.x⟩
end
structure Xm(a wr)(b j)(m e l n f o)(d)(c:U (U H))(g)(h):Prop where
 u:Aa (λk=>k=b) a wr
 v:Nt wr b j m e l n
 w:Mk wr (B a.1) e d (c.map An)
 cf:Ad wr (B a.1) f (An g)
 G:∀i,i<F c->Bl f (Z d i Dg)
 p:Eo wr (B a.1) o h
 lt:b<B a.1
section
variable {w wr c:ZT} {db n:H} {vF vB vC vX e f:ZY} {bvs:U ZY} {Fs:U (U H)} {a:U H} {d:U ZG}
def Xm.q(b:Xm w wr db n vF vB vC vX e f bvs Fs a d)(g:E_ wr c):Xm w c db n vF vB vC vX e f bvs Fs a d:=by have h:=Aa.a (S:=λ_=>False) g;exact⟨b.u.q g,h.g b.v id,b.w.q g,b.cf.q g,b.G,h.M b.p (λ_ _=>id),b.lt⟩
def Nt.lt(a:Nt w db n vF vB vC vX):db<B w.1:=(Qb a).1
def Nt.o(d:Nt w db n vF vB vC vX){a b:H}{c}(f:H_ w a c b)(g:b≠142):a≠db:=λe=>by
 unfold Nt at d
 grind
def Xm.h{c j i h b}(f:Xm w wr db n vF vB vC vX e (L_ c h j) bvs Fs a d)(q:F d=h):Xm w (ZO wr (J c i) (ZR b)) db n vF vB vC vX e (L_ c h j) bvs Fs a (d.set i b):=by
 have⟨t,v⟩:=Ac f.p (k:=c) X;have x:=(B_ f.p c X).1;have m:Aa _ _ (ZO wr _ (ZR b)):=(Aa.refl (λg=>g=c) _).setCell (p:=(J c i)) (λ_=>X) _;have r:∀g k o,H_ wr g k o->o≠4->¬g=c:=w_
 have s:Eo (ZO wr (J c i) (ZR b)) (B w.1) (L_ c h j) (d.set i b):=(by have l:=f.p;unfold Eo at l ⊢;rw[q] at l;rw[length_set,q,map_set];exact(World.ownsRow.stored l i _).1);exact⟨f.u.setCell (p:=(J c i)) (λl=>by simp at l;omega) _,m.g f.v (r _ _ _ f.v C),f.w.p m (λg k o l u _=>r g _ _ l w_),m.M f.cf (λg l=>by obtain⟨k,u⟩:=Ac f.cf l;grind),f.G,s,f.lt⟩
def Xm.grow{h p b i r}(g:Xm w wr db n vF (L_ h (F Fs) p) vC vX e f bvs Fs a d)(v:b<F Fs)(k:Y3 wr c (ZW (Z bvs b Dg)))(D:Ad c (B w.1) i (An r))(z:ZW i=ZW (Z bvs b Dg)∨ZW i=T (B wr.1)):Xm w (ZO c (J h b) i) db n vF (L_ h (F Fs) p) vC vX e f (bvs.set b i) (Fs.set b r) a d:=by
 have x:b<F (Fs.map An):=w_;have o:=g.w.j b x;have G:=(Aa.refl _ _).grown k (λj l _=>l);have A:Mk wr (B w.1) (L_ h (F (Fs.map An)) p) bvs (Fs.map An):=(by rw[length_map];exact g.w);have u:=A.grow x k D z;rw[length_map] at u;have m:∃s,H_ c h s 25:=by have j:=World.ownsRow.kept g.w.M k (Ap o g.w.M C);exact Ac j (k:=h) X
 obtain⟨s,m⟩:=m;have M:=(B_ g.w.M h X).1;have t:Nt _ _ n _ _ _ _:=G.g g.v (λl=>by obtain⟨q,j⟩:=Ac o l;exact g.v.o j C X);have L:Aa _ _ (ZO c _ i):=(Aa.refl (λj=>j=h) _).setCell (p:=(J h b)) (λ_=>X) _;refine⟨(g.u.grown k (λj l q=>p_ (B_ o j l).1)).setCell (p:=(J h b)) (λq=>by simp at q;omega) _,L.g t (λl=>t.o m C l.s),map_set ▸ u,?_,λj y=>?_,?_,g.lt⟩;exact Am (Ad.kept g.cf k ((g.G b v).s.a)) m C
 ·rw[length_set] at y
  by_cases l:j=b
  subst l;have q:Z (bvs.set j i) j Dg=i:=gh_ g.w.y;rw[q];exact(Bl.b (g.G j v).s g.cf z).s;have q:Z (bvs.set b i) j Dg=Z bvs j Dg:=w_;rw[q];exact g.G j y
 exact Am (World.ownsRow.kept g.p k (Ap o g.p C)) m C
def Xm.g{c o g m h}(b:Xm w wr db n vF vB vC vX (L_ c m o) f bvs Fs a d)(v:F a=m):Xm w (ZO wr (J c g) (I (h:H))) db n vF vB vC vX (L_ c m o) f bvs Fs (a.set g h) d:=by
 have⟨y,z⟩:=Ac b.cf (k:=c) X;have A:=(B_ b.cf c X).1;have k:Aa _ _ (ZO wr _ (I (h:_))):=(Aa.refl (λe=>e=c) _).setCell (p:=(J c g)) (λ_=>X) _;have x:∀j l s,H_ wr j l s->s≠3->¬j=c:=w_;have q:=(Ad.put b.cf (k:=g) (by rw[Ak];exact v.s) (h:E)).1;have e:(An a).set g h=An (a.set g h):=(by unfold An;rw[map_set]);rw[e] at q
 have t:Mk _ _ _ _ _:=
  ⟨k.M b.w.M (λj i=>by obtain⟨l,r⟩:=Ac b.w.M i;grind),λr u=>k.M (b.w.j r u) (λj i e=>by
   have:=b.G r w_;subst e
   rcases this with e|e|e
   simp[ZW] at e
   ·grind
   exact e (by rw[i];rfl)),b.w.apart⟩
 exact⟨b.u.setCell (p:=(J c g)) (λi=>by simp at i;omega) _,k.g b.v (x _ _ _ b.v C),t,q,b.G,k.M b.p (λj i=>by obtain⟨l,r⟩:=Ac b.p i;grind),b.lt⟩
def Xm.b{h m L}(b:Xm w wr db n vF vB vC vX e f bvs Fs a d)(t:Ad wr (B w.1) h (An L))(r:∀g,g<F Fs->Bl (Z bvs g Dg) h)(y:Bl e h)(j:Y3 wr c (ZW vB))(u:ZD c (B w.1) 25 1 m (F Fs+1) (bvs++[h])):Xm w (ZO c (J db 2) m) db n vF m vC vX e f (bvs++[h]) (Fs++[L]) a d/\Nt c db n vF vB vC vX:=by
 have v:=(Aa.refl _ _).grown j (λl k _=>k);have i:Nt _ _ n _ _ _ _:=v.g b.v (λk=>by obtain⟨p,l⟩:=Ac b.w.M k;exact b.v.o l C X);have q:=b.w.P (L:=An L) t (λg o=>r g w_) j (by rw[length_map];exact u);have x:Aa _ _ (ZO c _ m):=(Aa.refl (λl=>l=db) _).setCell (p:=(J db 2)) (λ_=>X) _;have s:=b.w.y;rw[length_map] at s;refine⟨⟨(b.u.grown j (λl k o=>p_ (B_ b.w.M l k).1)).setCell (p:=(J db 2)) (λ_=>X) _,ht_ 2 _ _ _ i,?_,?_,λg o=>?_,?_,b.lt⟩,i⟩;rw[map_append];exact q.p x (λl p A k z _=>i.o k w_);exact Am (Ad.kept b.cf j (Ap b.w.M b.cf C)) i C
 ·rw[Qe,length_singleton] at o
  by_cases k:g<F Fs
  have l:Z (bvs++[h]) g Dg=Z bvs g Dg:=w_;rw[l];exact b.G g k
  grind
 exact Am (World.ownsRow.kept b.p j (Ap b.w.M b.p C)) i C
def Xm.i{i}{k:H}(b:Xm w wr db n vF vB vC vX e f bvs Fs a d)(g:Y3 wr c (ZW e))(q:Ad c (B w.1) i (An a++[(k:E)]))(m:ZW i=ZW e∨ZW i=T (B wr.1)):Xm w c db n vF vB vC vX i f bvs Fs (a++[k]) d:=by have o:=(Aa.refl _ _).grown g (λj h _=>h);have l:Nt _ _ n _ _ _ _:=o.g b.v (λh=>by obtain⟨p,j⟩:=Ac b.cf h;exact b.v.o j C X);refine⟨b.u.grown g (λj h p=>p_ (B_ b.cf j h).1),l,⟨World.ownsRow.kept b.w.M g (Ap b.cf b.w.M C),λh j=>Ad.kept (b.w.j h j) g (b.G h w_).a,b.w.apart⟩,by unfold An at *;grind,λh j=>Bl.b (b.G h j) (b.w.j h w_) m,World.ownsRow.kept b.p g (Ap b.cf b.p C),b.lt⟩
end
def XsV(e:ZT)(f:ZY)(b:U XS):Prop:=(∃g d,f=ZH g (F b) d)/\∀a,a<F b->∃c d,f=L_ c (F b) d/\ZV e (J c (a*3))=T (I (Z b a Dm).M)/\ZV e (J c (a*3+1))=T (I (Z b a Dm).f)/\ZV e (J c (a*3+2))=T (I (Z b a Dm).i)
def XsV.q{e w' d b}(c:XsV e d b)(a:E_ e w'):XsV w' d b:=⟨c.1,λl k=>by
 have⟨m,f,g,h,i,j⟩:=c.2 l k
 exact⟨m,f,g,Ah a h,Ah a i,Ah a j⟩⟩
structure DaV(b)(c h)(f)(e d)(g):Prop where
 j:DkV b c h f
 i:∃a,ZV b (J c 2)=T a/\LiV b a e
 k:∃a,ZV b (J c 3)=T a/\LiV b a d
 l:∃a,ZV b (J c 4)=T a/\XsV b a g
def DaV.q{i w' g h e d c f}(b:DaV i g h e d c f)(a:E_ i w'):DaV w' g h e d c f:=by have⟨p,j,m⟩:=b.i;have⟨q,k,n⟩:=b.k;have⟨r,l,o⟩:=b.l;exact⟨b.j.q a,⟨p,Ah a j,m.q a⟩,⟨q,Ah a k,n.q a⟩,⟨r,Ah a l,o.q a⟩⟩
structure rf(f)(d:U KS)(b c:U (U H)):Prop where
 y:F c=F b
 p:F b<=1000
 u:∀a,a<F c->F (Z c a [])=f
 val:∀a,a<F c->∀g,Z (Z c a []) g 0<=1000000
 A:∀a,a<F b->F (Z b a [])<=1000
 n:∀a,a<F b->∀e∈Z b a [],e<F d
def Zu(a:U KS):U H->H->Y0 (H×H)
 |[],_=>ZP
 |b::d,c=>if c<(Z a b Aj).g then T (b,c) else Zu a d (c-(Z a b Aj).g)
def Nv(b:U KS)(c:U H)(a:H):Y0 (H×H):=if a=0 then ZP else Zu b c (a-1)
def re:Y0 (H×H)->E×E
  |some a=>(a.1,a.2)
  |none=>(-1,0)
def Gw(d:U KS)(c b:U (U H))(a e:H):Y0 (H×H):=Nv d (Z c a []) (Z (Z b a []) e 0)
def ZlH{Ks}{a:U H}{b v}(d:b<F a):Zu Ks (ZF b a) v=if v<(Z Ks (Z a b 0) Aj).g then T (Z a b 0,v) else Zu Ks (ZF (b+1) a) (v-(Z Ks (Z a b 0) Aj).g):=by have c:Z a b 0=a[b]:=w_;rw[aN d,c];rfl
def df v z d g {b h k} c4 {A}(w:DaV A v z b h k c4)(i:rf z b h k)(x:d<F h)(d7:g<z):C_ 190 #[P_ v,I d,I g] A (U_ (Y5 #[ZX ZQ (re (Gw b h k d g)).1,ZX ZQ (re (Gw b h k d g)).2]) A):=by
 have⟨l,D⟩:=ez_ (Gw b h k d g);rw[D];have⟨f6,c7,b1⟩:=w.i;have⟨f7,c8,b2⟩:=w.k;have y:d<F k:=i.y ▸ x;obtain⟨f5,e4,e3,f4,rfl,a4,b8⟩:=b2.2 d y;obtain⟨c0,c5,e2,d8,rfl,a3,b7⟩:=b1.2 d x;rw[i.u d y] at a4;obtain⟨e6,rfl,d0⟩:=b8 g ((i.u d y) ▸ d7);have e9:=i.val d y g;have d5:=i.A d x;have t:K (l=Nv _ _ _):=D.s;have a0:=K_ b7 (i.n d x);have S:=Y w.j;have f1:=i.y;clear w i b7 b8 b1 b2 D;generalize (Z (Z k d [])) g 0=G at *;generalize (Z h) d []=c at *;have⟨p,R⟩:=Z_ (F c);have W:=Y R;rw[R] at a3 d5;clear R;have e5:=F_ d _;have e7:=F_ g z;refine q_ ?_
 by_cases b3:G=0
 ·subst b3;have j:K (l=ZP):=(by rw[t];rfl);clear t;go_wp2;go_ret2
  exact⟨by rw[j];rfl,y_⟩
 obtain⟨m,rfl⟩:∃m,G=m+1:=⟨G-1,O⟩;have a1:K (l=Zu b c m):=(by rw[t];rfl);have d1:i64.wrap ((m+1:H)-1)=m:=(by rw[Au O O];omega);have d4:¬(m:E)<0:=O;clear t b3;go_wp2_with fail
 go_loopw [8,9] (λj f n=>∃a e:H,f=ZX ZQ a/\a<=p/\j=ZX ZQ e/\e<=1000000/\K (l=Zu b (ZF a c) e)/\E_ A n) (λ_ f _=>p-ZL (ZA f))
 exact⟨0,m,X,v_,X,O,a1,y_⟩;clear a1 d1 d4 d0 a4 c8;obtain⟨a,e,rfl,f0,rfl,f3,s,f⟩:=hrel;have c1:=Ah f c7;have c2:=Ah f a3
 by_cases d6:a<p
 ·have Q:a<F c:=W ▸ d6;obtain⟨b9,rfl,a5⟩:=(a0.1.q f) a Q;have b5:=a0.2 _ (Pp Q);have a2:=Y (ZlH (Ks:=b) (v:=e) Q);have⟨r,c6,L,N,M,P,a6,a7,a8,a9,b0⟩:=(S.q f).z b5;have o:=S.x _ b5;have b4:=Km L M (F (Z b (Z c a 0) Aj).e.f) (F (Z b (Z c a 0) Aj).e.c) N P (Z b (Z c a 0) Aj).e.a (Z b (Z c a 0) Aj).d
  have c3:K (∀u:ZT,C_ 189 #[Y9 #[ZR (Z b (Z c a 0) Aj).e.a,V L (F (Z b (Z c a 0) Aj).e.f) N,V M (F (Z b (Z c a 0) Aj).e.c) P,I (Z b (Z c a 0) Aj).d]] u (U_ (ZX ZQ (Z b (Z c a 0) Aj).g) u)):=λu=>by rw[<- o.g];exact b4 u o.1 o.2.1
  have f2:(Z b (Z c a 0) Aj).g<=2002:=(by have:=o.g;have:=o.1;have:=o.2.1;omega);clear b4 o;generalize (Z b (Z c a 0) Aj).g=q at *;generalize (Z b (Z c a 0) Aj).e.a=e1 at *;generalize (F (Z b (Z c a 0) Aj).e.f)=d9 at *;generalize (F (Z b (Z c a 0) Aj).e.c)=e0 at *;generalize (Z b (Z c a 0) Aj).d=c9 at *;generalize (Z c) a 0=n at *;have d3:=F_ a p;have e8:=F_ n _;go_upto_region 7 with fail
  go_region_held3 (λj=>D_ j v 1 (L_ r (F b) c6)/\D_ j v 2 (L_ c0 (F h) c5)/\D_ j c0 d (L_ b9 p d8)/\D_ j b9 a (I (n:H))/\D_ j r (n*4) (ZR e1)/\D_ j r (n*4+1) (V L d9 N)/\D_ j r (n*4+2) (V M e0 P)/\D_ j r (n*4+3) (I (c9:H))) (first|exact⟨a6,c1,c2,a5,a7,a8,a9,b0⟩|exact⟨Ah aA a6,Ah aA c1,Ah aA c2,Ah aA a5,Ah aA a7,Ah aA a8,Ah aA a9,Ah aA b0⟩) (first|(go_at_call 189;apply (c3 _).m;rintro b6 d2 ⟨rfl,j⟩;have aA:Below (B wr.1) _ _:=y_.drew.T j))
  by_cases b6:e<q
  ·have j:K (l=T (n,e)):=(by show _=_;rw[s,a2,aD b6]);have d2:e<(q:E):=O;go_wp2;go_ret2
   exact⟨by rw[j];rfl,f.T (aA.m f.size)⟩
  have j:K (l=Zu b (ZF (a+1) c) (e-q)):=(by show _=_;rw[s,a2,aC b6]);have d2:¬e<(q:E):=O;go_wp2;go_roundw;exact⟨a+1,e-q,g_,O,g_,O,j,f.T (aA.m f.size)⟩;exact z_
 have d3:¬a<(p:E):=O;have j:K (l=ZP):=(by show _=_;rw[s,drop_of_length_le (p_ W.out)];rfl);clear s;go_wp2;go_ret2
 exact⟨by rw[j];rfl,f⟩
def MaB(e:ZT)(b a:H)(c d:ZY):Prop:=e.1[b]? =T (O_ #[P_ a,c,d] 331)
def MaB.o{d b f h i}(g:MaB d b f h i){a c:H}{e}(k:H_ d a e c)(l:c≠331):a≠b:=λj=>by
 unfold MaB at g
 grind
structure MkY(b)(d l h m)(j o p q k c)(i)(g)(f)(e:U (U H))(n):Prop where
 r:MaB b l h k c
 v:Nt b h m j o p q
 A:ja b d j i f
 t:Mk b d k g (e.map An)
 w:Ad b d c (An n)
 u:∀a,a<F e->Bl c (Z g a Dg)
 x:∀a,a<F f->Bl c (Z i a Lm).1
section
variable {w w':ZT} {base a db n:H} {vF vB vC vX vb b f g e:ZY} {kvs:U (ZY×ZY)} {c:U ZY} {Ks:U KS} {Bb:U (U H)} {d:U H}
def MkY.q(e:MkY w base a db n vF vB vC vX vb b kvs c Ks Bb d)(f:E_ w w'):MkY w' base a db n vF vB vC vX vb b kvs c Ks Bb d:=by have g:=Aa.a (S:=λ_=>False) f;exact⟨g.g e.r id,g.g e.v id,e.A.q f,e.t.q f,e.w.q f,e.u,e.x⟩
def MkY.h(e:MkY w base a db n vF vB vC vX vb b kvs c Ks Bb d)(g:F Bb=F Ks)(i:∀f,f<F Bb->F (Z Bb f [])=n)(h:∀f,f<F Ks->Vc (Z Ks f Aj)):MkX w base a db n vF vB vC vX vb b kvs c Ks Bb d:=⟨e.r,e.v,e.A,e.t,e.w,g,i,h⟩
def MkY.z{k u}(e:MkY w base a db n vF vB vC vX vb b kvs c Ks Bb d)(x:Ad w base u.1 k.e.f)(y:Bj w base u.2 k.e.c)(D:Bl b u.1)(o:Y3 w w' (ZW vF))(A:ZD w' base 227 4 f (F Ks+1) ((zipWith Bs Ks kvs).flatten++Bs k u)):MkY (ZO w' (J db 1) f) base a db n f vB vC vX vb b (kvs++[u]) c (Ks++[k]) Bb d/\Nt w' db n vF vB vC vX/\MaB w' a db vb b:=by
 have r:=(Aa.refl _ w).grown o (λk h _=>h);have m:∀k,ZW vF=T k->∃j,w.1[k]? =T (O_ j 227 _):=λk h=>Ac e.A.M.M h;have l:Nt _ _ n _ _ _ _:=r.g e.v (λg=>by obtain⟨j,p⟩:=m _ g;exact e.v.o p C X);have q:MaB _ _ _ _ _:=r.g e.r (λg=>by obtain⟨j,p⟩:=m _ g;exact e.r.o p C X);have p:Aa _ _ (ZO w' _ f):=(Aa.refl (λk=>k=db) _).setCell (p:=(J db 1)) (λ_=>X) _;have v:=e.A.P x y o A;have t:=e.t.p r (λk j s h z _ g=>w_);have G:=e.A.y;refine⟨⟨p.g q (λg=>l.o q C g),ht_ 1 _ _ _ l,v.p p (λk j s h m _=>l.o h w_),t.p p (λk j s h m _=>l.o h w_),Am (Ad.kept e.w o (Ap e.A.M.M e.w C)) l C,e.u,λi z=>?_⟩,l,q⟩
 rw[Qe,length_singleton] at z
 by_cases g:i<F Ks
 have s:Z (kvs++[u]) i Lm=Z kvs i Lm:=w_;rw[s];exact e.x i g
 grind
def MkY.k{l B}(e:MkY w base a db n vF vB vC vX vb b kvs c Ks Bb d)(y:Ad w base l (An B))(z:∀f,f<F Bb->Bl (Z c f Dg) l)(G:Bl b l)(p:Y3 w w' (ZW vb))(D:ZD w' base 25 1 g (F Bb+1) (c++[l])):MkY (ZO w' (J a 1) g) base a db n vF vB vC vX g b kvs (c++[l]) Ks (Bb++[B]) d/\MaB w' a db vb b:=by
 have r:=(Aa.refl _ w).grown p (λj i _=>i);have o:∀j,_=T j->_:=λj i=>Ac e.t.M i;have s:Nt _ _ n _ _ _ _:=r.g e.v (λh=>by obtain⟨m,q⟩:=o _ h;exact e.v.o q C X);have k:MaB _ _ _ _ _:=r.g e.r (λh=>by obtain⟨m,q⟩:=o _ h;exact e.r.o q C X);have q:Aa _ _ (ZO w' _ g):=(Aa.refl (λj=>j=a) _).setCell (p:=(J a 1)) (λ_=>X) _;have x:=e.A.p r (λj m u i t _ h=>w_);have v:=e.t.P (L:=An B) y (λf t=>z f w_) p (by rw[length_map];exact D);have A:=e.t.y;rw[length_map] at A;refine⟨⟨ht_ 1 _ _ _ k,q.g s (λh=>k.o s C h),x.p q (λj m u i o _=>k.o i w_),?_,Am (Ad.kept e.w p (Ap e.t.M e.w C)) k C,λf t=>?_,e.x⟩,k⟩
 rw[map_append];exact v.p q (λj m u i o _=>k.o i w_);rw[Qe,length_singleton] at t
 by_cases h:f<F Bb
 have m:Z (c++[l]) f Dg=Z c f Dg:=w_;rw[m];exact e.u f h
 grind
def MkY.D{z:H}(f:MkY w base a db n vF vB vC vX vb b kvs c Ks Bb d)(k:Y3 w w' (ZW b))(s:Ad w' base e (An d++[(z:E)]))(t:ZW e=ZW b∨ZW e=T (B w.1)):MkY (ZO w' (J a 2) e) base a db n vF vB vC vX vb e kvs c Ks Bb (d++[z])/\MaB w' a db vb b:=by
 have u:=(Aa.refl _ w).grown k (λj i _=>i);have o:∀j,_=T j->_:=λj i=>Ac f.w i;have r:Nt _ _ n _ _ _ _:=u.g f.v (λm=>by obtain⟨p,g⟩:=o _ m;exact f.v.o g C X);have l:MaB _ _ _ _ _:=u.g f.r (λm=>by obtain⟨p,g⟩:=o _ m;exact f.r.o g C X);have q:Aa _ _ (ZO w' _ e):=(Aa.refl (λj=>j=a) _).setCell (p:=(J a 2)) (λ_=>X) _;have x:ja _ _ _ _ _:=⟨⟨World.ownsRow.kept f.A.M.M k (Ap f.w f.A.M.M C),f.A.M.h⟩,f.A.y,λg h=>⟨Ad.kept (f.A.j g h).1 k (f.x g h).a,World.ownsRow.kept (f.A.j g h).2 k (Ap f.w (f.A.j g h).2 C)⟩⟩
 have v:Mk _ _ _ _ _:=⟨World.ownsRow.kept f.t.M k (Ap f.w f.t.M C),λg h=>Ad.kept (f.t.j g h) k (f.u g w_).a,f.t.apart⟩;refine⟨⟨ht_ 2 _ _ _ l,q.g r (λm=>l.o r C m),x.p q (λj p m i o _=>l.o i w_),v.p q (λj p m i o _=>l.o i w_),?_,λg h=>Bl.b (f.u g h) (f.t.j g w_) t,λg h=>Bl.b (f.x g h) (f.A.j g h).1 t⟩,l⟩;have:Ad w' base e (An (d++[z])):=(by unfold An at s ⊢;rw[map_append];exact s);exact Am this l C
end
structure RfX(b)(a d p)(h f g i)(o)(m n)(c)(k j:U (U H))(l:U XS):Prop where
 v:Nt b d p h f g i
 A:ja b a h o c
 w:Mk b a f m (k.map An)
 y:Mk b a g n (j.map An)
 r:Xr b a 231 3 i (l.map Cw)
 x:∀e,e<F c->Vc (Z c e Aj)
 t:a<=d
section
variable {w w':ZT} {base db n:H} {vF vB vC vX b:ZY} {kvs:U (ZY×ZY)} {bvs cvs:U ZY} {Ks:U KS} {Fs Cs:U (U H)} {a:U XS}
def RfX.z(b:RfX w base db n vF vB vC vX kvs bvs cvs Ks Fs Cs a)(f:Aa (λc=>c<base) w w'):RfX w' base db n vF vB vC vX kvs bvs cvs Ks Fs Cs a:=by have i:∀{c h:H} {g},H_ w c g h->base<=c->¬c<base:=O;exact⟨f.g b.v (p_ b.t),b.A.p f (λc g h e _ d=>i e d),b.w.p f (λc g h e _ d=>i e d),b.y.p f (λc g h e _ d=>i e d),b.r.p f (λe d=>p_ (B_ b.r.M e d).1),b.x,b.t⟩
def XsV.N{f}(e:Xr w base 231 3 f (a.map Cw)):XsV w f a:=by have⟨g,h,c⟩:=e.d;rw[length_map] at c;refine⟨⟨g,h,c⟩,λi m=>?_⟩;have⟨l,j,d,_,_,_,_,b⟩:=e.at (i:=i) w_;rw[length_map] at d;have k:Z (a.map Cw) i []=Cw (Z a i Dm):=w_;rw[k] at b;exact⟨l,j,d,b 0 O _ X,b 1 O _ X,b 2 O _ X⟩
def RfX.h(b:RfX w base db n vF vB vC vX kvs bvs cvs Ks Fs Cs a):DaV w db n Ks Fs Cs a:=
 ⟨⟨M_ 0 _ 142 (0,0) b.v,⟨vF,M_ 1 _ 142 (0,0) b.v,b.A.h⟩,b.x⟩,⟨vB,M_ 2 _ 142 (0,0) b.v,b.w.h⟩,⟨vC,M_ 3 _ 142 (0,0) b.v,b.y.h⟩,⟨vX,M_ 4 _ 142 (0,0) b.v,XsV.N b.r⟩⟩
end
end Go.Proofs.YtfcgnpchbcmdeaaGreat
