import Derived.Test.YtfcgnpchbcmdeaaGreatZsav
import Derived.Test.YtfcgnpchbcmdeaaGreatZsax
import Derived.Test.YtfcgnpchbcmdeaaGreatZsas
open _root_ renaming Int->E,List->U,Nat->H,Option->Y0,rfl->X,ByteArray->ZC
open List renaming length->F,getD->Z,take->ZU,drop->ZF
open Option renaming some->T,none->ZP
open Go.World renaming cell?->ZV,ownsRow->ZD,drewN->Y1,alloc->ZN,setCell->ZO,grownBy->Y3,drew->YY,frozen?->YT
open Go renaming World->ZT,Value->ZY,strOfNums->ZB,madeCells->YV
open Go.Value renaming bool->ZR,int->ZX,slice->ZH,agg->Y9,tuple->Y5,ownBlock->ZW,string->YW
open Or renaming inl->ZM,inr->ZJ
open Bool renaming true->Z0,false->ZZ
open Go.IntKind renaming i64->ZQ
open Int renaming toNat->ZL
open Go.Proofs renaming intOf->ZA
open Decidable renaming decide->ZE
open Go.Ending renaming returned->ZI
open ByteArray renaming size->ZK
open Array renaming size->B
namespace Go.Proofs.YtfcgnpchbcmdeaaGreat
set_option linter.all false
set_option maxRecDepth 100000
set_option maxHeartbeats 8000000
open Go.RowKit List Nat Go.World Go.Proofs.Tryz Go.Value Go.IntKind Go.Lib Go.Region
def oy:E×U VS:=(0,[])
def Xq(d:ZT)(i:Y0 Addr)(f g:H)(c:U (E×U VS)):Prop:=
 F c=f/\(f=0∨∃h,i=T ⟨h,0,ZP⟩/\∀a,a<f->ZV d (J h (a*2))=T (I (Z c a oy).1)/\∃e j,ZV d (J h (a*2+1))=T (L_ e g j)/\F (Z c a oy).2=g/\∀b,b<g->ZV d (J e (b*3))=T (ZR (Z (Z c a oy).2 b Ax).a)/\ZV d (J e (b*3+1))=T (I (Z (Z c a oy).2 b Ax).num)/\ZV d (J e (b*3+2))=T (Q_ (Z (Z c a oy).2 b Ax).f))
def Xq.q{a w' c f g b}(d:Xq a c f g b)(k:E_ a w'):Xq w' c f g b:=by
 refine⟨d.1,d.2.imp id ?_⟩;rintro⟨n,j,l⟩;refine⟨n,j,λo m=>?_⟩;have⟨r,q,p,s,t,u⟩:=l o m;have v:∀h i,_=T i->_:=λh i e=>(k.cell (aJ a h e)).T e
 grind
def uk:∀(c:U Mc) (b:H),b<F c->∀a,a<2->(Rw c)[b*2+a]? =(Sv (Z c b ⟨0,[],N_⟩))[a]?
 |[],b,d=>by simp at d
 |f::c,0,_=>λa e=>by grind [Rw,Sv]
 |f::c,b+1,d=>λa e=>by simp only[Rw];rw[getElem?_append_right (by simp[Sv];omega),show(b+1)*2+a-F (Sv f)=b*2+a by simp[Sv];omega];exact uk c b (by simpa using d) a e
def Hd.h{g q y n o p b}(j:Hd g q (V p n y) b)(G:F b=n)(A:∀c∈b,F c.fs=o)(S:0<o):Xq g p n o (b.map Mc.o):=by
 subst G;refine⟨length_map _,?_⟩
 rcases j.M.2 with⟨s,t⟩|⟨x,P,Q,s,_,W,a1,_⟩
 exact ZM t;refine ZJ ?_;injection s with e1 e2 e3;subst e1;refine⟨x,X,λd N=>?_⟩;have D:Z (b.map Mc.o) d oy=Mc.o (Z b d ⟨0,[],N_⟩):=w_
 have v:Z b d ⟨0,[],N_⟩∈b:=w_;rw[D];generalize M:Z b d ⟨0,[],N_⟩=c at *
 have w:∀a e,a<2->(Sv c)[a]? =T e->ZV g (J x (d*2+a))=T e:=λa e f k=>by rw[World.ownsRow.cellAt j.M (d*2+a) O,uk b d N a f,M];exact k
 have u:=A c v;have f:=j.j c v;refine⟨w 0 _ O X,?_⟩
 rcases f.2 with⟨_,t⟩|⟨i,r,R,z,_⟩
 omega;have l:=w 1 _ O X;rw[z] at l;rw[u] at l;refine⟨i,r,l,u,λh a0=>?_⟩
 have L:ZD g q 335 3 (L_ i (F c.fs) r) (F c.fs) (Lb c.fs):=by
  have m:=f;unfold rj at m
  grind
 have m:∀a e,a<3->(Jg (Z c.fs h Ax))[a]? =T e->ZV g (J i (h*3+a))=T e:=λa e f k=>by rw[World.ownsRow.cellAt L (h*3+a) O,be c.fs h O a f];exact k
 exact⟨m 0 _ O X,m 1 _ O X,m 2 _ O X⟩
def Zcb r d m l b e {h}(g:Bj h r (V l d m) b)(p:F b=d)(y:d<=1000):C_ 244 #[V l d m,Q_ e] h (V_ (ZR (containsS b e)) h):=by
 have⟨q,i⟩:=Y_ g p;clear g p;refine q_ ?_;go_wp2_with fail
 go_loopw [5] (λf j=>∃a:H,f=ZX ZQ a/\a<=d/\K (∀c,c<a->Z b c ⟨#[]⟩≠e)/\j=h) (λf _=>d-ZL (ZA f))
 exact⟨0,X,v_,λc o=>O,X⟩;obtain⟨a,rfl,x,k,u⟩:=hrel;subst u
 by_cases n:a<d
 ·obtain⟨z,rfl,_,w⟩:=q.d i n _;have t:=F_ a d
  by_cases f:Z b a ⟨#[]⟩=e
  ·have j:K (containsS b e=Z0):=by
    apply (containsS_iff b e).2;rw[<- f,Qc,Qd (i ▸ n)]
    grind
   have s:((Z b a ⟨#[]⟩).toList==e.toList)=Z0:=(by rw[f];simp);generalize (Z b) a ⟨#[]⟩=v at *;clear f;go_wp2;go_ret;exact⟨by rw[j];rfl,X⟩
  have s:=ZlD f
  have j:K (∀c,c<a+1->Z b c ⟨#[]⟩≠e):=λc o=>by
   by_cases g:c=a
   rw[g];exact f;exact k c O
  generalize (Z b) a ⟨#[]⟩=v at *;clear f;refine J_ ?_;exact⟨a+1,g_,O,j,trivial⟩
 have j:K (containsS b e=ZZ):=by
  show _=_;rw[<- Bool.not_eq_true,containsS_iff];intro f;have⟨c,o,s⟩:=aM f;have t:=i.out;apply k c O
  grind
 have t:¬a<(d:E):=O;go_wp2;go_ret;exact⟨by rw[j];rfl,X⟩
def Ua(c:U (E×U VS))(a:H)(d:ZC):E:=((c.filter (λb=>!(Z b.2 a Ax).a&&ZE ((Z b.2 a Ax).f=d))).map Prod.fst).sum
def ZcU{a:U (E×U VS)}{b}(f:b<F a) c d:Ua (ZU (b+1) a) c d=Ua (ZU b a) c d+(if(!(Z (Z a b oy).2 c Ax).a&&ZE ((Z (Z a b oy).2 c Ax).f=d))=Z0 then(Z a b oy).1 else 0):=by
 have e:Z a b oy=a[b]:=w_;unfold Ua
 grind [Qi]
def ZgF{b:U (E×U VS)}(f:∀e∈b,0<=e.1/\e.1<=99) c d:∀a,a<=F b->0<=Ua (ZU a b) c d/\Ua (ZU a b) c d<=99*a
 |0,_=>by simp[Ua]
 | a+1,g=>by
  have h:=ZgF f c d a O;rw[ZcU O]
  grind
def Zcj q e m y b c d {j}(l:Xq j q e m c)(D:b<m)(u:∀v∈c,0<=v.1/\v.1<=99)(a3:e<=1000):C_ 290 #[V q e y,I b,Q_ d] j λa f=>a=ZI (ZX ZQ (Ua c b d))/\∃i,f=Y1 j i:=by
 have⟨k,p⟩:=Y_ l (λa f=>ZgF u b d a (l.1 ▸ f));clear l u;refine q_ ?_;go_wp2_with fail
 go_loopw [7,8] (λg f h=>∃(a i:H),f=ZX ZQ a/\a<=e/\g=ZX ZQ (Ua (ZU a c) b d)/\h=Y1 j i) (λ_ f _=>e-ZL (ZA f))
 exact⟨0,0,X,v_,X,X⟩;obtain⟨a,i,rfl,a2,rfl,G⟩:=hrel;subst G
 by_cases s:a<e
 ·have A:=F_ a e;have a0:=F_ b m
  rcases k.out.2 with a1|⟨a6,rfl,t⟩
  omega;have⟨N,W,S,P,_,r⟩:=t a s;have⟨Q,_,R⟩:=r b D;clear r;have o:=Y (ZcU (k.1 ▸ s) b d);have a4:=p a O;have n:=Y (p (a+1) O);clear t;generalize Ua (ZU a c) b d=h,Z (Z c a oy).2 b Ax=M,(Z c a oy).1=x at *;obtain⟨L,a5,w⟩:=M;simp only at *
  cases L with
  | true=>
   have f:K (Ua (ZU (a+1) c) b d=h):=(by show _=_;rw[o,aC s_];omega);refine J_ ?_;exact⟨a+1,_,g_,O,by rw[f],by first|rfl|simp⟩
  | false=>
   by_cases g:w=d
   ·have f:K (Ua (ZU (a+1) c) b d=h+x):=w_;have z:(w.toList==d.toList)=Z0:=(by rw[g];simp);have a7:_=h+x:=Au (oj_ f.out n.out) (oj_ f.out n.out);clear g;refine J_ ?_;exact⟨a+1,_,g_,O,by rw[f],by first|rfl|simp⟩
   have f:K (Ua (ZU (a+1) c) b d=h):=(by show _=_;rw[o,aC (by simp[g])];omega);have z:=ZlD g;clear g;refine J_ ?_;exact⟨a+1,_,g_,O,by rw[f],by first|rfl|simp⟩
 have A:¬a<(e:E):=O;have f:a=F c:=p_ k.1;go_wp2;go_ret;exact⟨X,_,X⟩
def Bn(a:U (E×U VS))(b:H):U VS:=a.map (λc=>Z c.2 b Ax)
def Jp(a:U (E×U VS)):U E:=a.map Prod.fst
def kt(c:U (E×U VS)):Prop:=∀a∈c,(1<=a.1/\a.1<=99)/\∀b∈a.2,(-1000000000<=b.num/\b.num<=1000000000)/\ZK b.f<=8
def Zee{a:U (E×U VS)}{b i}(d:b<F a):Bd (Bn (ZU (b+1) a) i) (Jp (ZU (b+1) a))=Bd (Bn (ZU b a) i) (Jp (ZU b a))++(if(Z (Z a b oy).2 i Ax).a=Z0 then[] else[((Z (Z a b oy).2 i Ax).num,(Z a b oy).1)]):=by have c:Z a b oy=a[b]:=w_;unfold Bn Jp;rw[Qi d,map_append,map_append,c];exact Wu _ _ _ _ s_
def ZmO{a:U VS}{b}{Q:VS->Prop}(d:∀c∈a,Q c)(e:Q Ax):Q (Z a b Ax):=w_
def ZmB{b}(c:kt b) f:∀a∈Bn b f,(-1000000000<=a.num/\a.num<=1000000000)/\ZK a.f<=8:=λa e=>by obtain⟨g,d,rfl⟩:=mem_map.1 e;exact ZmO (Q:=λa=>(-1000000000<=a.num/\a.num<=1000000000)/\ZK a.f<=8) (c g d).2 C
def Zpr{b}(c:kt b):∀a∈Jp b,1<=a/\a<=99:=λa e=>by obtain⟨f,d,rfl⟩:=mem_map.1 e;exact(c f d).1
def Zac b7 (k b2 d7 c g:H) f L G D z a d (P:Xq d b7 k b2 a)(e4:c<b2)(t:kt a)(f3:k<=200)(c7:2<=g)(c8:g<=32)(e2:2<=f)(e3:f<=16):C_ 237 #[Y9 #[V G D z,I f,I g,I L],V b7 k d7,I c] d λe h=>∃b r,e=ZI (Y9 #[ZR ZZ,ZH b (F (Fb (Bn a c) (Jp a) f g)) r,ZH ZP 0 0,ZX ZQ 0])/\Ad h (B d.1) (V b (F (Fb (Bn a c) (Jp a) f g)) r) (Fb (Bn a c) (Jp a) f g)/\E_ d h:=by
 have⟨y,d5⟩:=Y_ P t;have⟨M,a5⟩:=ez_ (Fb (Bn a c) (Jp a) f g);rw[a5.out];have⟨j,u⟩:=W_ (ZN (ZN d (O_ #[V G D z,I f,I g,I L] 37)) (O_ #[ZR ZZ,N_,N_,I 0] 227));have b8:E_ d j:=u ▸ (r_.alloc s_ _);have f6:B d.1+2<=B j.1:=by rw[u];simp
 have d0:H_ j (B d.1) #[V G D z,I f,I g,I L] 37:=(by rw[u];exact(hc_ s_).T hn_);have d1:H_ j (B d.1+1) #[ZR ZZ,N_,N_,I 0] 227:=(by have e:=ha_ (ZN d (O_ #[V G D z,I f,I g,I L] 37)) (O_ #[ZR ZZ,N_,N_,I 0] 227);rw[show B (ZN d (O_ #[V G D z,I f,I g,I L] 37)).1=B d.1+1 by simp,<- u] at e;exact e);have w:=x3_ b8 d0 d1;have b6:=Y u;clear P t u b8 d0 d1;refine dl_ ?_;go_enter func237,ntmps237;go_upto_region 4 with fail;rw[<- b6];clear b6;go_loopw [7,8,9] (λl m h i=>∃b:H,h=ZX ZQ b/\b<=k/\K (Ad i (B j.1) l ((Bd (Bn (ZU b a) c) (Jp (ZU b a))).map Prod.fst)/\Ad i (B j.1) m ((Bd (Bn (ZU b a) c) (Jp (ZU b a))).map Prod.snd)/\Bl l m)/\E_ j i) (λ_ _ h _=>k-ZL (ZA h))
 case atStart=>exact⟨0,X,v_,⟨Ad.nil,Ad.nil,ZM X⟩,y_⟩
 obtain⟨b,rfl,o,l,n⟩:=hrel;have e6:=n.size
 by_cases a8:b<k
 ·have c3:b<F a:=y.1 ▸ a8;have c2:=w.1.T (n.m O)
  rcases(y.q c2).2 with c1|⟨a7,rfl,x⟩
  omega;have⟨b0,d6,d4,a4,_,b3⟩:=x b a8;have⟨N,b1,_⟩:=b3 c e4;have h:=Zee (i:=c) c3;have q:=Ki (Bn (ZU b a) c) (Jp (ZU b a));have e5:F (Bd (Bn (ZU b a) c) (Jp (ZU b a)))<=200:=(by unfold Bn at q ⊢;rw[length_map,length_take] at q;omega);clear q x b3;generalize (Z (Z a b oy).2) c Ax=c6 at *;generalize (Z a b oy).1=v at *;obtain⟨c9,a9,d9⟩:=c6;simp only at N b1 h;have d2:=F_ b k;have d3:=F_ c b2
  cases c9 with
  | true=>
   have a3:K (Bd (Bn (ZU (b+1) a) c) (Jp (ZU (b+1) a))=Bd (Bn (ZU b a) c) (Jp (ZU b a))):=(by show _=_;rw[h];simp);clear h;go_wp2;go_roundw;case rel=>exact⟨b+1,g_,O,a3 ▸ l,n⟩
   case measure=>exact z_
  | false=>
   have a3:K (Bd (Bn (ZU (b+1) a) c) (Jp (ZU (b+1) a))=Bd (Bn (ZU b a) c) (Jp (ZU b a))++[(a9,v)]):=(by show _=_;rw[h];simp);clear h;generalize Bd (Bn (ZU b a) c) (Jp (ZU b a))=d8 at *;have⟨W,a0,R⟩:=y3_ l.1 l.2.1 l.2.2;clear l;go_wp2_with (at_builtin;refine By X (.tmp 26) _ X _ _ _ a9 X (W.alloc _) _ 1 X ?_ ?_ ?_ ?_)
   omega;omega;intro b5 c5 r;have A:=r.2.1;have c4:=A.size;simp at c4;have⟨a1,a2⟩:=Y_ r.1 (Ad.kept (a0.alloc _) A R.a)
   have S:=Y (Bl.b R (a0.alloc (O_ #[I a9] 3)) (by
    rcases r.out.2.2 with e|e
    exact ZM e
    exact ZJ (by simpa using e.1)))
   have b4:=(y_.alloc e6 _).grown A t_ (λb o=>(W.lt b o).1)
   have c0:D_ c5 a7 (b*2) (I v):=by
    rcases y.out.2 with c1|⟨i,e,x⟩
    omega;injection e with e;injection e with e1;subst e1;have:=aJ _ _ (x b a8).1;exact(b4.cell (p:=(J a7 (b*2))) (by show a7<_;simp at this;omega)).T b0
   clear r A W a0 R b0 a4 N b1;go_wp2_with (at_builtin;refine By X (.tmp 38) _ X _ _ _ v X (a2.alloc _) _ 1 X ?_ ?_ ?_ ?_)
   ·simp[go_sem]
   simp;omega;simp;omega;intro b9 Q s;have a6:=s.2.1
   have i:K (Ad Q (B j.1) b5 ((Bd (Bn (ZU (b+1) a) c) (Jp (ZU (b+1) a))).map Prod.fst)/\Ad Q (B j.1) b9 ((Bd (Bn (ZU (b+1) a) c) (Jp (ZU (b+1) a))).map Prod.snd)/\Bl b5 b9):=by
    rw[a3];simp only[map_append,map_cons,map_nil];refine⟨Ad.kept (a1.alloc _) a6 S.s.a,s.1,?_⟩
    exact(Bl.b S.s (a1.alloc (O_ #[I v] 3)) (by
     rcases s.out.2.2 with e|e
     exact ZM e
     exact ZJ (by simpa using e.1))).s
   have m:=(y_.alloc O _).grown a6 t_ (λb o=>(a2.lt b o).1);clear s a6 a1 a2 S c0;go_wp2;go_roundw;case rel=>exact⟨b+1,g_,O,i,n.T (b4.T m)⟩
   case measure=>exact z_
 have f5:¬b<(k:E):=O;have c1:ZU b a=a:=aI (p_ y.1);rw[c1] at l;have q:=Ki (Bn a c) (Jp a);have e5:F (Bd (Bn a c) (Jp a))<=200:=(by unfold Bn at q ⊢;rw[length_map,y.1] at q;omega);obtain⟨c2,c3,_⟩:=l;have t:=d5.out
 obtain⟨a4,d8,rfl,a6,a2,_⟩:=c2.e (λv b1=>by
  obtain⟨p,h,rfl⟩:=mem_map.1 b1;have⟨⟨i,m,e⟩,_⟩:=Ti _ _ p h
  have:=ZmB t c i m;omega)
 obtain⟨N,d9,rfl,a7,a3,_⟩:=c3.e (λv b1=>by
  obtain⟨p,h,rfl⟩:=mem_map.1 b1;have⟨_,P⟩:=Ti _ _ p h
  have:=Zpr t _ P;omega)
 have c4:F ((Bd (Bn a c) (Jp a)).map Prod.fst)=F (Bd (Bn a c) (Jp a)):=s_;have c5:F ((Bd (Bn a c) (Jp a)).map Prod.snd)=F (Bd (Bn a c) (Jp a)):=s_;rw[c4] at a6 a2 ⊢;rw[c5] at a7 a3 ⊢;have b5:K (∀A,C_ 289 _ (Y1 wr A) λe h=>∃i,e=ZI i/\Ai h (B wr.1) i _/\E_ wr h):=λA=>(Zcg a4 N d8 d9 (a6.q (below_drewN y_ A)) (a7.q (below_drewN y_ A)) O a2 a3 c7 c8).m (λe h ⟨i,m,r,s⟩=>⟨i,m,r,(below_drewN y_ A).T s⟩);have b0:=Tg c7 c8 ((Bd (Bn a c) (Jp a)).map Prod.fst) ((Bd (Bn a c) (Jp a)).map Prod.snd) t_;have W:K (_/\_/\M=Bm _ _):=⟨b0.1,b0.2,a5.out.s⟩
 have x:=x3_ ((n.block _ O).T w.2.1) ((n.block _ O).T w.2.2) (w.1.T (n.m O));clear c2 c3 a6 a7 a2 a3 c4 c5 c1 t b0 q a5 w;generalize Dw g ((Bd (Bn a c) (Jp a)).map Prod.fst) ((Bd (Bn a c) (Jp a)).map Prod.snd)=a0 at *;generalize (F (Bd (Bn a c) (Jp a)))=f9 at *;have R:=n_ 1 x.1;have S:=n_ 2 x.1;go_upto_region 9 with fail;refine Af (λh=>ZV h _=T _/\ZV h _=T _) 9 k_ ⟨R,S⟩ λhHeld=>?_;refine G_ ?_;refine on_ 4 λKK hK=>?_;go_simp;apply (b5 1).m;rintro e b3 ⟨g5,rfl,c6,s⟩;obtain⟨d6,e0,rfl,b9,_,_⟩:=c6.e (p_ W.2.1);have b4:K (C_ 288 #[V d6 (F a0) e0,I f] b3 λe h=>∃i,e=ZI i/\Ad h (B b3.1) i M/\E_ b3 h):=by rw[W.2.2];exact Zb5 a0 b9 W.1 e2 e3
 have d3:=Ah s R;have d4:=Ah s S;clear c6 b9 b5;generalize (F a0)=f8 at *;go_simp;refine hK _ _ ⟨d3,d4⟩ λhHeld=>?_;clear hK KK;try simp only[Act.put,tA,tB,tC]
 refine on_ 7 λKK hK=>?_;go_simp;apply b4.m;rintro e Q ⟨g4,rfl,a9,c0⟩;obtain⟨a1,r,rfl⟩:=a9.d;have m:=s.T (c0.m s.size);have h:=(m.block _ O).T x.2.1;have f7:=s.size;have i:K (_/\Ad _ (B d.1) _ M/\_):=⟨h,a9.m O,x.out.2.2.T (m.m O)⟩;have e7:=M_ 0 _ _ _ h;have e8:=M_ 1 _ _ _ h;have e9:=M_ 2 _ _ _ h;have f0:=M_ 3 _ _ _ h;have g0:=R_ 0 _ _ h;have g1:=R_ 1 _ _ h;have g2:=R_ 2 _ _ h;have g3:=R_ 3 _ _ h;have f1:=Ah m R;have f2:=Ah m S;simp only[getElem?_toArray,getElem?_cons_zero,getElem?_cons_succ] at e7 e8 e9 f0;clear a9 c0 s m b4 h d3 d4 R S x;generalize f4:F M=c9 at *;go_simp;refine hK _ _ ⟨f1,f2⟩ λhHeld=>?_;clear hK KK
 refine G_ ?_;refine le_ ?_;go_wp2;apply bodyPost_ret (v:=Y9 #[ZR ZZ,V a1 c9 r,N_,I 0]) (by simp[results,results237,go_sem, *]) X;have d2:=Aa.h Q (B d.1+1) (ZR ZZ) (V a1 c9 r) (N_) (I 0);exact⟨a1,r,X,d2.M i.2.1 (λb o e=>Ag i.2.1 o i.1 C e),i.2.2.T (d2.b i.2.2.size (λb o=>O))⟩
def XsV(e:ZT)(f:ZY)(b:U XS):Prop:=(∃g d,f=ZH g (F b) d)/\∀a,a<F b->∃c d,f=L_ c (F b) d/\ZV e (J c (a*3))=T (I (Z b a Dm).M)/\ZV e (J c (a*3+1))=T (I (Z b a Dm).f)/\ZV e (J c (a*3+2))=T (I (Z b a Dm).i)
def XsV.q{e w' d b}(c:XsV e d b)(a:E_ e w'):XsV w' d b:=⟨c.1,λl k=>by
 have⟨m,f,g,h,i,j⟩:=c.2 l k
 exact⟨m,f,g,Ah a h,Ah a i,Ah a j⟩⟩
structure DaV(b)(c h)(f)(e d)(g):Prop where
 j:DkV b c h f
 i:∃a,ZV b (J c 2)=T a/\LiV b a e
 k:∃a,ZV b (J c 3)=T a/\LiV b a d
 l:∃a,ZV b (J c 4)=T a/\XsV b a g
def DaV.q{i w' g h e d c f}(b:DaV i g h e d c f)(a:E_ i w'):DaV w' g h e d c f:=by have⟨p,j,m⟩:=b.i;have⟨q,k,n⟩:=b.k;have⟨r,l,o⟩:=b.l;exact⟨b.j.q a,⟨p,Ah a j,m.q a⟩,⟨q,Ah a k,n.q a⟩,⟨r,Ah a l,o.q a⟩⟩
structure rf(f)(d:U KS)(b c:U (U H)):Prop where
 y:F c=F b
 p:F b<=1000
 u:∀a,a<F c->F (Z c a [])=f
 val:∀a,a<F c->∀g,Z (Z c a []) g 0<=1000000
 A:∀a,a<F b->F (Z b a [])<=1000
 n:∀a,a<F b->∀e∈Z b a [],e<F d
def Zu(a:U KS):U H->H->Y0 (H×H)
 |[],_=>ZP
 |b::d,c=>if c<(Z a b Aj).g then T (b,c) else Zu a d (c-(Z a b Aj).g)
def Nv(b:U KS)(c:U H)(a:H):Y0 (H×H):=if a=0 then ZP else Zu b c (a-1)
def re:Y0 (H×H)->E×E
  |some a=>(a.1,a.2)
  |none=>(-1,0)
def Gw(d:U KS)(c b:U (U H))(a e:H):Y0 (H×H):=Nv d (Z c a []) (Z (Z b a []) e 0)
def ZlH{Ks}{a:U H}{b v}(d:b<F a):Zu Ks (ZF b a) v=if v<(Z Ks (Z a b 0) Aj).g then T (Z a b 0,v) else Zu Ks (ZF (b+1) a) (v-(Z Ks (Z a b 0) Aj).g):=by have c:Z a b 0=a[b]:=w_;rw[aN d,c];rfl
def df v z d g {b h k} c4 {A}(w:DaV A v z b h k c4)(i:rf z b h k)(x:d<F h)(d7:g<z):C_ 190 #[P_ v,I d,I g] A (U_ (Y5 #[ZX ZQ (re (Gw b h k d g)).1,ZX ZQ (re (Gw b h k d g)).2]) A):=by
 have⟨l,D⟩:=ez_ (Gw b h k d g);rw[D];have⟨f6,c7,b1⟩:=w.i;have⟨f7,c8,b2⟩:=w.k;have y:d<F k:=i.y ▸ x;obtain⟨f5,e4,e3,f4,rfl,a4,b8⟩:=b2.2 d y;obtain⟨c0,c5,e2,d8,rfl,a3,b7⟩:=b1.2 d x;rw[i.u d y] at a4;obtain⟨e6,rfl,d0⟩:=b8 g ((i.u d y) ▸ d7);have e9:=i.val d y g;have d5:=i.A d x;have t:K (l=Nv _ _ _):=D.s;have a0:=K_ b7 (i.n d x);have S:=Y w.j;have f1:=i.y;clear w i b7 b8 b1 b2 D;generalize (Z (Z k d [])) g 0=G at *;generalize (Z h) d []=c at *;have⟨p,R⟩:=Z_ (F c);have W:=Y R;rw[R] at a3 d5;clear R;have e5:=F_ d _;have e7:=F_ g z;refine q_ ?_
 by_cases b3:G=0
 ·subst b3;have j:K (l=ZP):=(by rw[t];rfl);clear t;go_wp2;go_ret2
  exact⟨by rw[j];rfl,y_⟩
 obtain⟨m,rfl⟩:∃m,G=m+1:=⟨G-1,O⟩;have a1:K (l=Zu b c m):=(by rw[t];rfl);have d1:i64.wrap ((m+1:H)-1)=m:=(by rw[Au O O];omega);have d4:¬(m:E)<0:=O;clear t b3;go_wp2_with fail
 go_loopw [8,9] (λj f n=>∃a e:H,f=ZX ZQ a/\a<=p/\j=ZX ZQ e/\e<=1000000/\K (l=Zu b (ZF a c) e)/\E_ A n) (λ_ f _=>p-ZL (ZA f))
 exact⟨0,m,X,v_,X,O,a1,y_⟩;clear a1 d1 d4 d0 a4 c8;obtain⟨a,e,rfl,f0,rfl,f3,s,f⟩:=hrel;have c1:=Ah f c7;have c2:=Ah f a3
 by_cases d6:a<p
 ·have Q:a<F c:=W ▸ d6;obtain⟨b9,rfl,a5⟩:=(a0.1.q f) a Q;have b5:=a0.2 _ (Pp Q);have a2:=Y (ZlH (Ks:=b) (v:=e) Q);have⟨r,c6,L,N,M,P,a6,a7,a8,a9,b0⟩:=(S.q f).z b5;have o:=S.x _ b5;have b4:=Km L M (F (Z b (Z c a 0) Aj).e.f) (F (Z b (Z c a 0) Aj).e.c) N P (Z b (Z c a 0) Aj).e.a (Z b (Z c a 0) Aj).d
  have c3:K (∀u:ZT,C_ 189 #[Y9 #[ZR (Z b (Z c a 0) Aj).e.a,V L (F (Z b (Z c a 0) Aj).e.f) N,V M (F (Z b (Z c a 0) Aj).e.c) P,I (Z b (Z c a 0) Aj).d]] u (U_ (ZX ZQ (Z b (Z c a 0) Aj).g) u)):=λu=>by rw[<- o.g];exact b4 u o.1 o.2.1
  have f2:(Z b (Z c a 0) Aj).g<=2002:=(by have:=o.g;have:=o.1;have:=o.2.1;omega);clear b4 o;generalize (Z b (Z c a 0) Aj).g=q at *;generalize (Z b (Z c a 0) Aj).e.a=e1 at *;generalize (F (Z b (Z c a 0) Aj).e.f)=d9 at *;generalize (F (Z b (Z c a 0) Aj).e.c)=e0 at *;generalize (Z b (Z c a 0) Aj).d=c9 at *;generalize (Z c) a 0=n at *;have d3:=F_ a p;have e8:=F_ n _;go_upto_region 7 with fail
  go_region_held3 (λj=>D_ j v 1 (L_ r (F b) c6)/\D_ j v 2 (L_ c0 (F h) c5)/\D_ j c0 d (L_ b9 p d8)/\D_ j b9 a (I (n:H))/\D_ j r (n*4) (ZR e1)/\D_ j r (n*4+1) (V L d9 N)/\D_ j r (n*4+2) (V M e0 P)/\D_ j r (n*4+3) (I (c9:H))) (first|exact⟨a6,c1,c2,a5,a7,a8,a9,b0⟩|exact⟨Ah aA a6,Ah aA c1,Ah aA c2,Ah aA a5,Ah aA a7,Ah aA a8,Ah aA a9,Ah aA b0⟩) (first|(go_at_call 189;apply (c3 _).m;rintro b6 d2 ⟨rfl,j⟩;have aA:Below (B wr.1) _ _:=y_.drew.T j))
  by_cases b6:e<q
  ·have j:K (l=T (n,e)):=(by show _=_;rw[s,a2,aD b6]);have d2:e<(q:E):=O;go_wp2;go_ret2
   exact⟨by rw[j];rfl,f.T (aA.m f.size)⟩
  have j:K (l=Zu b (ZF (a+1) c) (e-q)):=(by show _=_;rw[s,a2,aC b6]);have d2:¬e<(q:E):=O;go_wp2;go_roundw;exact⟨a+1,e-q,g_,O,g_,O,j,f.T (aA.m f.size)⟩;exact z_
 have d3:¬a<(p:E):=O;have j:K (l=ZP):=(by show _=_;rw[s,drop_of_length_le (p_ W.out)];rfl);clear s;go_wp2;go_ret2
 exact⟨by rw[j];rfl,f⟩
def MaB(e:ZT)(b a:H)(c d:ZY):Prop:=e.1[b]? =T (O_ #[P_ a,c,d] 331)
def MaB.o{d b f h i}(g:MaB d b f h i){a c:H}{e}(k:H_ d a e c)(l:c≠331):a≠b:=λj=>by
 unfold MaB at g
 grind
structure MkY(b)(d l h m)(j o p q k c)(i)(g)(f)(e:U (U H))(n):Prop where
 r:MaB b l h k c
 v:Nt b h m j o p q
 A:ja b d j i f
 t:Mk b d k g (e.map An)
 w:Ad b d c (An n)
 u:∀a,a<F e->Bl c (Z g a Dg)
 x:∀a,a<F f->Bl c (Z i a Lm).1
section
variable {w w':ZT} {base a db n:H} {vF vB vC vX vb b f g e:ZY} {kvs:U (ZY×ZY)} {c:U ZY} {Ks:U KS} {Bb:U (U H)} {d:U H}
def MkY.q(e:MkY w base a db n vF vB vC vX vb b kvs c Ks Bb d)(f:E_ w w'):MkY w' base a db n vF vB vC vX vb b kvs c Ks Bb d:=by have g:=Aa.a (S:=λ_=>False) f;exact⟨g.g e.r id,g.g e.v id,e.A.q f,e.t.q f,e.w.q f,e.u,e.x⟩
def MkY.h(e:MkY w base a db n vF vB vC vX vb b kvs c Ks Bb d)(g:F Bb=F Ks)(i:∀f,f<F Bb->F (Z Bb f [])=n)(h:∀f,f<F Ks->Vc (Z Ks f Aj)):MkX w base a db n vF vB vC vX vb b kvs c Ks Bb d:=⟨e.r,e.v,e.A,e.t,e.w,g,i,h⟩
def MkY.z{k u}(e:MkY w base a db n vF vB vC vX vb b kvs c Ks Bb d)(x:Ad w base u.1 k.e.f)(y:Bj w base u.2 k.e.c)(D:Bl b u.1)(o:Y3 w w' (ZW vF))(A:ZD w' base 227 4 f (F Ks+1) ((zipWith Bs Ks kvs).flatten++Bs k u)):MkY (ZO w' (J db 1) f) base a db n f vB vC vX vb b (kvs++[u]) c (Ks++[k]) Bb d/\Nt w' db n vF vB vC vX/\MaB w' a db vb b:=by
 have r:=(Aa.refl _ w).grown o (λk h _=>h);have m:∀k,ZW vF=T k->∃j,w.1[k]? =T (O_ j 227 _):=λk h=>Ac e.A.M.M h;have l:Nt _ _ n _ _ _ _:=r.g e.v (λg=>by obtain⟨j,p⟩:=m _ g;exact e.v.o p C X);have q:MaB _ _ _ _ _:=r.g e.r (λg=>by obtain⟨j,p⟩:=m _ g;exact e.r.o p C X);have p:Aa _ _ (ZO w' _ f):=(Aa.refl (λk=>k=db) _).setCell (p:=(J db 1)) (λ_=>X) _;have v:=e.A.P x y o A;have t:=e.t.p r (λk j s h z _ g=>w_);have G:=e.A.y;refine⟨⟨p.g q (λg=>l.o q C g),ht_ 1 _ _ _ l,v.p p (λk j s h m _=>l.o h w_),t.p p (λk j s h m _=>l.o h w_),Am (Ad.kept e.w o (Ap e.A.M.M e.w C)) l C,e.u,λi z=>?_⟩,l,q⟩
 rw[Qe,length_singleton] at z
 by_cases g:i<F Ks
 have s:Z (kvs++[u]) i Lm=Z kvs i Lm:=w_;rw[s];exact e.x i g
 grind
def MkY.k{l B}(e:MkY w base a db n vF vB vC vX vb b kvs c Ks Bb d)(y:Ad w base l (An B))(z:∀f,f<F Bb->Bl (Z c f Dg) l)(G:Bl b l)(p:Y3 w w' (ZW vb))(D:ZD w' base 25 1 g (F Bb+1) (c++[l])):MkY (ZO w' (J a 1) g) base a db n vF vB vC vX g b kvs (c++[l]) Ks (Bb++[B]) d/\MaB w' a db vb b:=by
 have r:=(Aa.refl _ w).grown p (λj i _=>i);have o:∀j,_=T j->_:=λj i=>Ac e.t.M i;have s:Nt _ _ n _ _ _ _:=r.g e.v (λh=>by obtain⟨m,q⟩:=o _ h;exact e.v.o q C X);have k:MaB _ _ _ _ _:=r.g e.r (λh=>by obtain⟨m,q⟩:=o _ h;exact e.r.o q C X);have q:Aa _ _ (ZO w' _ g):=(Aa.refl (λj=>j=a) _).setCell (p:=(J a 1)) (λ_=>X) _;have x:=e.A.p r (λj m u i t _ h=>w_);have v:=e.t.P (L:=An B) y (λf t=>z f w_) p (by rw[length_map];exact D);have A:=e.t.y;rw[length_map] at A;refine⟨⟨ht_ 1 _ _ _ k,q.g s (λh=>k.o s C h),x.p q (λj m u i o _=>k.o i w_),?_,Am (Ad.kept e.w p (Ap e.t.M e.w C)) k C,λf t=>?_,e.x⟩,k⟩
 rw[map_append];exact v.p q (λj m u i o _=>k.o i w_);rw[Qe,length_singleton] at t
 by_cases h:f<F Bb
 have m:Z (c++[l]) f Dg=Z c f Dg:=w_;rw[m];exact e.u f h
 grind
def MkY.D{z:H}(f:MkY w base a db n vF vB vC vX vb b kvs c Ks Bb d)(k:Y3 w w' (ZW b))(s:Ad w' base e (An d++[(z:E)]))(t:ZW e=ZW b∨ZW e=T (B w.1)):MkY (ZO w' (J a 2) e) base a db n vF vB vC vX vb e kvs c Ks Bb (d++[z])/\MaB w' a db vb b:=by
 have u:=(Aa.refl _ w).grown k (λj i _=>i);have o:∀j,_=T j->_:=λj i=>Ac f.w i;have r:Nt _ _ n _ _ _ _:=u.g f.v (λm=>by obtain⟨p,g⟩:=o _ m;exact f.v.o g C X);have l:MaB _ _ _ _ _:=u.g f.r (λm=>by obtain⟨p,g⟩:=o _ m;exact f.r.o g C X);have q:Aa _ _ (ZO w' _ e):=(Aa.refl (λj=>j=a) _).setCell (p:=(J a 2)) (λ_=>X) _;have x:ja _ _ _ _ _:=⟨⟨World.ownsRow.kept f.A.M.M k (Ap f.w f.A.M.M C),f.A.M.h⟩,f.A.y,λg h=>⟨Ad.kept (f.A.j g h).1 k (f.x g h).a,World.ownsRow.kept (f.A.j g h).2 k (Ap f.w (f.A.j g h).2 C)⟩⟩
 have v:Mk _ _ _ _ _:=⟨World.ownsRow.kept f.t.M k (Ap f.w f.t.M C),λg h=>Ad.kept (f.t.j g h) k (f.u g w_).a,f.t.apart⟩;refine⟨⟨ht_ 2 _ _ _ l,q.g r (λm=>l.o r C m),x.p q (λj p m i o _=>l.o i w_),v.p q (λj p m i o _=>l.o i w_),?_,λg h=>Bl.b (f.u g h) (f.t.j g w_) t,λg h=>Bl.b (f.x g h) (f.A.j g h).1 t⟩,l⟩;have:Ad w' base e (An (d++[z])):=(by unfold An at s ⊢;rw[map_append];exact s);exact Am this l C
end
structure RfX(b)(a d p)(h f g i)(o)(m n)(c)(k j:U (U H))(l:U XS):Prop where
 v:Nt b d p h f g i
 A:ja b a h o c
 w:Mk b a f m (k.map An)
 y:Mk b a g n (j.map An)
 r:Xr b a 231 3 i (l.map Cw)
 x:∀e,e<F c->Vc (Z c e Aj)
 t:a<=d
section
variable {w w':ZT} {base db n:H} {vF vB vC vX b:ZY} {kvs:U (ZY×ZY)} {bvs cvs:U ZY} {Ks:U KS} {Fs Cs:U (U H)} {a:U XS}
def RfX.z(b:RfX w base db n vF vB vC vX kvs bvs cvs Ks Fs Cs a)(f:Aa (λc=>c<base) w w'):RfX w' base db n vF vB vC vX kvs bvs cvs Ks Fs Cs a:=by have i:∀{c h:H} {g},H_ w c g h->base<=c->¬c<base:=O;exact⟨f.g b.v (p_ b.t),b.A.p f (λc g h e _ d=>i e d),b.w.p f (λc g h e _ d=>i e d),b.y.p f (λc g h e _ d=>i e d),b.r.p f (λe d=>p_ (B_ b.r.M e d).1),b.x,b.t⟩
def XsV.N{f}(e:Xr w base 231 3 f (a.map Cw)):XsV w f a:=by have⟨g,h,c⟩:=e.d;rw[length_map] at c;refine⟨⟨g,h,c⟩,λi m=>?_⟩;have⟨l,j,d,_,_,_,_,b⟩:=e.at (i:=i) w_;rw[length_map] at d;have k:Z (a.map Cw) i []=Cw (Z a i Dm):=w_;rw[k] at b;exact⟨l,j,d,b 0 O _ X,b 1 O _ X,b 2 O _ X⟩
def RfX.h(b:RfX w base db n vF vB vC vX kvs bvs cvs Ks Fs Cs a):DaV w db n Ks Fs Cs a:=
 ⟨⟨M_ 0 _ 142 (0,0) b.v,⟨vF,M_ 1 _ 142 (0,0) b.v,b.A.h⟩,b.x⟩,⟨vB,M_ 2 _ 142 (0,0) b.v,b.w.h⟩,⟨vC,M_ 3 _ 142 (0,0) b.v,b.y.h⟩,⟨vX,M_ 4 _ 142 (0,0) b.v,XsV.N b.r⟩⟩
end
def Lu(b:H):Y0 (H×H)->Y0 H
 |some a=>if a.1=b then T a.2 else ZP
 |none=>ZP
def Iz(b:U KS)(a d:U (U H))(f c:H):H:=((range (F a)).findSome? (λe=>Lu c (Gw b a d e f))).getD (Z b c Aj).d
def ZnG{o}{f:H}:((re o).1=f->Lu f o=T (ZL (re o).2)/\(re o).2=ZL (re o).2)/\((re o).1≠f->Lu f o=ZP):=by
 cases o with
 |none=>exact⟨λa=>by simp[re] at a,λ_=>X⟩
 | some b=>
  grind [re,Lu]
def Zj9{a e d b i}(h:b<F a)(l:rt e d (Z a b Dm))(k:∀c,c<b->¬rt e d (Z a c Dm)):xbF a d e i=(Z a b Dm).i:=by
 have g:∀f _,Z a f Dm=a[f]:=λf m=>w_
 have:a.find? (λj=>ZE (rt e d j))=T a[b]:=(by rw[find?_eq_some_iff_getElem];refine⟨w_,b,h,X,λc j=>?_⟩;have:=k c j;rw[g c O] at this;simp only[aE this,Bool.not_false]);unfold xbF;rw[this,g b h]
def ui{a e c f}(i:∀b,b<F a->¬rt e c (Z a b Dm)):xbF a c e f=f:=by
 have h:∀d _,Z a d Dm=a[d]:=λd k=>w_
 have:a.find? (λg=>ZE (rt e c g))=ZP:=by
  rw[find?_eq_none];intro l j;obtain⟨b,g,rfl⟩:=aM j;have:=i b g;rw[h b g] at this
  simpa using this
 unfold xbF;rw[this]
theorem ZcP{d b c g e a x}(k:a<F b)(h:Lu e (Gw d b c a g)=T x)(j:∀f,f<a->Lu e (Gw d b c f g)=ZP):Iz d b c g e=x:=by unfold Iz;have:(range (F b)).findSome? (λa=>Lu e (Gw d b c a g))=T x:=(by rw[findSome?_eq_some_iff];refine⟨range a,a,(range (F b-(a+1))).map (a+1+ ·),?_,h,λf i=>j f (by simpa using i)⟩;rw[show F b=(a+1)+(F b-(a+1)) by omega,range_add,range_succ];simp);rw[this];rfl
theorem wn{b a d f c}(g:∀e,e<F a->Lu c (Gw b a d e f)=ZP):Iz b a d f c=(Z b c Aj).d:=by grind [Iz]
def oz{y} s e d g f i {b} x (m:DaV x y s g f i b)(D:rf s g f i)(a7:e<s)(a6:d<F g)(d3:F b<=1000000):C_ 138 #[P_ y,I e,I d] x (U_ (Y5 #[ZX ZQ (xbF b d e (Iz g f i e d):H),ZX ZQ 0]) x):=by
 have⟨w,v⟩:=ez_ (xbF b d e (Iz g f i e d));rw[v];have⟨d6,c5,z⟩:=m.l;obtain⟨b6,c0,rfl⟩:=z.1;have⟨d5,a1,q⟩:=m.i;obtain⟨b5,b9,rfl⟩:=q.1;have⟨d4,c2,b7,c1,b8,c3,a0,_,_,_,a2⟩:=m.j.z a6;have c4:=m.j.g;have N:=Y z;have L:=K_ m D;have d1:=D.p;clear m D z q;have c6:¬(e:E)<0:=O;have c7:¬s<=(e:E):=O;have c8:¬(d:E)<0:=O;have c9:¬F g<=(d:E):=O;have d0:=F_ d _;refine q_ ?_;go_wp2_with fail
 go_loopw [8] (λh j=>∃a:H,h=ZX ZQ a/\a<=F b/\K (∀c,c<a->¬rt e d (Z b c Dm))/\j=x) (λh _=>F b-ZL (ZA h))
 exact⟨0,X,v_,λc r=>O,X⟩;obtain⟨a,rfl,d2,j,a9⟩:=hrel;subst a9
 by_cases W:a<F b
 ·have⟨P,M,l,Q,A,b4⟩:=N.2 a W;injection l with e1 _ e3;subst e1 e3;have a3:=F_ a _
  by_cases h:rt e d (Z b a Dm)
  ·have t:K (w=(Z b a Dm).i):=(by show _=_;rw[<- v];exact Zj9 W h j);obtain⟨k,n⟩:=h;have e1:(((Z b a Dm).M:_)==(e:E))=_:=beq_iff_eq.2 O;have p:(((Z b a Dm).f:_)==(d:E))=_:=beq_iff_eq.2 O;generalize (Z b a Dm).M=o at *;generalize (Z b a Dm).f=G at *;generalize (Z b a Dm).i=u at *;clear k n;go_wp2;go_ret2
   exact⟨by rw[t];rfl,y_⟩
  have u:K (∀c,c<a+1->¬rt e d (Z b c Dm)):=λc r=>by
   by_cases l:c=a
   rw[l];exact h;exact j c O
  by_cases k:(Z b a Dm).M=e
  ·have n:¬_:=λn=>h ⟨k,n⟩;have e1:(((Z b a Dm).M:_)==(e:E))=_:=beq_iff_eq.2 O;have p:(((Z b a Dm).f:_)==(d:E))=_:=aO O;clear k n h;generalize (Z b a Dm).M=o at *;generalize (Z b a Dm).f=G at *;go_wp2;go_roundw;exact⟨a+1,g_,O,u,trivial⟩;exact z_
  have e1:(((Z b a Dm).M:_)==(e:E))=_:=aO O;clear k h;generalize (Z b a Dm).M=o at *;go_wp2;go_roundw;exact⟨a+1,g_,O,u,trivial⟩;exact z_
 have t:K (w=Iz g f i e d):=(by show _=_;rw[<- v];exact ui (λc r=>j c O));have a3:¬a<(F b:E):=O;clear v N j;have⟨b3,a8⟩:=W_ wr;subst a8;go_wp2_with fail
 go_loopw [9] (λk l=>∃h:H,k=ZX ZQ h/\h<=F f/\K (∀c,c<h->Lu d (Gw g f i c e)=ZP)/\E_ b3 l) (λk _=>F f-ZL (ZA k))
 exact⟨0,X,v_,λc r=>O,y_⟩;obtain⟨h,rfl,n,j,k⟩:=hrel;have b4:=Ah k a1
 by_cases R:h<F f
 ·have a4:h<(F f:E):=O;go_wp2_with fail
  apply (df y s h e b (L.1.q k) L.2 R a7).m;rintro l d7 ⟨rfl,a5⟩;have⟨P,A⟩:=Z_ (Gw g f i h e);have o:=ZnG (o:=P) (f:=d);rw[A];have M:=Y A;have S:=k.T (a5.m k.size);clear A;have⟨b2,G⟩:=Z_ (re P);rw[G] at o ⊢;obtain⟨b0,b1⟩:=b2;simp only at o ⊢
  by_cases p:b0=(d:E)
  ·have⟨Q,q⟩:=o.1 p;have u:K (w=b1):=(by show _=_;rw[t,ZcP R (M ▸ Q) j,<- q]);have e1:=beq_iff_eq.2 p;clear o Q q p G;go_wp2;go_ret2
   exact⟨by rw[u];rfl,S⟩
  have u:K (∀c,c<h+1->Lu d (Gw g f i c e)=ZP):=λc r=>by
   by_cases l:c=h
   rw[l,M];exact o.2 p;exact j c O
  have e1:=aO p;clear o p G;go_wp2;go_roundw;exact⟨h+1,g_,O,u,S⟩;exact z_
 have a4:¬h<(F f:E):=O;have u:K (w=(Z g d Aj).d):=(by show _=_;rw[t,wn (λc r=>j c O)]);have A:=Ah k a0;have o:=Ah k a2;generalize (Z g d Aj).d=l at *;go_wp2;go_ret2
 exact⟨by rw[u];rfl,k⟩
def Zcc{g e b a c f}(d:DkV f g e c)(q:¬(0<=b/\b<(e:E)/\0<=a/\a<(F c:E))):C_ 138 #[P_ g,I b,I a] f (V_ (Y5 #[ZX ZQ 0,ZX ZQ 1]) f):=by
 have⟨r,l,h⟩:=d.h;obtain⟨i,j,rfl⟩:=h.1;have k:=d.g;clear d h;refine q_ ?_
 by_cases m:b<0
 ·go_wp2;go_ret2
  exact⟨X,X⟩
 by_cases n:(e:E)<=b
 ·go_wp2;go_ret2
  exact⟨X,X⟩
 by_cases o:a<0
 ·go_wp2;go_ret2
  exact⟨X,X⟩
 have p:F c<=a:=O;go_wp2;go_ret2
 exact⟨X,X⟩
def Mk.i{a g c d k e p n o q f b}(h:Mk a c e f b)(i:Nt a d k p n o q)(m:Aa (λl=>l=d) a g):Mk g c e f b:=h.p m (λt r u j s _=>i.o j w_)
structure CoI(b wr)(a f)(i h c j)(e)(d:U (U H)):Prop where
 u:Aa (λg=>g=a) b wr
 v:Nt wr a f i h c j
 y:Mk wr (B b.1) c e (d.map An)
 lt:a<B b.1
section
variable {b wr a:ZT} {db n:H} {vF vB vC vX c d:ZY} {cvs:U ZY} {Cs:U (U H)}
def CoI.q(c:CoI b wr db n vF vB vC vX cvs Cs)(d:E_ wr a):CoI b a db n vF vB vC vX cvs Cs:=⟨c.u.q d,(d.block _ c.v.lt).T c.v,c.y.q d,c.lt⟩
def CoI.P{h N}(d:CoI b wr db n vF vB vC vX cvs Cs)(o:Ad wr (B b.1) h (An N))(m:∀g,g<F Cs->Bl (Z cvs g Dg) h)(j:Y3 wr a (ZW vC))(p:ZD a (B b.1) 25 1 c (F Cs+1) (cvs++[h])):CoI b (ZO a (J db 3) c) db n vF vB c vX (cvs++[h]) (Cs++[N])/\Nt a db n vF vB vC vX:=by
 have q:=(Aa.refl _ _).grown j (λf e _=>e);have i:Nt _ _ n _ _ _ _:=q.g d.v (λe=>by obtain⟨k,f⟩:=Ac d.y.M e;exact d.v.o f C X);have l:=d.y.P (L:=An N) o (λg e=>m g w_) j (by rw[length_map];exact p);have r:Aa _ _ (ZO a _ c):=(Aa.refl (λf=>f=db) _).setCell (p:=(J db 3)) (λ_=>X) _;refine⟨⟨(d.u.grown j (λf e k=>p_ (B_ d.y.M f e).1)).setCell (p:=(J db 3)) (λ_=>X) _,ht_ 3 _ _ _ i,?_,d.lt⟩,i⟩;rw[map_append];exact l.p r (λf k t e s _=>i.o e w_)
end
structure ExI(b wr)(a e)(i g h c)(d:U XS):Prop where
 u:Aa (λf=>f=a) b wr
 v:Nt wr a e i g h c
 r:Xr wr (B b.1) 231 3 c (d.map Cw)
 lt:a<B b.1
section
variable {c wr a:ZT} {db n:H} {vF vB vC vX d:ZY} {b:U XS}
def ExI.q(d:ExI c wr db n vF vB vC vX b)(e:E_ wr a):ExI c a db n vF vB vC vX b:=⟨d.u.q e,(e.block _ d.v.lt).T d.v,d.r.q e,d.lt⟩
def ExI.P{x}(e:ExI c wr db n vF vB vC vX b)(i:Y3 wr a (ZW vX))(m:ZD a (B c.1) 231 3 d (F b+1) ((b.map Cw).flatten++Cw x)):ExI c (ZO a (J db 4) d) db n vF vB vC d (b++[x])/\Nt a db n vF vB vC vX:=by have o:=(Aa.refl _ _).grown i (λf h _=>h);have g:Nt _ _ n _ _ _ _:=o.g e.v (λf=>by obtain⟨k,h⟩:=Ac e.r.M f;exact e.v.o h C X);have p:Aa _ _ (ZO a _ d):=(Aa.refl (λf=>f=db) _).setCell (p:=(J db 4)) (λ_=>X) _;have j:=e.r.P (x:=Cw x) (by rw[length_map];exact m) X;refine⟨⟨(e.u.grown i (λf h k=>p_ (B_ e.r.M f h).1)).setCell (p:=(J db 4)) (λ_=>X) _,ht_ 4 _ _ _ g,?_,e.lt⟩,g⟩;rw[map_append];exact j.p p (λq l f=>by obtain⟨k,h⟩:=Ac j.M l;exact g.o h C f)
end
def Nn a b:ZB a++ZB b=ZB (a++b):=by apply ByteArray.ext;simp[ZB]
def Ps a:Ba a 1=[a%256]:=rfl
theorem ZcF b c:∀a,a<=F b->Sd (b++[c]) a=Sd b a
 |0,_=>X
 |a+1,f=>by have d:Z (b++[c]) a (0,0)=Z b a (0,0):=w_;have e:Bh (b++[c]) a=Bh b a:=(by grind [Bh]);simp only[Sd];rw[ZcF b c a O,d,e]
def ZlA a b:Sd (a++[b]) (F a+1)=Sd a (F a)++[(b.1-Bh a (F a))%256,b.2%256]:=by grind [Bh,Sd,ZcF]
theorem kv a b:Bh (a++[b]) (F a+1)=b.1:=by unfold Bh;simp[Z]
theorem Zly b:∀a,a<=F b->F (Bu b a)=Dt (ZU a (nzL b))
 |0,_=>by simp[Bu,Dt]
 | a +1,e=>by
  have d:a<F (nzL b):=by rw[Zd];omega
  have c:(nzL b)[a]=ZE (Z b a 0≠0):=by
   have:=ZbR (N:=b) (k:=a) O
   grind
  rw[Qi d,Pm,<- Zly b a O,c];simp only[Bu]
  grind
def ZnE a:F (Bu a (F a))=nzN a:=by grind [Zly,nzN,Zd]
def ZaM b:∀a,-1<=Bh (Bu b a) (F (Bu b a))/\Bh (Bu b a) (F (Bu b a))<a
 |0=>by simp[Bu,Bh]
 | a+1=>by
  have:=ZaM b a
  grind [Bu,kv]
def la:∀b:Fin 64,∀a:Fin 7,a.val<Lib.bitLen b.val->0<b.val/2^a.val:=by decide+kernel
def ZeF{b c a}(d:b a=0):Bg b c (a+1)=Bg b c a:=by
 have:=cy b c a;rw[<- this,lg,d,Nat.zero_mul,Nat.add_zero];apply ext_getElem;simp
 grind [Bg]
def Zh1 b4 (d3 e:H) a j (s:NuV j b4 a)(c2:F a<=200)(a2:e<64)(e7:∀b,Z a b 0<=1000000):C_ 136 #[V b4 (F a) d3,I e] j (U_ (YW (ZB (Ia a e))) j):=by
 have⟨b1,b3⟩:=Y_ s e7;have c9:K (Ia a e=if 4*F (Bu a (F a))<F a then Sj (Bu a (F a)) else 100::Bg (Cf a (Lib.bitLen e)) ((F a*Lib.bitLen e+7)/8) (F a*Lib.bitLen e)):=(by show _=_;rw[ZnE];rfl);have⟨D,c3⟩:=Z_ (F a);have⟨b0,b2⟩:=Y_ c3 (Mi a);rw[c3] at c2 c9 ⊢;refine dl_ ?_;go_enter func136,ntmps136;go_upto_region 5 with fail;go_loopw [5,6,7,8] (λc a7 c7 S d=>∃(b:H) (r:ZC),c=ZX ZQ (F (Bu a b):H)/\a7=YW r/\c7=ZX ZQ (Bh (Bu a b) (F (Bu a b)))/\S=ZX ZQ b/\b<=D/\K (r=ZB (Sd (Bu a b) (F (Bu a b))))/\K (E_ j d)) (λ_ _ _ S _=>D-ZL (ZA S))
 case atStart=>exact⟨0,_,X,X,X,X,v_,X,y_⟩
 obtain⟨b,r,rfl,rfl,rfl,rfl,g5,u,o⟩:=hrel
 by_cases e1:b<D
 ·have b5:b<(D:E):=O;obtain⟨i,rfl,x⟩:=b1 b (b0 ▸ e1);have S:=Ah o x;have a3:=b3 b;have R:K (Bu a (b+1)=_++_):=rfl;have⟨g,a4⟩:=Z_ (Z a b 0);rw[a4] at x S a3 R;have b6:=aJ _ _ x;have y:=ZaM a b;have c5:=b2 b
  by_cases a7:g=0
  ·subst a7;have f:K (Bu a (b+1)=Bu a b):=w_;refine J_ ?_;exact⟨b+1,r,by rw[f],X,by rw[f],g_,O,f ▸ u,o⟩
  have f:K (Bu a (b+1)=Bu a b++[(b,g)]):=w_;have⟨d,a0⟩:=Z_ (Bu a b);rw[a0] at y c5 u f ⊢;have⟨G,A⟩:=Z_ (Bh d (F d));have L:=Y A;rw[A] at y ⊢;obtain⟨l,a5⟩:∃l:H,b-G=l:=⟨ZL ((b:E)-G),O⟩;have b7:_=(l:E):=Au O O;have Q:K (∀c,E_ j c->C_ 135 #[_,I 1] c λh W=>_/\_):=λc n=>(To _ l 1 c O O (ZM ⟨O,X⟩)).m (λ_ _ s=>⟨s.1,n.T (s.2.m n.size)⟩);have t:K (∀c,E_ j c->C_ 135 #[_,I 1] c λh W=>_/\_):=λc n=>(To _ g 1 c O O (ZM ⟨O,X⟩)).m (λ_ _ s=>⟨s.1,n.T (s.2.m n.size)⟩);have a1:ZK r<=2000:=by rw[u,Bi,Om];omega
  have z:ZK (ZB (Ba l 1))=1:=(by rw[Bi];rfl);have W:ZK (ZB (Ba g 1))=1:=by rw[Bi];rfl
  have M:K (ZB (Sd (d++[(b,g)]) (F (d++[(b,g)])))=r++ZB (Ba l 1)++ZB (Ba g 1)):=(by show _=_;rw[Qe,length_singleton,ZlA,L,a5,u,Nn,Nn,Ps,Ps,append_assoc];rfl);have N:K (Bh (d++[(b,g)]) (F (d++[(b,g)]))=b):=by show _=_;rw[Qe,length_singleton,kv]
  have P:K (F (d++[(b,g)])=F d+1):=(by show _=_;simp);generalize ZB (Ba (l:H) 1)=w,ZB (Ba (g:H) 1)=a8,F d=a6 at *;have a9:¬9223372036854775807<ZK r+ZK w:=O;have b8:¬9223372036854775807<ZK r+ZK w+ZK a8:=O;clear z W;go_upto_region 9 with fail;refine rg_ j 12 (λm=>?_) (hS:=o.drew);refine G_ ?_;refine oc_ 4 (Q _ m) ?_;rintro h c8 ⟨rfl,q⟩;refine⟨_,X,q,λm=>G_ ?_⟩;refine oc_ 10 (t _ m) ?_;rintro h f1 ⟨rfl,v⟩;refine⟨_,X,v,λm=>G_ ?_⟩;refine le_ ?_;replace o:=Y v;clear m q v;refine J_ ?_;exact⟨b+1,_,by rw[f,P];go_num,X,by rw[f,N],g_,O,f ▸ M.s,o⟩
 have e6:b=D:=O;subst e6;have c5:=b2 b
 by_cases f6:4*F (Bu a b)<b
 ·have L:K (Ia a e=Sj (Bu a b)):=w_;have g:K (ZB (Sj (Bu a b))=({data:=#[115]}:ZC)++ZB (Ba (F (Bu a b)) 1)++r):=(by show _=_;rw[u,show({data:=#[115]}:ZC)=ZB [115] from X,Nn,Nn];rfl);have f:=To (F (Bu a b):H) (F (Bu a b)) 1;have a1:ZK r<=2000:=(by rw[u,Bi,Om];omega);have z:ZK (ZB (Ba (F (Bu a b)) 1))=1:=(by rw[Bi];rfl);have a9:¬9223372036854775807<1+ZK (ZB (Ba (F (Bu a b)) 1)):=O;generalize ZB (Ba (F (Bu a b):H) 1)=w,F (Bu a b)=a6 at *;have d6:4*a6<(b:E):=O;have t:K (∀c,Calls _ 135 #[_,I 1] c λh W=>_):=λc=>f c O O (ZM ⟨O,X⟩);go_wp2_with fail
  apply (t _).m;rintro h c8 ⟨rfl,q⟩;have d:=Y (o.T (q.m o.size));go_wp2;go_ret;exact⟨by rw[L,g];rfl,d⟩
 have L:K (Ia a e=100::Bg (Cf a (Lib.bitLen e)) ((b*Lib.bitLen e+7)/8) (b*Lib.bitLen e)):=w_;have e0:=Gj a2;have g1:=Ml a2;have d0:K (∀c,c<Lib.bitLen e->0<e/_):=λc b8=>la ⟨e,a2⟩ ⟨c,O⟩ b8;generalize Lib.bitLen e=l at *;have d6:¬4*F (Bu a b)<(b:E):=O;generalize (F (Bu a b))=a6 at *;generalize wr=t at *;go_upto_region 14 with fail;go_loopw [9] (λd f=>∃c:H,d=ZX ZQ c/\c<=l/\K (t=f)) (λd _=>l-ZL (ZA d))
 case atStart=>exact⟨0,X,v_,X⟩
 obtain⟨c,rfl,b8,e8⟩:=hrel;have e9:=e8.out;subst e9
 by_cases d8:c<l
 ·have d:0<=(c:E):=O;have f:(c:E)<64:=O;have g:=d0 c d8;have e4:0<(e:E)/2^c:=w_;refine J_ ?_;exact⟨c+1,g_,O,True.intro⟩
 have d9:c=l:=O;subst d9;have e4:¬0<(e:E)/2^c:=(by grind [div_eq_of_lt]);have⟨v,Q⟩:=Z_ (b*c);have f7:v<=1200:=(by rw[<- Q];exact Nat.mul_le_mul c2 e0);have f8:b*c=(v:E):=(by rw[<- Q];simp);have⟨d,e3⟩:=Z_ ((v+7)/8);have g8:(v+7)/8=(d:E):=O;have g3:=Rd d O;have M:K (_/\v<=8*d/\d<=200):=⟨Q,O,O⟩;rw[Q,e3] at L;go_upto_region 17 with fail;have f2:K (Az (ZN t (O_ (YV #[ZX .u8 0] d) 5)) (B t.1) (L_ (B t.1) d d) (Bg (Cf a c) d 0)/\E_ j (ZN t (O_ (YV #[ZX .u8 0] d) 5))):=by refine⟨?_,o.alloc o.size _⟩;rw[oq];exact Rb _ _ _ O x_
 have e5:=o.size;generalize (ZN t) (O_ (YV #[ZX .u8 0] d) 5)=c8,B t.1=i at *;go_upto_region 18 with fail;go_loopw [11] (λg h=>∃f:H,g=ZX ZQ f/\f<=b/\K (Az h i (ZH (T ⟨i,0,ZP⟩) d d) (Bg (Cf a c) d (f*c))/\E_ j h)) (λg _=>b-ZL (ZA g))
 case atStart=>grind
 obtain⟨f,rfl,g2,m⟩:=hrel
 by_cases c0:f<b
 ·have g6:0<=(f:E):=O;obtain⟨g9,rfl,x⟩:=b1 f (b0 ▸ c0);have a3:=b3 f;have⟨h,z⟩:=Z_ (f*c);have f9:f*c=(h:E):=by rw[<- z];simp
  have g0:h+c<=v:=by
   rw[<- z,<- M.1];have:(f+1)*c<=b*c:=aK _ c0
   grind
  have a9:K (∀k,_->Cf a c (h+k)=_%2):=λk c1=>by rw[<- z];exact Mz a c1
  have d1:=Y z;rw[z] at m;have⟨g,a4⟩:=Z_ (Z a f 0);rw[a4] at x a3 a9;generalize wr=f1 at *;go_upto_region 21 with fail;go_loopw [12] (λn q=>∃k:H,n=ZX ZQ k/\k<=c/\K (Az q i (ZH (T ⟨i,0,ZP⟩) d d) (Bg (Cf a c) d (h+k))/\E_ j q)) (λn _=>c-ZL (ZA n))
  case atStart=>exact⟨0,X,v_,m⟩
  obtain⟨k,rfl,c1,m⟩:=hrel
  by_cases e2:k<c
  ·have g7:0<=(k:E):=O;have f4:=T_ m.2 x;have A:=a9 k e2;have g4:=M.out;have b6:((g:E)/2^k).tmod 2=(g/2^k%2:H):=by rw[show((g:E)/2^k)=((g/2^k:H):E) by simp];rfl
   rcases mod_two_eq_zero_or_one (g/2^k) with d7|b9
   ·rw[d7] at A b6;have n:K (Bg _ d (h+(k+1))=Bg _ _ (h+k)):=ZeF A;refine J_ ?_;exact⟨k+1,g_,O,n ▸ m⟩
   rw[b9] at A b6;have⟨w,y⟩:=W_ (h+k);have⟨q,P⟩:=W_ (w/8);have⟨n,a1⟩:=W_ (w%8);have b7:q<d:=O;have⟨N,b5⟩:=m.1.c (k:=q) (by rw[Dj]) b7;rw[Kj _ _ b7] at N;have⟨a8,R⟩:=W_ (Hf (Cf a c) (h+k) q);have f0:a8<2^n:=by rw[R,P,a1,<- y];exact lh (Jf a c) w
   have d5:2^n<=128:=by
    have:(2:H)^n<=2^7:=Nat.pow_le_pow_right C O
    simpa using this
   have⟨a0,a5⟩:=W_ (2^n);have⟨G,c6⟩:=W_ (a8+a0);have c4:Hf (Cf a c) (h+k+1) q=G:=by rw[c6,a5,R,P,a1,<- y,lg,y,A,Nat.one_mul]
   have d2:K ((Bg (Cf a c) d (h+k)).set q G=Bg (Cf a c) d (h+(k+1))):=by show _=_;rw[<- c4];have:=cy (Cf a c) d (h+k);rw[<- y,<- P,y] at this;exact this
   have h0:h+k=(w:E):=O;have h1:w/8=(q:E):=O;have h2:(w:E).tmod 8=n:=by rw[Int.tmod_eq_emod_of_nonneg O];omega
   have a7:IntKind.u8.wrap (1*2^n)=a0:=by
    rw[Int.one_mul,Zw _ (by have:(0:H)<=2^n:=v_;exact_mod_cast this) (by
     have:((2:E)^n)=((2^n:H):E):=s_
     rw[this];omega)]
    rw[a5];simp
   have h3:IntKind.u8.wrap (2^n)=a0:=(by rw[<- a7,Int.one_mul]);have c7:IntKind.u8.wrap (a8+a0)=G:=(by rw[Zw _ O O];omega);have S:_=(q:E):=Au O O;have f3:(n:E)<=8:=O;rw[<- R] at N;have d4:ZV (YY wr) _=_:=N;have f5:YT (YY wr) _=_:=b5;clear b9 A y P a1 N b5 R f0 a5 c6 c4 d5;go_upto_region 25 with fail;refine Af (λW=>ZV W _=T _) 13 k_ d4 (λhHeld=>?_);refine tkP 0 ?_;refine tkP 1 ?_;refine tkP 2 ?_;refine tkP 3 ?_;refine tkP 4 ?_;refine tkP 5 ?_;refine tkP 6 ?_;refine Mj [11,12,13] (i:=7) (v:=?_) X k_ k_ k_ k_ k_ (λ_ _ _ s=>s) (ZM ⟨by rfl,?_⟩) a_ ?_
   rotate_left
   ·intro j W
    (try dsimp only at W)
    go_simp;try with_reducible rfl
   try simp only[Act.put,sA,sB,sC]
   refine tkP 8 ?_;refine tkP 9 ?_;refine tkP 10 ?_;refine tkP 11 ?_;refine tkP 12 ?_;refine Ew (i:=13) k_ X k_ (λKK hK=>?_);go_simp;apply hK _ _;try simp only[Act.put,sA,sB,sC]
   refine Fr k_ ?_ _;have W:K (Az (YY (ZO wr (J i q) (ZX .u8 G))) i (L_ i d d) (Bg (Cf a c) d (h+(k+1)))/\E_ j (YY (ZO wr (J i q) (ZX .u8 G)))):=(by rw[<- d2];exact⟨World.ownsRow.drew (m.1.put (by rw[Dj]) _).1,(m.2.setCell (p:=(J i q)) e5 _).drew⟩);refine J_ ?_;exact⟨k+1,g_,O,W⟩
  have q:k=c:=O;subst q;have n:K (Az wr i (L_ i d d) (Bg (Cf a k) d ((f+1)*k))/\E_ j wr):=(by have:(f+1)*k=h+k:=(by rw[Nat.add_mul,Nat.one_mul,d1]);rw[this];exact m);refine J_ ?_;exact⟨f+1,g_,O,n⟩
 have h:f=b:=O;subst h;have q:=Pn _ i m.1;have n:=Y m.2;have g:K (ZB (Ia a e)=({data:=#[100]}:ZC)++ZB (Bg (Cf a c) d (f*c))):=(by show _=_;rw[L,M.1,show({data:=#[100]}:ZC)=ZB [100] from X,Nn];rfl);have w:ZK (ZB (Bg (Cf a c) d (f*c)))=d:=(by rw[Bi,Dj]);have x:=M.2.2;generalize ZB (Bg (Cf a c) d (f*c))=y at *;go_wp2;go_ret;exact⟨by rw[g];rfl,n⟩
end Go.Proofs.YtfcgnpchbcmdeaaGreat
