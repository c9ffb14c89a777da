import Derived.Test.YtfcgnpchbcmdeaaGreatZsaq
import Derived.Test.YtfcgnpchbcmdeaaGreatZsap
import Derived.Test.YtfcgnpchbcmdeaaGreatZsae
open _root_ renaming Nat->H,Bool->ZG,rfl->X,Int->E,List->U,ByteArray->ZC,Array->YZ
open Bool renaming true->Z0,false->ZZ
open Go.Value renaming int->ZX,bool->ZR,agg->Y9,slice->ZH,string->YW,tuple->Y5,func->YX,ownBlock->ZW,pointer->Y7
open Go.IntKind renaming i64->ZQ
open List renaming length->F,getD->Z,take->ZU,drop->ZF,replicate->Y6
open Option renaming none->ZP,some->T
open Or renaming inl->ZM,inr->ZJ
open Go renaming Value->ZY,World->ZT,madeCells->YV,maxLen->Y2
open Go.World renaming ownsRow->ZD,alloc->ZN,setCell->ZO,grownBy->Y3,cell?->ZV,frozen?->YT,drew->YY,drewN->Y1
open Array renaming size->B,toList->Y4
open Int renaming toNat->ZL
open Go.Ending renaming returned->ZI
open Go.Proofs renaming intOf->ZA
open Decidable renaming decide->ZE
open Go.Proofs.Tryz renaming prog->Y8
open Go.Obj renaming cells->YU
namespace Go.Proofs.YtfcgnpchbcmdeaaGreat
set_option linter.all false
set_option maxRecDepth 100000
set_option maxHeartbeats 4000000
open Go.RowKit List Nat Go.World Go.Proofs.Tryz Go.Value Go.IntKind Go.Lib Go.Region
def Zo1:Zjb:=λf j h g k wc i l e a b c d=>ZkY e a b c d
def Kz(c:ZG)(a b:H):H:=if c=Z0 then b else a
def Uj a e f b g c h d:C_ 169 #[Y9 #[ZR a,V e b g,V f c h]] d (U_ (ZX ZQ (Kz a b c:H)) d):=by
 cases a
 all_goals
  refine er_ ?_;exact⟨X,r_⟩
def fu{c} d e {a} f {b} g h (m:Kz c a b<=1000000):C_ 191 #[Y9 #[ZR c,V d a f,V e b g]] h (U_ (ZX ZQ ((Kz c a b:H)+1)) h):=by
 have i:=Y (λj=>Uj c d e a f b g j);generalize Kz c a b=n at *;refine q_ ?_;go_wp2_with fail
 apply (i _).m;rintro l o ⟨rfl,j⟩;have k:=r_.T (j.m s_);go_wp2;go_ret;exact⟨X,k⟩
def Fq c d e a f b g h (k:Kz c a b<=1000000):C_ 146 #[Y9 #[ZR c,V d a f,V e b g]] h (U_ (ZX ZQ ((Kz c a b:H)+2)) h):=by
 have i:=Y (λj=>fu d e f g j k);generalize Kz c a b=n at *;refine q_ ?_;go_wp2_with fail
 apply (i _).m;rintro m o ⟨rfl,j⟩;have l:=r_.T (j.m s_);go_wp2;go_ret;exact⟨by rw[Int.add_assoc];rfl,l⟩
def Bd:U VS->U E->U (E×E)
 |[],_=>[]
 |_::_,[]=>[]
 |b::a,d::c=>if b.a=Z0 then Bd a c else(b.num,d)::Bd a c
def Fb(a:U VS)(b:U E)(c:E)(d:H):U E:=Bm (Dw d ((Bd a b).map Prod.fst) ((Bd a b).map Prod.snd)) c
def Ki:∀(a:U VS) (b:U E),F (Bd a b)<=F a
 |[],_=>by simp[Bd]
 |_::_,[]=>by simp[Bd]
 | c::a,d::b=>by
  have:=Ki a b
  grind [Bd]
def Ti:∀(a:U VS) (c:U E),∀b∈Bd a c,(∃d∈a,d.num=b.1)/\b.2∈c
 |[],_=>by simp[Bd]
 |_::_,[]=>by simp[Bd]
 | d::a,g::c=>λb e=>by
  have f:=Ti a c b
  grind [Bd]
def Wu:∀(c:U VS) (e:U E) (a:VS) (b:E),F c=F e->Bd (c++[a]) (e++[b])=Bd c e++(if a.a=Z0 then[] else[(a.num,b)])
 |[],[],a,b,_=>by simp only[Bd,nil_append]
 | f::c,g::e,a,b,d=>by
  have h:=Wu c _ a b (by simpa using d)
  grind [Bd]
 |[],g::e,a,b,d=>by simp at d
 |f::c,[],a,b,d=>by simp at d
def qn{a:U VS}{b}(c:b<F a):ZU (b+1) a=ZU b a++[Z a b Ax]:=by grind [Qi]
def Ze8{a:U E}{b}(c:b<F a):ZU (b+1) a=ZU b a++[Z a b 0]:=by grind [Qi]
def ZlT{a}(b: -1000000000000<=a)(c:a<=1000000000000):(Lit.int ZQ a).wf=Z0:=by simp[Lit.wf,IntKind.min,IntKind.max,IntKind.bits,signed];omega
theorem Ad.e{j k i b}(g:Ad j k i b)(d:∀a∈b,-1000000000000<=a/\a<=1000000000000):∃e f,i=ZH e (F b) f/\Ck j e (F b) b/\F b<=f/\(e=ZP->f=0):=by
 have o:=g
 rcases g.2 with⟨rfl,h⟩|⟨n,l,s,rfl,_,p,q,_⟩
 exact⟨ZP,0,by rw[h],⟨X,λa c=>ZlT (d a c).1 (d a c).2,ZM h⟩,O,λ_=>X⟩;refine⟨_,l,X,⟨X,λa c=>ZlT (d a c).1 (d a c).2,ZJ ⟨n,0,X,(Qb p).1,λr t=>?_⟩⟩,q,λm=>by cases m⟩;rw[Nat.zero_add,World.ownsRow.cellAt o r O]
 grind
def ZqR(e:ZT)(b:H)(d:ZY)(c:U E):Prop:=∃a,d=Y9 #[ZR ZZ,a,N_]/\Ad e b a c
def Ad.m{e b b' d a}(c:Ad e b' d a)(j:b<=b'):Ad e b d a:=by
 refine⟨c.1,?_⟩
 rcases c.2 with l|⟨i,f,g,h,k,m⟩
 exact ZM l;exact ZJ ⟨i,f,g,h,aG j k,m⟩
def Am{b:ZT}{f d o n a j e:H}{p u q g}(c:ZD b f d o p n q)(i:H_ b a g e)(l:d≠e):=
 ((Aa.refl (λm=>m=a) b).setCell (p:=(J a j)) (λ_=>X) u).M c (λ_ k h=>Ag c k i l h)
def Wn{a}(i:2<=a)(j:a<=32):∀e c b d,Gt c->Aw c+1000*F b<=1000000000000->F b<=2097152->Gt (Dv a e c b d)/\Aw (Dv a e c b d)<=Aw c+1000*F b
 |0,c,b,d,f,k,h=>⟨f,by simp only[Dv];omega⟩
 | e+1,c,b,d,f,k,h=>by
  simp only[Dv];split
  ·grind
  have g:=kc (vs:=ZU a b) (ws:=ZU a d) t_;have m:F (ZU a b)+F (ZF a b)=F b:=t_;have n:F (ZU a b)<=a:=t_;have⟨l,q⟩:=Va (size:=(a:E)) O O f g.1 O O;have⟨o,p⟩:=Wn i j e _ (ZF a b) (ZF a d) l O O
  grind
def mj{b}(l:2<=b)(o:b<=32):∀c a,Gt c->Bc a->F a<=32->Ae a+Aw c<=1000000000000->Bc (Fw b a c)/\F (Fw b a c)<=32
 |[],a,d,f,j,m=>⟨f,j⟩
 |e::n,a,d,f,j,m=>by have k:Gt n:=⟨λh g=>d.j h (by simp[g]),λh g=>d.y h (by simp[g])⟩;have q:=Gb k.j;simp only[Aw] at m;have i:=Fy f (d.j e s_) O;have p:=Jh (Bf a e) l;have r:Ae (Ep (Bf a e) b)=Ae a+Ae e:=(by rw[Gn,Fc]);simp only[Fw];exact mj l o n _ k (i.e (Ge i _)) O O
def Tg{b}(g:2<=b)(h:b<=32) a c (f:F a<=2097152):Bc (Dw b a c)/\F (Dw b a c)<=32:=by have⟨d,e⟩:=Wn g h (F a) [] a c Gt.nil (by simp[Aw];omega) f;exact mj O O _ _ d Bc.nil s_ (by simp[Ae,Aw] at e ⊢;omega)
def ia{c0 c3}(g:H){c1:H}(d4:H){h:H}{i} b {c} d (x:Ky d 0 (V c0 g c1) b)(a3:Ck d c3 g c)(a9:F b=g)(e2:g<=200)(b4:∀l∈b,-1000000000<=l.num/\l.num<=1000000000)(o:∀k∈c,0<=k/\k<=99)(b5:2<=h)(b6:h<=32)(c8:2<=i)(c9:i<=16):C_ 217 #[V c0 g c1,V c3 g d4,I i,I h] d λe a=>∃l,e=ZI l/\ZqR a (B d.1) l (Fb b c i h)/\E_ d a:=by
 have⟨c4,c5⟩:=Y_ x a3;have t:=K_ a9 a3.1;have a5:=K_ b4 o;clear x a3 a9 b4 o;refine dl_ ?_;go_enter func217,ntmps217;go_wp2_with fail
 go_loopw [15,9,10] (λe j m f=>∃a:H,e=I a/\a<=g/\K (Ad f (B d.1+1) j ((Bd (ZU a b) (ZU a c)).map Prod.fst)/\Ad f (B d.1+1) m ((Bd (ZU a b) (ZU a c)).map Prod.snd)/\Bl j m)/\Below (B d.1+1) (ZN d (O_ #[ZR ZZ,N_,N_] 170)) f) (λe _ _ _=>g-ZL (ZA e))
 case atStart=>exact⟨0,X,v_,⟨Ad.nil,Ad.nil,ZM X⟩,y_⟩
 obtain⟨a,rfl,v,f,n⟩:=hrel;have d2:=n.size;simp at d2
 by_cases b3:a<g
 ·have b2:a<F b:=t.1 ▸ b3;obtain⟨y,rfl,a2,a7,S,W⟩:=c4.at b2;rcases c5.out with⟨_,_,c7|⟨R,b7,rfl,d0,b1⟩⟩;omega;have u:=r_.T (n.m O);have a6:=(u.cell (p:=(J y (a*3))) a2).T a7;have P:=(u.cell (p:=(J y (a*3+1))) a2).T S;have Q:=(u.cell (p:=(J y (a*3+2))) a2).T W;have a8:=(u.cell (p:=(J R (b7+a))) d0).T (b1 a b3);have d1:a<F c:=O;have j:=Wu (ZU a b) (ZU a c) (Z b a Ax) (Z c a 0) w_;rw[<- qn b2,<- Ze8 d1] at j;have a0:=Ki (ZU a b) (ZU a c);have d7:F (Bd (ZU a b) (ZU a c))<=200:=w_;clear a0 b1 a7 S W;generalize (Z b) a Ax=d5,Z c a 0=k at *;obtain⟨d6,q,a4⟩:=d5;simp only at a6 P Q j
  cases d6 with
  | true=>
   have N:K (Bd (ZU (a+1) b) (ZU (a+1) c)=Bd (ZU a b) (ZU a c)):=(by show _=_;rw[j];simp);clear j;have m:K (Ad (ZN wr (O_ #[ZR Z0,I q,Q_ a4] 308)) (B d.1+1) u9 ((Bd (ZU (a+1) b) (ZU (a+1) c)).map Prod.fst)/\Ad (ZN wr (O_ #[ZR Z0,I q,Q_ a4] 308)) (B d.1+1) u10 ((Bd (ZU (a+1) b) (ZU (a+1) c)).map Prod.snd)/\Bl u9 u10):=(by rw[N];exact⟨(f.1.alloc _),(f.2.1.alloc _),f.2.2⟩);clear f;refine J_ ?_;exact⟨a+1,g_,O,m,n.T (y_.alloc O _)⟩
  | false=>
   have N:K (Bd (ZU (a+1) b) (ZU (a+1) c)=Bd (ZU a b) (ZU a c)++[(q,k)]):=(by show _=_;rw[j];simp);clear j;generalize Bd (ZU a b) (ZU a c)=d8 at *;have⟨D,G,z⟩:=y3_ f.1 f.2.1 f.2.2;clear f;go_wp2_with (at_builtin;refine By X (.tmp 23) _ X _ _ _ q X ((D.alloc _).alloc _) _ 1 X ?_ ?_ ?_ ?_)
   ·simp[go_sem]
   simp;omega;simp;omega;intro b8 d9 r;have w:=r.2.1;have d3:=w.size;simp at d3;have⟨L,M⟩:=Y_ r.1 (Ad.kept ((G.alloc _).alloc _) w z.a)
   have A:=Y (Bl.b z ((G.alloc (O_ #[ZR ZZ,I q,Q_ a4] 308)).alloc (O_ #[I q] 3)) (by
    rcases r.out.2.2 with e|e
    exact ZM e
    exact ZJ (by simpa using e.1)))
   have b0:=((y_.alloc O _).alloc t_ _).grown w t_ (λa v=>(D.lt a v).1);have c6:=(b0.cell (p:=(J R (b7+a))) (by show R<_;omega)).T a8;clear r w D G z a8 a6 P Q;go_wp2_with (at_builtin;refine By X (.tmp 28) _ X _ _ _ k X (M.alloc _) _ 1 X ?_ ?_ ?_ ?_)
   ·simp[go_sem]
   simp;omega;simp;omega;intro b9 c2 s;have a1:=s.2.1
   have m:K (Ad c2 (B d.1+1) b8 ((Bd (ZU (a+1) b) (ZU (a+1) c)).map Prod.fst)/\Ad c2 (B d.1+1) b9 ((Bd (ZU (a+1) b) (ZU (a+1) c)).map Prod.snd)/\Bl b8 b9):=by
    rw[N];simp only[map_append,map_cons,map_nil];refine⟨Ad.kept (L.alloc _) a1 A.s.a,s.1,?_⟩
    exact(Bl.b A.s (L.alloc (O_ #[I k] 3)) (by
     rcases s.out.2.2 with e|e
     exact ZM e
     exact ZJ (by simpa using e.1))).s
   have e:=(y_.alloc O _).grown a1 t_ (λa v=>(M.lt a v).1);clear s a1 L M A c6;refine J_ ?_;exact⟨a+1,g_,O,m,n.T (b0.T e)⟩
 have e3:¬a<(g:E):=O;have a2:Bd (ZU a b) (ZU a c)=Bd b c:=(by rw[aI (p_ t.out),aI (p_ t.out)]);rw[a2] at f;have a0:=Ki b c;rw[t.1] at a0;obtain⟨a4,a6,_⟩:=f
 obtain⟨P,S,rfl,w,s,_⟩:=a4.e (λk o=>by
  obtain⟨p,j,rfl⟩:=mem_map.1 o;have⟨⟨l,x,e⟩,_⟩:=Ti b c p j
  have:=a5.1 l x;omega)
 obtain⟨Q,W,rfl,z,u,_⟩:=a6.e (λk o=>by
  obtain⟨p,j,rfl⟩:=mem_map.1 o;have⟨_,e⟩:=Ti b c p j
  have:=a5.2 _ e;omega)
 have a7:F ((Bd b c).map Prod.fst)=F (Bd b c):=s_;have a8:F ((Bd b c).map Prod.snd)=F (Bd b c):=s_;rw[a7] at w s ⊢;rw[a8] at z u ⊢;have L:=Y (zi Zo1 w z O s u b5 b6);have D:=Tg b5 b6 ((Bd b c).map Prod.fst) ((Bd b c).map Prod.snd) t_;have r:K (_/\_/\Fb b c i h=Bm _ _):=⟨D.1,D.2,X⟩;clear a4 a6 w z s u a7 a8 a2 D;generalize Dw h ((Bd b c).map Prod.fst) ((Bd b c).map Prod.snd)=b7,F (Bd b c)=e6 at *;go_wp2_with fail
 apply L.m;rintro e e8 ⟨e7,rfl,b1,A⟩;have e4:=A.size;obtain⟨d5,d6,rfl,M,d0,a1⟩:=b1.e (p_ r.2.1);have G:=Y (Zdw M r.1 a1 c8 c9);clear b1 M d0 a1 L;generalize (F b7)=e5 at *;go_wp2_with fail
 apply G.m;rintro e d3 ⟨b2,rfl,b0,R⟩;have N:=(A.m O).T (R.m O);have m:K (Ad d3 (B d.1) b2 (Fb b c i h)):=r.2.2 ▸ (b0.m O);have j:=((n.T N).block _ O).T hn_
 obtain⟨b9,c6,d1⟩:∃b8 c2,b2=ZH b8 (F (Fb b c i h)) c2:=by
  rcases m.out.2 with⟨rfl,c7⟩|⟨y,p,q,rfl,_⟩
  ·grind
  grind
 subst d1;have c7:=n_ 0 j;have d7:=n_ 1 j;have d8:=n_ 2 j;have d9:=R_ 0 _ _ j;have e0:=R_ 1 _ _ j;have e1:=R_ 2 _ _ j;have q:=Y j;clear b0 R A G j;generalize (F (Fb b c i h))=y at *;go_wp2;apply bodyPost_ret (v:=Y9 #[ZR ZZ,V b9 y c6,N_]) (by simp[results,results217,go_sem, *]) X;refine⟨_,X,⟨_,X,?_⟩,?_⟩;exact((Am (Am (Am m q C) (by exact ht_ _ _ _ _ q) C) (by exact ht_ _ _ _ _ (ht_ _ _ _ _ q)) C));exact(((Y (r_.T ((n.T N).m O))).setCell x_ _).setCell x_ _).setCell x_ _
def Bj(d:ZT)(b:H)(c:ZY)(a:U ZC):Prop:=ZD d b 9 1 c (F a) (a.map YW)
def Bj.nil{b a}:Bj b a (N_) []:=ownsRow_nil b a 9 1
structure ES where
 a:ZG
 f:U E
 c:U ZC
def ES.b(a:ES):H:=Kz a.a (F a.f) (F a.c)
def Wf(e:ZT)(b:H)(f:ZY)(a:ES):Prop:=∃c d,f=Y9 #[ZR a.a,c,d]/\Ad e b c a.f/\Bj e b d a.c
def Gq(a:ES)(b:VS):H:=if b.a=Z0 then a.b+1 else if a.a=Z0 then a.c.findIdx (λd=>ZE (d=b.f)) else a.f.countP (λc=>ZE (c<b.num))
def Bj.q{c w' base b a}(d:Bj c base b a)(e:E_ c w'):Bj w' base b a:=(Aa.a (S:=λ_=>False) e).M d (λ_ _=>id)
def Wf.q{d w' base c a}(e:Wf d base c a)(b:E_ d w'):Wf w' base c a:=by obtain⟨i,j,f,g,h⟩:=e;exact⟨i,j,f,g.q b,h.q b⟩
def Ad.d{g d b a}(f:Ad g d b a):∃c e,b=ZH c (F a) e:=by
 rcases f.2 with⟨rfl,i⟩|⟨k,j,h,rfl,_⟩
 ·grind
 grind
def Bj.a{g d b a}(f:Bj g d b a):∃c e,b=ZH c (F a) e:=by
 rcases f.2 with⟨rfl,i⟩|⟨k,j,h,rfl,_⟩
 ·grind
 grind
def Wf.a{g d h a}(i:Wf g d h a):∃b e c f,h=Y9 #[ZR a.a,V b (F a.f) e,V c (F a.c) f]/\Ad g d (V b (F a.f) e) a.f/\Bj g d (V c (F a.c) f) a.c:=by
 obtain⟨m,n,l,j,k⟩:=i;obtain⟨b,e,rfl⟩:=j.d;obtain⟨c,f,rfl⟩:=k.a
 grind
def ZeT{e c h a} x b (f:Ad b h (V e (F a) c) a)(r:a.Pairwise (· <= ·))(p:F a<=1000000):C_ 275 #[V e (F a) c,I x] b λd j=>(∃i,d=ZI (Y5 #[ZX ZQ (a.countP (λg=>ZE (g<x)):H),ZR i]))/\E_ b j:=by
 have i:=f
 rcases f.2 with⟨d,j⟩|⟨g,l,m,d,_,n,q,_⟩
 ·rw[j];apply (Tryz.slices_BinarySearch_int_empty e c x b).m
  grind [Below.refl]
 injection d with e1 e2 e3;subst e1 e3;refine(Tryz.slices_BinarySearch_int g 0 _ c _ x b x_ O (λk o=>?_) w_).m ?_
 ·rw[Nat.zero_add,World.ownsRow.cellAt i k O]
  grind
 grind [below_drewN,Below.refl]
def gx e x {g} a (b:VS) d (h:Wf d g e a)(l:a.f.Pairwise (· <= ·))(k:F a.f<=1000000)(m:x=Y9 #[ZR b.a,I b.num,Q_ b.f]):C_ 218 #[e,x] d (U_ (ZX ZQ (a.f.countP (λc=>ZE (c<b.num)):H)) d):=by
 obtain⟨n,p,o,q,rfl,j,_⟩:=h.a;subst m;have f:=Y (λc i=>ZeT b.num c (j.q i) l k);generalize a.f.countP (λc=>ZE (c<b.num))=u,F a.f=s at *;refine q_ ?_;go_wp2_with fail
 apply (f _ (r_.alloc s_ _)).m;rintro t v ⟨⟨r,rfl⟩,c⟩;have i:=(r_.alloc s_ _).T (c.m t_);go_wp2;go_ret;exact⟨X,i⟩
def Zbv:∀(c:U ZC) (b:ZC) (a:H),(if 0<=idxFromS c b a then idxFromS c b a else((a+F c:H):E))=((a+c.findIdx (λd=>ZE (d=b)):H):E)
 |[],b,a=>by simp[idxFromS]
 | e::c,b,a=>by
  have f:=Zbv c b (a+1)
  by_cases d:e=b
  subst d;simp[idxFromS,findIdx_cons];simp only[idxFromS,findIdx_cons,d,decide_false,cond_false,length_cons,if_false];omega
def Zhu{d c h a} x b (f:Bj b h (V d (F a) c) a)(p:F a<=1000000):C_ 267 #[V d (F a) c,Q_ x] b (V_ (ZX ZQ (idxOfS a x)) b):=by
 have j:=f
 rcases f.2 with⟨e,g⟩|⟨i,l,m,e,_,n,q,_⟩
 rw[g];have:a=[]:=length_eq_zero_iff.1 g;subst this;exact Tryz.slices_Index_string_empty d c x b;injection e with e1 e2 e3;subst e1 e3
 have:=Tryz.slices_Index_string i 0 (F a) c a x b x_ O (λk o=>by
  rw[Nat.zero_add,World.ownsRow.cellAt j k O]
  grind)
 rw[take_length] at this;exact this
def rv i x {j} b (a:VS) e (k:Wf e j i b)(n:F b.c<=1000000)(o:x=Y9 #[ZR a.a,I a.num,Q_ a.f]):C_ 213 #[i,x] e (U_ (ZX ZQ (b.c.findIdx (λc=>ZE (c=a.f)):H)) e):=by
 obtain⟨t,v,u,w,rfl,_,l⟩:=k.a;subst o;have f:=Y (λc d=>Zhu a.f c (l.q d) n);have g:=Zbv b.c a.f 0;simp only[Nat.zero_add] at g;have s:K ((if 0<=idxOfS _ _ then idxOfS _ _ else _)=_):=g;generalize b.c.findIdx (λc=>ZE (c=a.f))=h,idxOfS b.c a.f=c,F b.c=p at *
 by_cases y:0<=c
 ·have m:¬c<0:=O;have d:K (c=h):=w_;refine q_ ?_;go_wp2_with fail
  apply (f _ (r_.alloc s_ _)).m;rintro q r ⟨rfl,rfl⟩;go_wp2;go_ret;exact⟨by rw[d];rfl,(r_.alloc s_ _)⟩
 have m:c<0:=O;have d:K (p=(h:E)):=w_;refine q_ ?_;go_wp2_with fail
 apply (f _ (r_.alloc s_ _)).m;rintro q r ⟨rfl,rfl⟩;go_wp2;go_ret;exact⟨by rw[d];rfl,(r_.alloc s_ _)⟩
structure Rq(a:ES):Prop where
 f:a.f.Pairwise (· <= ·)
 p:F a.f<=1000
 u:F a.c<=1000
def Zms{i x A r} a c j (o:Wf j A i a)(h:Rq a)(q:x=Y9 #[ZR c.a,I c.num,Q_ c.f])(p:D_ j r 0 (YX (.func (if a.a=Z0 then 213 else 218)) #[] #[]))(a0:r<B j.1):C_ 266 #[i,x,P_ r] j (U_ (ZX ZQ (Gq a c:H)) j):=by
 have⟨Q,S,R,W,t,_,_⟩:=o.a
 have l:K (∀b:ZT,C_ 191 #[i] b (U_ (ZX ZQ (a.b+1)) b)):=λb=>by rw[t];exact fu _ _ _ _ b (by have:=h.p;have:=h.u;unfold Kz;split<;>omega)
 have⟨m,n⟩:=Y_ (λb d=>gx i x a c b (o.q d) h.f (p_ h.p) q) (λb d=>rv i x a c b (o.q d) (p_ h.u) q);have k:K (Gq a c=if _=_ then _ else _):=rfl;subst t q;obtain⟨v,w,y⟩:=c;simp only at l m n k ⊢;generalize a.c.findIdx (λd=>ZE (d=y))=N,a.f.countP (λd=>ZE (d<w))=P,Gq a ⟨v,w,y⟩=s,a.b=D at *;obtain⟨M,G,L⟩:=a;simp only at l m n k p ⊢;generalize (F G)=a1,F L=a2 at *
 cases v with
 | true=>
  have d:K (s=D+1):=w_;refine q_ ?_;go_wp2_with fail
  apply (l _).m;rintro u z ⟨rfl,f⟩;have g:=(r_.alloc s_ _).T (f.m t_);go_wp2;go_ret;exact⟨by rw[d];rfl,g⟩
 | false=>
  have e:=k.out;rw[aC C] at e
  cases M with
  | true=>
   have d:K (s=N):=(by rw[aD X] at e;exact e);rw[aD X] at p;refine q_ ?_;go_wp2_with fail
   apply (n _ (r_.alloc s_ _)).m;rintro u z ⟨rfl,f⟩;have g:=(r_.alloc s_ _).T (f.m t_);go_wp2;go_ret;exact⟨by rw[d];rfl,g⟩
  | false=>
   have d:K (s=P):=(by rw[aC C] at e;exact e);rw[aC C] at p;refine q_ ?_;go_wp2_with fail
   apply (m _ (r_.alloc s_ _)).m;rintro u z ⟨rfl,f⟩;have g:=(r_.alloc s_ _).T (f.m t_);go_wp2;go_ret;exact⟨by rw[d];rfl,g⟩
def Tl b a:Y4 (YV #[b] a)=Y6 a b:=by apply ext_getElem;simp[YV];intro e c d;simp[YV,mod_one]
def Gm(a:H)(c:a<=1000000) b:(Instr.makeSlice 25 (I a) (I a)).run Y8 b=.ok (L_ (B b.1) a a) (ZN b (O_ (YV #[I 0] a) 3)):=mk_ 1
def Gl a (b:ZT) c (e:a<=1000000)(d:c<=B b.1):Ad (ZN b (O_ (YV #[I 0] a) 3)) c (L_ (B b.1) a a) (Y6 a 0):=by
 have:=ownsRow_lit (base:=c) (size:=1) (e:=3) b (YV #[I 0] a) a d (by unfold Y2;omega) (by simp[YV]);rw[Tl] at this;unfold Ad
 simpa using this
def Ad.put{b f a g d k e}(h:Ad b f (L_ a d g) e)(l:d=F e) c:Ad (ZO b (J a k) (I c)) f (L_ a d g) (e.set k c)/\Y3 b (ZO b (J a k) (I c)) (T a):=by subst l;have⟨i,j⟩:=World.ownsRow.stored h k (I c);refine⟨?_,j⟩;unfold Ad;rw[length_set,map_set];exact i
theorem Ad.c{c f a g b k d}(e:Ad c f (L_ a b g) d)(h:b=F d)(i:k<b):ZV c (J a k)=T (I (Z d k 0))/\YT c (J a k)=ZZ:=by
 subst h;refine⟨?_,World.ownsRow.frozenAt e k⟩;rw[World.ownsRow.cellAt e k O]
 grind
def Ct(b:H->E)(c a:H):U E:=(range a).map b++Y6 (c-a) 0
def Fg c {a b}(d:b<=a):F (Ct c a b)=a:=by simp[Ct];omega
def In b a:Ct b a 0=Y6 a 0:=by simp[Ct]
def Im b a:Ct b a a=(range a).map b:=by simp[Ct]
def Kg c {b a}(d:a<b):(Ct c b a).set a (c a)=Ct c b (a+1):=by unfold Ct;rw[show b-a=b-(a+1)+1 by omega,replicate_succ,set_append_right _ _ s_,length_map,length_range,Nat.sub_self,set_cons_zero,range_succ,map_append,append_assoc];rfl
def pc{c f:Type}(b:c->f) d (a:U c):(range (F a)).map (λe=>b (Z a e d))=a.map b:=by
 apply ext_getElem;simp
 grind
def Zjp{a0 a1 a3} b9 j a2 {b} A {c e} a (M:Wf a b9 a3 c)(P:Rq c)(d7:Ky a 0 (V a2 b A) e)(N:F e=b)(e9:b<=200)(d0:∃n m,a0=YX n #[] m)(d1:∃n m,a1=YX n #[] m)(c8:D_ a j 0 (YX (.func (if c.a=Z0 then 213 else 218)) #[] #[]))(Q:j<B a.1):C_ 156 #[Y9 #[a0,a1,YX (.func 266) #[] #[P_ j]],a3,V a2 b A] a λt f=>∃d,t=ZI d/\Ad f (B a.1) d (e.map (λg=>(Gq c g:H)))/\E_ a f:=by
 have⟨y,D,z,G,d8,_,_⟩:=M.a;have⟨a8,b5,b3⟩:=y3_ (λf g d=>Zms c g f (M.q d) P X ((d.cell (p:=(J j 0)) Q).T c8) (Qh Q d.size)) d7 N;have e8:=Gm b O;obtain⟨c3,c5,rfl⟩:=d0;obtain⟨c4,c6,rfl⟩:=d1;have b1:K (e.map (λg=>((Gq c g:H):E))=Ct (λf=>(Gq c (Z e f Ax):H)) b b):=(by show _=_;rw[Im,<- N,pc (λg=>((Gq c g:H):E)) Ax e]);subst d8;generalize (F c.f)=S,F c.c=W,c.a=L at *;have⟨l,i⟩:=W_ (ZN (ZN a (O_ #[YX c3 #[] c5,YX c4 #[] c6,YX (.func 266) #[] #[P_ j]] 263)) (O_ #[ZR L,V y S D,V z W G] 170));have u:K (E_ a l):=(by show Below _ _ _;rw[i];exact r_.alloc s_ _);have R:B l.1=B a.1+1+1:=(by rw[i];simp);refine dl_ ?_;go_enter func156,ntmps156;go_wp2_with fail
 go_loopw [15] (λg h=>∃d:H,g=ZX ZQ d/\d<=b/\K (Ad h (B a.1+1+1) (ZH (T ⟨B a.1+1+1,0,ZP⟩) b b) (Ct (λf=>((Gq c (Z e f Ax):H):E)) b d))/\K (Below (B a.1+1+1) l h)) (λg _=>b-ZL (ZA g))
 case atStart=>
  refine⟨0,X,v_,?_,?_⟩;rw[In];have:=Gl b l (B a.1+1+1) O O;rw[R,i] at this;exact this;show Below _ _ _;rw[i];exact y_.alloc s_ _
 obtain⟨d,rfl,P,w,a9⟩:=hrel;have h:=a9.out;have d6:=h.size;rw[R] at d6;have e2:ZV wr _=T (YX (.func 266) #[] #[P_ j]):=(h.cell (p:=(J (B a.1) 2)) w_).T (by rw[i];simp[go_sem]);have e3:ZV wr _=T (ZR L):=(h.cell (p:=(J (B a.1+1) 0)) w_).T (by rw[i];simp[go_sem]);have e4:ZV wr _=T (V y S D):=(h.cell (p:=(J (B a.1+1) 1)) w_).T (by rw[i];simp[go_sem]);have e5:ZV wr _=T (V z W G):=(h.cell (p:=(J (B a.1+1) 2)) w_).T (by rw[i];simp[go_sem])
 by_cases q:d<b
 ·have d3:d<F e:=b3 ▸ q;obtain⟨s,rfl,r,c0,c1,c2⟩:=b5.at d3;have k:=u.T (h.m O);have b6:=(k.cell (p:=(J s (d*3))) r).T c0;have b7:=(k.cell (p:=(J s (d*3+1))) r).T c1;have b8:=(k.cell (p:=(J s (d*3+2))) r).T c2;have d2:=Fg (λf=>((Gq c (Z e f Ax):H):E)) (show d<=b by omega);have d5:=Kg (λf=>((Gq c (Z e f Ax):H):E)) q;have⟨b4,v⟩:=Y_ d5 d2.s;generalize (Z e) d Ax=g at *;obtain⟨a4,a5,a6⟩:=g;simp only at b6 b7 b8;have d9:=F_ d b;have⟨b0,b2⟩:=Y_ k h;have e6:B a.1<B wr.1:=O;have e7:B a.1+1<B wr.1:=O;go_wp2_with fail
  apply (a8 _ ⟨a4,a5,a6⟩ (b0.alloc O _)).m;rintro t f0 ⟨rfl,o⟩;have d4:=o.size;simp at d4;have x:=Y ((w.alloc _).q o);have c9:=x.c v q;obtain⟨e0,e1⟩:=c9;have c7:=b2.T (((y_.alloc O _)).T (o.m t_));have a7:=Y c7;generalize (Ct (λf=>((Gq c (Z e f Ax):H):E)) b d)=f,Gq c ⟨a4,a5,a6⟩=t at *;generalize (Z f) d 0=f1 at *;go_wp2;go_roundw
  case rel=>
   refine⟨d+1,g_,O,?_,?_⟩;rw[<- b4];exact(x.put v _).1;exact a7.setCell x_ _
  case measure=>exact z_
 have k:¬d<(b:E):=O;have f:K (Ad wr (B a.1) (L_ (B a.1+1+1) b b) (e.map (λg=>(Gq c g:H)))/\E_ a wr):=(by rw[b1];have:d=b:=O;subst this;exact⟨w.m O,u.T (h.m O)⟩);go_wp2;go_ret;exact⟨_,X,f.1,f.2⟩
def An(a:U H):U E:=a.map (λb:H=>b)
def ZoZ(x a:H):((x !=(a:E)))=ZE (x≠a):=w_
def Ak a:F (An a)=F a:=by simp[An]
def Bq a b:Z (An a) b 0=(Z a b 0:H):=by
 simp only[An,Z,getElem?_map]
 grind
def Ad.b{b f e c g d}(i:Ad b f (V e c g) d)(r:F d=c){k}(q:k<c):∃a,e=T ⟨a,0,ZP⟩/\a<B b.1/\f<=a/\ZV b (J a k)=T (I (Z d k 0))/\YT b (J a k)=ZZ:=by
 rcases i.2 with⟨h,n⟩|⟨m,j,l,h,o,p,s,_⟩
 omega
 grind [Ad.c]
def Eo(d:ZT)(b:H)(c:ZY)(a:U ZG):Prop:=ZD d b 4 1 c (F a) (a.map ZR)
def Eo.q{c w' base b a}(d:Eo c base b a)(e:E_ c w'):Eo w' base b a:=(Aa.a (S:=λ_=>False) e).M d (λ_ _=>id)
def Eo.alloc{w a c d}(e:Eo w a c d) b:Eo (ZN w b) a c d:=ra_ e b
def Eo.m{e b b' d a}(c:Eo e b' d a)(j:b<=b'):Eo e b d a:=by
 refine⟨c.1,?_⟩
 rcases c.2 with l|⟨i,f,g,h,k,m⟩
 exact ZM l;exact ZJ ⟨i,f,g,h,aG j k,m⟩
def Eo.d{g d b a}(f:Eo g d b a):∃c e,b=ZH c (F a) e:=by
 rcases f.2 with⟨rfl,i⟩|⟨k,j,h,rfl,_⟩
 ·grind
 grind
def Eo.put{b f a g d k e}(h:Eo b f (L_ a d g) e)(l:d=F e) c:Eo (ZO b (J a k) (ZR c)) f (L_ a d g) (e.set k c)/\Y3 b (ZO b (J a k) (ZR c)) (T a):=by subst l;have⟨i,j⟩:=World.ownsRow.stored h k (ZR c);refine⟨?_,j⟩;unfold Eo;rw[length_set,map_set];exact i
def Eo.b{b g f d i e}(c:Eo b g (V f d i) e)(n:F e=d){k}(r:k<d):∃a,f=T ⟨a,0,ZP⟩/\a<B b.1/\g<=a/\ZV b (J a k)=T (ZR (Z e k ZZ))/\YT b (J a k)=ZZ:=by
 rcases c.2 with⟨h,q⟩|⟨j,o,p,h,l,m,s,_⟩
 omega;injection h with e1 e2 e3;subst e1 e3 n;refine⟨j,X,(Qb m).1,l,?_,World.ownsRow.frozenAt c k⟩;rw[World.ownsRow.cellAt c k O]
 grind
def Re(a:H)(c:a<=1000000) b:(Instr.makeSlice 101 (I a) (I a)).run Y8 b=.ok (L_ (B b.1) a a) (ZN b (O_ (YV #[ZR ZZ] a) 4)):=mk_ 1
def Rc a (b:ZT) c (e:a<=1000000)(d:c<=B b.1):Eo (ZN b (O_ (YV #[ZR ZZ] a) 4)) c (L_ (B b.1) a a) (Y6 a ZZ):=by
 have:=ownsRow_lit (base:=c) (size:=1) (e:=4) b (YV #[ZR ZZ] a) a d (by unfold Y2;omega) (by simp[YV]);rw[Tl] at this;unfold Eo
 simpa using this
def Rv(b:H->ZG)(c a:H):U ZG:=(range a).map b++Y6 (c-a) ZZ
def Zhd c {a b}(d:b<=a):F (Rv c a b)=a:=by simp[Rv];omega
def ZdX b a:Rv b a 0=Y6 a ZZ:=by simp[Rv]
def ZdW b a:Rv b a a=(range a).map b:=by simp[Rv]
def Zhe c {b a}(d:a<b):(Rv c b a).set a (c a)=Rv c b (a+1):=by unfold Rv;rw[show b-a=b-(a+1)+1 by omega,replicate_succ,set_append_right _ _ s_,length_map,length_range,Nat.sub_self,set_cons_zero,range_succ,map_append,append_assoc];rfl
def Cz(a:U H)(c:H):U ZG:=a.map (λb=>ZE (b≠c))
def iu m (a i:H){c:H}{b} d (r:Ad d 0 (V m a i) (An b))(j:F b=a)(w:a<=200):C_ 205 #[V m a i,I c] d λg f=>∃e,g=ZI e/\Eo f (B d.1) e (Cz b c)/\E_ d f:=by
 have v:=Re a O;have n:K (Cz b c=Rv (λe=>ZE (Z b e 0≠c)) a a):=(by show _=_;rw[ZdW,<- j,Cz,pc (λe=>ZE (e≠c)) 0 b]);refine q_ ?_;go_wp2_with fail
 go_loopw [13] (λf g=>∃k:H,f=ZX ZQ k/\k<=a/\K (Eo g (B d.1) (ZH (T ⟨B d.1,0,ZP⟩) a a) (Rv (λe=>ZE (Z b e 0≠c)) a k))/\E_ d g) (λf _=>a-ZL (ZA f))
 exact⟨0,X,v_,by rw[ZdX];exact Rc a d _ O x_,r_⟩;obtain⟨k,rfl,u,h,f⟩:=hrel
 by_cases g:k<a
 ·obtain⟨z,rfl,x,_,q,_⟩:=(Y r).b (by rw[Ak];exact(Y j)) g;have p:=T_ f q;rw[Bq] at p;have l:=Zhd (λe=>ZE (Z b e 0≠c)) (show k<=a by omega);have o:=Y (Zhe (λe=>ZE (Z b e 0≠c)) g);have⟨A,L,y,_,s,t⟩:=h.b l g;injection L with L;injection L with L _;subst L;generalize Rv (λe=>ZE (Z b e 0≠c)) a k=e at *;generalize (Z e) k ZZ=G,Z b k 0=D at *;go_wp2;go_roundw
  case rel=>
   refine⟨k+1,g_,O,?_,?_⟩;rw[<- o];rw[ZoZ];exact(h.put (k:=k) (Y l).s _).1;exact f.setCell x_ _
  exact z_
 have l:¬k<(a:E):=O
 have e:K (Eo wr (B d.1) (L_ (B d.1) a a) (Cz b c)):=by
  rw[n]
  grind
 go_wp2;go_ret;exact⟨_,X,e,f⟩
def Ca(a:U H)(c:H):U E:=(range c).map (λb=>(a.count b:H))
def Cr{b a}:F (Ca b a)=a:=by simp[Ca]
def ZdF a:Ca [] a=Y6 a 0:=by apply ext_getElem;simp[Ca];intro d b c;simp[Ca]
def Za6{c a b}(d:a<b):(Ca c b).set a (Z (Ca c b) a 0+1)=Ca (c++[a]) b:=by
 apply ext_getElem;simp[Ca]
 grind [Ca]
def Zg2 a c b:0<=Z (Ca a c) b 0/\Z (Ca a c) b 0<=F a:=by grind [Ca]
def Za(a:U H)(b:H):E:=Lib.idxOf (Ca a b) (maxOf (Ca a b))
def cp{m} d {i a b} c (x:Ad c 0 (V m d i) (An b))(t:F b=d)(N:d<=200)(D:∀r∈b,r<a)(s:0<a)(y:a<=1000):C_ 204 #[V m d i,I a] c (U_ (ZX ZQ (Za b a)) c):=by
 have h:=Y t;have M:=Gm a O;refine q_ ?_;go_wp2_with fail
 go_loopw [12] (λe f=>∃k:H,e=ZX ZQ k/\k<=d/\K (Ad f (B c.1) (ZH (T ⟨B c.1,0,ZP⟩) a a) (Ca (ZU k b) a))/\E_ c f) (λe _=>d-ZL (ZA e))
 exact⟨0,X,v_,by rw[take_zero,ZdF];exact Gl a c _ O x_,r_⟩;obtain⟨k,rfl,G,f,g⟩:=hrel
 by_cases l:k<d
 ·obtain⟨S,rfl,P,_,u,_⟩:=(Y x).b (by rw[Ak];exact h) l;have q:=T_ g u;rw[Bq] at q;have v:k<F b:=h ▸ l;have e:Z b k 0<a:=(by grind [Qf]);have w:ZU (k+1) b=ZU k b++[Z b k 0]:=(by rw[Qi v];grind);have p:K ((Ca (ZU k b) a).set (Z b k 0) (Z (Ca (ZU k b) a) (Z b k 0) 0+1)=Ca (ZU (k+1) b) a):=(by show _=_;rw[w,Za6 e]);have L:(F (ZU k b):E)<=200:=t_;have⟨W,a3,_,_,z,A⟩:=f.b (Cr) e;injection a3 with a3;injection a3 with a3 _;subst a3;have⟨Q,R⟩:=(Zg2 (ZU k b) a (Z b k 0));have o:K (a=F (Ca (ZU k b) a)):=(Cr).s;generalize Ca (ZU k b) a=n,Z b k 0=j at *;generalize (Z n) j 0=a0 at *;go_wp2;go_roundw
  case rel=>
   refine⟨k+1,g_,O,?_,?_⟩;rw[<- p];exact(f.put (k:=j) o _).1;exact g.setCell x_ _
  exact z_
 have q:¬k<(d:E):=O
 have j:Ad wr (B c.1) (L_ (B c.1) a a) (Ca b a):=by
  have:=f.out
  grind
 have o:K (C_ 253 #[L_ (B c.1) a a] wr (V_ (ZX ZQ (maxOf (Ca b a))) wr)):=(by have:=Tryz.slices_Max_int (B c.1) 0 a a (Ca b a) wr s (by rw[Cr];omega) O (λp e=>by rw[Nat.zero_add];exact(j.c (Cr).s (by rw[Cr] at e;exact e)).1);rw[aI (by rw[Cr];omega)] at this;exact this);have n:K (C_ 252 #[L_ (B c.1) a a,I (maxOf (Ca b a))] wr (V_ (ZX ZQ (Za b a)) wr)):=(by have:=Tryz.slices_Index_int (B c.1) 0 a a (Ca b a) (maxOf (Ca b a)) wr (by rw[Cr];omega) O (λp e=>by rw[Nat.zero_add];exact(j.c (Cr).s (by rw[Cr] at e;exact e)).1);rw[aI (by rw[Cr];omega)] at this;exact this);generalize maxOf (Ca b a)=u at *;go_wp2_with fail
 apply o.m;rintro e p ⟨rfl,rfl⟩;go_wp2_with fail
 apply n.m;rintro e p ⟨rfl,rfl⟩;go_wp2;go_ret;exact⟨X,g⟩
def Dt(a:U ZG):H:=a.count Z0
def Pm b a:Dt (b++[a])=Dt b+(if a=Z0 then 1 else 0):=by simp[Dt,count_append];cases a<;>simp
def Rl{a:U ZG}{b}(c:b<F a):ZU (b+1) a=ZU b a++[Z a b ZZ]:=by rw[Qi c];grind
def ZfJ{h} c {g} b e (l:Eo e 0 (V h c g) b)(j:F b=c)(q:c<=200):C_ 296 #[V h c g] e (V_ (ZX ZQ (Dt b:H)) e):=by
 have f:=Y j;refine q_ ?_;go_wp2_with fail
 go_loop [8,3] (λd i=>∃a:H,d=ZX ZQ a/\a<=c/\i=ZX ZQ (Dt (ZU a b):H)/\Dt (ZU a b)<=a) (λd _=>c-ZL (ZA d))
 exact⟨0,X,v_,X,x_⟩;obtain⟨a,rfl,o,rfl,p⟩:=hrel
 by_cases d:a<c
 ·obtain⟨s,rfl,r,_,n,_⟩:=(Y l).b f d;have k:=Pm (ZU a b) (Z b a ZZ);rw[<- Rl (f ▸ d)] at k;generalize Dt (ZU a b)=m,Z b a ZZ=i at *
  cases i with
  | true=>
   refine J_ ?_
   grind
  | false=>
   refine J_ ?_
   grind
 have k:¬a<(c:E):=O;have i:K (Dt (ZU a b)=Dt b):=w_;generalize Dt (ZU a b)=m at *;go_wp2;go_ret;exact⟨by rw[i];rfl,X⟩
structure GS where
 fs:U H
 out:U ZG
 g:H
 k:H
def Ig(a b:U ZG):U ZG:=zipWith (λc d=>c&&d) a b
def Gd(a b:U ZG):H:=Dt (Ig a b)
def Ue{a b}(c:F a=F b):F (Ig a b)=F b:=by simp[Ig,c]
def lf{a b}(c:F a=F b){k}(d:k<F b):Z (Ig a b) k ZZ=(Z a k ZZ&&Z b k ZZ):=by grind [Ig]
theorem Ui a:Dt a<=F a:=count_le_length
def Od{l p n} d k {o} b {c} f (G:D_ f l 1 (V n d o))(w:Eo f 0 (V n d o) c)(x:Eo f 0 (V p d k) b)(v:F c=d)(u:F b=d)(P:d<=200):C_ 297 #[P_ l,V p d k] f (V_ (ZX ZQ (Gd c b:H)) f):=by
 have⟨r,q⟩:=Y_ x w;have g:=K_ u v;have N:=Ue (a:=c) (b:=b) O;have j:K (F (Ig c b)=d):=w_;refine dl_ ?_;go_enter func297,ntmps297;go_wp2_with fail
 go_loop [10,5] (λe h=>∃a:H,e=ZX ZQ a/\a<=d/\h=ZX ZQ (Dt (ZU a (Ig c b)):H)/\Dt (ZU a (Ig c b))<=a) (λe _=>d-ZL (ZA e))
 case atStart=>exact⟨0,X,v_,X,x_⟩
 obtain⟨a,rfl,L,rfl,M⟩:=hrel
 by_cases i:a<d
 ·obtain⟨S,rfl,Q,_,z,_⟩:=r.b g.1 i;obtain⟨W,rfl,R,_,A,_⟩:=q.b g.2 i;have m:=Pm (ZU a (Ig c b)) (Z (Ig c b) a ZZ);rw[<- Rl (j ▸ i),lf (p_ g.out) (p_ g.out)] at m;have y:=Y m;generalize Dt (ZU a (Ig c b))=h,Z b a ZZ=s,Z c a ZZ=t at *;have D:=F_ a d
  cases s with
  | true=>
   cases t with
   | true=>
    have e:K (Dt (ZU (a+1) (Ig c b))=h+1):=w_;refine J_ ?_;exact⟨a+1,g_,O,by rw[e];go_num,by rw[e];omega⟩
   | false=>
    have e:K (Dt (ZU (a+1) (Ig c b))=h):=w_;refine J_ ?_;exact⟨a+1,g_,O,by rw[e],by rw[e];omega⟩
  | false=>
   have e:K (Dt (ZU (a+1) (Ig c b))=h):=w_;refine J_ ?_;exact⟨a+1,g_,O,by rw[e],by rw[e];omega⟩
 have m:¬a<(d:E):=O;have e:K (Dt (ZU a (Ig c b))=Gd c b):=(by show _=_;rw[aI (p_ j.out)];rfl);generalize Dt (ZU a (Ig c b))=h at *;go_wp2;go_ret;exact⟨by rw[e];rfl,X⟩
structure ZgL(c:ZT)(K:H->Prop)(f:H)(d e)(b:GS):Prop where
 r:c.1[f]? =T (O_ #[d,e,I b.g,I b.k] 351)
 fs:Ad c 0 d (An b.fs)
 out:Eo c 0 e b.out
 h:K f
 g:∀a,ZW d=T a->K a
 i:∀a,ZW e=T a->K a
 j:∀a,K a->a<B c.1
def xk(e:ZT)(K:H->Prop)(b:H)(a:GS):Prop:=∃c d,ZgL e K b c d a
def ZgL.p{S j w' K g h i f}(a:ZgL j K g h i f)(d:Aa S j w')(e:∀b,K b->¬S b):ZgL w' K g h i f:=
 ⟨d.g a.r (e _ a.h),d.M a.fs (λb c=>e b (a.g b c)),d.M a.out (λb c=>e b (a.i b c)),a.h,a.g,a.i,λb c=>Qh (a.j b c) d.size⟩
def xk.p{S e w' K c b}(a:xk e K c b)(g:Aa S e w')(f:∀d,K d->¬S d):xk w' K c b:=by obtain⟨h,i,a⟩:=a;exact⟨h,i,a.p g f⟩
def orL(a b:U ZG):U ZG:=zipWith (λc d=>c||d) a b
def Ve(a:GS)(d:H)(b:U ZG)(c:H):GS:=⟨a.fs++[d],orL a.out b,a.g+Gd a.out b,a.k+c⟩
def ZbK a b:An (a++b)=An a++An b:=by simp[An]
def orK(a c:U ZG)(b:H):U ZG:=ZU b (orL a c)++ZF b a
theorem Mg{a b}(c:F a=F b):F (orL a b)=F a:=by simp[orL,c]
def Zgn{a b}(d:F a=F b){c}(e:c<=F a):F (orK a b c)=F a:=by have:=Mg d;simp[orK];omega
def Zo7{a c}(d:F a=F c){b}(e:b<F a):Z (orK a c b) b ZZ=Z a b ZZ:=by grind [Mg,orK]
def Znp{b c}(e:F b=F c){a}(d:a<F b):(orK b c a).set a (Z b a ZZ||Z c a ZZ)=orK b c (a+1):=by have h:=Mg e;have g:a<F c:=O;have f:(orL b c)[a]' O=(Z b a ZZ||Z c a ZZ):=(by simp[orL,Z,d,g]);unfold orK;rw[Qi O,f,append_assoc,aN d,set_append_right _ _ t_];have:a-F (List.take a (orL b c))=0:=t_;rw[this];rfl
def Zfv{K}{f:H}(l u:H) e9 f0 a9 c N b {a} d (r:ZgL d K f e9 f0 a)(a5:Eo d 0 (V a9 c N) b)(S:F a.out=c)(R:F b=c)(e5:c<=200)(f5:a.g<=1000)(f3:a.k<=1000)(f4:u<=1000)(f7:F a.fs<=1000)(c4:∀k,ZW (ZH a9 c N)=T k->¬K k):Calls Y8 256 #[P_ f,I l,V a9 c N,I u] d λe j=>e=ZI (Y5 #[])/\(∃m,xk j m f (Ve a l b u)/\∀k,m k->K k∨B d.1<=k)/\Aa K d j:=by
 have⟨a0,x,c6⟩:=r.out.d;rw[S] at c6;subst c6;have⟨b5,b6,c5⟩:=r.fs.d;rw[Ak] at c5;subst c5;have c0:=n_ 1 r.r;have a4:=n_ 2 r.r;have e0:=Ui (Ig a.out b);rw[Ue O,R] at e0;have f6:Gd a.out b<=200:=(by unfold Gd;omega);have⟨b1,h⟩:=Y_ (Od c N b (YY d) c0 r.out a5 S R e5) r;have g:=x4_ a5 R S c4;have c1:=λe8=>R_ e8 _ _ r.r;have e1:YT (YY d) _=_:=c1 2;clear r a5 R S c4 c0 c1;refine dl_ ?_;go_enter func256,ntmps256;go_upto_region 0 with fail;refine Af (λj=>ZV j _=T _) 10 k_ a4 (λhHeld=>?_);refine G_ ?_;refine on_ 6 λKK hK=>?_;go_simp;apply (b1).m;rintro e j ⟨rfl,rfl⟩;go_simp;refine hK _ _ a4 (λhHeld=>?_);clear hK KK;refine G_ ?_;refine le_ ?_;rw[Au O O]
 have⟨b0,W⟩:=W_ (YY (ZO d (J f 2) (I (a.g+(Gd a.out b:E)))));rw[<- W];have a8:Aa K d b0:=W ▸ ((Aa.refl K d).setCell (p:=(J f 2)) (λ_=>h.h) _).drew;have G:ZgL b0 K f (V b5 (F a.fs) b6) (V a0 c x) {a with g:=a.g+Gd a.out b}:=(by rw[W];refine⟨?_,?_,?_,h.h,h.g,h.i,λk hk=>by simpa using h.out.j k hk⟩;exact hs_ d _ 2 _ _ _ h.r;exact Am h.out.fs h.out.r C;exact Am h.out.out h.out.r C);have⟨i,b4,d3⟩:=y3_ G a8 h.j;have d4:=n_ 0 G.r;have e3:=G.j _ G.h;have g0:=a8.size;clear W a8 G h b1 a4 e1 hHeld;go_wp2_with (at_builtin;refine By X (.tmp 24) _ X 0 _ (An a.fs) l X (i.fs.alloc _) _ 1 X ?_ ?_ ?_ ?_)
 ·simp[go_sem]
 rw[Ak];omega;simp;rintro g1 c9 ⟨a7,L,c7⟩;have v:c9.1[f]? =T (O_ #[V b5 (F a.fs) b6,V a0 c x,I (a.g+Gd a.out b:H),I a.k] 351):=(by rw[L.block f t_ (λe=>Ag i.fs e.s i.r C X)];exact(hc_ e3).T i.out.r);have c3:Eo _ 0 _ a.out:=World.ownsRow.kept (i.out.out.alloc _) L (Ap (i.out.fs.alloc _) (i.out.out.alloc (O_ #[I l] 3)) C);have c8:Aa K d c9:=(by have m:Aa K _ (ZN b0 (O_ #[I l] 3)):=(Aa.refl K _).alloc _;exact b4.T (m.grown L (λk hk _=>i.g k hk)));have⟨A,D,a6⟩:=a7.d;rw[Qe,Ak] at a6;simp only[length_cons,length_nil,Nat.zero_add] at a6;subst a6;have d0:=x4_ v c3 c8 a7
 have d2:Hid (∀k,ZW (ZH A (F a.fs+1) D)=T k->K k∨B d.1<=k):=λk hk=>by
  rcases c7 with e|e
  exact ZM (i.g k (e ▸ hk));rw[e.1] at hk;injection hk with hk;exact ZJ (by rw[<- hk];omega)
 have z:=K_ i.h i.i;have d5:=n_ 0 v;have d8:=R_ 0 _ _ v;have d6:=n_ 3 v;have d9:=R_ 3 _ _ v;clear a7 L c7 v c3 c8 i b4 d4;go_wp2_with fail
 go_loopw [40] (λn m=>∃k:H,n=ZX ZQ k/\k<=c/\Hid (m.1[f]? =T (YU #[ZH A (F a.fs+1) D,ZH a0 c x,ZX ZQ ((a.g+Gd a.out b:H):E),ZX ZQ ((a.k:E)+(u:E))] 351 (0,0))/\Eo m 0 (ZH a0 c x) (orK a.out b k)/\Aa K d m/\Ad m 0 (ZH A (F a.fs+1) D) (An a.fs++[(l:E)]))) (λn _=>c-ZL (ZA n))
 case atStart=>
  obtain⟨q,a1,m,n⟩:=d0;refine⟨0,X,v_,?_,?_,?_,?_⟩;exact ht_ 3 _ _ _ (ht_ 0 _ _ _ q);have e:orK a.out b 0=a.out:=(by simp[orK]);rw[e];exact Am (Am a1 q C) (ht_ 0 _ _ _ q) C;exact(m.setCell (p:=(J f 0)) (λ_=>z.1) _).setCell (p:=(J f 3)) (λ_=>z.1) _;exact Am (Am n q C) (ht_ 0 _ _ _ q) C
 clear d5 d8 d6 d9;obtain⟨k,rfl,hk,a2⟩:=hrel
 by_cases c2:k<c
 ·have⟨m,n,t,s⟩:=a2.out;have w:F a.out=F b:=p_ g.out;obtain⟨o,e6,f8,_,a3,b7⟩:=n.b (k:=k) (by rw[Zgn w (by have:=g.out;omega)];exact g.2.2.1) c2;subst e6;have b9:Eo _ 0 _ b:=t.M g.1 g.2.2.2;have⟨L,e7,f9,_,f2,_⟩:=b9.b g.2.1 c2;subst e7;rw[Zo7 w (p_ g.out)] at a3;have P:=n_ 1 m;have b3:Hid (_=orK _ b (k+1)):=Znp w (p_ g.out);have b2:Hid (c=F (orK a.out b k)):=by rw[Zgn w (by have:=g.out;omega)];exact g.2.2.1.s
  have e4:f≠o:=λe=>by
   rcases n.2 with⟨e2,_⟩|⟨Q,y,M,e2,_,q,_⟩
   ·cases e2
   injection e2 with e2;injection e2 with e2;injection e2 with e2;rw[e,e2,q] at m;simp at m
  have d1:=x4_ m n t s;have Q:ZV (YY wr) _=_:=a3;have b8:YT (YY wr) _=_:=b7;have f1:=F_ k c;have M:Hid (∀y,y=(Z a.out k ZZ||Z b k ZZ)->(YY (ZO wr (J o k) (ZR y))).1[f]? =T (O_ #[V A (F a.fs+1) D,L_ o c x,I (a.g+Gd a.out b:H),I (a.k+u)] 351)/\Eo (YY (ZO wr (J o k) (ZR y))) 0 (L_ o c x) (orK a.out b (k+1))/\Aa K d (YY (ZO wr (J o k) (ZR y)))/\Ad (YY (ZO wr (J o k) (ZR y))) 0 (V A (F a.fs+1) D) (An a.fs++[(l:E)])):=by rintro y rfl;have⟨q,a1⟩:=n.put (k:=k) b2 (Z a.out k ZZ||Z b k ZZ);rw[b3] at q;refine⟨?_,q,(t.setCell (p:=(J o k)) (λ_=>z.2 o X) _).drew,?_⟩;exact(a1.block _ (Qb m).1 (λe=>e4 (by injection e))).T m;exact World.ownsRow.drew (Ad.kept s a1 (Ap n s C))
  clear a2 m n t s b9 a3 b7 b3 b2 d1;generalize (Z b) k ZZ=a1 at *;generalize (Z a.out) k ZZ=d7 at *
  cases d7 with
  | true=>
   go_upto_region 6 with fail;refine Af (λj=>ZV j _=T _/\ZV j _=T _) 16 k_ ⟨P,Q⟩ (λhHeld=>?_);refine G_ ?_;refine le_ ?_;have q:=M Z0 s_;have y:=Y q;clear q M hHeld P Q b8;go_wp2;go_roundw;case rel=>exact⟨k+1,g_,O,y⟩
   case measure=>exact z_
  | false=>
   go_upto_region 6 with fail;refine Af (λj=>ZV j _=T _/\ZV j _=T _) 16 k_ ⟨P,Q⟩ (λhHeld=>?_);refine G_ ?_;refine le_ ?_;have q:=M a1 s_;have y:=Y q;clear q M hHeld P Q b8;go_wp2;go_roundw;case rel=>exact⟨k+1,g_,O,y⟩
   case measure=>exact z_
 have o:¬k<(c:E):=O
 have q:Hid ((∃m,xk wr m f (Ve a l b u)/\∀k,m k->K k∨B d.1<=k)/\Aa K d wr):=by
  obtain⟨m,n,t,s⟩:=a2;have w:F a.out=F b:=p_ g.out;have e:orK a.out b k=orL a.out b:=(by have:=Mg w;unfold orK;rw[aI (p_ g.out),drop_eq_nil_of_le (p_ g.out),append_nil]);rw[e] at n;refine⟨⟨λk=>K k∨ZW (ZH _ _ _)=T k,⟨_,_,⟨m,?_,n,ZM z.1,λk hk=>ZJ hk,λk hk=>ZM (z.2 k hk),λk hk=>?_⟩⟩,λk hk=>?_⟩,t⟩;show Ad wr 0 _ (An (a.fs++[l]));rw[ZbK];exact s
  ·rcases hk with hk|hk
   exact Qh (d3 k hk) t.size;exact(B_ s k hk).2
  rcases hk with hk|hk
  exact ZM hk;exact d2 k hk
 skip
 go_wp2;go_end0;exact⟨X,q.1,q.2⟩
def Fm:GS:=⟨[],[],0,0⟩
def sv(a:H):ZY:=P_ a
structure Xk(g:ZT)(h)(d:U H)(c:H->H->Prop)(b:U GS):Prop where
 M:ZD g 0 313 1 h (F b) (d.map sv)
 y:F d=F b
 j:∀a,a<F b->xk g (c a) (Z d a 0) (Z b a Fm)
 apart:∀a e,a<F b->e<F b->a≠e->∀f,c a f->¬c e f
def Er(b:U ZG)(c d:H)(a:GS):ZG:=ZE (a.g+Gd a.out b<=d)&&ZE (a.k+c<=40)
structure GOk(b)(a:GS):Prop where
 out:F a.out=b
 g:a.g<=1000
 k:a.k<=1000
 fs:F a.fs<=1000
def Xk.at{c f d g a}(e:Xk c f d g a){i}(r:i<F a):∃b h,f=L_ b (F a) h/\b<B c.1/\ZV c (J b i)=T (sv (Z d i 0)):=by
 have n:=e.M
 rcases e.M.2 with⟨_,p⟩|⟨l,j,o,k,q,m,s,_⟩
 omega;subst k;refine⟨l,j,X,(Qb m).1,?_⟩;rw[World.ownsRow.cellAt n i O]
 grind
def Xk.a{h b f c a}(g:Xk h b f c a):∃d e,b=ZH d (F a) e:=by
 rcases g.M.2 with⟨rfl,j⟩|⟨l,k,i,rfl,_⟩
 ·grind
 grind
def Zd4(b:U H)(c:H)(a:H):ZY:=if a<c then sv (Z b a 0) else Y7 ZP
def Yg R a8 (S o x d e:H){t} b1 b c p (W:Xk p (V R (F b) S) t b1 b)(a4:∀h∈b,GOk o h)(a6:Eo p 0 (V a8 o x) c)(a0:F c=o)(b7:o<=200)(c2:d<=1000)(b6:F b<=1000):C_ 255 #[V R (F b) S,V a8 o x,I d,I e] p (U_ (Zd4 t (F b) (b.findIdx (Er c d e))) p):=by
 have⟨N,b0⟩:=Y_ W a4;have s:=K_ a6 a0;have⟨n,M⟩:=W_ (F b);have w:=Y M;rw[<- M] at b6 ⊢;clear W a4 a6 a0 M;refine q_ ?_;go_wp2_with fail
 go_loopw [13] (λf i=>∃a:H,f=ZX ZQ a/\a<=n/\K (∀g,g<a->Er c d e (Z b g Fm)=ZZ)/\∃Q,i=Y1 p Q) (λf _=>n-ZL (ZA f))
 exact⟨0,X,v_,λg G=>O,0,X⟩;obtain⟨a,rfl,c4,l,Q,rfl⟩:=hrel
 by_cases a3:a<n
 ·have L:a<F b:=(by rw[<- w];exact a3);have⟨d0,c1,aA,c7,a1⟩:=N.at L;injection aA with aA _ hgc;subst aA hgc;have⟨d1,d2,hK⟩:=N.j a L;have m:=b0 _ (show Z b a Fm∈b by grind);have k:K (Er c d e (Z b a Fm)=(_&&_)):=rfl
  have q:K (Er c d e (Z b a Fm)=Z0->b.findIdx (Er c d e)=a):=λa5=>by
   have f:Z b a Fm=b[a]:=w_;rw[f] at a5;rw[findIdx_eq L];refine⟨a5,λg G=>?_⟩;have:=l g G
   grind
  have r:K (Er c d e (Z b a Fm)=ZZ->∀g,g<a+1->Er c d e (Z b g Fm)=ZZ):=λb5 g G=>by
   by_cases f:g=a
   rw[f];exact b5;exact l g O
  generalize (Z b) a Fm=h at *;have⟨b4,D⟩:=W_ (Z t a 0);have a9:K (sv b4=sv (Z t a 0)):=(by show _=_;rw[D]);rw[<- D] at hK a1;clear D;have⟨c8,c9,a7⟩:=hK.out.d;rw[m.out] at a7;subst a7;have P:=n_ 1 hK.r;have b9:=n_ 2 hK.r;have c0:=n_ 3 hK.r;have a2:=Ui (Ig h.out c);rw[Ue (oj_ s.2 m.out),s.2] at a2;have c3:Gd h.out c<=200:=(by unfold Gd;omega);have c5:=m.g;have c6:=m.k;have v:=Y (λf=>Od o x c (Y1 p f) P hK.out s.1 m.out s.2 b7);clear hK m a2 P;generalize Gd h.out c=y at *;generalize h.g=A at *;generalize h.k=z at *;unfold sv at a1;have b8:=F_ a n
  by_cases j:A+y<=e
  ·have b2:ZE (A+y<=(e:E))=Z0:=t_
   by_cases u:z+d<=40
   ·have b3:ZE (z+(d:E)<=40)=Z0:=t_;have i:=Y (q (by rw[k];simp[j,u]));clear q k j u;go_upto_region 4 with fail;go_quiet (first|(go_at_call 297;exact(v _).m (λ_ _ f=>⟨f.1,_,f.2⟩)));go_wp2;go_ret;refine⟨?_,below_drewN y_ _⟩;rw[i];unfold Zd4;rw[aD a3,<- a9];rfl
   have b3:ZE (z+(d:E)<=40)=ZZ:=t_;have i:=Y (r (by rw[k];simp[j,u]));clear q k j u l r;go_upto_region 4 with fail;go_quiet (first|(go_at_call 297;exact(v _).m (λ_ _ f=>⟨f.1,_,f.2⟩)));go_wp2;go_roundw;exact⟨a+1,g_,O,i,_,X⟩;exact z_
  have b2:ZE (A+y<=(e:E))=ZZ:=t_;have i:=Y (r (by rw[k];simp[j]));clear q k j l r;go_upto_region 4 with fail;go_quiet (first|(go_at_call 297;exact(v _).m (λ_ _ f=>⟨f.1,_,f.2⟩)));go_wp2;go_roundw;exact⟨a+1,g_,O,i,_,X⟩;exact z_
 have k:¬a<(n:E):=O
 have i:K (¬b.findIdx (Er c d e)<n):=λf=>by
  rw[w] at f;have j:=findIdx_getElem (w:=f);have:=l (b.findIdx (Er c d e)) (p_ w.out)
  grind
 clear l;go_wp2;go_ret;refine⟨?_,below_drewN y_ _⟩;unfold Zd4;rw[aC i];rfl
end Go.Proofs.YtfcgnpchbcmdeaaGreat
namespace Go.Proofs.YtfcgnpchbcmdeaaGreat
set_option linter.all false
set_option maxRecDepth 100000
set_option maxHeartbeats 4000000
open Go.RowKit Go.Lib Go.Sort List Nat Go.World Go.Proofs.Tryz Go.Value Go.IntKind Go.Lib Go.Region
structure It(d:ZT)(e)(c)(a:U (U ZG)):Prop where
 M:ZD d 0 101 1 e (F a) c
 j:∀b,b<F a->Eo d 0 (Z c b (N_)) (Z a b [])
def It.q{f w' d e a}(b:It f d e a)(c:E_ f w'):It w' d e a:=
 ⟨(Aa.a (S:=λ_=>False) c).M b.M (λ_ _=>id),λh g=>(b.j h g).q c⟩
def It.at{c e f a}(d:It c e f a){i}(p:i<F a):∃b g,e=L_ b (F a) g/\b<B c.1/\ZV c (J b i)=T (Z f i (N_)):=by
 have r:=d.M
 rcases d.M.2 with⟨_,m⟩|⟨l,h,j,k,n,o,q,_⟩
 omega
 grind [World.ownsRow.cellAt]
def ZgV{u v w k c d n a f}(i:It f (L_ v (F a) w) n a)(q:∀A∈a,F A=k)(r:k<=200)(a2:D_ f u 0 (L_ v (F a) w))(o:c<F a)(p:d<F a):C_ 295 #[I c,I d,P_ u] f λb e=>b=ZI (ZX ZQ (compareInt (Dt (Z a d []):H) (Dt (Z a c []):H)))/\∃j,e=Y1 f j:=by
 have⟨a3,S,e1,_,L⟩:=i.at o;injection e1 with e1 _ _;injection e1 with e1;injection e1 with e1 _;subst e1;have⟨a4,W,e2,_,M⟩:=i.at p;injection e2 with e2 _ _;injection e2 with e2;injection e2 with e2 _;subst e2;have l:=i.j c o;have m:=i.j d p;have s:=q _ (show Z a c []∈a by grind);have t:=q _ (show Z a d []∈a by grind);generalize (Z a) c []=g,Z a d []=h,Z n c (N_)=a6,Z n d (N_)=a7 at *;obtain⟨D,N,rfl⟩:=l.d;obtain⟨G,Q,rfl⟩:=m.d;rw[s] at l L;rw[t] at m M;have⟨x,y⟩:=Y_ (λb=>ZfJ k g (Y1 f b) l s r) (λb=>ZfJ k h (Y1 f b) m t r);have z:K (∀b,Calls _ _ #[ZX _ (Dt h:H),ZX _ (Dt g:H)] _ λj e=>_):=λb=>Tryz.cmp_Compare_int _ _ (Y1 f b);generalize compareInt (Dt h:H) (Dt g:H)=a5,Dt g=a0,Dt h=a1,F a=j at *;have P:=F_ c j
 have R:=F_ d j;refine dl_ ?_;go_enter func295,ntmps295;go_upto_region 1 with fail;go_quiet (first|(go_at_call_of 296 (G);exact(y _).m (λ_ _ e=>⟨e.1,_,e.2⟩))|(go_at_call_of 296 (D);exact(x _).m (λ_ _ e=>⟨e.1,_,e.2⟩))|(go_at_call 151;exact(z _).m (λ_ _ e=>⟨e.1,_,e.2⟩)));go_wp2;go_ret;exact⟨X,_,X⟩
def Vh{m}(x:Fin m):ZY:=I x.val
def Vg{m}(a:U (U ZG))(x b:Fin m):E:=compareInt (Dt (Z a b.val []):H) (Dt (Z a x.val []):H)
def Zq2{a}:OneCell (Vh (m:=a)):=λ_=>X
def Ze1 a {c j h}{e:YZ (Fin (a+1))}{b}(u:a+1<=4)(o:B e=a+1){f}(t:CmpReads (α:=Fin (a+1)) Y8 295 #[P_ h] Vh (Vg f) c 0 (a+1) b)(n:Holds Vh b c 0 e):
  C_ 294 #[L_ c (a+1) j,YX (.func 295) #[] #[P_ h]] b λd i=>d=ZI (Y5 #[])/\∃g,i=Y1 (putRow Vh b c 0 (Sort.insertionSort (ltOf (Vg f)) e 0 (a+1))) g:=by
 have l:K (C_ 346 #[L_ c (a+1) j,I 0,I (a+1:H),YX (.func 295) #[] #[P_ h]] b λd i=>d=ZI (Y5 #[])/\∃g,i=Y1 (putRow Vh b c 0 (Sort.insertionSort (ltOf (Vg f)) e 0 (a+1))) g):=(by have:=Tryz.insertionSortCmpFunc_one Vh Zq2 (Vg f) 295 #[P_ h] c 0 j 0 (a+1) e b (enters_of func295 k_ X) w_ n v_ O O;rw[o] at this;exact this);generalize putRow Vh b c 0 (Sort.insertionSort (ltOf (Vg f)) e 0 (a+1))=k at *
 have m:K (C_ 329 #[L_ c (a+1) j,I (a+1:H),YX (.func 295) #[] #[P_ h]] b λd i=>d=ZI (Y5 #[])/\∃g,i=Y1 k g):=by
  have r:¬20<=(a:E)+1:=O;have s:¬20<(a:E)+1:=O;refine dl_ ?_;go_enter func329,ntmps329;go_wp2_with fail
  go_loopw [7,8] (λd g i=>d=I 0/\g=I 20/\i=b) (λ_ _ _=>0)
  grind
  obtain⟨rfl,rfl,rfl⟩:=hrel;go_wp2_with fail
  apply (l).m;rintro d p ⟨rfl,i,rfl⟩;go_wp2_with fail
  go_loopw [6] (λg q=>g=I 20/\q=Y1 k i) (λ_ _=>0)
  grind
  obtain⟨rfl,rfl⟩:=hrel;go_wp2;go_end0
  grind
 refine q_ ?_;go_wp2_with fail
 apply (m).m;rintro d p ⟨rfl,i,rfl⟩;go_wp2;go_end0
 grind
def Zfd{d}[Inhabited d] g c a k j (e:YZ d) l:Aa (λb=>b=a) c (sortWorld g c a k j e l):=by refine⟨X,X,X,?_,λb h i=>?_⟩;unfold sortWorld;simp;unfold sortWorld;rw[Go.Sort.heap_grow_old _ _ (by simpa using h)];have:a≠b:=λf=>i f.s;simp[Go.Sort.putRow,Go.Sort.mapBlock,Go.Sort.ahead,Array.getElem?_modify,this]
def ZiI{d}[Inhabited d] g c a i (e:YZ d):Aa (λb=>b=a) c (putRow g c a i e):=by refine⟨X,X,X,?_,λb j h=>?_⟩;simp[Go.Sort.putRow,Go.Sort.mapBlock];have:a≠b:=λf=>h f.s;simp[Go.Sort.putRow,Go.Sort.mapBlock,Array.getElem?_modify,this]
def It.p{S f w' k l g}(a:It f k l g)(j:Aa S f w')(n:∀b c e,f.1[b]? =T (O_ c e)->e=101∨e=4->¬S b):It w' k l g:=
 ⟨j.M a.M (λb d=>by obtain⟨c,m⟩:=Ac a.M d;grind),λi h=>j.M (a.j i h) (λb d=>by obtain⟨c,m⟩:=Ac (a.j i h) d;grind)⟩
def ZeC{g h a d b u j}{D:YZ (Fin (u+1))}(k:Ad g h (L_ a b d) j)(z:F j=b)(n:B D=b):Ad (putRow Vh g a 0 D) h (L_ a b d) ((Y4 D).map (λf=>f.val)):=by
 rcases k.2 with⟨c,_⟩|⟨w,v,i,c,o,r,x,p,q,y⟩
 simp at c;simp only[slice.injEq,Option.some.injEq,Addr.mk.injEq,and_true] at c;obtain⟨rfl,_,rfl⟩:=c;have s:H_ (putRow Vh g a 0 D) a (Go.Sort.putCells Vh 0 D i) 3:=(by simp[Go.Sort.putRow,Go.Sort.mapBlock,Array.getElem?_modify,r,Go.Sort.onCells]);have e:F ((Y4 D).map (λf=>(f.val:Int)))=b:=(by simp[n]);refine⟨w_,ZJ ⟨a,d,_,by rw[e],o,s,p_ e,p,by simp[Go.Sort.putCells,q],?_⟩⟩;rw[e,Nat.mul_one];apply ext_getElem?;intro f
 by_cases t:f<b
 rw[getElem?_take_of_lt t,Array.getElem?_toList];have l:f<B i:=O;have m:f<B D:=O;simp[Go.Sort.putCells,l,m,Vh]
 grind
def Js b:YZ (Fin (b+1)):=Array.ofFn (λa=>a)
def Dp(a:H)(b:U (U ZG)):U H:=(Y4 (Sort.insertionSort (ltOf (Vg (m:=a+1) b)) (Js a) 0 (a+1))).map (λc=>c.val)
def ZjK c {d g} h {i} f {t a b}(v:F a=c+1)(m:It b (L_ h (F a) i) t a)(p:∀k∈a,F k=f)(q:f<=200)(n:H_ b g #[L_ h (F a) i] 309)(o:∃e,H_ b d e 3):CmpReads (α:=Fin (c+1)) Y8 295 #[P_ g] Vh (Vg a) d 0 (c+1) b:=by
 intro r s l _ x y;have j:=Zfd (Vh (m:=c+1)) b d 0 r l s;obtain⟨e,w⟩:=o;refine ZgV (m.p j ?_) p q ?_ O O
 ·grind
 have:=j.g n (λu=>w_);exact M_ 0 _ _ _ this
theorem Zf5{d}[Inhabited d]{c}(e:SWO c){b:YZ d}{a}(g:B b=a):B (Sort.insertionSort c b 0 a)=a:=by have:=(Sort.insertionSort_holds (lt:=c) e b 0 a v_ O).1;obtain⟨f,_⟩:=this;omega
theorem ltF{c} a (x b:Fin c):ltOf (Vg a) x b=ZE (Dt (Z a b.val [])<Dt (Z a x.val [])):=by
 unfold ltOf Vg compareInt
 grind
theorem Zpn{e} b:SWO (ltOf (Vg (m:=e) b)) where
 irrefl a:=by rw[ltF];simp
 trans a f g c d:=by rw[ltF] at *;simp at *;omega
 ntrans a f g c d:=by rw[ltF] at *;simp at *;omega
theorem Un a:B (Js a)=a+1:=by simp[Js]
theorem Lg a b:F (Dp a b)=a+1:=by grind [Dp,Zf5,Zpn,Un]
def jv a b:∀c∈Dp a b,c<a+1:=by grind [Dp]
def Xz a {g l} p {t d} b (M:a+1<=4)(z:F d=a+1)(y:It b (L_ g (a+1) l) t d)(L:∀v∈d,F v=p)(P:p<=200):C_ 254 #[L_ g (a+1) l] b λe h=>∃c,e=ZI c/\Ad h (B b.1) c (An (Dp a d))/\E_ b h:=by
 have i:=x3_ y z L;have N:=Gm (a+1) O;have W:∀w:_,(Instr.makeSlice 25 (ZX _ ((a:E)+1)) (I ((a:E)+1))).run _ w=_:=N;refine dl_ ?_;go_enter func254,ntmps254;go_wp2_with fail
 go_loopw [10] (λf h=>∃c:H,f=ZX ZQ c/\c<=a+1/\K (Ad h (B b.1+1) (ZH (T ⟨B b.1+1,0,ZP⟩) (a+1) (a+1)) (Ct (λe=>(e:E)) (a+1) c))/\K (Below (B b.1+1) (ZN b (YU #[ZH (T ⟨g,0,ZP⟩) (a+1) l] 309)) h)) (λf _=>a+1-ZL (ZA f))
 case atStart=>
  refine⟨0,X,v_,?_,?_⟩
  ·rw[In];have:=Gl (a+1) (ZN b (O_ #[L_ g (a+1) l] 309)) (B b.1+1) O s_;show Ad _ _ _ _
   simpa using this
  exact y_.alloc s_ _
 obtain⟨c,rfl,r,n,m⟩:=hrel;have R:=m.size;simp at R
 by_cases s:c<a+1
 ·have j:=Fg (λe=>(e:E)) (show c<=a+1 by omega);have⟨h,f⟩:=Y_ (Kg (λe=>(e:E)) s) j.s;have⟨q,u⟩:=n.c j.s s;generalize Ct (λe=>(e:E)) (a+1) c=e at *;generalize (Z e) c 0=x at *;have k:0<=(c:E):=O;have o:c<(a:E)+1:=O;go_wp2;go_roundw
  case rel=>
   refine⟨c+1,g_,O,?_,?_⟩;rw[<- h];exact(n.put f _).1;exact m.setCell x_ _
  case measure=>exact z_
 have a0:¬c<(a:E)+1:=O;have D:=(m.block _ O).T hn_;have f:=r_.T (m.m O);have o:Ad wr (B b.1+1) (L_ (B b.1+1) (a+1) (a+1)) (Ct (λe=>e) (a+1) (a+1)):=(by have:c=a+1:=O;subst this;exact n);have j:=Fg (λe=>(e:E)) (Qa (a+1));have x:Holds Vh wr (B b.1+1) 0 (Js a):=(by intro h e;rw[Un] at e;rw[Nat.zero_add];have⟨k,q⟩:=o.c j.s e;refine⟨?_,q⟩;rw[k,Im];have:(Js a)[h]! =⟨h,e⟩:=(by simp[Js,e]);rw[this];simp[Vh,Z,e]);have A:It wr (L_ g (F d) l) t d:=i.2.1 ▸ (i.1.q f)
 have G:=ZjK a g p i.2.1 A i.2.2 P (i.2.1 ▸ D) (by
  have⟨e,h⟩:=Ac o (k:=B b.1+1) X
  exact⟨e,h⟩)
 have u:K (C_ 294 #[L_ (B b.1+1) (a+1) (a+1),YX (.func 295) #[] #[P_ (B b.1)]] wr λe h=>e=ZI (Y5 #[])/\Ad h (B b.1) (L_ (B b.1+1) (a+1) (a+1)) (An (Dp a d))/\E_ b h):=by
  apply (Ze1 a M (Un a) G x).m;rintro e h ⟨rfl,q,rfl⟩;have Q:=ZeC (D:=Sort.insertionSort _ _ 0 _) o j (Zf5 (Zpn d) (Un a));have k:=ZiI (Vh (m:=a+1)) wr (B b.1+1) 0 (Sort.insertionSort (ltOf (Vg (m:=a+1) d)) (Js a) 0 (a+1));refine⟨X,?_,?_⟩;have e:An (Dp a d)=(Y4 (Sort.insertionSort (ltOf (Vg (m:=a+1) d)) (Js a) 0 (a+1))).map (λS=>(S.val:Int)):=(by simp[An,Dp]);rw[e];exact(Ad.q (Ad.m Q O) (below_drewN y_ q));refine below_drewN ?_ q;exact⟨k.os.T f.os,k.tape.T f.tape,k.output.T f.output,aG f.size k.size,λc r=>(k.block c O O).T (f.block c r)⟩
 go_wp2_with fail
 apply u.m;rintro e Q ⟨rfl,q,k⟩;have h:=K_ q k;go_wp2;go_ret;exact⟨_,X,h.1,h.2⟩
end Go.Proofs.YtfcgnpchbcmdeaaGreat
namespace Go.Proofs.YtfcgnpchbcmdeaaGreat
set_option linter.all false
set_option maxRecDepth 100000
set_option maxHeartbeats 4000000
open Go.RowKit List Nat Go.World Go.Proofs.Tryz Go.Value Go.IntKind Go.Lib Go.Region
structure KS where
 e:ES
 d:H
def Aj:KS:=⟨⟨ZZ,[],[]⟩,0⟩
def KS.g(a:KS):H:=a.e.b+2
def Bs(a:KS)(b:ZY×ZY):U ZY:=[ZR a.e.a,b.1,b.2,I a.d]
def Hg:U KS->U (ZY×ZY)->U ZY
 |[],_=>[]
 |_::_,[]=>[]
 |b::a,c::d=>Bs b c++Hg a d
def Lm:ZY×ZY:=(N_,N_)
def mg:∀(c:U KS) (e:U (ZY×ZY)),F e=F c->∀a,a<F c->∀b,b<4->(Hg c e)[a*4+b]? =(Bs (Z c a Aj) (Z e a Lm))[b]?
 |[],_,_,a,d=>by simp at d
 |f::c,[],d,_,_=>by simp at d
 |f::c,h::e,_,0,_=>λb g=>by grind [Hg,Bs]
 |f::c,h::e,d,a+1,i=>λb g=>by simp only[Hg];rw[getElem?_append_right (by simp[Bs];omega),show(a+1)*4+b-F (Bs f h)=a*4+b by simp[Bs];omega];exact mg _ _ (by simpa using d) a (by simpa using i) b g
def Da{h:ZT}{b c a f e:H}{g i}(d:ZD h c a f g e i)(m:b<=c):ZD h b a f g e i:=by
 refine⟨d.1,?_⟩
 rcases d.2 with o|⟨l,j,k,a,n,p⟩
 exact ZM o;exact ZJ ⟨l,j,k,a,aG m n,p⟩
structure Jq(e)(d:ZT)(f)(c)(a):Prop where
 M:ZD d 0 172 4 f (F a) (Hg a c)
 y:F c=F a
 j:∀b,b<F a->Ad d e (Z c b Lm).1 (Z a b Aj).e.f/\Bj d e (Z c b Lm).2 (Z a b Aj).e.c
abbrev ZgN(d:ZT)(b:ZY)(c:U (ZY×ZY))(a:U KS):Prop:=Jq 0 d b c a
def Jq.m{j d c h i b}(a:Jq d j h i b)(e:c<=d):Jq c j h i b:=⟨a.M,a.y,λg f=>⟨Da (a.j g f).1 e,Da (a.j g f).2 e⟩⟩
def Jq.p{S i w' k m n j}(a:Jq k i m n j)(h:Aa S i w')(o:∀c d g,i.1[c]? =T (O_ d g)->g=172∨g=3∨g=9->¬S c):Jq k w' m n j:=
 ⟨h.M a.M (λc b=>by obtain⟨d,l⟩:=Ac a.M b;grind),a.y,λf e=>⟨h.M (a.j f e).1 (λc b=>by obtain⟨d,l⟩:=Ac (a.j f e).1 b;grind),h.M (a.j f e).2 (λc b=>by obtain⟨d,l⟩:=Ac (a.j f e).2 b;grind)⟩⟩
def Jq.q{h w' base f g c}(a:Jq base h f g c)(b:E_ h w'):Jq base w' f g c:=
 ⟨(Aa.a (S:=λ_=>False) b).M a.M (λ_ _=>id),a.y,λe d=>⟨(a.j e d).1.q b,(a.j e d).2.q b⟩⟩
def Jq.at{b l t u a}(j:Jq l b t u a){i}(s:i<F a):∃d c e g f h,t=L_ d (F a) c/\d<B b.1/\ZV b (J d (i*4))=T (ZR (Z a i Aj).e.a)/\ZV b (J d (i*4+1))=T (ZH e (F (Z a i Aj).e.f) g)/\ZV b (J d (i*4+2))=T (ZH f (F (Z a i Aj).e.c) h)/\ZV b (J d (i*4+3))=T (I (Z a i Aj).d)/\Ad b l (ZH e (F (Z a i Aj).e.f) g) (Z a i Aj).e.f/\Bj b l (ZH f (F (Z a i Aj).e.c) h) (Z a i Aj).e.c:=by
 have z:=j.M
 rcases j.M.2 with⟨_,G⟩|⟨p,v,D,w,L,y,M,_⟩
 omega;subst w;have⟨m,n⟩:=j.j i s;have⟨e,g,q⟩:=m.d;have⟨f,h,r⟩:=n.a;rw[q] at m;rw[r] at n
 have k:∀c o,c<4->(Bs (Z a i Aj) (Z u i Lm))[c]? =T o->ZV b (J p (i*4+c))=T o:=λc o x A=>by rw[World.ownsRow.cellAt z (i*4+c) O];exact(mg _ _ j.y i s c x).T A
 refine⟨p,v,e,g,f,h,X,(Qb y).1,k 0 _ O X,?_,?_,k 3 _ O X,m,n⟩;rw[<- q];exact k 1 _ O X;rw[<- r];exact k 2 _ O X
structure Lx(h)(f)(e)(g)(d)(c):Prop where
 x:Xk h e g d c
 j:∀b,b<F c->∀a,ZW e=T a->¬d b a
 i:∀a,ZW e=T a->f<=a
 u:∀b,b<F c->∀a,d b a->f<=a
def Xk.p{S j w' f g e d}(c:Xk j f g e d)(i:Aa S j w')(k:∀b,ZW f=T b->¬S b)(l:∀a,a<F d->∀b,e a b->¬S b):Xk w' f g e d:=
 ⟨i.M c.M k,c.y,λa h=>(c.j a h).p i (l a h),c.apart⟩
def Lx.p{S j w' c i g f e}(b:Lx j c i g f e)(m:Aa S j w')(h:∀a,c<=a->¬S a):Lx w' c i g f e:=
 ⟨b.x.p m (λa d=>h a (b.i a d)) (λl k a d=>h a (b.u l k a d)),b.j,b.i,b.u⟩
def Lx.put{n x r i z s l h K' G'}(b:Lx n r z s l h)(j:i<F h)(y:Aa (l i) n x)(G:xk x K' (Z s i 0) G')(f:∀k,K' k->l i k∨B n.1<=k)(D:r<=B n.1):Lx x r z s (λa=>if a=i then K' else l a) (h.set i G'):=by
 have L:∀a,a<F h->∀k,l a k->k<B n.1:=λa e k f=>by have⟨d,g,c⟩:=b.x.j a e;exact c.j k f
 refine⟨⟨?_,?_,λa e=>?_,λq o u v A k=>?_⟩,λa e k w=>?_,b.i,λa e k=>?_⟩;rw[length_set];exact y.M b.x.M (λk f=>b.j i j k f);rw[length_set];exact b.x.y
 ·rw[length_set] at e
  by_cases c:a=i
  ·grind
  simp only[aC c];have:Z (h.set i G') a Fm=Z h a Fm:=(by simp[Z,Ne.s c]);rw[this];exact(b.x.j a e).p y (λk f=>b.x.apart a i e j c k f)
 ·rw[length_set] at u v
  by_cases p:q=i
  ·have m:o≠i:=O;simp only[aD p,aC m];intro g t
   rcases f k g with d|d
   exact b.x.apart i o j v (λc=>m c.s) k d t
   grind
  by_cases m:o=i
  ·simp only[aC p,aD m];intro g t
   rcases f k t with d|d
   exact b.x.apart q i u j p k g d
   grind
  simp only[aC p,aC m];exact b.x.apart q o u v A k
 ·rw[length_set] at e
  by_cases c:a=i
  ·simp only[aD c];intro g
   rcases f k g with d|d
   exact b.j i j k w d;have:=(B_ b.x.M k w).2;omega
  simp only[aC c];exact b.j a e k w
 rw[length_set] at e
 by_cases c:a=i
 ·simp only[aD c];intro g
  rcases f k g with d|d
  exact b.u i j k d;omega
 simp only[aC c];exact b.u a e k
def Lx.a{h w s k u v l q c i n}(g:Lx h s u l q c)(t:ZD w 0 313 1 v (F c+1) (l.map sv++[sv k]))(P:Y3 h w (ZW u))(D:ZW v=ZW u∨∃r,ZW v=T r/\B h.1<=r)(m:xk h i k n)(e:∀L,L<F c->∀a,q L a->¬i a)(Q:∀a,ZW u=T a->¬i a)(W:∀a,i a->s<=a)(S:s<=B h.1):Lx w s v (l++[k]) (λb=>if b=F c then i else q b) (c++[n]):=by
 have a0:∀b,b<F c->∀a,q b a->a<B h.1:=λb d a e=>by have⟨f,j,m⟩:=g.x.j b d;exact m.j a e
 have a1:∀a,i a->a<B h.1:=λa e=>by obtain⟨f,j,m⟩:=m;exact m.j a e
 have M:=(Aa.refl _ h).grown P (λa e _=>e);have R:=g.x.y;refine⟨⟨?_,?_,λb d=>?_,λx y z A N a=>?_⟩,λb d a p=>?_,λa p=>?_,λb d a=>?_⟩
 ·grind
 simp[R]
 ·rw[Qe] at d;simp at d
  by_cases j:b=F c
  subst j;simp only[if_true];have f:Z (c++[n]) (F c) Fm=n:=(by simp[Z]);have o:Z (l++[k]) (F c) 0=k:=w_;rw[f,o];exact m.p M (λa e t=>Q a t e);have G:b<F c:=O;simp only[aC j];have f:Z (c++[n]) b Fm=Z c b Fm:=w_;have o:Z (l++[k]) b 0=Z l b 0:=w_;rw[f,o];exact(g.x.j b G).p M (λa e t=>g.j b G a t e)
 ·rw[Qe] at z A;simp at z A
  by_cases f:x=F c
  ·grind
  by_cases j:y=F c
  ·grind
  simp only[aC f,aC j];exact g.x.apart x y O O N a
 ·rw[Qe] at d;simp at d
  rcases D with f|⟨r,f,o⟩
  ·rw[f] at p
   by_cases j:b=F c
   ·grind
   simp only[aC j];exact g.j b O a p
  grind
 ·rcases D with f|⟨r,f,o⟩
  rw[f] at p;exact g.i a p
  grind
 rw[Qe] at d;simp at d
 by_cases j:b=F c
 ·grind
 simp only[aC j];exact g.u b O a
def Hk(c:H->H)(b:H):H->H
 |0=>0
 |a+1=>Hk c b a+c (b+a)*2^a
def Qz{f}(c:∀d,f d<=1) b:∀a,Hk f b a<2^a
 |0=>by simp[Hk]
 |a+1=>by have:=Qz c b a;have e:f (b+a)*2^a<=_:=aK _ (c _);simp only[Hk,Nat.pow_succ];omega
def Hf(c:H->H)(b a:H):H:=Hk c (8*a) (min 8 (b-8*a))
theorem li{c}(d:∀e,c e<=1) b a:Hf c b a<256:=by have f:=Qz d (8*a) (min 8 (b-8*a));have:(2:H)^(min 8 (b-8*a))<=2^8:=Nat.pow_le_pow_right C O;unfold Hf;omega
def lg b a:Hf b (a+1) (a/8)=Hf b a (a/8)+b a*2^(a%8):=by
 unfold Hf;have c:min 8 (a-8*(a/8))=a%8:=O;have d:min 8 (a+1-8*(a/8))=a%8+1:=O
 grind [Hk]
def lh{b}(d:∀e,b e<=1) a:Hf b a (a/8)<2^(a%8):=by unfold Hf;have c:min 8 (a-8*(a/8))=a%8:=O;rw[c];exact Qz d _ _
theorem Zdy c a {b}(d:b≠a/8):Hf c (a+1) b=Hf c a b:=by grind [Hf]
def Bg(b:H->H)(d a:H):U E:=(range d).map (λc=>(Hf b a c:H))
theorem Dj c a b:F (Bg c a b)=a:=by simp[Bg]
theorem Kj c {d a} b (e:a<d):Z (Bg c d b) a 0=(Hf c b a:H):=by simp[Bg,Z,e]
def oq b a:Bg b a 0=Y6 a 0:=by apply ext_getElem;simp[Bg];intro e c d;simp[Bg,Hf,Hk]
theorem cy b c a:(Bg b c a).set (a/8) (Hf b (a+1) (a/8):H)=Bg b c (a+1):=by
 apply ext_getElem;simp[Bg]
 grind [Bg,Zdy]
def Zw a (b:0<=a)(c:a<2^8):IntKind.u8.wrap a=a:=by simp[wrap,IntKind.bits,signed];omega
def Zdt(a b:H)(c:a<256)(d:b<256):=bits_nat .u8 8 C Zw a b O O
def Zey{x b a}(c:x<2^a):x|||(b*2^a)=x+b*2^a:=by grind [two_pow_add_eq_or_of_lt,Nat.mul_comm]
def Ju(a:H):GS:=⟨[],Y6 a ZZ,0,0⟩
def Be(c:U KS)(d:U (U ZG))(f e:H)(b:U GS)(a:H):U GS:=
 if b.findIdx (Er (Z d a []) (Z c a Aj).g e)<F b then b.set (b.findIdx (Er (Z d a []) (Z c a Aj).g e)) (Ve (Z b (b.findIdx (Er (Z d a []) (Z c a Aj).g e)) Fm) a (Z d a []) (Z c a Aj).g)
 else b++[Ve (Ju f) a (Z d a []) (Z c a Aj).g]
def Ib(d:H)(b:U KS)(a:U (U ZG))(e c:H):U GS:=(Dp d a).foldl (Be b a e c) []
structure xi(d c)(b:U GS):Prop where
 y:F b<=c
 j:∀a∈b,F a.out=d/\a.g<=400/\a.k<=400/\F a.fs<=c
def Za9{a b}(c:F a=F b):Gd a b<=F b:=by have:=Ui (Ig a b);rw[Ue c] at this;exact this
def xi.i{c g budget Ks Os a f}(e:xi c g a)(p:F (Z Os f [])=c)(w:c<=200)(u:budget<=20)(v:(Z Ks f Aj).g<=100):xi c (g+1) (Be Ks Os c budget a f):=by
 unfold Be;split
 ·rename_i i;have q:=findIdx_getElem (w:=i);generalize a.findIdx (Er (Z Os f []) (Z Ks f Aj).g budget)=d at *;have n:Z a d Fm=a[d]:=w_;rw[n];have⟨o,r,s,t⟩:=e.j a[d] (Qf i);simp only[Er,Bool.and_eq_true,decide_eq_true_eq] at q;refine⟨by rw[length_set];have:=e.y;omega,λh b=>?_⟩
  rcases mem_or_eq_of_mem_set b with b|rfl
  have⟨j,k,l,m⟩:=e.j h b;omega;refine⟨?_,?_,?_,?_⟩;show F (orL _ _)=c;rw[Mg O];exact o;show a[d].g+Gd a[d].out (Z Os f [])<=400;omega;show a[d].k+_<=400;omega;show F (a[d].fs++[f])<=g+1;simp;omega
 refine⟨by rw[Qe];have:=e.y;simp;omega,λh b=>?_⟩
 rcases mem_append.1 b with b|b
 have⟨j,k,l,m⟩:=e.j h b;omega;simp only[mem_cons,not_mem_nil,or_false] at b;subst b;have d:F (Ju c).out=F (Z Os f []):=p ▸ length_replicate;refine⟨?_,?_,?_,?_⟩;show F (orL _ _)=c;rw[Mg d];simp[Ju];show 0+Gd (Ju c).out (Z Os f [])<=400;have:=Za9 d;omega;show 0+_<=400;omega;show F ([]++[f])<=g+1;simp
def xi.ok{d c b}(f:xi d c b)(k:c<=100):∀a∈b,GOk d a:=λa g=>by have⟨e,h,i,j⟩:=f.j a g;exact⟨e,O,O,O⟩
def Jq.c{b c l h m a}(j:ZgN b (L_ c l h) m a){i}(k:i<F a):∃d f e g,c<B b.1/\ZV b (J c (i*4))=T (ZR (Z a i Aj).e.a)/\ZV b (J c (i*4+1))=T (V d (F (Z a i Aj).e.f) f)/\ZV b (J c (i*4+2))=T (V e (F (Z a i Aj).e.c) g)/\ZV b (J c (i*4+3))=T (I (Z a i Aj).d)/\Ad b 0 (V d (F (Z a i Aj).e.f) f) (Z a i Aj).e.f/\Bj b 0 (V e (F (Z a i Aj).e.c) g) (Z a i Aj).e.c:=by
 have⟨p,n,d,f,e,g,o,q⟩:=j.at k
 grind
def It.c{b a h e d c}(f:It b (L_ a h e) d c){i}(g:i<F c):a<B b.1/\ZV b (J a i)=T (Z d i (N_)):=by
 have⟨l,j,k,m⟩:=f.at g
 grind
def ZeB{k:ZT}{g e j b d c i l f}(h:ZD k g e j (ZH b d c) i l)(a:ZW (ZH b d c)=T f):b=T ⟨f,0,ZP⟩:=by
 rcases h.2 with⟨e,_⟩|⟨o,m,n,e,_⟩
 rw[e] at a;cases a;injection e with e _ _;subst e;simp[ZW] at a;rw[a]
def KS.a(a:KS):(Kz a.e.a (F a.e.f) (F a.e.c):H)+2=(a.g:E):=by unfold KS.g ES.b;omega
def ZqT(g:ZT)(d:H)(f:ZY)(b:U GS):Prop:=∃a e c,d<=a/\Lx g a f e c b
def hy(j a:H){l f6 f4 N f5:H}{j7 j3 e g G}(i4:j+1<=4)(h7:F e=j+1)(e4:F g=j+1)(hK:ZgN G (L_ f6 (j+1) f4) j7 e)(e3:It G (L_ N (j+1) f5) j3 g)(f2:∀g9∈g,F g9=a)(a5:a<=200)(h9:l<=20)(i0:∀K∈e,K.g<=100):C_ 206 #[L_ f6 (j+1) f4,L_ N (j+1) f5,I l] G λp c=>∃b,p=ZI b/\ZqT c (B G.1) b (Ib j e g a l)/\E_ G c:=by
 have g1:=Y (Xz j a G i4 e4 e3 f2 a5);have o:=x6_ hK e3 h7 e4 f2 i0;have P:=K_ (Lg j g) (jv j g);refine dl_ ?_;go_enter func206,ntmps206;go_wp2_with fail
 apply g1.m;rintro p u ⟨l8,rfl,c8,e6⟩;have⟨l6,l7,f3⟩:=c8.d;rw[Ak,P.1] at f3;subst f3;obtain⟨j4,i7,k4,k3,_,_⟩:=c8.b (k:=0) (by rw[Ak];exact P.1) O;subst i7;have c9:=e6.size;have⟨g8,d5⟩:=Y_ c8 e6;have g6:Hid (Ib j e g a l=(Dp j _).foldl _ _):=rfl;generalize Dp j g=m at *;go_wp2_with fail
 go_loopw [15,7] (λb d c=>∃(k:H) (n:U H) (A:H->H->Prop),b=ZX ZQ k/\k<=j+1/\Hid (Lx c (B u.1) d n A ((ZU k m).foldl (Be e g a l) [])/\xi a k ((ZU k m).foldl (Be e g a l) []))/\Hid (E_ u c)) (λb _ _=>j+1-ZL (ZA b))
 case atStart=>
  refine⟨0,[],λ_ _=>False,X,v_,⟨⟨⟨rn_,X,(λi x=>by simp at x),(λi t x=>by simp at x)⟩,(λi x=>by simp at x),(λk e9=>by simp[ZW] at e9),(λi x=>by simp at x)⟩,⟨s_,s_⟩⟩,y_⟩
 obtain⟨k,n,A,rfl,e9,a0,W⟩:=hrel;have i9:=W.size
 by_cases f1:k<j+1
 ·have f0:k<F m:=P.out.1 ▸ f1;have M:Z m k 0<j+1:=by have:Z m k 0=m[k]:=(by simp[Z,f0]);rw[this];exact P.2 _ (Qf _)
  have i1:(ZU (k+1) m).foldl (Be e g a l) []=Be e g a l ((ZU k m).foldl (Be e g a l) []) (Z m k 0):=by
   rw[Qi f0,foldl_append]
   grind
  have a9:=Y i1;have j8:ZV wr (J j4 k)=T (I (Z m k 0:H)):=(by have:=(g8.c (by rw[Ak];exact P.1.s) f1).1;rw[Bq] at this;exact T_ W this);generalize (Z m) k 0=c,(ZU k m).foldl (Be e g a l) []=f at *;have e7:=d5.T (W.m c9);have e5:=o.2.1.q e7;have⟨h0,h2,h1,h3,k1,k8,k9,l0,l1,_⟩:=(o.1.q e7).c (i:=c) (o.2.2.1 ▸ M);have⟨k2,d1⟩:=e5.c (i:=c) (o.2.2.2.1 ▸ M);have b7:=e5.j c (o.2.2.2.1 ▸ M);have c6:F (Z g c [])=a:=o.2.2.2.2.1 _ (by simp[Z,show c<F g by rw[o.2.2.2.1];exact M]);have i5:(Z e c Aj).g<=_:=o.2.2.2.2.2 _ (by simp[Z,show c<F e by rw[o.2.2.1];exact M]);have⟨Q,a1,R⟩:=b7.d;rw[R] at d1 b7;rw[c6] at d1 b7;have g7:=KS.a (Z e c Aj)
  have g5:Hid (∀b3:ZT,C_ 146 #[Y9 #[ZR (Z e c Aj).e.a,V h0 (F (Z e c Aj).e.f) h2,V h1 (F (Z e c Aj).e.c) h3]] b3 (U_ (ZX ZQ (Z e c Aj).g) b3)):=λb3=>by rw[<- g7];exact Fq _ _ _ _ _ _ _ b3 O
  have d9:=K_ b7 c6;have e0:Hid (Be e g a l f c=if _<_ then _ else _):=rfl;have d8:=Y (a0.2.i c6 a5 h9 i5)
  have c7:∀b,Q=T ⟨b,0,ZP⟩->b<B G.1:=λb h=>by have d:=o.2.1.j c (o.2.2.2.1 ▸ M);rw[R,h] at d;exact(B_ d b X).2
  generalize (Z e) c Aj=b2,Z g c []=s at *;generalize b2.e.a=l4,F b2.e.f=l2,F b2.e.c=l3,b2.g=z,Be e g a l f c=d4 at *;have⟨b5,b6,i3⟩:=a0.1.x.a;subst i3;go_wp2_with fail
  apply (g5 _).m;rintro p f8 ⟨rfl,a3⟩;have k5:=a3.size;have j1:=T_ a3 d1;have d7:Hid (Lx f8 (B u.1) (V b5 (F f) b6) n A f):=(by refine a0.1.p (S:=λ_=>False) (Aa.a a3) (λ_ _=>id));have b0:=K_ (d9.1.q a3) d9.2;have g0:=Y (W.T (a3.m i9));have b1:=Y a0.2;have g3:=Y (Yg b5 Q b6 a a1 z l A f s f8 d7.x (b1.ok O) b0.1 b0.2 a5 O (p_ b1.y));generalize i2:F f=D at *;have w:=Y i2;go_wp2_with fail
  apply g3.m;rintro p d ⟨rfl,a4⟩;have k6:=a4.size;have j2:=T_ a4 j1;have r:=Y (d7.p (S:=λ_=>False) (Aa.a a4) (λ_ _=>id));have L:=K_ (b0.1.q a4) b0.2;have a8:=Y (g0.T (a4.m O));generalize f.findIdx (Er s z l)=q at *
  by_cases y:q<D
  ·have R:Zd4 n D q=Y7 (T (J (Z n q 0) 0)):=(by unfold Zd4;rw[aD y];rfl);rw[R];have⟨b8,b9,a2⟩:=r.x.j q (w ▸ y);have a6:=b1.out.ok O (Z f q Fm) (by simp[Z,show q<F f by rw[w.out];exact y])
   have a7:=Y (Zfv c z b8 b9 Q a a1 s d a2 L.out.1 a6.out L.out.2 a5 a6.g a6.k O a6.fs (λb h t=>by
     have x:=r.u _ (w ▸ y) b t;have:=c7 b (ZeB L.1 h)
     omega))
   have c2:Hid (d4=f.set q (Ve (Z f q Fm) c s z)):=(by have:=e0.out;rw[aD y] at this;exact this);have⟨d0,b4⟩:=W_ (Z n q 0);have c4:=Y b4;rw[<- b4] at a7 ⊢;clear b4;go_wp2_with fail
   refine a7.m ?_;rintro p v ⟨rfl,⟨K',c3,c5⟩,c1⟩;have x:Hid (Lx v (B u.1) (V b5 D b6) n (λt=>if t=q then K' else A t) ((ZU (k+1) m).foldl (Be e g a l) [])):=(by rw[a9,c2];exact r.put (w ▸ y) c1 (by rw[<- c4];exact c3) c5 O);have c0:Hid (E_ u v):=a8.T (c1.b a8.size λb t=>p_ (r.u q (by rw[w];exact y) b t));have t:Hid (xi a (k+1) ((ZU (k+1) m).foldl (Be e g a l) [])):=a9 ▸ d8;refine J_ ?_;exact⟨k+1,n,_,g_,O,⟨x,t⟩,c0⟩
  have R:Zd4 n D q=Y7 ZP:=(by unfold Zd4;rw[aC y]);rw[R];have c2:Hid (d4=f++[Ve (Ju a) c s z]):=(by have:=e0.out;rw[aC y] at this;exact this);have k0:=Re a O;have c1:Hid (ZD d 0 313 1 (V b5 D b6) D (n.map sv)):=(by have:=r.x.M;rw[w] at this;exact this);have j9:D<=100:=oj_ b1.y w.out;go_wp2_with (at_builtin;refine ap_ [P_ (B d.1+1)] (((c1.alloc _).alloc _).alloc _) ?_)
  rintro j6 v ⟨j5,b4,e1,_,_⟩;have⟨d3,a6⟩:=W_ (ZN (ZN (ZN d (O_ (YV #[ZR ZZ] a) 4)) (O_ #[N_,L_ (B d.1) a a,I 0,I 0] 351)) (O_ #[P_ (B d.1+1)] 313));rw[<- a6] at b4 e1;have j0:B d3.1=B d.1+1+1+1:=(by rw[a6];simp);have e8:E_ d d3:=a6 ▸ ((r_.alloc s_ _).alloc t_ _)
  have i6:xk d3 (λb=>b=B d.1∨b=B d.1+1) (B d.1+1) (Ju a):=by refine⟨V _ 0 0,L_ (B d.1) a a,⟨?_,Ad.nil,?_,ZJ X,λb h=>by simp[ZW] at h,λb h=>by simp[ZW] at h;exact ZM h.s,λb h=>O⟩⟩;rw[a6];have:=ha_ (ZN d (O_ (YV #[ZR ZZ] a) 4)) (O_ #[N_,L_ (B d.1) a a,I 0,I 0] 351);rw[show B (ZN d (O_ (YV #[ZR ZZ] a) 4)).1=B d.1+1 by simp] at this;exact(hc_ s_).T this;rw[a6];exact((Rc a d 0 O v_).alloc _).alloc _
  have c4:Lx v (B u.1) j6 (n++[B d.1+1]) (λt=>if t=F f then(λb=>b=B d.1∨b=B d.1+1) else A t) (f++[Ju a]):=by
   refine(r.p (S:=λ_=>False) (Aa.a e8) (λ_ _=>id)).a (w ▸ j5) b4 ?_ i6 (λi x b h t=>?_) (λb h t=>?_) (λb h=>O) O
   ·rcases e1 with p|p
    exact ZM p;exact ZJ ⟨_,p.1,O⟩
   have⟨b8,b9,a2⟩:=r.x.j i x;have:=a2.j b h;omega;have:=(B_ c1 b h).2;omega
  have d2:=(Aa.a e8).T ((Aa.refl _ _).grown b4 (λb h _=>h));have k7:B d.1+1+1+1<=B v.1:=by rw[<- j0];exact b4.size
  have l5:ZV v (J N c)=T (V Q a a1):=by
   have:v.1[N]? =d.1[N]?:=d2.block N O (λh=>by
    have⟨x,a2⟩:=Ac c1 h;have t:=r.i _ h;have:=o.2.1.c (i:=c) (o.2.2.2.1 ▸ M)
    omega)
   rw[cb_ (a:=(J N c)) this];exact j2
  have h8:Eo v 0 (V Q a a1) s:=d2.M L.1 (λb h t=>by
   have x:=r.i b t;have:=c7 b (ZeB L.1 h)
   omega)
  have⟨b8,b9,a2⟩:=c4.x.j (F f) s_;have h4:Z (f++[Ju a]) (F f) Fm=Ju a:=(by simp[Z]);have e2:Z (n++[B d.1+1]) (F f) 0=B d.1+1:=(by have:=r.x.y;simp[Z,<- this]);rw[h4,e2] at a2;simp only[if_true] at a2
  have a7:=Y (Zfv c z b8 b9 Q a a1 s v a2 h8 (by simp[Ju]) L.2 a5 (by simp[Ju]) (by simp[Ju]) O (by simp[Ju]) (λb h t=>by
    have:=c7 b (ZeB L.1 h)
    omega))
  have g4:=Y c4;have d6:Hid (E_ u v):=a8.T (d2.b a8.size λb t=>p_ (r.i b t));have⟨h5,h6,d0⟩:=c4.x.a;rw[Qe] at d0;simp only[length_cons,length_nil,Nat.zero_add,w.out] at d0;subst d0;have g2:=Y e2;go_wp2_with fail
  apply a7.m;rintro p f9 ⟨rfl,⟨K',c3,c5⟩,f7⟩;have x:Hid (Lx f9 (B u.1) (V h5 (D+1) h6) (n++[B d.1+1]) (λt=>if t=F f then K' else(if t=F f then(λb=>b=B d.1∨b=B d.1+1) else A t)) ((ZU (k+1) m).foldl (Be e g a l) [])):=(by rw[a9,c2];have:=g4.put (i:=F f) (K':=K') (G':=Ve (Ju a) c s z) s_ (by simpa using f7) (g2 ▸ c3) (by simpa using c5) O;have p:(f++[Ju a]).set (F f) (Ve (Ju a) c s z)=f++[Ve (Ju a) c s z]:=(by rw[set_append_right _ _ x_,Nat.sub_self,set_cons_zero]);rw[p] at this;exact this);have c0:Hid (E_ u f9):=d6.T (f7.b d6.size λb t=>O);refine J_ ?_;exact⟨k+1,_,_,g_,O,⟨x,(a9 ▸ d8)⟩,c0⟩
 have b:¬k<(j:E)+1:=O;have x:Hid (Lx wr (B u.1) u7 n A (Ib j e g a l)/\E_ G wr):=(by have t:=a0.1;rw[aI (p_ P.1)] at t;rw[g6];exact⟨t,d5.T (W.m c9)⟩);go_wp2;go_ret;exact⟨_,X,⟨_,_,_,c9,x.1⟩,x.2⟩
def ei{b a c}:C_ 330 #[Y9 #[I b,I a]] c λd e=>d=ZI (ZX ZQ a)/\e=ZN c (O_ #[I b,I a] 379):=by refine er_ ?_;exact⟨X,X⟩
def Zct{a b c}:C_ 299 #[Y9 #[I a,I b]] c λd e=>d=ZI (ZX ZQ a)/\e=ZN c (O_ #[I a,I b] 379):=by refine er_ ?_;exact⟨X,X⟩
def Az.put{b f a g d k e}(h:Az b f (L_ a d g) e)(l:d=F e) c:Az (ZO b (J a k) (ZX .u8 c)) f (L_ a d g) (e.set k c)/\Y3 b (ZO b (J a k) (ZX .u8 c)) (T a):=by subst l;have⟨i,j⟩:=World.ownsRow.stored h k (ZX .u8 c);refine⟨?_,j⟩;unfold Az;rw[length_set,map_set];exact i
def Az.c{c f a g b k d}(e:Az c f (L_ a b g) d)(h:b=F d)(i:k<b):ZV c (J a k)=T (ZX .u8 (Z d k 0))/\YT c (J a k)=ZZ:=by
 subst h;refine⟨?_,World.ownsRow.frozenAt e k⟩;rw[World.ownsRow.cellAt e k O]
 grind
def Az.alloc{w a c d}(e:Az w a c d) b:Az (ZN w b) a c d:=ra_ e b
def Znr{G s} d6 a c {o b} i {m e n}(t:n.1[G]? =T (.cells #[I (d6:H),I a,L_ c b o] 396 (0,0)))(L:Az n s (L_ c b o) (Bg e b (i*a)))(a7:∀d7,e d7<=1)(a9:∀Q,Q<a->e (i*a+Q)=m/2^Q%2)(e9:i*a+a<=8*b)(c3:i<=200)(b9:a<=6):C_ 331 #[Y7 (T ⟨G,0,ZP⟩),ZX ZQ i,ZX ZQ m] n λq w=>q=ZI (Y5 #[])/\Az w s (ZH (T ⟨c,0,ZP⟩) b o) (Bg e b (i*a+a))/\Aa (λk=>k=c) n w:=by
 have b4:=n_ 0 t;have b5:=n_ 1 t;have e5:=(Qb t).1
 have c2:G≠c:=λq=>by
  have⟨d,f⟩:=Ac L (k:=c) X
  grind
 have e7:_<=1200:=Nat.mul_le_mul c3 b9;have e8:i*a=((i*a:H):E):=s_;have⟨b3,S,b2,W⟩:=y4_ a9 a7 t L;clear t L a7 a9;generalize i*a=h at *;refine q_ ?_;go_wp2_with fail
 apply (ei).m;rintro q d8 ⟨rfl,rfl⟩;go_wp2_with fail
 apply (ei).m;rintro q d8 ⟨rfl,rfl⟩;go_wp2_with fail
 go_loopw [21] (λd f=>∃k:H,d=ZX ZQ k/\k<=a/\K (Az f s (ZH (T ⟨c,0,ZP⟩) b o) (Bg e b (h+k))/\Aa (λw=>w=c) n f)) (λd _=>a-ZL (ZA d))
 exact⟨0,X,v_,(W.alloc _).alloc _,((Aa.refl _ _).alloc _).alloc _⟩;clear W b4 b5;obtain⟨k,rfl,e6,r⟩:=hrel
 by_cases c0:k<a
 ·have a5:=r.2.g b2 c2;have a1:=n_ 2 a5;have⟨g,A⟩:=W_ (h+k);have⟨f,M⟩:=W_ (g/8);have⟨d,N⟩:=W_ (g%8);have a4:f<b:=O;have⟨z,a2⟩:=r.1.c (k:=f) (by rw[Dj]) a4;rw[Kj e _ a4] at z;have⟨l,u⟩:=W_ (Hf e (h+k) f);have⟨j,a6⟩:=W_ (m/2^k%2);have a8:e g=j:=(by rw[A,b3 k c0,a6]);have c4:l<256:=u ▸ (li S _ _);have b1:l<2^d:=(by rw[u,M,N,<- A];exact lh S g);have b7:j<=1:=O;have e4:d<8:=O
  have e3:2^d<=128:=by
   have:(2:H)^d<=2^7:=Nat.pow_le_pow_right C O
   simpa using this
  have b8:_<=1*2^d:=aK _ b7;have c1:Hf e (h+k+1) f=l+j*2^d:=by rw[u,M,N,<- A,lg,a8]
  have a0:K ((Bg e b (h+k)).set f (l+j*2^d:H)=Bg e b (h+(k+1))):=by
   show _=_
   grind [cy]
  have b0:_=l+j*_:=Zey b1;have c6:h+k=(g:E):=O;have c8:(g:E).tdiv 8=f:=w_;have c9:g/8=(f:E):=O;have d0:(g:E).tmod 8=d:=w_;have d1:g%8=(d:E):=O
  have d2:bits BinOp.and IntKind.u8 (m/2^k%256) 1=j:=by
   have q:(m/2^k%256)=((m/2^k%256:H):E):=s_;rw[q];have:=(Zdt (m/2^k%256) 1 O C).1
   grind
  have d3:_=(g:E):=Au O O;have d4:_=(f:E):=Au O O;have⟨x,v⟩:=W_ (j*2^d);have c5:x<256:=O
  have d5:IntKind.u8.wrap (j*2^d)=x:=by rw[Zw _ w_ w_];rw[v];simp
  have⟨R,P⟩:=W_ (l+x);have c7:bits BinOp.or IntKind.u8 l x=R:=(by rw[(Zdt l x c4 c5).2,v,b0,P,v]);rw[<- v,<- P] at a0;have e1:0<=(d:E):=O;have e2:(d:E)<=8:=O;clear v P b0 b8 b1;rw[<- u] at z;have a3:ZV (YY wr) _=_:=z;have b6:YT (YY wr) _=_:=a2;have e0:=F_ k a;have d9:=F_ f b;have D:_:=r;clear a5 A M N z a2 u a6 a8 c1 r;go_upto_region 5 with fail;refine Af (λw=>ZV w _=T _/\ZV w _=T _) 18 k_ ⟨a1,a3⟩ (λhHeld=>?_);refine G_ ?_;refine le_ ?_;have y:K (Az (YY (ZO wr (J c f) (ZX .u8 R))) s (L_ c b o) (Bg e b (h+(k+1)))/\Aa (λw=>w=c) n (YY (ZO wr (J c f) (ZX .u8 R)))):=by rw[<- a0];exact⟨World.ownsRow.drew (D.1.put (by rw[Dj]) _).1,(D.2.setCell (p:=(J c f)) (λ_=>X) _).drew⟩
  clear D hHeld a1 a3 b6 c6 c8 c9 d0 d1 d2 d3 d4 d5 c7;refine J_ ?_;exact⟨k+1,g_,O,y⟩
 have d:¬k<(a:E):=O;have y:K (Az wr s (L_ c b o) (Bg e b (h+a))/\Aa (λw=>w=c) n wr):=w_;clear r;go_wp2;go_end0;exact⟨X,y.1,y.2⟩
def Rd(a:H)(c:a<=1000000) b:(Instr.makeSlice 66 (I a) (I a)).run Y8 b=.ok (L_ (B b.1) a a) (ZN b (O_ (YV #[ZX .u8 0] a) 5)):=mk_ 1
theorem Rb a (b:ZT) c (e:a<=1000000)(d:c<=B b.1):Az (ZN b (O_ (YV #[ZX .u8 0] a) 5)) c (L_ (B b.1) a a) (Y6 a 0):=by
 have:=ownsRow_lit (base:=c) (size:=1) (e:=5) b (YV #[ZX .u8 0] a) a d (by unfold Y2;omega) (by simp[YV]);rw[Tl] at this;unfold Az
 simpa using this
def Cf(c:U H)(a b:H):H:=Z c (b/a) 0/2^(b%a)%2
theorem Jf b c:∀a,Cf b c a<=1:=λa=>by unfold Cf;omega
theorem Mz d {a c b}(e:b<a):Cf d a (c*a+b)=Z d c 0/2^b%2:=by
 unfold Cf;have f:(c*a+b)/a=c:=by rw[Nat.mul_comm,mul_add_div O,div_eq_of_lt e,Nat.add_zero]
 grind [Nat.mul_comm,mul_add_mod,mod_eq_of_lt]
structure Oo(c:ZT)(d f b g e:H)(a:U E):Prop where
 r:c.1[f]? =T (O_ #[I g,I e,L_ b (F a) (F a)] 396)
 M:Az c d (L_ b (F a) (F a)) a
def ZgI(h:ZT)(b:H)(g:ZY)(e d:H)(c:U E):Prop:=∃a f,g=P_ a/\b<=a/\Oo h b a f e d c
def Zb{a0}(b a g a1:H) h e (S:Ad e 0 (V a0 g a1) (An h))(G:F h=g)(c3:g<=b)(b1:b<=200)(P:a<=6):C_ 301 #[Y9 #[I b,I a],V a0 g a1] e λn f=>∃c,n=ZI c/\ZgI f (B e.1) c b a (Bg (Cf h a) ((b*a+7)/8) (g*a))/\E_ e f:=by
 have z:=K_ S G;have⟨j,o⟩:=W_ (b*a);have b9:j<=1200:=o ▸ (Nat.mul_le_mul b1 P);have c2:b*a=(j:E):=(by rw[o];simp);have⟨c,u⟩:=W_ ((j+7)/8);have w:K (c=_/\_/\_):=⟨by rw[u,o],o,u⟩;have b4:((j:E)+7).tdiv 8=c:=w_;have b5:_=(j:E):=Au O O;have b6:_=(j:E)+7:=Au O O;have b7:_=(c:E):=Au O O;have b0:=Rd c O;have c4:c<=151:=O;rw[<- w.1];clear S G o u;refine q_ ?_;go_upto_region 1 with fail;have⟨d,k⟩:=W_ (ZN e (O_ #[I b,I a] 379));rw[<- k];have b3:B d.1=B e.1+1:=(by rw[k];simp);have A:D_ d (B e.1) 0 (I b):=(by rw[k];simp[go_sem]);have D:D_ d (B e.1) 1 (I a):=by rw[k];simp[go_sem]
 have a2:K (E_ e d):=(by show Below _ _ _;rw[k];exact r_);have c1:B e.1<B d.1:=O;clear k b3;go_region_held3 (λf=>D_ f (B e.1) 0 (I (b:H))/\D_ f (B e.1) 1 (I (a:H))) (exact⟨X_ A,X_ D⟩) (first|(go_at_call 299;apply (Zct).m;rintro n f ⟨rfl,rfl⟩)|(go_at_call 330;apply (ei).m;rintro n f ⟨rfl,rfl⟩))
 have⟨m,l⟩:=W_ (YY (ZN (ZN (ZN (ZN d (O_ #[I b,I a] 379)) (O_ #[I b,I a] 379)) (O_ (YV #[ZX .u8 0] c) 5)) (O_ #[I b,I a,L_ (B d.1+1+1) c c] 396)));rw[<- l];have c7:B m.1=B d.1+1+1+1+1:=by rw[l];simp
 have a3:K (E_ e m):=(by show Below _ _ _;rw[l];exact(a2.T (((((y_.alloc O _).alloc t_ _).alloc t_ _).alloc t_ _).drew)));have M:H_ m (B d.1+1+1+1) #[I b,I a,L_ (B d.1+1+1) c c] 396:=by rw[l];have:=ha_ (ZN (ZN (ZN d (O_ #[I (b:H),I (a:H)] 379)) (O_ #[I (b:H),I (a:H)] 379)) (O_ (YV #[ZX .u8 0] c) 5)) (O_ #[I (b:H),I (a:H),L_ (B d.1+1+1) c c] 396);rw[show B (ZN (ZN (ZN d (O_ #[I (b:H),I (a:H)] 379)) (O_ #[I (b:H),I (a:H)] 379)) (O_ (YV #[ZX .u8 0] c) 5)).1=B d.1+1+1+1 by simp] at this;exact this
 have L:Az m (B e.1) (L_ (B d.1+1+1) c c) (Bg (Cf h a) c 0):=(by rw[oq,l];have:=Rb c (ZN (ZN d (O_ #[I (b:H),I (a:H)] 379)) (O_ #[I (b:H),I (a:H)] 379)) (B e.1) O t_;have f:=(this.alloc (O_ #[I (b:H),I (a:H),L_ (B d.1+1+1) c c] 396));rw[show B (ZN (ZN d (O_ #[I (b:H),I (a:H)] 379)) (O_ #[I (b:H),I (a:H)] 379)).1=B d.1+1+1 by simp] at f;exact f);have⟨a4,x⟩:=Y_ M L;clear l M L A D b0 b4 b5 b6 b7;have c5:B e.1<=B d.1+1+1:=O;have a6:K (B d.1+1+1+1<B m.1/\B d.1+1+1+1≠B d.1+1+1):=⟨O,O⟩;generalize (B d.1)+1+1=p at *;go_wp2_with fail
 go_loopw [21] (λi n=>∃f:H,i=ZX ZQ f/\f<=g/\K (Az n (B e.1) (ZH (T ⟨p,0,ZP⟩) c c) (Bg (Cf h a) c (f*a))/\Aa (λr=>r=p) m n)) (λi _=>g-ZL (ZA i))
 exact⟨0,X,v_,by rw[Nat.zero_mul];exact⟨x,Aa.refl _ _⟩⟩;clear x;obtain⟨f,rfl,c0,i⟩:=hrel;have s:E_ e wr:=(by have q:=i.2;have n:=a3.out;exact⟨q.os.T n.os,q.tape.T n.tape,q.output.T n.output,aG n.size q.size,λr t=>(q.block r O O).T (n.block r t)⟩);have a5:=Y s;have q:=i.2.g a4 a6.2
 by_cases a9:f<g
 ·obtain⟨c8,b2,c6,_,N,_⟩:=z.1.b (by rw[Ak];exact z.2) a9;subst b2;have a7:=T_ s N;rw[Bq] at a7;have Q:f*a+a=(f+1)*a:=w_;have a8:(f+1)*a<=b*a:=aK _ O;have t:=Y (Znr b a p f q i.1 (Jf h a) (λr n=>Mz h n) (p_ w.out) O P);rw[Q] at t;generalize (Z h) f 0=r at *;have b8:=F_ f g;have y:=Y i.2;clear N Q a8 i q s;go_wp2_with fail
  apply t.m;rintro n c9 ⟨rfl,R,W⟩;have v:=K_ R (y.T W);clear R W t y;go_wp2;go_roundw
  grind
  exact z_
 have n:¬f<(g:E):=O;have v:K (Oo wr (B e.1) (p+1) p b a (Bg (Cf h a) c (g*a))):=(by have:f=g:=O;subst this;exact⟨by rw[Dj];exact q,by rw[Dj];exact i.1⟩);clear i q s;go_wp2;go_ret;exact⟨_,X,⟨_,_,X,O,v⟩,a5⟩
def nzL(a:U H):U ZG:=a.map (λb=>ZE (b≠0))
def nzN(a:U H):H:=Dt (nzL a)
theorem Zd a:F (nzL a)=F a:=by simp[nzL]
def ZbR{N k}(a:k<F N):Z (nzL N) k ZZ=ZE (Z N k 0≠0):=by simp[nzL,Z,a]
def ZbO{j} c {h} b g (o:Ad g 0 (V j c h) (An b))(m:F b=c)(u:c<=200):C_ 298 #[V j c h] g (V_ (ZX ZQ (nzN b:H)) g):=by
 have e:=K_ o m;refine q_ ?_;go_wp2_with fail
 go_loop [8,3] (λd f=>∃a:H,d=ZX ZQ a/\a<=c/\f=ZX ZQ (Dt (ZU a (nzL b)):H)/\Dt (ZU a (nzL b))<=a) (λd _=>c-ZL (ZA d))
 exact⟨0,X,v_,X,x_⟩;obtain⟨a,rfl,s,rfl,t⟩:=hrel
 by_cases n:a<c
 ·obtain⟨x,rfl,w,_,l,_⟩:=e.1.b (by rw[Ak];exact e.2) n;rw[Bq] at l;have i:=Pm (ZU a (nzL b)) (Z (nzL b) a ZZ);rw[<- Rl (by rw[Zd];have:=e.2;omega),ZbR (p_ e.2)] at i;have q:=Y i;generalize Dt (ZU a (nzL b))=f,Z b a 0=k at *;have r:=F_ a c
  by_cases p:k=0
  ·subst p;have d:K (Dt (ZU (a+1) (nzL b))=f):=w_;refine J_ ?_;exact⟨a+1,g_,O,by rw[d],by rw[d];omega⟩
  have v:((k:E) !=0)=Z0:=w_;have d:K (Dt (ZU (a+1) (nzL b))=f+1):=w_;refine J_ ?_;exact⟨a+1,g_,O,by rw[d];go_num,by rw[d];omega⟩
 have i:¬a<(c:E):=O;have d:K (Dt (ZU a (nzL b))=nzN b):=(by show _=_;rw[aI (by rw[Zd];have:=e.2;omega)];rfl);generalize Dt (ZU a (nzL b))=f at *;go_wp2;go_ret;exact⟨by rw[d];rfl,X⟩
def ld(a:H) b (f:a<=1000):C_ 282 #[I a] b (V_ (ZX ZQ (Lib.bitLen a:H)) b):=by
 have c:K (C_ 150 #[ZX .u64 a] b (V_ (ZX ZQ (Lib.bitLen a:H)) b)):=(by have:=Tryz.bits_Len (a:H) b O O;rw[Int.toNat_natCast] at this;exact this);generalize Lib.bitLen a=d at *;refine q_ ?_;go_wp2_with fail
 apply c.m;rintro e g ⟨rfl,rfl⟩;go_wp2;go_ret;exact⟨X,X⟩
def Bu(b:U H):H->U (H×H)
 |0=>[]
 |a+1=>Bu b a++(if Z b a 0=0 then[] else[(a,Z b a 0)])
def Mi b:∀a,F (Bu b a)<=a
 |0=>by simp[Bu]
 | a+1=>by
  have:=Mi b a;simp only[Bu]
  grind
def Su(a:H×H):U ZY:=[I a.1,I a.2]
def Td:U (H×H)->U ZY
  |[]=>[]
  |b::a=>Su b++Td a
def yy a b:Td (a++b)=Td a++Td b:=by
 induction a with
 |nil=>rfl
 |cons e d c=>simp[Td,c]
def Xp(d:ZT)(b:H)(c:ZY)(a:U (H×H)):Prop:=ZD d b 405 2 c (F a) (Td a)
def Xp.P{c a b L x}(d:ZD c a 405 2 b (F L+1) (Td L++Su x)):Xp c a b (L++[x]):=by
 unfold Xp;rw[yy,Qe]
 simpa [Td] using d
def Xp.d{g d b a}(f:Xp g d b a):∃c e,b=ZH c (F a) e:=by
 rcases f.2 with⟨rfl,i⟩|⟨k,j,h,rfl,_⟩
 ·grind
 grind
structure ku(b:ZT)(d g f e:H)(a)(c):Prop where
 r:b.1[g]? =T (O_ #[I f,I e,a] 403)
 M:Xp b d a c
def Zde(h:ZT)(b:H)(f:ZY)(e d:H)(c:U (H×H)):Prop:=∃a g,f=P_ a/\b<=a/\ku h b a e d g c
def ss{A}(h g f:H){D:H} c a (a2:Ad a 0 (V A f D) (An c))(P:F c=f)(c0:f<=200):C_ 300 #[Y9 #[I h,I g],V A f D] a λk d=>∃b,k=ZI b/\Zde d (B a.1) b h g (Bu c f)/\E_ a d:=by
 have u:=K_ a2 P;have⟨i,n⟩:=W_ (ZN (ZN a (O_ #[I h,I g] 379)) (O_ #[I h,I g,N_] 403));have t:K (E_ a i):=(by show Below _ _ _;rw[n];exact r_.alloc s_ _);have c2:B i.1=B a.1+1+1:=by rw[n];simp
 have L:K (i.1[B a.1+1]? =T (O_ #[I h,I g,N_] 403)):=by
  show _=_
  grind [heap_alloc_new]
 refine q_ ?_;go_wp2_with fail
 go_loopw [13] (λe j=>∃(b:H) (G:ZY),e=ZX ZQ b/\b<=f/\K (ku j (B a.1+1+1) (B a.1+1) h g G (Bu c b)/\Aa (λd=>d=B a.1+1) i j)) (λe _=>f-ZL (ZA e))
 case atStart=>
  refine⟨0,N_,X,v_,?_,?_⟩;rw[<- n];exact⟨L,rn_⟩;rw[<- n];exact Aa.refl _ _
 obtain⟨b,G,rfl,b7,e⟩:=hrel;have c3:=e.2.size
 by_cases R:b<f
 ·obtain⟨m,a1,a0,_,y,_⟩:=u.1.b (by rw[Ak];exact u.2) R;subst a1;have a9:ZV wr (J m b)=T (I (Z c b 0:H)):=(by rw[Bq] at y;rw[cb_ (a:=(J m b)) ((e.2.block m O O).T (t.block m a0))];exact y);have N:K (Bu c (b+1)=_++_):=rfl;have⟨v,w,a3⟩:=e.1.M.d;subst a3;have b2:=n_ 2 e.1.r;have b8:=Mi c b;generalize (Z c) b 0=d at *;have b1:=F_ b f
  by_cases s:d=0
  ·subst s;have j:K (ku wr (B a.1+1+1) (B a.1+1) h g (V v (F (Bu c b)) w) (Bu c (b+1))/\Aa (λd=>d=B a.1+1) i wr):=(by rw[N,aD X,append_nil];exact e);go_wp2
   grind [ZA]
  have c1:((d:E) !=0)=Z0:=w_;have M:K (Bu c (b+1)=Bu c b++[(b,d)]):=w_;have S:=(Qb e.1.r).1;have r:K _:=e.1.M;generalize Q:F (Bu c b)=a6 at *;go_wp2_with (at_builtin;refine ap_ [I (b:H),I (d:H)] (r.alloc _) ?_)
  rintro o q ⟨a5,x,b5,_,_⟩;have l:q.1[B a.1+1]? =T (O_ #[I h,I g,V v a6 w] 403):=(by rw[x.block (B a.1+1) t_ (λk=>Ag r k.s e.1.r C X)];have:=e.1.r;exact(hc_ S).T this);have b3:=n_ 2 l;have b6:=R_ 2 _ _ l;have k:Xp q (B a.1+1+1) o (Bu c (b+1)):=(by rw[M];apply Xp.P;rw[Q];exact a5);have⟨b0,b4,z⟩:=k.d
  have j:K (ku (ZO q (J (B a.1+1) 2) o) (B a.1+1+1) (B a.1+1) h g o (Bu c (b+1))/\Aa (λd=>d=B a.1+1) i (ZO q (J (B a.1+1) 2) o)):=(by refine⟨⟨ht_ 2 _ _ _ l,Am k l C⟩,?_⟩;have a7:Aa _ i (ZN wr (O_ #[I (b:_),I (d:H)] 405)):=e.2.alloc _;have a8:=a7.grown x (λa4 W b9=>p_ (B_ r a4 W).1);exact a8.setCell (p:=(J (B a.1+1) 2)) (λ_=>X) _);rw[z] at j;subst z;generalize (F (Bu c (b+1)))=W at *;go_wp2;go_roundw
  grind
  exact z_
 have z:¬b<(f:E):=O
 have j:K (Zde wr (B a.1) (P_ (B a.1+1)) h g (Bu c f)/\E_ a wr):=by
  have:b=f:=O;subst this;have m:=e.2;have l:=t.out;refine⟨⟨_,_,X,O,e.1.r,?_⟩,⟨m.os.T l.os,m.tape.T l.tape,m.output.T l.output,aG l.size m.size,λd s=>(m.block d O O).T (l.block d s)⟩⟩;have o:=e.1.M;refine⟨o.1,?_⟩
  rcases o.2 with w|⟨v,q,r,k,y,x⟩
  exact ZM w;exact ZJ ⟨v,q,r,k,O,x⟩
 go_wp2;go_ret;exact⟨_,X,j.1,j.2⟩
def Zds:∀a:Fin 64,Lib.bitLen a.val<=6:=by decide+kernel
def Gj{a}(b:a<64):Lib.bitLen a<=6:=Zds ⟨a,b⟩
def ya:∀a:Fin 64,a.val<2^Lib.bitLen a.val:=by decide+kernel
def Ml{a}(b:a<64):a<2^Lib.bitLen a:=ya ⟨a,b⟩
def Id(f:ZT)(d:H)(e:ZY)(a:U H)(b:H):Prop:=
 (4*nzN a<F a/\∃c,e=.iface 380 c/\Zde f d c (F a) (Lib.bitLen b) (Bu a (F a)))∨
 (¬4*nzN a<F a/\∃c,e=.iface 382 c/\ZgI f d c (F a) (Lib.bitLen b) (Bg (Cf a (Lib.bitLen b)) ((F a*Lib.bitLen b+7)/8) (F a*Lib.bitLen b)))
def ue{a4}(a a5 c:H) d b (t:Ad b 0 (V a4 a a5) (An d))(s:F d=a)(L:a<=200)(G:c<64):C_ 257 #[V a4 a a5,I c] b λf g=>∃h,f=ZI h/\Id g (B b.1) h d c/\E_ b g:=by
 have a7:=Gj G;have Q:=Y (ld c b O);have b7:nzN d<=a:=(by grind [Ui,Zd,nzN]);have⟨R,x,w⟩:=y3_ (λe f=>ZbO a d e (t.q f) s L) (λe f=>ss a (Lib.bitLen c) a d e (t.q f) s L) (λe f=>Zb a _ a _ d e (t.q f) s x_ L a7)
 have r:K (∀e h,((4*nzN d<a/\∃f,h=.iface 380 f/\Zde e (B b.1) f a (Lib.bitLen c) (Bu d a))∨(¬4*nzN d<a/\∃f,h=.iface 382 f/\ZgI e (B b.1) f a (Lib.bitLen c) (Bg (Cf d (Lib.bitLen c)) ((a*Lib.bitLen c+7)/8) (a*Lib.bitLen c))))->Id e (B b.1) h d c):=λe h b5=>by
  unfold Id
  grind
 clear t s;generalize Lib.bitLen c=m,nzN d=q at *;have b2:4*(q:E)<=800:=O;have b9:_=4*(q:E):=Au O O;refine dl_ ?_;go_enter func257,ntmps257;go_wp2_with fail
 apply Q.m;rintro f a6 ⟨rfl,a3⟩;obtain rfl:=a3.s;clear a3;go_upto_region 2 with fail;have⟨i,j⟩:=W_ (ZN b (O_ #[I a,I m] 379));rw[<- j];have a9:B i.1=B b.1+1:=(by rw[j];simp);have S:D_ i (B b.1) 0 (I a):=(by rw[j];simp[go_sem]);have W:D_ i (B b.1) 1 (I m):=(by rw[j];simp[go_sem]);have v:K (E_ b i):=(by show Below _ _ _;rw[j];exact r_);have b6:B b.1<B i.1:=O;clear j a9;go_region_held3 (λg=>D_ g (B b.1) 0 (I (a:H))/\D_ g (B b.1) 1 (I (m:H))) (exact⟨X_ S,X_ W⟩) (first|(go_at_call 298;apply (R _ v.drew).m;rintro f a6 ⟨rfl,rfl⟩)|(go_at_call 299;apply (Zct).m;rintro f a6 ⟨rfl,rfl⟩))
 generalize N:YY (ZN i (O_ #[I (a:H),I (m:H)] 379))=u;have k:K (E_ b u):=(by show Below _ _ _;rw[<- N];exact(v.alloc O _).drew);have b8:B u.1=B i.1+1:=(by rw[<- N];simp);have b3:D_ u (B b.1) 0 (I a):=w_;have b4:D_ u (B b.1) 1 (I m):=w_;have a2:=k.size;clear N S W v R Q
 by_cases a1:4*q<a
 ·have a8:4*q<(a:E):=O;go_wp2_with fail
  apply (x _ k).m;rintro f p ⟨b1,rfl,D,n⟩;obtain⟨a0,b0,rfl,A,g⟩:=D
  have l:K (Id p (B b.1) (.iface 380 (P_ a0)) d c/\E_ b p):=by
   refine⟨r _ _ (ZM ⟨a1,_,X,a0,b0,X,O,g.r,?_⟩),k.T (n.m a2)⟩;have o:=g.M;refine⟨o.1,?_⟩
   rcases o.2 with M|⟨c,y,z,f,G,P⟩
   exact ZM M;exact ZJ ⟨c,y,z,f,O,P⟩
  clear A g n x w r;go_wp2;go_ret;exact⟨_,X,l.1,l.2⟩
 have a8:¬4*q<(a:E):=O;go_wp2_with fail
 apply (w _ k).m;rintro f p ⟨b1,rfl,D,n⟩;obtain⟨a0,b0,rfl,A,g⟩:=D
 have l:K (Id p (B b.1) (.iface 382 (P_ a0)) d c/\E_ b p):=by
  refine⟨r _ _ (ZJ ⟨a1,_,X,a0,b0,X,O,g.r,?_⟩),k.T (n.m a2)⟩;have o:=g.M;refine⟨o.1,?_⟩
  rcases o.2 with M|⟨c,y,z,f,G,P⟩
  exact ZM M;exact ZJ ⟨c,y,z,f,O,P⟩
 clear A g n x w r;go_wp2;go_ret;exact⟨_,X,l.1,l.2⟩
structure XS where
 M:H
 f:H
 i:H
structure BS where
 fs:U H
 N:U H
 g:H
structure Ft where
 g:U KS
 f:U BS
 r:U XS
def Cw(x:XS):U ZY:=[I x.M,I x.f,I x.i]
def Jw:U XS->U ZY
 |[]=>[]
 |b::a=>Cw b++Jw a
theorem za a b:Jw (a++b)=Jw a++Jw b:=by
 induction a with
 |nil=>rfl
 |cons e d c=>simp[Jw,c]
def uo a:F (Jw a)=F a*3:=by
 induction a with
 |nil=>rfl
 |cons c a b=>simp[Jw,Cw,b];omega
def Nu(d:ZT)(b:H)(c:ZY)(a:U XS):Prop:=ZD d b 184 3 c (F a) (Jw a)
def Nu.P{c a b L x}(d:ZD c a 184 3 b (F L+1) (Jw L++Cw x)):Nu c a b (L++[x]):=by grind [Nu,za,Jw]
def Nu.d{g d b a}(f:Nu g d b a):∃c e,b=ZH c (F a) e:=by
 rcases f.2 with⟨rfl,i⟩|⟨k,j,h,rfl,_⟩
 ·grind
 grind
def je(c:H->Prop)(e:ZT):Prop:=∀b d a,e.1[b]? =T (O_ d a)->c b->a=168∨a=163∨a=184
def je.M{d f}(i:je d f){g a r q:H}{e s}(o:ZD f g a r e q s)(j:a≠168)(k:a≠163)(l:a≠184):∀c,ZW e=T c->¬d c:=λc n p=>by
 have⟨h,m⟩:=Ac o n
 rcases i c h a m p with b|b|b
 exact j b;exact k b;exact l b
def je.at{c e}(f:je c e){k b:H}{d}(j:H_ e k d b)(g:b≠168)(h:b≠163)(i:b≠184):¬c k:=λl=>by
 rcases f k d b j l with a|a|a
 exact g a;exact h a;exact i a
def ZgI.p{S b w' c i g e d}(l:ZgI b c i g e d)(h:Aa S b w')(f:je S b):ZgI w' c i g e d:=by obtain⟨j,n,k,m,a⟩:=l;exact⟨j,n,k,m,h.g a.r (f.at a.r C C C),h.M a.M (f.M a.M C C C)⟩
def Zde.p{S b w' d i g e c}(l:Zde b d i g e c)(h:Aa S b w')(f:je S b):Zde w' d i g e c:=by obtain⟨j,n,k,m,a⟩:=l;exact⟨j,n,k,m,h.g a.r (f.at a.r C C C),h.M a.M (f.M a.M C C C)⟩
def Id.p{S e w' g k f h}(l:Id e g k f h)(j:Aa S e w')(i:je S e):Id w' g k f h:=by
 rcases l with⟨b,d,a,c⟩|⟨b,d,a,c⟩
 exact ZM ⟨b,d,a,c.p j i⟩;exact ZJ ⟨b,d,a,c.p j i⟩
def je.none b:je (λ_=>False) b:=λ_ _ _ _ a=>a.elim
def Id.q{a w' base f b c}(d:Id a base f b c)(e:E_ a w'):=d.p (Aa.a e) (je.none a)
def Id.m{l h g k f i}(n:Id l h k f i)(j:g<=h):Id l g k f i:=by
 rcases n with⟨d,e,b,q,r,c,o,a⟩|⟨d,e,b,m,p,c,o,a⟩
 exact ZM ⟨d,e,b,q,r,c,O,a.r,Da a.M j⟩;exact ZJ ⟨d,e,b,m,p,c,O,a.r,Da a.M j⟩
def Id.zero{f b e a c}(d:Id f b e a c):=d.m v_
def Id.iface{j d b c g}(h:Id j d b c g):∃i a,b=.iface i (P_ a):=by
 rcases h with⟨_,a,e,m,n,f,_⟩|⟨_,a,e,k,l,f,_⟩
 ·grind
 grind
def Df:BS:=⟨[],[],0⟩
def Ov:U (ZY×ZY)->U ZY
  |[]=>[]
  |a::b=>[a.1,a.2]++Ov b
def Vs a b:Ov (a++b)=Ov a++Ov b:=by
 induction a with
 |nil=>rfl
 |cons e d c=>simp[Ov,c]
structure Pe(e)(d:ZT)(f)(c)(a:U BS):Prop where
 M:ZD d 0 163 2 f (F a) (Ov c)
 y:F c=F a
 j:∀b,b<F a->Ad d e (Z c b Lm).1 (An (Z a b Df).fs)/\Id d e (Z c b Lm).2 (Z a b Df).N (Z a b Df).g
def Pe.m{j d c h i b}(a:Pe d j h i b)(e:c<=d):Pe c j h i b:=⟨a.M,a.y,λg f=>⟨Da (a.j g f).1 e,(a.j g f).2.m e⟩⟩
abbrev ZpF(d:ZT)(b:ZY)(c:U (ZY×ZY))(a:U BS):Prop:=Pe 0 d b c a
def pi(e:H)(d:U ZG)(c b:U H)(a:H):H:=if Z d a ZZ=Z0/\Z b a 0=0 then e+Z c a 0 else Z b a 0
def Zil(e:H)(d:U ZG)(b c:U H)(a:H):U XS:=if Z d a ZZ=Z0/\Z c a 0≠0 then[⟨a,e,Z b a 0⟩] else[]
def Jn(e:H)(d:U ZG)(c a:U H)(b:H):U H:=(range b).map (pi e d c a)++ZF b a
def Jv(d:H)(c:U ZG)(a b:U H):H->U XS
 |0=>[]
 |e+1=>Jv d c a b e++Zil d c a b e
def ox{e d c a b}(f:b<=F a):F (Jn e d c a b)=F a:=by simp[Jn];omega
def Zh0 d c b a:Jn d c b a 0=a:=by simp[Jn]
theorem Zgp e d c b {a}:Z (Jn e d c b a) a 0=Z b a 0:=by simp[Jn,Z,getElem?_append_right]
def Zb4 e d c b {a}(f:a<F b):(Jn e d c b a).set a (pi e d c b a)=Jn e d c b (a+1):=by unfold Jn;rw[aN f,set_append_right _ _ s_,length_map,length_range,Nat.sub_self,set_cons_zero,range_succ,map_append,append_assoc];rfl
def ZhZ e d c {a b}(g:b<F a)(f:pi e d c a b=Z a b 0):Jn e d c a (b+1)=Jn e d c a b:=by
 rw[<- Zb4 e d c a g,f];apply ext_getElem;simp
 grind [Zgp]
theorem Zj e d b c:∀a,F (Jv e d b c a)<=a
 |0=>by simp[Jv]
 | a+1=>by
  have:=Zj e d b c a
  grind [Jv,Zil]
structure CS where
 N:U H
 r:U XS
 off:H
def Al(f:U KS)(d:U (U ZG))(c:U (U H))(e:H)(b:CS)(a:H):CS:=
 ⟨Jn b.off (Z d a []) (Z c a []) b.N e,b.r++Jv a (Z d a []) (Z c a []) b.N e,b.off+(Z f a Aj).g⟩
def Jr(c:U KS)(d:U (U ZG))(b:U (U H))(a:H)(f:U XS)(e:U H):CS:=e.foldl (Al c d b a) ⟨Y6 a 0,f,1⟩
def Lq(d:U (U ZG))(c:U (U H))(e:H)(a:Ft)(b:GS):Ft:=
 ⟨a.g,a.f++[⟨b.fs,(Jr a.g d c e a.r b.fs).N,(Jr a.g d c e a.r b.fs).off-1⟩],(Jr a.g d c e a.r b.fs).r⟩
def Sf:ES:=⟨ZZ,[],[]⟩
def Vl:ZY×ZY×ZY:=(N_,N_,N_)
def Md(b:ES)(a:ZY×ZY×ZY):U ZY:=[ZR b.a,a.1,a.2.1,a.2.2]
def Ng:U ES->U (ZY×ZY×ZY)->U ZY
 |[],_=>[]
 |_::_,[]=>[]
 |b::a,c::d=>Md b c++Ng a d
def lz:∀(c:U ES) (e:U (ZY×ZY×ZY)),F e=F c->∀a,a<F c->∀b,b<4->(Ng c e)[a*4+b]? =(Md (Z c a Sf) (Z e a Vl))[b]?
 |[],_,_,a,d=>by simp at d
 |f::c,[],d,_,_=>by simp at d
 |f::c,h::e,_,0,_=>λb g=>by grind [Ng,Md]
 |f::c,h::e,d,a+1,i=>λb g=>by simp only[Ng];rw[getElem?_append_right (by simp[Md];omega),show(a+1)*4+b-F (Md f h)=a*4+b by simp[Md];omega];exact lz _ _ (by simpa using d) a (by simpa using i) b g
structure ac(e)(d:ZT)(g)(c)(b)(f:U (U H)):Prop where
 M:ZD d 0 266 4 g (F b) (Ng b c)
 y:F c=F b
 j:∀a,a<F b->Ad d e (Z c a Vl).1 (Z b a Sf).f/\Bj d e (Z c a Vl).2.1 (Z b a Sf).c/\Ad d 0 (Z c a Vl).2.2 (An (Z f a []))
abbrev ZqL(e:ZT)(c:ZY)(d:U (ZY×ZY×ZY))(b:U ES)(a:U (U H)):Prop:=ac 0 e c d b a
def ac.m{k f e i j g d}(a:ac f k i j g d)(h:e<=f):ac e k i j g d:=⟨a.M,a.y,λc b=>⟨Da (a.j c b).1 h,Da (a.j c b).2.1 h,(a.j c b).2.2⟩⟩
def ac.p{S f w' h j k i g}(a:ac h f j k i g)(e:Aa S f w')(d:je S f):ac h w' j k i g:=
 ⟨e.M a.M (d.M a.M C C C),a.y,λc b=>⟨e.M (a.j c b).1 (d.M (a.j c b).1 C C C),e.M (a.j c b).2.1 (d.M (a.j c b).2.1 C C C),e.M (a.j c b).2.2 (d.M (a.j c b).2.2 C C C)⟩⟩
def ac.q{a w' base f g c b}(d:ac base a f g c b)(e:E_ a w'):=d.p (Aa.a e) (je.none a)
def ac.cells{c l b s a d e k}(h:ac l c (L_ b s a) d e k){i}(p:i<F e):b<B c.1/\ZV c (J b (i*4))=T (ZR (Z e i Sf).a)/\ZV c (J b (i*4+1))=T (Z d i Vl).1/\ZV c (J b (i*4+2))=T (Z d i Vl).2.1/\ZV c (J b (i*4+3))=T (Z d i Vl).2.2:=by
 have q:=h.M
 rcases h.M.2 with⟨_,v⟩|⟨g,t,u,m,w,o,x,_⟩
 omega;injection m with e1 e2 e3;injection e1 with e1;injection e1 with e1 _;subst e1 e2
 have f:∀a j,a<4->(Md (Z e i Sf) (Z d i Vl))[a]? =T j->ZV c (J b (i*4+a))=T j:=λa j n r=>by rw[World.ownsRow.cellAt q (i*4+a) O];exact(lz _ _ h.y i p a n).T r
 exact⟨(Qb o).1,f 0 _ O X,f 1 _ O X,f 2 _ O X,f 3 _ O X⟩
def Jq.b{b a k d i j c}(e:Jq d a i j c)(h:Aa b a k)(g:je b a):=
 e.p h (λn l o f m=>g.at f w_ w_ w_)
def It.b{c a f d e b}(g:It a d e b)(j:Aa c a f)(i:je c a):It f d e b:=
 g.p j (λm k n h l=>i.at h w_ w_ w_)
structure en(d)(a:ZT)(g:H)(h b c)(f)(e)(i):Prop where
 r:a.1[g]? =T (O_ #[h,b,c] 168)
 v:Pe d a b f e
 j:Nu a 0 c i
abbrev DsX(g:ZT)(c:H)(e d f:ZY)(b:U (ZY×ZY))(a:U BS)(h:U XS):Prop:=en 0 g c e d f b a h
def en.m{j c b f h g i e d k}(a:en c j f h g i e d k)(l:b<=c):en b j f h g i e d k:=⟨a.r,a.v.m l,a.j⟩
def DsS(b:H)(c d:ZY):H->Prop:=λa=>a=b∨ZW c=T a∨ZW d=T a
def en.a{f g c n d e i h o}(b:en g f c n d e i h o):je (DsS c d e) f:=λq p r l m=>by
 rcases m with a|a|a
 ·subst a;rw[b.r] at l
  grind
 ·have⟨j,k⟩:=Ac b.v.M a
  grind
 have⟨j,k⟩:=Ac b.j a
 grind
def Pe.p{S f w' h e k g}(a:Pe h f e k g)(d:Aa S f w')(l:∀j,ZW e=T j->¬S j)(i:je S f):Pe h w' e k g:=
 ⟨d.M a.M l,a.y,λc b=>⟨d.M (a.j c b).1 (i.M (a.j c b).1 C C C),(a.j c b).2.p d i⟩⟩
def Pe.q{a w' base e f b}(c:Pe base a e f b)(d:E_ a w'):=c.p (S:=λ_=>False) (Aa.a d) (λ_ _=>id) (je.none a)
def en.q{i w' base b g f h e d j}(a:en base i b g f h e d j)(c:E_ i w'):en base w' b g f h e d j:=
 ⟨(c.block b (Qb a.r).1).T a.r,a.v.q c,(Aa.a (S:=λ_=>False) c).M a.j (λ_ _=>id)⟩
def en.P{g e i d q p r f k j G s}(c:en i g d q p r k j G)(y:Y3 g e (ZW r))(A:Nu e 0 f s):en i (ZO e (J d 2) f) d q p f k j s:=by
 have o:=(Aa.refl _ g).grown y (λa b _=>b);have z:je _ g:=λa v D b n=>c.a a _ _ b (ZJ (ZJ n))
 have l:=o.g c.r (λh=>by
  have⟨t,w⟩:=Ac c.j h;have:=c.r
  grind)
 have m:=c.v.p o (λa b h=>by
  have⟨t,w⟩:=Ac c.j h;have⟨u,x⟩:=Ac c.v.M b
  grind) z
 have w:=(Aa.refl (λa=>a=d) e).setCell (p:=(J d 2)) (λ_=>X) f
 have t:je (λa=>a=d) e:=λa v D b n=>w_
 refine⟨ht_ 2 _ _ _ l,m.p w (λa b h=>?_) t,Am A l C⟩;subst h;have⟨u,x⟩:=Ac m.M b
 grind
def ZkT a (b x:H):(An a).set b x=An (a.set b x):=by simp[An,map_set]
end Go.Proofs.YtfcgnpchbcmdeaaGreat
