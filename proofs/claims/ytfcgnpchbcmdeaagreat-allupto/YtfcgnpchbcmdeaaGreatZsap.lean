import Derived.Test.YtfcgnpchbcmdeaaGreatZsam
import Derived.Test.YtfcgnpchbcmdeaaGreatZsak
open List renaming replicate->Y6,length->F,take->ZU,getD->Z,drop->ZF
open Array renaming toList->Y4,size->B
open Go renaming madeCells->YV,World->ZT,maxLen->Y2,Value->ZY
open _root_ renaming Nat->H,Int->E,List->U,rfl->X,Bool->ZG
open Or renaming inl->ZM,inr->ZJ
open Option renaming some->T,none->ZP
open Go.World renaming grownBy->Y3,alloc->ZN,cell?->ZV,ownsRow->ZD,setCell->ZO
open Go.Value renaming int->ZX,slice->ZH,tuple->Y5,func->YX,ownBlock->ZW,bool->ZR
open Go.IntKind renaming i64->ZQ
open Int renaming toNat->ZL
open Go.Ending renaming returned->ZI
open Go.Proofs renaming intOf->ZA
open Go.Proofs.Tryz renaming prog->Y8
open Go.Obj renaming cells->YU
open Bool renaming true->Z0,false->ZZ
open Decidable renaming decide->ZE
namespace Go.Proofs.YtfcgnpchbcmdeaaGreat
set_option linter.all false
set_option maxRecDepth 100000
set_option maxHeartbeats 4000000
open Go.RowKit List Nat Go.World Go.Proofs.Tryz Go.Value Go.IntKind Go.Lib Go.Region
def Zkd a:Y6 (a*4) (I 0)=flat (Y6 a e0):=by
 induction a with
 |zero=>rfl
 | succ a b=>
  rw[replicate_succ,show(a+1)*4=a*4+4 by omega];show _=Es e0++flat (Y6 a e0);rw[<- b];rfl
theorem ve{a}:Y4 (YV #[I 0,I 0,I 0,I 0] (a*4))=flat (Y6 a e0):=by
 have b:Y4 (YV #[I 0,I 0,I 0,I 0] (a*4))=Y6 (a*4) (I 0):=by
  apply ext_getElem;simp[YV];intro d b c;simp[YV]
  grind
 rw[b,Zkd]
def Ul{a b}{x:Cd}{d}(e:F a=d){c}:(flat (a++x::b)).set (d*4) (I c)=flat (a++⟨c,x.t,x.h,x.g⟩::b):=by have:=Yi (B:=b) (x:=x) e (show 0<4 by omega) (I c);rw[Nat.add_zero] at this;rw[this,Cb];rfl
def Tb(a:U (E×E))(b:H):U Cd:=(ZU b a).map Kq++Y6 (F a-b) e0
def Zhc{a b}(c:b<=F a):F (Tb a b)=F a:=by simp[Tb];omega
def vm{b c a} d:(Ao b c)[a]=(Ey (Z b a 0),Kd (Z c a 0)):=by grind [Ao]
def Ck.q{e w' b d f}(i:Ck e b d f)(c:E_ e w'):Ck w' b d f:=by
 obtain⟨j,k,a⟩:=i;refine⟨j,k,?_⟩
 rcases a with a|⟨g,p,h,n,l⟩
 exact ZM a;exact ZJ ⟨g,p,h,Qh n c.size,λo m=>T_ c (l o m)⟩
def Zbl b:∀a c,a<F b->c<4->(flat b)[a*4+c]? =(Es (Z b a e0))[c]?:=by
 induction b with
 |nil=>grind
 | cons d b g=>
  intro a c e f
  cases a with
  |zero=>grind [flat,Es]
  | succ a=>
   grind [flat,Es]
theorem mf(b:U (E×E)):Y4 (Go.Sort.flatK hn 4 b.toArray)=flat (b.map Kq):=by
 apply ext_getElem?;intro a
 by_cases f:a<F b*4
 ·have c:=Zbl (b.map Kq) (a/4) (a%4) t_ O;rw[show a/4*4+a%4=a by omega] at c;rw[c,Array.getElem?_toList];have e:a/4<F b:=O;have d:Z (b.map Kq) (a/4) e0=Kq b[a/4]:=w_;rw[d];simp only[Go.Sort.flatK];rw[Array.getElem?_map];simp[f,e,hn,Es,Kq]
  grind
 rw[getElem?_eq_none t_,getElem?_eq_none (by rw[Cg];simp;omega)]
theorem qm b a (e:a.size<=b.size):(Go.Sort.putCells id 0 a b).toList.take a.size=a.toList:=by
 apply ext_getElem?;intro d
 by_cases c:d<a.size
 rw[getElem?_take_of_lt c,Array.getElem?_toList,Array.getElem?_toList];simp[Go.Sort.putCells,c,show d<b.size by omega]
 grind
def ZeD{e g a f m os}{d b:U (E×E)}(i:F b=F d)(k:Ai e g (L_ a (F d) f) (d.map Kq)):Ai (Go.Proofs.sortWorldK hn 4 e a 0 m b.toArray os) g (L_ a (F d) f) (b.map Kq)/\Y3 e (Go.Proofs.sortWorldK hn 4 e a 0 m b.toArray os) (T a):=by
 rcases k.2 with⟨c,_⟩|⟨v,u,j,c,l,h,x,n,o,y⟩
 simp at c;simp only[slice.injEq,Option.some.injEq,Addr.mk.injEq,and_true] at c;obtain⟨rfl,_,rfl⟩:=c;have p:=(Qb h).1;have w:B (Go.Sort.flatK hn 4 b.toArray)=F d*4:=by simp[i]
 have q:(Go.Proofs.sortWorldK hn 4 e a 0 m b.toArray os).1[a]? =T (O_ (Go.Sort.putCells id 0 (Go.Sort.flatK hn 4 b.toArray) j) 98):=(by unfold Go.Proofs.sortWorldK Go.Sort.putRowK;rw[Go.Sort.heap_grow_old _ _ (by simpa using p)];simp[Go.Sort.putRow,Go.Sort.mapBlock,Go.Sort.ahead,Array.getElem?_modify,h,Go.Sort.onCells]);refine⟨⟨by rw[Cg],ZJ ⟨a,f,_,by simp[i],l,q,w_,n,by simp[Go.Sort.putCells,o],?_⟩⟩,⟨X,X,X,?_,λt r s=>?_⟩⟩
 ·grind [mf,qm]
 unfold Go.Proofs.sortWorldK Go.Sort.putRowK;simp;unfold Go.Proofs.sortWorldK Go.Sort.putRowK;rw[Go.Sort.heap_grow_old _ _ (by simpa using r)];have:a≠t:=λc=>s (by rw[c]);simp[Go.Sort.putRow,Go.Sort.mapBlock,Go.Sort.ahead,Array.getElem?_modify,this]
def ZhW{d e b f}{a:U (E×E)}(h:Ai d e (L_ b (F a) f) (a.map Kq)):Go.Sort.HoldsK hn 4 d b 0 a.toArray:=by
 intro c i
 have j:c<F a*4:=by simpa using i
 have g:Ai d e (L_ b (F (a.map Kq)) f) (a.map Kq):=by simpa using h
 refine⟨?_,?_⟩
 ·rw[Nat.zero_add,World.ownsRow.cellAt g c (by simpa using j),<- mf]
  grind
 rw[Nat.zero_add];exact World.ownsRow.frozenAt g c
def ZkY{a8 a9 o c3 p wc c e} d (D:Ck d a8 o c)(G:Ck d a9 p e)(d0:o<=2097152)(d1:p<=2097152):C_ 45 #[V a8 o c3,V a9 p wc] d λg l=>∃b n,g=ZI b/\Ej (Ao c e) n/\Ai l (B d.1) b (Bo 0 n)/\E_ d l:=by
 have x:=Lh c e;rw[D.1,G.1] at x;have⟨a,A⟩:=W_ (min o p);have c1:∀v:ZT,(Instr.makeSlice 29 (I a) (I a)).run Y8 v=.ok (L_ (B v.1) a a) (ZN v (O_ (YV #[I 0,I 0,I 0,I 0] (a*4)) 98)):=λ_=>mk_ 4;have⟨f,b6,b7⟩:=y3_ (x.T A.s) D G
 have L:K (Ai (ZN d (O_ (YV #[I 0,I 0,I 0,I 0] (a*4)) 98)) (B d.1) (L_ (B d.1) a a) (Tb (Ao c e) 0)):=by
  have:=ownsRow_lit (base:=B d.1) (size:=4) (e:=98) d (YV #[I 0,I 0,I 0,I 0] (a*4)) a x_ (by unfold Y2;omega) (size_madeCells _ _)
  grind [ve,Tb,Ai]
 have c8:a<=o:=O;have c9:a<=p:=O;have b2:=Y A;clear D G x A;refine q_ ?_;go_upto_region 1 with fail;go_cut [5] (λb g=>b=ZH (T ⟨B d.1,0,ZP⟩) a a/\g=ZN d (YU (YV #[ZX ZQ 0,ZX ZQ 0,ZX ZQ 0,ZX ZQ 0] (a*4)) 98))
 case first=>
  have b:min (o:E) p=a:=p_ b2.out;go_wp2;go_meet
  grind
 obtain⟨rfl,rfl⟩:=hcut;clear c1;go_wp2_with fail
 go_loopw [15] (λg h=>∃b:H,b<=a/\g=ZX ZQ b/\K (Ai h (B d.1) (ZH (T ⟨B d.1,0,ZP⟩) a a) (Tb (Ao c e) b))/\E_ d h) (λg _=>a-ZL (ZA g))
 exact⟨0,v_,X,L,r_⟩;clear L;obtain⟨b,c5,rfl,M,r⟩:=hrel
 by_cases c0:b<a
 ·have s:b<F (Ao c e):=f ▸ c0;have t:Tb (Ao c e) b=(ZU b (Ao c e)).map Kq++e0::Y6 (a-(b+1)) e0:=(by unfold Tb;rw[f,show a-b=a-(b+1)+1 by omega,replicate_succ]);have m:F ((ZU b (Ao c e)).map Kq)=b:=t_;have j:=M.out;have h:=Zhc (show b<=F (Ao c e) by omega);rw[t] at j h;rw[f] at h;have⟨N,P,Q,R,a7⟩:=j.at h.s m;have⟨w,k,i⟩:=y3_ j h.s m
  have u:K (Tb (Ao c e) (b+1)=(ZU b (Ao c e)).map Kq++⟨Ey (Z c b 0),0,0,Kd (Z e b 0)⟩::Y6 (a-(b+1)) e0):=show _=_ by unfold Tb;rw[f,Qi s,vm _];simp[Kq]
  rcases b6.out with⟨S,W,n|⟨a2,b3,rfl,y,n⟩⟩;omega;rcases b7.out with⟨a0,a1,q|⟨a3,b4,rfl,z,q⟩⟩;omega;have b0:=T_ r (n b O);have b1:=T_ r (q b O);simp only[e0] at N P Q R;have a4:=F_ b a;have a5:b<(o:E):=O;have a6:b<(p:E):=O;clear t m j h S W n a0 a1 q s;generalize (Z c) b 0=b5,Z e b 0=b8 at *;go_wp2_with fail
  go_region_with (first|(go_at_call 79;apply (al).m;rintro g l ⟨rfl,rfl⟩)|(go_at_call 80;apply (Xw).m;rintro g l ⟨rfl,rfl⟩))
  all_goals go_wp2
  all_goals
   go_roundw
   case rel=>
    refine⟨b+1,O,g_,?_,?_⟩;rw[u];exact((((w.b k s_ (Ul i)).b (k.T s_) s_ (Mn i _)).b (k.T s_) s_ (Mo i _)).b (k.T s_) s_ (Mp i _));exact((((r.setCell x_ _).setCell x_ _).setCell x_ _).setCell x_ _).drew
   exact z_
 have c6:b=a:=O;have j:Ai wr (B d.1) (L_ (B d.1) (F (Ao c e)) a) ((Ao c e).map Kq):=(by have g:Tb (Ao c e) b=(Ao c e).map Kq:=(by unfold Tb;rw[aI (by rw[f];omega),f,show a-b=0 by omega];simp);rw[<- g,f];exact M);have c7:¬b<(a:E):=O;have c2:=r.size;have a7:∀k∈Ao c e,_:=λk s=>(Jm s).1;have t:=Y a7;have a6:=(B_ j (B d.1) X).2
 have a5:C_ 81 #[L_ (B d.1) a a,YX (.func 82) #[] #[]] wr λg l=>g=ZI (Y5 #[])/\∃m:U (E×E),m.Perm (Ao c e)/\(m.Pairwise λk i=>k.1<=i.1)/\Ai l (B d.1) (L_ (B d.1) (F m) a) (m.map Kq)/\Y3 wr l (T (B d.1)):=by
  have n:=Zlw a (ZhW j) a6 (by simp[f.out];omega);rw[show B (Ao c e).toArray=a by simp[f.out]] at n;apply n.m;rintro g l ⟨rfl,h,W,a0,N,Q,rfl⟩;obtain⟨P,_,a1⟩:=N;have u:B h=a:=(by rw[P];simp[f.out]);have q:F (Y4 h)=F (Ao c e):=O;have i:=ZeD (m:=W) (os:=a0) q j;rw[show(Y4 h).toArray=h by simp] at i;refine⟨X,Y4 h,?_,?_,?_,i.2⟩
  ·have w:h.extract 0 a=h:=by rw[<- u];simp
   grind
  ·rw[pairwise_iff_getElem];intro R S w z y;simp at w z;have:=Q R S v_ y O;rw[Zm6] at this
   grind
  grind
 have b5:=Y a5;clear j a7 a6 a5;go_wp2_with fail
 apply (show Calls _ _ _ _ _ from b5).m;rintro g d2 ⟨rfl,m,u,R,Q,P⟩;have b8:F m=a:=(by rw[u.length_eq,f]);have y:=r.grown P c2 (λi h=>by simp at h;omega);have w:=ny a m Q R (λk s=>t k (u.mem_iff.1 s)) O;rw[b8] at w;have⟨b1,b0⟩:=Y_ w u;clear w u R Q P;go_wp2_with fail
 apply (show Calls _ _ _ _ _ from b1).m;rintro g d3 ⟨n,rfl,S,c4,W,a0⟩;have z:=y.grown a0 y.size (λi h=>by simp at h;omega);have q:=S.n b0
 have a1:∀k∈n,0<=k.2:=λk s=>by rw[q.g k s];exact Zv (λi h=>(t i h).1) _
 have a2:Bv n<=1000000000000:=(by have a3:=Zar (ps:=Ao _ _) (λi h=>(t i h).1) q.f;have N:=Uz (ps:=Ao _ _) (λi h=>(t i h).2);rw[Zt q.g];rw[f] at N;omega);have b3:=Y q;have N:=Zlg a n W a1 a2 O;have b4:=Y N;clear N S W a0 q a1 a2;go_wp2_with fail
 apply (show Calls _ _ _ _ _ from b4).m;rintro g d4 ⟨rfl,a3,a4⟩;have b9:=z.grown a4 z.size (λi h=>by simp at h;omega);have h:=Y a3;clear a3 a4;go_wp2;go_ret;exact⟨_,n,X,b3,h,b9⟩
def ZcL{i k e t g wc j l a}(p:Ck a i e j)(q:Ck a k g l)(r:e<=2097152)(s:g<=2097152):C_ 19 #[V i e t,V k g wc] a λh f=>∃d b,h=ZI d/\Ej (Ao j l) b/\Ai f (B a.1) d (Bo 0 b)/\E_ a f:=by
 refine q_ ?_;go_wp2_with fail
 apply (ZkY a p q r s).m;rintro h f ⟨d,b,rfl,m,n,o⟩;have c:=x3_ m n o;go_wp2;go_ret;exact⟨_,b,X,c.1,c.2.1,c.2.2⟩
def lenOf:ZY->H
 |.slice _ a _=>a
 |_=>0
def Ad.a{d i h b}(f:Ad d i h b):∃e j,h=ZH e (F b) j/\∀a,a<F b->∃c,e=T ⟨c,0,ZP⟩/\c<B d.1/\ZV d (J c a)=T (I (Z b a 0)):=by
 rcases f.2 with⟨rfl,o⟩|⟨l,k,n,rfl,p,m,q⟩
 ·grind
 refine⟨T _,k,X,λa g=>⟨l,X,(Qb m).1,?_⟩⟩;rw[World.ownsRow.cellAt f a (by simp;exact g)];simp[g]
def Ai.a{c h f a}(j:Ai c h f a):∃e i,f=ZH e (F a) i/\∀d g,a=d++[g]->∃b,e=T ⟨b,0,ZP⟩/\b<B c.1/\ZV c (J b (F d*4))=T (I g.v):=by
 rcases j.2 with⟨rfl,n⟩|⟨m,k,l,rfl,o,p,q⟩
 ·grind
 grind [Ai.at]
def ev{d b c a e i}(h:Ai d b c e)(g:Ad d b a i):ZW a=ZP∨ZW a≠ZW c:=by
 rcases g.2 with⟨rfl,_⟩|⟨n,j,l,rfl,_,p,_⟩
 exact ZM X
 rcases h.2 with⟨rfl,_⟩|⟨o,k,m,rfl,_,q,_⟩
 exact ZJ (by simp[ZW]);refine ZJ λf=>?_;simp[ZW] at f
 grind
def Kx.b{b k d g e f}(j:∀a∈b,1<=a.2/\a.2<=1000)(h:Kx b k d g e f):0<=f/\f<=1000*F b:=by
 cases g with
 |false=>obtain⟨_,l,_⟩:=h.j X;omega
 | true=>
  have⟨_,_,l⟩:=h.l X;have i:∀a∈ZU d b,_:=λa c=>(j a (aL c)).1;have m:=Zv i e;have n:=ZlQ i e;have o:=Uz (ps:=ZU d b) (λa c=>(j a (aL c)).2)
  grind
def Kb.b{d c}(g:∀a∈d,1<=a.2/\a.2<=1000)(e:Kb d c):0<=Bv c/\Bv c<=1000*F d:=by have f:=λa b=>(g a b).1;have i:=Zar f e.f;have j:=Zt e.g;have k:=Uz (ps:=d) (λa b=>(g a b).2);have h:=(Rj (M:=c) (λa b=>(e.g a b) ▸ (Zv f _)) 0).2;simp[Bv] at h;omega
def Zd3{M x}:(F M=0/\Ez M x=Z0)∨∃b a,M=b++[a]/\Ez M x=ZE (a.1<x):=by
 rcases eq_nil_or_concat M with c|⟨b,a,c⟩
 subst c;exact ZM ⟨X,X⟩;rw[concat_eq_append] at c;subst c;exact ZJ ⟨b,a,X,Wr b a x⟩
def pd a b:Bo 0 (a++[b])=Bo 0 a++[⟨b.1,Bv a,Bv a+b.2,b.2⟩]:=by rw[Zk];simp[Bo]
def na{b e}(f:E_ b e){a d}(c:ZV b a=T d):ZV e a=T d:=(f.cell (aJ b a c)).T c
def Ad.g{e b c h a d f i x g}{m:Prop}(l:Ad e c d i)(k:Bl h d)(j:ZD b c 3 1 a (F f+1) (f.map (ZX ZQ)++[I x])/\Y3 e b (ZW h)/\(ZW a=ZW h∨ZW a=T g/\Below g e b)/\m)(n:B e.1=g:=by simp):Ad b c a (f++[x])/\Ad b c d i/\Bl a d:=
 ⟨Ad.P j.1,l.kept j.2.1 k.a,k.b l w_⟩
def Kx.i{a d b h c i}(f:Kx a d b h c i)(g:b<F a):(Ez d a[b].1=ZZ/\((h=ZZ/\K (Kx a d (b+1) ZZ c i))∨(h=Z0/\((a[b].1==c)=Z0/\K (Kx a d (b+1) Z0 c (i+a[b].2))∨(a[b].1==c)=ZZ/\K (Kx a d (b+1) Z0 c i)))))∨(Ez d a[b].1=Z0/\(a[b].1==a[b].1)=Z0/\((h=ZZ/\K (Kx a d (b+1) Z0 a[b].1 a[b].2))∨(h=Z0/\(ZE (a[b].1<c)=Z0/\K (Kx a d (b+1) Z0 a[b].1 a[b].2)∨ZE (a[b].1<c)=ZZ/\((a[b].1==c)=Z0/\K (Kx a d (b+1) Z0 c (i+a[b].2))∨(a[b].1==c)=ZZ/\K (Kx a d (b+1) Z0 c i)))))):=by
 cases j:Ez d a[b].1<;>cases h
 exact ZM ⟨X,ZM ⟨X,f.d g (λ_=>j) nofun⟩⟩
 ·refine ZM ⟨X,ZJ ⟨X,?_⟩⟩
  by_cases e:a[b].1=c
  exact ZM ⟨beq_iff_eq.2 e,f.c g e⟩;exact ZJ ⟨aO e,f.d g nofun λ_=>⟨e,λk=>w_⟩⟩
 exact ZJ ⟨X,s_,ZM ⟨X,f.a g j (ZM X)⟩⟩;refine ZJ ⟨X,s_,ZJ ⟨X,?_⟩⟩
 rcases Int.lt_trichotomy a[b].1 c with e|e|e
 exact ZM ⟨aF e,f.a g j (ZJ e)⟩;exact ZJ ⟨aE O,ZM ⟨beq_iff_eq.2 e,f.c g e⟩⟩;exact ZJ ⟨aE O,ZJ ⟨aO O,f.d g nofun λ_=>⟨O,λ_=>O⟩⟩⟩
def Tq{b2 b3 m} c5 r wc e f k (P:Ck k b2 m e)(Q:Ck k b3 r f)(e3:m<=2097152)(e4:r<=2097152):C_ 115 #[V b2 m c5,V b3 r wc] k λn a=>∃h c,n=ZI h/\Ej (Ao e f) c/\Ai a (B k.1) h (Bo 0 c)/\E_ k a:=by
 have L:=Lh e f;rw[P.1,Q.1] at L;have s:=x3_ L P Q;clear P Q L;refine dl_ ?_;go_enter func115,ntmps115;go_wp2_with fail
 go_loopw [5,6,7] (λc l h a=>∃b:H,b<=m/\b<=r/\h=ZX ZQ b/\K (Ad a (B k.1) c ((ZU b (Ao e f)).map Prod.fst)/\Ad a (B k.1) l ((ZU b (Ao e f)).map Prod.snd)/\Bl c l)/\E_ k a) (λ_ _ h _=>m-ZL (ZA h))
 case atStart=>exact⟨0,v_,v_,X,⟨Ad.nil,Ad.nil,ZM X⟩,y_⟩
 obtain⟨b,d9,e0,rfl,a,p⟩:=hrel;have a7:=p.size
 by_cases c2:b<m/\b<r
 ·obtain⟨D,G⟩:=c2;have d:b<F (Ao e f):=p_ s.1;have t:K ((ZU (b+1) (Ao e f)).map Prod.fst=(ZU b (Ao e f)).map Prod.fst++[Ey (Z e b 0)]/\(ZU (b+1) (Ao e f)).map Prod.snd=(ZU b (Ao e f)).map Prod.snd++[Kd (Z f b 0)]):=by rw[Qi d,vm d,map_append,map_append];exact⟨X,X⟩
  have a6:F ((ZU b (Ao e f)).map Prod.fst)<=2097152:=t_;have a8:F ((ZU b (Ao e f)).map Prod.snd)<=2097152:=t_;rcases s.2.1 with⟨_,_,l|⟨o,a9,rfl,a2,l⟩⟩;omega;rcases s.2.2 with⟨_,_,n|⟨a1,b0,rfl,a4,n⟩⟩;omega;have W:=na p (l b D);have a0:=na p (n b G);have S:=F_ b m;have u:=F_ b r;clear l n d;generalize (ZU b (Ao e f)).map Prod.fst=N,(ZU b (Ao e f)).map Prod.snd=R,Z e b 0=j,Z f b 0=q at *;go_upto_if 34 with fail
  go_cut [8] (λh g=>h=ZX ZQ (ZgX j)/\wr=g)
  case first=>by_cases i:1000000000<j<;>(go_wp2;go_meet;exact⟨by simp[ZgX,i]<;>omega,X⟩)
  obtain⟨rfl,rfl⟩:=hcut;go_upto_if 36 with fail
  go_cut [8] (λh g=>h=ZX ZQ (Ey j)/\wr=g)
  case first=>by_cases i:ZgX j< -1000000000<;>(go_wp2;go_meet;exact⟨by simp[ZdC,i]<;>omega,X⟩)
  obtain⟨rfl,rfl⟩:=hcut;go_upto_region 12 with fail;go_cut [46] (λh g=>h=ZR (ZgS q)/\wr=g)
  case first=>
   by_cases i:q<1
   ·go_wp2;go_meet
    exact⟨by simp[ZgS,i],X⟩
   by_cases c:1000<q<;>(go_wp2;go_meet;exact⟨by simp[ZgS,i,c],X⟩)
  obtain⟨rfl,rfl⟩:=hcut;have i:=Y (ZdD q);generalize ZgS q=x at *;go_upto_if 46 with fail
  go_cut [9] (λh g=>h=ZX ZQ (Kd q)/\wr=g)
  case first=>cases x<;>(go_wp2;go_meet;exact⟨by rw[i];rfl,X⟩)
  obtain⟨rfl,rfl⟩:=hcut;generalize Ey j=g,Kd q=y at *;go_wp2_with (at_builtin;refine ap_ [I g] (a.1.q r_) ?_)
  intro a3 a5 h;have A:=(p.alloc a7 _).grown h.2.1 t_ (λw v=>(B_ a.1 w v).1);replace a:=Y ((a.2.1.q r_).g a.2.2 h);have M:=A.size;clear h;go_wp2_with (at_builtin;refine ap_ [I y] (a.2.1.q r_) ?_)
  intro b1 b4 c;have z:=(A.alloc M _).grown c.2.1 t_ (λw v=>(B_ a.2.1 w v).1);replace a:=Y ((a.1.q r_).g a.2.2.s c);clear c;refine J_ ?_;exact⟨b+1,O,O,g_,⟨t.1 ▸ a.2.1,t.2 ▸ a.1,a.2.2.s⟩,z⟩
 go_upto_region 4 with fail;go_cut [26] (λh g=>h=ZR ZZ/\wr=g)
 case first=>
  by_cases d:b<m
  ·have u:=F_ b m;have c:¬b<(r:E):=O;go_wp2;go_meet
   exact⟨u_,X⟩
  have u:¬b<(m:E):=O;go_wp2;go_meet
  exact⟨u_,X⟩
 obtain⟨rfl,rfl⟩:=hcut;rw[aI (p_ s.1)] at a;have y:K (∀t∈Ao e f,_):=λt c4=>(Jm c4).1;have b9:F (Ao e f)<=2097152:=p_ s.1;clear s;have⟨d,W⟩:=ez_ (Ao e f);rw[W] at a y b9
 rename ZT=>wr1
 go_wp2_with fail
 go_loopw [10,11] (λh o g=>∃c,o=ZX ZQ (Bv c)/\K (Kb d c/\Ai g (B k.1) h (Bo 0 c)/\Ad g (B k.1) u5 (d.map Prod.fst)/\Ad g (B k.1) u6 (d.map Prod.snd))/\E_ k g) (λh _ _=>F d-lenOf h)
 case atStart=>exact⟨[],X,⟨Kb.nil d,Ai.nil _ _,a.1,a.2.1⟩,p⟩
 clear a p a7;obtain⟨c,rfl,a,p⟩:=hrel
 rename ZT=>wo
 have d8:=a.1.b y;have c3:=a.1.y;have⟨b5,d0,a9,c0⟩:=a.2.2.1.a;have⟨b6,d1,b0,c1⟩:=a.2.2.2.a;have⟨b4,c9,a8,a2⟩:=a.2.1.a;rw[length_map] at a9 b0;rw[Pw] at a8
 have D:K (∀g a4,(∃h,b5=T ⟨h,0,ZP⟩/\h<B wo.1/\ZV wo (J h g)=T (I d[g].1))/\∃h,b6=T ⟨h,0,ZP⟩/\h<B wo.1/\ZV wo (J h g)=T (I d[g].2)):=λg a4=>w_
 have x:K (∀j,(F c=0/\Ez c j=Z0)∨∃o h A,F c=o+1/\b4=T ⟨h,0,ZP⟩/\h<B wo.1/\ZV wo (J h (o*4))=T (I A)/\Ez c j=ZE (A<j)):=λj=>by
  rcases Zd3 (M:=c) (x:=j) with i|⟨l,t,o,q⟩
  exact ZM i;have⟨h,n,a1,v⟩:=a2 (Bo 0 l) ⟨t.1,Bv l,Bv l+t.2,t.2⟩ (by rw[o,pd]);exact ZJ ⟨F l,h,t.1,by rw[o];simp,n,a1,by rw[Pw] at v;exact v,q⟩
 clear c0 c1 a2;subst a9 b0 a8;have⟨b1,G⟩:=ez_ (F c);rw[G] at x a c3 ⊢;go_wp2_with fail
 go_loopw [12,13,14,15] (λq o l h u=>∃(z:ZG) (n i:E) (g:H),q=ZR z/\o=ZX ZQ n/\l=ZX ZQ i/\h=ZX ZQ g/\g<=F d/\K (Kx d c g z n i)/\E_ wo u) (λ_ _ _ h _=>F d-ZL (ZA h))
 case atStart=>exact⟨ZZ,0,0,0,X,X,X,X,v_,Kx.h d c,y_⟩
 obtain⟨z,n,i,g,rfl,rfl,rfl,rfl,a4,u,l⟩:=hrel;have e1:=u.b y
 by_cases N:g<F d
 ·obtain⟨⟨c6,rfl,d6,M⟩,c7,rfl,d7,R⟩:=D g N;have a3:=x d[g].1;have a6:=u.i N;have e2:=y _ (Qf N);have c8:=F_ g (F d);have S:=na l M;have a0:=na l R;clear D u x;generalize d[g].2=q,d[g].1=j at *;generalize Ez c j=b7 at *;go_upto_region 24 with fail;go_cut [16] (λh wy=>h=ZR b7/\E_ wr wy)
  case first=>
   clear a6
   rcases a3 with⟨a5,rfl⟩|⟨o,h,A,rfl,rfl,a1,v,w⟩
   ·have b8:=aF a5;subst a5;go_big_quiet (fail);go_wp2;go_meet
    exact⟨X,below_drewN y_ _⟩
   have d2:=na l v;replace w:=Y w;clear v;have b8:((o:E)+1==0)=_:=aO O;have d3:o<(o:E)+1:=O;have d4:0<=(o:E):=O;have d5:o+1-1=(o:E):=O;go_big_quiet (fail);go_wp2;go_meet
   exact⟨by rw[w],below_drewN y_ _⟩
  obtain⟨rfl,v⟩:=hcut
  rename ZT=>wy
  have w:=bt_ l v;have a5:=na v S;have b8:=na v a0;clear S a0 v l a3 M R
  rcases a6 with⟨rfl,⟨rfl,h⟩|⟨rfl,⟨o,h⟩|⟨o,h⟩⟩⟩|⟨rfl,a1,⟨rfl,h⟩|⟨rfl,⟨o,h⟩|⟨A,⟨o,h⟩|⟨o,h⟩⟩⟩⟩
  all_goals
   go_wp2_with fail
   go_roundw;case rel=>exact⟨_,_,_,g+1,X,X,g_,g_,O,h,w⟩
   case measure=>exact z_
 obtain rfl:g=F d:=O;have M:=bt_ p l;have a6:=Int.lt_irrefl (F d);clear D x
 cases z
 ·have⟨o,h⟩:=Y_ (a.1.h u) (a.2.1.q l);go_wp2;go_ret;exact⟨_,X,c,W ▸ o,h,M⟩
 have o:=Y (a.1.P u);have R:K (F (Bo 0 c)=b1):=(by show _=_;rw[Pw];exact G);have b7:F (Bo 0 c)<=2097152:=(by rw[R];omega);replace a:=x3_ (a.2.1.q l) (a.2.2.1.q l) (a.2.2.2.q l);have a1:=M.size;go_wp2_with (at_builtin;refine ap_ [I n,I (Bv c),I (Bv c+i),I i] (a.1.alloc _) ?_)
 intro a3 a5 h;have q:=a.1.alloc (O_ #[I n,I (Bv c),I (Bv c+i),I i] 98);have S:=x3_ (Ai.P h.1 (x:=⟨n,Bv c,Bv c+i,i⟩)) (Ad.kept (ra_ a.2.1 _) h.2.1 (ev q (ra_ a.2.1 _))) (Ad.kept (ra_ a.2.2 _) h.2.1 (ev q (ra_ a.2.2 _)));rw[<- pd c (n,i)] at S
 have a0:K (Bv (c++[(n,i)])=Bv c+i):=show _=_ by rw[Tx];simp[Bv]
 have A:=(M.alloc a1 _).grown h.2.1 t_ (λw v=>(a.1.lt w v).1);obtain⟨b8,v,rfl⟩:=h.2.2.2.2;have w:b1+1<=F d:=(by have:=o.y;rw[Qe,G] at this;exact this);clear h q;go_wp2;go_roundw;case rel=>exact⟨c++[(n,i)],by rw[a0]<;>go_num,⟨o,S⟩,A⟩
 case measure=>
  have:=R.out;simp[lenOf];omega
def Og(b:U E)(c a:H):ZY:=if a<F b then I (Z b a 0) else if a<c then I (-7-a) else I 0
def ZbC{i:ZT}{e b a f d}(h:f=Y6 (b+8) (I 0))(g:d=a.map (ZX ZQ))(c:F a=b)(j:i.1[e]? =T (O_ (splice f 0 d).toArray 3)):i.rowIs e 3 (b+8) (Og a b):=by
 refine⟨_,j,?_,λl k=>?_⟩;simp[splice,h,g,c];subst h g c;have c:F (List.map (ZX ZQ) a)=F a:=s_;unfold Og splice
 grind
def ig{p a k h b}(t:Ck b (T p) a h)(a0:a<=2097152):C_ 112 #[V (T p) a k] b λi c=>i=ZI (ZH (T ⟨B b.1,0,ZP⟩) a (a+8))/\c.rowIs (B b.1) 3 (a+8) (Og h (a+8))/\E_ b c:=by
 have⟨a3,a4,a5,a6,a7⟩:=info_parts Zkv;have j:=Y t;clear t;have a1:∀d:_,(binOp _ _ _ _).run _ d=.ok (ZR ZZ) d:=λd=>run_eql_slice_nil d 25 3 (T p) a k 0 0 underlying25;obtain⟨f,l⟩:∃f:U ZY,f=Y6 (a+8) (I 0):=⟨_,X⟩;obtain⟨g,q⟩:∃g:U ZY,g=h.map (ZX ZQ):=⟨_,X⟩;have W:∀d:ZT,(Instr.makeSlice 25 (I (a+8)) (I (a+8))).run Y8 d=.ok (L_ (B d.1) (a+8) (a+8)) (ZN d (O_ f.toArray 3)):=by intro d;have:=run_make_row' (P:=Y8) 25 3 (I 0) 8 underlying25 Zkv X ZQ ZQ (a+8) O O d;rw[show((a+8:H):E)=(a:E)+8 by omega] at this;rw[this,l];congr 3;apply Array.ext;simp[YV];intro c v w;simp[YV,mod_one]
 have⟨y,n⟩:=Y_ l q;have N:F f=a+8:=(by rw[l];simp);have r:F g=a:=(by rw[q];simp[j.out.1]);clear l q;have M:(prog.info? 3).map (·.size)=T 1:=w_
 have s:K (∀d:ZT,E_ b d->0<F g->∃o,T p=T o/\∀e c,g[e]? =T c->ZV d (o.add e)=T c):=λd A u=>by
  refine⟨p,X,λe c x=>?_⟩;obtain⟨v,_,w|⟨m,o,i,L,D⟩⟩:=j.out;omega;simp at i;subst i;have z:((J m o):Addr).add e=(J m (o+e)):=(by unfold Addr.add;split<;>simp_all);have G:e<a:=w_;rw[z,A.cell (p:=(J m (o+e))) L,D e G,<- x,n]
  grind
 obtain⟨m,P,D,L⟩:∃m:ZT,(Builtin.copy_ #[25,25] 3 #[L_ (B b.1) (a+8) (a+8),V (T p) a k]).run Y8 (ZN b (O_ f.toArray 3))=.ok (I a) m/\K (m.rowIs (B b.1) 3 (a+8) (Og h a))/\E_ b m:=by
  have v:Below _ b (ZN b (O_ f.toArray 3)):=r_;have w:(ZN b (O_ f.toArray 3)).1[_]? =_:=ha_ b _
  have z:∀e c,g[e]? =T c->ZV (ZN b (O_ f.toArray 3)) (p.add e)=T c:=λe c x=>by
   have u:0<F g:=w_;have⟨o,i,G⟩:=s _ v u
   grind
  have o:=run_copy_row (P:=Y8) _ 25 25 3 3 _ 0 (a+8) (a+8) p a k _ 3 g underlying25 M w w_ z t_ (by rw[n];intro c i;simp at i;obtain⟨_,_,rfl⟩:=i;rfl);refine⟨_,by rw[o,r];rfl,?_,below_setRow v x_ _⟩;apply ZbC y n j.1;have:=setRow_heap (ZN b (O_ f.toArray 3)) (B b.1) f.toArray (ZU 0 (Y4 f.toArray)++g++ZF (0+F g) (Y4 f.toArray)).toArray 3 (0,0) w;rw[r] at this;rw[this];simp[splice,r]
 clear s;refine dl_ ?_;go_enter func112,ntmps112;go_wp2_with fail
 go_loopw [4] (λe i=>∃c:H,a<=c/\c<=a+8/\e=ZX ZQ c/\K (i.rowIs (B b.1) 3 (a+8) (Og h c))/\E_ b i) (λe _=>a+8-ZL (ZA e))
 case atStart=>grind
 obtain⟨c,R,S,rfl,i,o⟩:=hrel
 by_cases w:c<a+8
 ·have z:0<=(c:E):=O;have G:c<(a:E)+8:=O;have v:=i.cell w;have Q:=i.frozen c
  have x:K ((ZO wr (J (B b.1) c) (I (-7-c))).rowIs (B b.1) 3 (a+8) (Og h (c+1))):=(i.set c _).congr (λe _=>by
   have a2:=j.1
   grind [Og])
  have e:Below _ b (ZO wr (J (B b.1) c) (I (-7-(c:_)))):=o.setCell x_ _;generalize Og h c c=a2 at v;go_wp2
  grind [ZA]
 have e:c=a+8:=O;subst e;go_wp2;go_ret;exact⟨X,i,o⟩
def Rp(b:U E)(c a:H):ZY:=if a<c then I (-9) else Og b (F b+8) a
def eb{k b o c d g}(p:Ck g (T k) b d)(Q:b<=2097152)(y:g.rowIs c 3 (b+8) (Og d (b+8)))(S:0<b->k.block≠c):C_ 113 #[L_ c b (b+8),V (T k) b o] g λf a=>f=ZI (ZR Z0)/\Y3 g a (T c):=by
 have j:=Y p;have r:K (g.rowIs c 3 (b+8) (Rp d 0)):=(by have f:=p.1.s;subst f;exact y);have R:∀e:_,(binOp _ _ _ _).run _ e=.ok (ZR ZZ) e:=λe=>run_eql_slice_nil e 25 3 (T k) b o 0 0 underlying25;refine q_ ?_;go_wp2_with fail
 go_loopw [6,7] (λl h i=>∃a:H,a<=b+8/\l=ZR Z0/\h=ZX ZQ a/\K (i.rowIs c 3 (b+8) (Rp d a))/\K (Y3 g i (T c))) (λ_ h _=>b+8-ZL (ZA h))
 exact⟨0,v_,X,X,r,grownBy.refl _ _⟩;obtain⟨a,P,rfl,rfl,h,i⟩:=hrel;have x:=h.lt
 by_cases w:a<b+8
 ·have A:0<=(a:E):=O;have D:a<(b:E)+8:=O;have m:=h.cell w;have N:=h.frozen a;have n:K (∀e:ZT,e.rowIs c 3 (b+8) (Rp d a)->(ZO e (J c a) (I (-9))).rowIs c 3 (b+8) (Rp d (a+1))):=λe t=>(t.set a _).congr (λl _=>by grind [Rp])
  by_cases q:a<b
  ·have l:Rp d a a=I (Z d a 0):=(by unfold Rp Og;rw[aC O,aD (j.1 ▸ q)]);rw[l] at m;obtain⟨G,_,L|⟨z,W,f,M,u⟩⟩:=j.out;omega;simp at f;subst f;have v:=i.cell (u a q) w_;have s:a<(b:E):=O;generalize (Z d) a 0=a0 at m v;go_wp2_with fail
   go_big_quiet (fail);refine J_ ?_;exact⟨a+1,O,X,g_,n _ (h.of_block ((below_drewN y_ _).block c x)),Aq (Hi i (Lc (below_drewN y_ _))) _⟩
  have l:Rp d a a=I (-7-a):=(by unfold Rp Og;rw[aC O,aC (p_ j.1),aD (p_ j.1)]);rw[l] at m;have s:¬a<(b:E):=O;go_wp2_with fail
  go_roundw;exact⟨a+1,O,X,g_,n _ h,Aq i _⟩;exact z_
 have l:a=b+8:=O;subst l;go_wp2;go_ret;exact⟨X,i⟩
def Vz{P b} i z A {j k d g} n f h y {c m a}(x:P.underlying i=T (.slice j))(u:P.info? j=T k)(q:H_ b d c m)(s:F a=Nat.min h g*k.size)(v:∀l e,a[l]? =T e->ZV b (f.add l)=T e)(p:F a<=B c)(o:∀e∈a,e.oneCell'=Z0):(Builtin.copy_ #[i,z] A #[L_ d g n,V (T f) h y]).run P b=.ok (goInt (Nat.min h g)) (b.setRow d (ZU 0 (Y4 c)++a++ZF (0+F a) (Y4 c)).toArray):=by have r:=run_loadCells_list (P:=P) b f _ v;have w:=run_storeCells_at P d 0 m _ 0 _ b q (by simpa using p) o;have t:=s.s;simp[Builtin.copy_,run_underlying x,Builtin.lenOf,Builtin.firstCells,sizeOf,typeInfo,u,t,r,w]
def Oz(c b:H):U Cd:=(range b).map λa=>⟨-7-(c+a:H),0,0,0⟩
def Hj(a:U Cd)(b:H):U Cd:=(a++Oz (F a) b)++Y6 (8-b) e0
theorem Mr a {b}(c:b<=8):F (Hj a b)=F a+8:=by simp[Hj,Oz];omega
def ZkD{b a}(c:a<8):Hj b a=(b++Oz (F b) a)++e0::Y6 (8-(a+1)) e0:=by unfold Hj;rw[show 8-a=8-(a+1)+1 by omega,replicate_succ]
def Zek{b a}(_:a<8):Hj b (a+1)=(b++Oz (F b) a)++⟨-7-(F b+a:H),0,0,0⟩::Y6 (8-(a+1)) e0:=by unfold Hj Oz;rw[range_succ];simp
theorem ZdS{j g b d}(h:Ln j g b d):∀a i,(flat d)[a]? =T i->ZV j (((J g b):Addr).add a)=T i:=by
 intro a i l;have k:((J g b):Addr).add a=(J g (b+a)):=(by unfold Addr.add;split<;>simp_all);have m:a<F d*4:=(by grind [Cg]);have e:a/4<F d:=O;have f:=Zbl d _ (a%4) e O;rw[show a/4*4+a%4=a by omega,l] at f;rw[k]
 rcases(show a%4=0∨a%4=1∨a%4=2∨a%4=3 by omega) with c|c|c|c
 rw[show b+a=b+a/4*4 by omega,h.v _ e,f,c];rfl;rw[show b+a=b+a/4*4+1 by omega,h.t _ e,f,c];rfl;rw[show b+a=b+a/4*4+2 by omega,h.h _ e,f,c];rfl;rw[show b+a=b+a/4*4+3 by omega,h.g _ e,f,c];rfl
def ic{h b l c}(u:Cj c (T h) b)(W:F b<=2097152):C_ 118 #[V (T h) (F b) l] c λj a=>j=ZI (ZH (T ⟨B c.1,0,ZP⟩) (F b) (F b+8))/\Ai a (B c.1) (L_ (B c.1) (F b+8) (F b+8)) (Hj b 8)/\E_ c a:=by
 have⟨b3,R,b1,a2,b2⟩:=info_parts bq;have a1:∀f:_,(binOp _ _ _ _).run _ f=.ok (ZR ZZ) f:=λf=>run_eql_slice_nil f 29 _ (T h) (F b) l 0 0 underlying29;have⟨a,g⟩:=W_ (F b);have a0:∀f:ZT,(Instr.makeSlice 29 (I (a+8)) (I (a+8))).run Y8 f=.ok (L_ (B f.1) (a+8) (a+8)) (ZN f (O_ (YV #[I 0,I 0,I 0,I 0] ((a+8)*4)) 98)):=λ_=>mk_ 4;have⟨e,m⟩:=W_ (YV #[I 0,I 0,I 0,I 0] ((a+8)*4));rw[<- m] at a0;have x:B e=(a+8)*4:=m ▸ (size_madeCells _ _);have w:Y4 e=flat (Y6 (a+8) e0):=m ▸ (ve)
 obtain⟨p,a6,G,Q⟩:∃p:ZT,(Builtin.copy_ #[29,29] 3 #[L_ (B c.1) (a+8) (a+8),V (T h) a l]).run Y8 (ZN c (O_ e 98))=.ok (I a) p/\K (Ai p (B c.1) (L_ (B c.1) (a+8) (a+8)) (Hj b 0))/\E_ c p:=by
  have k:Below _ c (ZN c (O_ e 98)):=r_;have n:(ZN c (O_ e 98)).1[_]? =_:=ha_ c _;have o:Nat.min a (a+8)=a:=Nat.min_eq_left O
  have s:∀d i,(flat b)[d]? =T i->ZV (ZN c (O_ e 98)) (h.add d)=T i:=λd i v=>by
   obtain⟨_,r|⟨q,y,j,t⟩⟩:=u.q k
   ·grind [Cg]
   grind [ZdS]
  have q:=Vz (P:=Y8) 29 29 3 (a+8) h a l underlying29 R n (by rw[o,a2,Cg,g]) s (by rw[Cg,x];omega) (Vt b);rw[o] at q;refine⟨_,q,?_,below_setRow k x_ _⟩;have j:=setRow_heap _ _ _ (ZU 0 (Y4 e)++flat b++ZF (0+F (flat b)) (Y4 e)).toArray _ _ n;have r:ZU 0 (Y4 e)++flat b++ZF (0+F (flat b)) (Y4 e)=flat (Hj b 0):=(by rw[w,take_zero,nil_append,Nat.zero_add,Cg,<- g,<- replicate_append_replicate,Cb,drop_left' (by rw[Cg];simp)];simp[Hj,Oz,Cb]);rw[r] at j ⊢;refine⟨by rw[Cg],ZJ ⟨B c.1,a+8,_,by rw[Mr b O,g],x_,j,by grind [Mr],by unfold Y2;omega,?_,?_⟩⟩;simp[Cg,Mr,g];exact aI (by simp[Cg])
 have b0:=Q.size;have a7:=(B_ G (B c.1) X).2;have s:=Y g;rw[<- g] at a1 ⊢;have a9:a<=2097152:=O;clear g w x W u m;refine q_ ?_;go_wp2_with fail
 go_loopw [4] (λi j=>∃d:H,d<=8/\i=ZX ZQ ((a:E)+(d:E))/\K (Ai j (B c.1) (ZH (T ⟨B c.1,0,ZP⟩) (a+8) (a+8)) (Hj b d))/\E_ c j) (λi _=>a+8-ZL (ZA i))
 grind
 obtain⟨d,a8,rfl,t,v⟩:=hrel
 by_cases y:d<8
 ·have⟨i,r⟩:=W_ (a+d);have S:a+d=(i:E):=O;have o:=t.out;have n:F (Hj b d)=a+8:=(by rw[Mr b (show d<=8 by omega),s]);rw[ZkD y] at o n;have q:F (b++Oz (F b) d)=i:=w_;have⟨L,M,N,P,a5⟩:=o.at n.s q;have⟨D,k,j⟩:=y3_ o n.s q
  have z:K (Hj b _=_++(⟨_-(i:_),0,0,0⟩:_)::_):=show _=_ by rw[Zek y,r,s]
  simp only[e0] at L M N P;have a3:0<=(i:E):=O;have a4:i<(a:E)+8:=O;have A:=Y r;clear o n q r;rw[S];go_wp2;go_roundw
  case rel=>
   refine⟨d+1,O,w_,?_,?_⟩;rw[z];exact((((D.b k s_ (Ul j)).b (k.T s_) s_ (Mn j _)).b (k.T s_) s_ (Mo j _)).b (k.T s_) s_ (Mp j _));exact((((v.setCell x_ _).setCell x_ _).setCell x_ _).setCell x_ _)
  have:=A.out;simp[ZA];omega
 have i:d=8:=O;subst i;go_wp2;go_ret;exact⟨X,t,v⟩
def m9:Cd:=⟨-9,0,0,0⟩
def Pc(b:U Cd)(a:H):U Cd:=Y6 a m9++ZF a (Hj b 8)
def Zfj a {b}(c:b<=F a+8):F (Pc a b)=F a+8:=by grind [Pc,Mr]
def ZkE b {a}(c:a<F b+8):Z (Hj b 8) a e0=if a<F b then Z b a e0 else⟨-7-a,0,0,0⟩:=by grind [Hj,Oz]
def ZiO a {b}(c:b<F a+8):Pc a b=Y6 b m9++(if b<F a then Z a b e0 else⟨-7-b,0,0,0⟩)::ZF (b+1) (Hj a 8):=by
 have d:b<F (Hj a 8):=(by rw[Mr a O];exact c);unfold Pc;rw[aN d,<- ZkE a c]
 grind
def ZcX b a:Pc b (a+1)=Y6 a m9++m9::ZF (a+1) (Hj b 8):=by unfold Pc;rw[replicate_succ'];simp
def dz{r b v j t k}(A:Cj k (T r) b)(Q:F b<=2097152)(D:Ai k t (L_ j (F b+8) (F b+8)) (Hj b 8))(R:0<F b->r.block≠j):C_ 119 #[L_ j (F b) (F b+8),V (T r) (F b) v] k λq a=>q=ZI (ZR Z0)/\Y3 k a (T j):=by
 have M:=Y A;have⟨c,o⟩:=W_ (F b);have i:=Y o
 have L:K (Ai k t (L_ j (c+8) (c+8)) (Pc b 0)):=by rw[o];simpa [Pc,Hid] using D
 rw[<- o];rw[<- o] at Q R;clear A D o;have a9:∀p:_,(binOp _ _ _ _).run _ p=.ok (ZR ZZ) p:=λp=>run_eql_slice_nil p 29 _ (T r) c v 0 0 underlying29;refine q_ ?_;go_wp2_with fail
 go_loopw [6,7] (λf d e=>∃a:H,a<=c+8/\f=ZR Z0/\d=ZX ZQ a/\K (Ai e t (ZH (T ⟨j,0,ZP⟩) (c+8) (c+8)) (Pc b a))/\K (Y3 k e (T j))) (λ_ d _=>c+8-ZL (ZA d))
 exact⟨0,v_,X,X,L,grownBy.refl _ _⟩;obtain⟨a,a7,rfl,rfl,G,h⟩:=hrel
 by_cases a6:a<c+8
 ·have W:0<=(a:E):=O;have a0:a<(c:E)+8:=O;have f:=G.out;have e:F (Pc b a)=c+8:=(by rw[Zfj b (p_ i.out),i]);rw[ZiO b (p_ i.out)] at f e;have m:F (Y6 a m9)=a:=s_;have u:K (_=_++(⟨_,0,0,0⟩:Cd)::_):=ZcX b a;have g:=Y m
  by_cases a8:a<c
  ·rw[aD (p_ i.out)] at f e;have⟨w,x,y,z,P⟩:=f.at e.s m;have⟨s,d⟩:=Y_ f e.s;obtain⟨_,a5|⟨S,b0,q,l⟩⟩:=M;have:=i.out;omega;simp at q;subst q;have n:a<F b:=p_ i.out;have a1:=h.cell (l.v a n) w_;have a2:=h.cell (l.t a n) w_;have a3:=h.cell (l.h a n) w_;have a4:=h.cell (l.g a n) w_;have N:a<(c:E):=O;clear l f e m n;generalize (Z b) a e0=b1 at *;go_wp2_with fail
   go_big_quiet (fail);go_wp2;go_roundw
   case rel=>
    refine⟨a+1,O,X,g_,?_,?_⟩;rw[u];exact(((((s.q (below_drewN y_ _)).b d s_ (Ul g)).b (d.T s_) s_ (Mn g _)).b (d.T s_) s_ (Mo g _)).b (d.T s_) s_ (Mp g _));exact Aq (Aq (Aq (Aq (Hi h (Lc (below_drewN y_ _))) _) _) _) _
   exact z_
  rw[aC (p_ i.out)] at f e;have⟨w,x,y,z,P⟩:=f.at e.s m;have⟨s,d⟩:=Y_ f e.s;have N:¬a<(c:E):=O;clear f e m;simp only at w x y z;go_wp2_with fail
  go_roundw
  case rel=>
   refine⟨a+1,O,X,g_,?_,?_⟩;rw[u];exact((((s.b d s_ (Ul g)).b (d.T s_) s_ (Mn g _)).b (d.T s_) s_ (Mo g _)).b (d.T s_) s_ (Mp g _));exact Aq (Aq (Aq (Aq h _) _) _) _
  exact z_
 have d:a=c+8:=O;subst d;go_wp2;go_ret;exact⟨X,h⟩
def Zn4 a:(binOp .eql 25 (N_) (N_)).run Y8 a=.ok (ZR Z0) a:=run_eql_slice_nil a 25 3 ZP 0 0 0 0 underlying25
def Zn5 a:(binOp .eql 29 (N_) (N_)).run Y8 a=.ok (ZR Z0) a:=run_eql_slice_nil a 29 98 ZP 0 0 0 0 underlying29
def ii{a}:C_ 112 #[N_] a (V_ (ZH ZP 0 0) a):=by have b:=Zn4;refine er_ ?_;exact⟨X,X⟩
def ec{b a}:C_ 113 #[b,N_] a (V_ (ZR Z0) a):=by have c:=Zn4;refine er_ ?_;exact⟨X,X⟩
def ie{a}:C_ 118 #[N_] a (V_ (ZH ZP 0 0) a):=by have b:=Zn5;refine er_ ?_;exact⟨X,X⟩
def ea{b a}:C_ 119 #[b,N_] a (V_ (ZR Z0) a):=by have c:=Zn5;refine er_ ?_;exact⟨X,X⟩
end Go.Proofs.YtfcgnpchbcmdeaaGreat
