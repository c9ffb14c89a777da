import Derived.Test.YtfcgnpchbcmdeaaGreatZsaj
open Go.World renaming alloc->ZN,grownBy->Y3,cell?->ZV,drewN->Y1,setCell->ZO,ownsRow->ZD,frozen?->YT
open List renaming length->F,take->ZU,getD->Z,drop->ZF
open _root_ renaming rfl->X,Int->E,List->U,Nat->H,ByteArray->ZC,Bool->ZG
open Array renaming size->B
open Option renaming some->T,none->ZP
open Go.Value renaming ownBlock->ZW,int->ZX,bool->ZR,tuple->Y5,string->YW,slice->ZH
open Go.Proofs.Tryz renaming prog->Y8
open Go renaming maxLen->Y2,Value->ZY,World->ZT,strOfNums->ZB
open Go.IntKind renaming i64->ZQ
open Go.Ending renaming returned->ZI
open Int renaming toNat->ZL
open Or renaming inl->ZM,inr->ZJ
open ByteArray renaming size->ZK
open Decidable renaming decide->ZE
open Bool renaming false->ZZ,true->Z0
namespace Go.Proofs.YtfcgnpchbcmdeaaGreat
set_option linter.all false
set_option maxRecDepth 100000
set_option maxHeartbeats 8000000
open Go.RowKit List Nat Go.World Go.Proofs.Tryz Go.Value Go.IntKind Go.Lib Go.Region
def Ad.alloc{w a c d}(e:Ad w a c d) b:Ad (ZN w b) a c d:=ra_ e b
def By{a p q f e l}(w:f.guard=ZP) i x (z:f.op=.call {callee:=.builtin .append,args:=#[i,x],argTypes:=#[25,25]}) g b k j (D:e.eval i=b)(A:Ad a g b k) n m (G:e.eval x=L_ n 1 m)(v:D_ a n 0 (I j))(Q:F k<=1000000000)(u:g<=B a.1)(r:∀c d,K (Ad d g c (k++[j])/\Y3 a d (ZW b)/\(ZW c=ZW b∨ZW c=T (B a.1)/\E_ a d))->wpList Y8 p l q (e.put f.dst c) d):wpList Y8 p l (f::q) e a:=by
 obtain⟨P,y,L,M,N⟩:=info_parts Zkv;refine Dl w i x 25 z _ 3 P _ 1 8 underlying25 y L M N X C b _ _ D A _ 1 m [I j] G X ?_ ?_ C (by unfold Y2;omega) O u ?_
 ·intro o s h
  cases o with
  |zero=>simp at h;subst h;simpa [Addr.add] using v
  |succ o=>simp at h
 intro s h;simp at h;subst h;rfl;intro c d h;obtain⟨o,s,t,_,_⟩:=h;exact r _ _ ⟨Ad.P o,s,t⟩
def Bz(a c b:E):E:=a*b/c
def Fu(b a:E):E->U Cd->U E
 |_,[]=>[]
 |e,c::d=>if e<=Bz a b c.h then c.v::Fu b a (Bz a b c.h+1) d else Fu b a e d
def Bm(a:U Cd)(b:E):U E:=
 if F a=0 then[] else if F a<=b then(ZU (F a-1) a).map (λc=>c.v) else Fu (Ae a) b 1 (ZU (F a-1) a)
def Zhb{a:U Cd}{b c}(d:b<c)(e:c<=F a):ZF b (ZU c a)=Z a b e0::ZF (b+1) (ZU c a):=by grind [drop_eq_getElem_cons]
def wi{b a c}(g:0<=b)(h:b<=16)(d:0<=c)(i:c<=a)(j:1<=a):0<=Bz b a c/\Bz b a c<=16:=by
 unfold Bz;have e:=Int.mul_nonneg g d;have f:=Int.mul_le_mul h i d O;constructor;exact Int.ediv_nonneg e O;have:=Int.ediv_le_ediv (show 0<a by omega) f
 rwa [Int.mul_ediv_cancel _ O] at this
def Zn{b a c} i (g:0<=c)(h:c<=16)(d:0<=b)(k:b<=a)(l:1<=a)(q:a<=1000000000000):C_ 317 #[I b,I a,I c] i (V_ (ZX ZQ (Bz c a b)) i):=by
 have j:=Int.mul_nonneg g d;have n:_*b<=_*1000000000000:=Int.mul_le_mul h O d O;have f:=wi g h d k l;have m:a≠0:=O;have r:=aO m
 have e:K (Bz _ a _=(_*b).tdiv _):=show _=_ by unfold Bz;rw[Int.tdiv_eq_ediv_of_nonneg j]
 unfold Hid at e;rw[e] at f ⊢;obtain⟨o,p⟩:=f;refine dl_ ?_;go_enter func317,ntmps317;go_wp2;go_ret;exact⟨X,X⟩
def Zdx{g h b o i e}(w:Ln e g h b)(z:F b<=o)(x:F b≠0)(A:F b<=4194304)(p:(F b:E)<=i):C_ 273 #[V (T (J g h)) (F b) o,I i] e λc d=>∃a,c=ZI a/\Ad d (B e.1) a (Bm b i)/\E_ e d:=by
 have s:K (Bm b _=_):=show _=_ by unfold Bm;rw[aC x,aD p]
 have t:=Y w;obtain⟨d,r⟩:∃d,F b=d+1:=⟨F b-1,O⟩;have n:=Y r;rw[r] at z A p ⊢;have a2:(((d:E)+1)==0)=_:=aO O;have a0:d+1<=i:=O;refine q_ ?_;go_wp2_with fail
 go_loopw [28,6] (λk j f=>∃a:H,k=I a/\a<=d/\K (Ad f (B e.1) j ((ZU a b).map (λc=>c.v)))/\E_ e f) (m4_ d)
 exact⟨0,X,v_,Ad.nil,y_⟩;obtain⟨a,rfl,q,l,f⟩:=hrel
 by_cases a1:a<d
 ·have k:=t.out;have j:a<F b:=p_ n
  obtain⟨P,Q,R,S⟩:D_ wr g (h+a*4) (I (Z b a e0).v)/\D_ wr g (h+a*4+1) (I (Z b a e0).t)/\D_ wr g (h+a*4+2) (I (Z b a e0).h)/\D_ wr g (h+a*4+3) (I (Z b a e0).g):=
   ⟨T_ f (k.v a j),T_ f (k.t a j),T_ f (k.h a j),T_ f (k.g a j)⟩
  have v:K ((ZU _ b).map (λc=>c.v)=(ZU a b).map (λc=>c.v)++[(Z b a e0).v]):=show _=_ by rw[Rm j];simp
  have u:K (F ((ZU a b).map (λc=>c.v))=a):=w_;generalize (ZU a b).map (λc=>c.v)=L,Z b a e0=N at *;have W:=F_ a d;have G:=f.size;have D:F L<=1000000000:=(by rw[u];omega);go_wp2_with (at_builtin;refine By X (.tmp 32) _ X _ _ _ N.v X ((l.alloc _).alloc _) _ 1 X ?_ D ?_ ?_)
  ·simp[go_sem]
  simp;omega;intro a5 M m;have y:E_ e M:=(by obtain⟨a3,c,a4⟩:=m.out;exact f.T (((y_.alloc G _).alloc t_ _).grown c t_ (λa q=>(l.lt a q).1)));have c:=Y m.1;refine J_ ?_;exact⟨a+1,g_,O,v ▸ c,y⟩
 have j:¬a<(d:E):=O
 have c:K (Ad wr (B e.1) u6 (Bm b i)):=show Ad _ _ _ _ by rw[s,n];have:a=d:=O;subst this;exact l
 go_wp2;go_ret;exact⟨_,X,c,f⟩
def ZaV{n o b M d h}(w:Ln h n o b)(q:Bc b)(a7:F b<=M)(a9:F b<=4194304)(c0:2<=d)(N:d<=16)(R:d<(F b:E)):C_ 273 #[V (T (J n o)) (F b) M,I d] h λv c=>∃a,v=ZI a/\Ad c (B h.1) a (Bm b d)/\E_ h c:=by
 have x:F b≠0:=O;have a3:=Y w;have a4:=Y q;obtain⟨c,s⟩:∃c,F b=c+1:=⟨F b-1,O⟩;have D:=Y s
 have a2:K (Bm b d=Fu _ _ 1 (ZU c b)):=show _=_ by unfold Bm;rw[aC x,aC O,s];rfl
 have y:Ae b=(Z b c e0).h:=(by unfold Ae;rw[aC x,s];rfl);have L:=w.h c O;rw[<- y] at L;have a0:1<=Ae b:=(by have:=q.at (show c<F b by omega);rw[y];omega);have b2:=(Dk q).2;have a5:K (∀a,a<_->_):=λa t=>Nq q t;rw[s] at a7 a9 R ⊢;have c2:(((c:E)+1)==0)=_:=aO O;have c1:¬c+1<=d:=O;clear w q x s R y;generalize Ae b=a1 at *;refine q_ ?_;go_wp2_with fail
 go_loopw [48,6,10] (λe g i f=>∃(a:H) (k:E) (j:U E),e=I a/\i=I k/\1<=k/\k<=17/\a<=c/\F j<=a/\K (Ad f (B h.1) g j)/\K (j++Fu a1 d k (ZF a (ZU c b))=Bm b d)/\E_ h f) (λe _ _ _=>c-ZL (intOf e))
 exact⟨0,1,[],X,X,C,C,v_,x_,Ad.nil,by show _=_;rw[a2];rfl,y_⟩;clear L;obtain⟨a,k,j,rfl,rfl,c4,c5,t,c3,p,e,f⟩:=hrel
 by_cases a8:a<c
 ·have r:=a3.out;have i:a<F b:=by rw[D];omega
  obtain⟨b5,b6,b7,b8⟩:D_ wr n (o+a*4) (I (Z b a e0).v)/\D_ wr n (o+a*4+1) (I (Z b a e0).t)/\D_ wr n (o+a*4+2) (I (Z b a e0).h)/\D_ wr n (o+a*4+3) (I (Z b a e0).g):=
   ⟨T_ f (r.v a i),T_ f (r.t a i),T_ f (r.h a i),T_ f (r.g a i)⟩
  have z:0<=(Z b a e0).h:=p_ (a4.at i);have A:=a5 a i;have Q:=Zhb a8 (by rw[D];omega);have g:=e.out;rw[Q] at g;clear Q e;generalize (Z b) a e0=l at *;have b1:=wi (show 0<=d by omega) N z A a0;obtain⟨c8,c9⟩:=b1;have b9:=F_ a c;have S:=f.size;have b0:F j<=1000000000:=O;simp only[Fu] at g;have G:=Y (λm=>Zn m O N z A a0 b2);generalize Bz d a1 l.h=W at *;clear r i z A
  by_cases P:k<=W
  ·rw[aD P] at g;have e:=Y g;clear g;go_wp2_with fail
   apply (G _).m;rintro v b3 ⟨rfl,rfl⟩;go_wp2_with (at_builtin;refine By X (.tmp 60) _ X _ _ _ l.v X ((p.alloc _).alloc _) _ 1 X ?_ b0 ?_ ?_)
   ·simp[go_sem]
   simp;omega;intro d0 b4 u;have a6:E_ h b4:=(by obtain⟨c6,m,c7⟩:=u.out;exact f.T (((y_.alloc S _).alloc t_ _).grown m t_ (λa t=>(p.lt a t).1)));have m:=Y u.1;clear u;go_wp2;go_roundw;exact⟨a+1,W+1,j++[l.v],g_,g_,O,O,O,t_,m,by show _=_;rw[append_assoc];exact e,a6⟩;exact z_
  rw[aC P] at g;have e:=Y g;clear g;go_wp2_with fail
  apply (G _).m;rintro v b3 ⟨rfl,rfl⟩;have m:=p.alloc (O_ #[I l.v,I l.t,I l.h,I l.g] 98);have u:=Y m;clear m;go_wp2;go_roundw;exact⟨a+1,k,j,g_,X,O,O,O,O,u,e,f.T (y_.alloc S _)⟩;exact z_
 have g:¬a<(c:E):=O
 have m:K (Ad wr (B h.1) u6 (Bm b d)):=show Ad _ _ _ _ by have:=e.out;rw[drop_eq_nil_of_le t_] at this;simp only[Fu,append_nil] at this;rw[<- this];exact p
 clear p e;go_wp2;go_ret;exact⟨_,X,m,f⟩
def Zdw{f a g b d}(l:Cj d f a)(k:Bc a)(i:F a<=g)(m:2<=b)(n:b<=16):C_ 273 #[V f (F a) g,I b] d λh e=>∃c,h=ZI c/\Ad e (B d.1) c (Bm a b)/\E_ d e:=by
 obtain⟨j,c|⟨o,p,rfl,h⟩⟩:=l;have e:Bm a b=[]:=(by unfold Bm;rw[aD c]);rw[e,c];refine er_ ?_;exact⟨_,X,Ad.nil,y_⟩
 by_cases c:F a=0
 have e:Bm a b=[]:=(by unfold Bm;rw[aD c]);rw[e,c];refine er_ ?_;exact⟨_,X,Ad.nil,y_⟩
 by_cases e:(F a:E)<=b
 exact Zdx h i c j e;exact ZaV h k i j m n O
end Go.Proofs.YtfcgnpchbcmdeaaGreat
namespace Go.Proofs.YtfcgnpchbcmdeaaGreat
open List Nat Go.World Go.Proofs.Tryz Go.Value Go.IntKind Go.Lib Go.Region
set_option linter.all false
set_option maxRecDepth 100000
set_option maxHeartbeats 8000000
def mu(a:E×E):U (E×E)->U (E×E)
 |[]=>[a]
 |b::c=>if a.1<b.1 then a::b::c else if a.1=b.1 then(b.1,b.2+a.2)::c else b::mu a c
def gf:U (E×E)->U (E×E)
  |[]=>[]
  |a::b=>mu a (gf b)
def bt c:∀d a,(∃b∈mu c d,b.1=a)↔(c.1=a∨∃b∈d,b.1=a)
 |[],a=>by simp[mu]
 | b::f,a=>by
  simp only[mu];split;simp;split;rename_i e;simp[e];have e:=bt c f a
  grind
def us{a}:∀d,d.Pairwise (λa b=>a.1<b.1)->(mu a d).Pairwise λa b=>a.1<b.1
 |[],_=>by simp[mu]
 | b::e,c=>by
  rw[pairwise_cons] at c;simp only[mu];split
  ·grind [pairwise_cons]
  split;rw[pairwise_cons];exact c;rename_i i j;rw[pairwise_cons];refine⟨λf h=>?_,us e c.2⟩
  rcases(bt a e f.1).1 ⟨f,h,X⟩ with g|⟨l,k,g⟩
  omega
  grind
def Zf4{c}:∀d,d.Pairwise (λc a=>c.1<a.1)->∀a∈mu c d,(a.1≠c.1->a∈d)/\(a.1=c.1->(∃b,(a.1,b)∈d/\a.2=b+c.2)∨(a.2=c.2/\∀b∈d,b.1≠a.1))
 |[],_,a,b=>by grind [mu]
 | k::f,e,a,b=>by
  rw[pairwise_cons] at e;simp only[mu] at b;split at b
  ·grind
  split at b
  ·grind
  rename_i g h
  rcases mem_cons.1 b with rfl|b
  ·grind
  obtain⟨i,j⟩:=Zf4 f e.2 a b
  grind
def Tw:∀n:U (E×E),Ej n (gf n)
  |[]=>Ej.nil
  | m ::i=>by
    have d:=Tw i;have k:=bt m (gf i);refine⟨us _ d.f,λa c=>?_,λa c=>?_,λa c=>?_⟩
    · rcases(k a.1).1 ⟨a,c,X⟩ with b|⟨f,e,b⟩
      · grind
      obtain⟨q,l,g⟩:=d.e f e
      grind
    · rcases mem_cons.1 c with rfl|c
      obtain⟨j,h,b⟩:=(k a.1).2 (ZM X);exact⟨j,h,b⟩;obtain⟨f,e,b⟩:=d.all a c;obtain⟨j,h,g⟩:=(k a.1).2 (ZJ ⟨f,e,b⟩);exact⟨j,h,g⟩
    obtain⟨o,p⟩:=Zf4 (gf i) d.f a c;simp only[Qj]
    by_cases b:a.1=m.1
    · rw[aD b.s]
      rcases p b with⟨q,l,g⟩|⟨g,t⟩
      · have:=d.g _ l
        grind
      have:Qj i a.1=0:=qt (λf e s=>by
        obtain⟨j,h,r⟩:=d.all f e
        grind)
      omega
    rw[aC (λe=>b e.s),d.g a (o b)];omega
def ZcK{a b}(c:Ej a b):gf a=b:=(Tw a).a c
def Ko(a b:U E):U Cd:=Bo 0 (gf (Ao a b))
def Fc a b:Ae (Bf a b)=Ae a+Ae b:=by grind [fo,Bf,Mq,Ae]
def Gn{a} b:Ae (Ep a b)=Ae a:=by grind [Ep,Ae]
theorem uu{L} b:∀a,F (Fd L b a)<=a+1
 |0=>by simp[Fd]
 | a+1=>by
  have:=uu (L:=L) b a
  grind [Fd]
def Jh a {size}(b:2<=size):F (Ep a size)<=size:=by grind [Ep,uu]
def Av(d:E):U (U Cd)->U Cd->U (U Cd)
 |[],a=>[a]
 |b::c,a=>if F b=0 then a::c else[]::Av d c (Ep (Bf b a) d)
def Aw:U (U Cd)->E
  |[]=>0
  |a::b=>Ae a+Aw b
structure Gt(b:U (U Cd)):Prop where
 j:∀a∈b,Bc a
 y:∀a∈b,F a<=32
def Gb:∀{Ls:U (U Cd)},(∀a∈Ls,Bc a)->0<=Aw Ls
  |[],_=>by simp[Aw]
  |a::d,b=>by have:=(Dk (b a s_)).1;have:=Gb (Ls:=d) (λa c=>b a (by simp[c]));simp only[Aw];omega
def Gt.nil:Gt []:=⟨s_,s_⟩
def Va{size}(k:2<=size)(p:size<=32):∀{d b},Gt d->Bc b->F b<=32->Aw d+Ae b<=1000000000000->Gt (Av size d b)/\Aw (Av size d b)=Aw d+Ae b
 |[],b,f,e,i,l=>by refine⟨⟨?_,?_⟩,?_⟩;simp[Av,e];simp[Av,i];simp[Av,Aw]
 | h ::q,b,f,e,i,l=>by
  have o:=f.j h s_;have g:Gt q:=⟨λc a=>f.j c (by simp[a]),λc a=>f.y c (by simp[a])⟩;have t:=Gb g.j;have u:=(Dk e).1;simp only[Aw] at l;simp only[Av];split
  ·rename_i j;refine⟨⟨λc a=>?_,λc a=>?_⟩,?_⟩
   ·rcases mem_cons.1 a with rfl|a
    exact e;exact g.j c a
   ·rcases mem_cons.1 a with rfl|a
    exact i;exact g.y c a
   grind [Ae,Aw]
  have j:=Fy o e O;have n:=j.e (Ge j size);have v:Ae (Ep (Bf h b) size)=Ae h+Ae b:=(by rw[Gn,Fc]);have s:=Jh (Bf h b) k;obtain⟨m,r⟩:=Va k p g n O O;refine⟨⟨λc a=>?_,λc a=>?_⟩,?_⟩
  ·rcases mem_cons.1 a with rfl|a
   exact Bc.nil;exact m.j c a
  ·rcases mem_cons.1 a with rfl|a
   simp;exact m.y c a
  grind [Ae,Aw]
def qh b:∀c a,F (Av b c a)<=F c+1
 |[],a=>by simp[Av]
 | d::e,a=>by
  have:=qh b e (Ep (Bf d a) b)
  grind [Av]
def Dv(a:H):H->U (U Cd)->U E->U E->U (U Cd)
 |0,b,_,_=>b
 |e+1,b,c,d=>if F c=0 then b else Dv a e (Av a b (Ko (ZU a c) (ZU a d))) (ZF a c) (ZF a d)
def Fw(b:E):U Cd->U (U Cd)->U Cd
 |a,[]=>a
 |a,c::d=>Fw b (Ep (Bf a c) b) d
def Dw(a:H)(b c:U E):U Cd:=Fw a [] (Dv a (F b) [] b c)
end Go.Proofs.YtfcgnpchbcmdeaaGreat
namespace Go.Proofs.YtfcgnpchbcmdeaaGreat
set_option linter.all false
set_option maxRecDepth 100000
set_option maxHeartbeats 8000000
open Go.RowKit List Nat Go.World Go.Proofs.Tryz Go.Value Go.IntKind Go.Lib Go.Region
def Fl(e:ZT)(c:H)(a:ZC)(b:H)(f:E)(d:ZY):Prop:=e.1[c]? =T (O_ #[Q_ a,I b,I f,d] 283)
def Eh(a:ZC)(b:H):E:=if c:b<ZK a then(a[b]'c).toNat else -1
theorem aq{a c} b:Eh a c=(a[c]'b).toNat:=dif_pos b
theorem Uf{a b}(c:¬b<a.size):Eh a b= -1:=dif_neg c
def Fl.q{f w' d a c g e}(b:Fl f d a c g e)(h:E_ f w'):Fl w' d a c g e:=(h.block _ (Qb b).1).T b
def Fl.cells{b a d e g f}(c:Fl b a d e g f):ZV b (J a 0)=T (Q_ d)/\ZV b (J a 1)=T (I e)/\ZV b (J a 2)=T (I g)/\ZV b (J a 3)=T f:=
 ⟨M_ 0 _ 283 (0,0) c,M_ 1 _ 283 (0,0) c,M_ 2 _ 283 (0,0) c,M_ 3 _ 283 (0,0) c⟩
def Bp(a:ZC)(c:H)(d b:E):ZG:=ZE (d=0/\Eh a c=b)
def Ji(a:ZC)(b:H)(c:E):ZG:=ZE (c=0/\48<=Eh a b/\Eh a b<=57)
def Yx(a:ZC)(b:H)(c:E):ZG:=ZE (c=0/\97<=Eh a b/\Eh a b<=122)
def Fk{i} a b e c {k} h (j:Fl h i b a e k)(q:0<=c):C_ 324 #[P_ i,ZX .u8 c] h λd g=>d=ZI (ZR (Bp b a e c))/\∃f,g=Y1 h f:=by
 have⟨n,o,p,_⟩:=j.cells
 by_cases g:e=0
 ·subst g
  by_cases f:a<ZK b
  ·have l:0<=(a:E):=O;have m:a<(ZK b:E):=O;have d:K (Bp b a 0 c=ZE ((b[a]'f).toNat=c)):=(by show _=_;unfold Bp;rw[aq f];simp);refine q_ ?_;go_wp2_with fail
   go_quiet (fail);go_wp2;go_ret;exact⟨by rw[d];rfl,_,X⟩
  have l:ZE ((a:_)<(ZK b:E))=_:=aE O;have d:K (Bp b a 0 c=ZZ):=(by show _=_;unfold Bp;rw[Uf f];simp;omega);refine q_ ?_;go_wp2_with fail
  go_quiet (fail);go_wp2;go_ret;exact⟨by rw[d];rfl,_,X⟩
 have d:K (Bp b a e c=ZZ):=(by show _=_;unfold Bp;simp[g]);have f:=aO g;refine q_ ?_;go_wp2_with fail
 go_quiet (fail);go_wp2;go_ret;exact⟨by rw[d];rfl,_,X⟩
def Rk{j a} b e {l h}(k:Fl h j b a e l):C_ 326 #[P_ j] h λc f=>c=ZI (ZR (Ji b a e))/\∃d,f=Y1 h d:=by
 have⟨o,p,q,_⟩:=k.cells
 by_cases g:e=0
 ·subst g
  by_cases d:a<ZK b
  ·have m:0<=(a:E):=O;have n:a<(ZK b:E):=O;have c:K (Ji b a 0=(ZE (48<=((b[a]'d).toNat:E))&&ZE (((b[a]'d).toNat:E)<=57))):=by show _=_;unfold Ji;rw[aq d];simp
   by_cases i:48<=((b[a]'d).toNat:E)
   ·have f:=aF i;refine q_ ?_;go_wp2_with fail
    go_quiet (fail);go_wp2;go_ret;exact⟨by rw[c,f];rfl,_,X⟩
   have f:=aE i;refine q_ ?_;go_wp2_with fail
   go_quiet (fail);go_wp2;go_ret;exact⟨by rw[c,f];rfl,_,X⟩
  have f:ZE ((a:_)<(ZK b:E))=_:=aE O;have c:K (Ji b a 0=ZZ):=(by show _=_;unfold Ji;rw[Uf d];rfl);refine q_ ?_;go_wp2_with fail
  go_quiet (fail);go_wp2;go_ret;exact⟨by rw[c];rfl,_,X⟩
 have c:K (Ji b a e=ZZ):=(by show _=_;unfold Ji;simp[g]);have d:=aO g;refine q_ ?_;go_wp2_with fail
 go_quiet (fail);go_wp2;go_ret;exact⟨by rw[c];rfl,_,X⟩
def gg{j a} b e {l h}(k:Fl h j b a e l):C_ 345 #[P_ j] h λc f=>c=ZI (ZR (Yx b a e))/\∃d,f=Y1 h d:=by
 have⟨o,p,q,_⟩:=k.cells
 by_cases g:e=0
 ·subst g
  by_cases d:a<ZK b
  ·have m:0<=(a:E):=O;have n:a<(ZK b:E):=O;have c:K (Yx b a 0=(ZE (97<=((b[a]'d).toNat:E))&&ZE (((b[a]'d).toNat:E)<=122))):=by show _=_;unfold Yx;rw[aq d];simp
   by_cases i:97<=((b[a]'d).toNat:E)
   ·have f:=aF i;refine q_ ?_;go_wp2_with fail
    go_quiet (fail);go_wp2;go_ret;exact⟨by rw[c,f];rfl,_,X⟩
   have f:=aE i;refine q_ ?_;go_wp2_with fail
   go_quiet (fail);go_wp2;go_ret;exact⟨by rw[c,f];rfl,_,X⟩
  have f:ZE ((a:_)<(ZK b:E))=_:=aE O;have c:K (Yx b a 0=ZZ):=(by show _=_;unfold Yx;rw[Uf d];rfl);refine q_ ?_;go_wp2_with fail
  go_quiet (fail);go_wp2;go_ret;exact⟨by rw[c];rfl,_,X⟩
 have c:K (Yx b a e=ZZ):=(by show _=_;unfold Yx;simp[g]);have d:=aO g;refine q_ ?_;go_wp2_with fail
 go_quiet (fail);go_wp2;go_ret;exact⟨by rw[c];rfl,_,X⟩
def wrg(a:E):E:=if a=0 then 2 else a
def Fl.put{b a S k g e}(f:Fl b a S k g e) d:Fl (ZO b (J a 2) (I d)) a S k d e/\Aa (λc=>c=a) b (ZO b (J a 2) (I d)):=
 ⟨hs_ _ a 2 _ 283 _ f,(Aa.refl (λc=>c=a) _).setCell (p:=(J a 2)) (λ_=>X) _⟩
def Fl.k{b a e i g f}(h:Fl b a e i g f) d:Fl (ZO b (J a 1) (I (d:H))) a e d g f/\Aa (λc=>c=a) b (ZO b (J a 1) (I d)):=
 ⟨hs_ _ a 1 _ 283 _ h,(Aa.refl (λc=>c=a) _).setCell (p:=(J a 1)) (λ_=>X) _⟩
def No c h g a i f (b:Fl f c g h a i):C_ 325 #[P_ c] f λe d=>e=ZI (Y5 #[])/\Fl d c g h (wrg a) i/\Aa (λj=>j=c) f d:=by
 have⟨k,l,m,_⟩:=b.cells;have n:=R_ 2 _ _ b
 by_cases e:a=0
 ·subst e;have d:=b.put 2;have j:=Y d;refine q_ ?_;go_wp2;go_end0;exact⟨X,j⟩
 have o:=aO e;have d:K (wrg a=a):=aC e;have j:=Y b;refine q_ ?_;go_wp2;go_end0;exact⟨X,by rw[d];exact j,Aa.refl _ _⟩
def Fl.drew{e c a b f d}(g:Fl e c a b f d) h:Fl (Y1 e h) c a b f d:=by unfold Fl;rw[heap_drewN];exact g
def Pa(b:ZC)(a:H)(d c:E):H:=if Bp b a d c=Z0 then a+1 else a
def Pt(b:ZC)(d:H)(a c:E):E:=if Bp b d a c=Z0 then a else wrg a
def Hq{a c d b}(f:0<=b)(e:Bp a c d b=Z0):c<ZK a:=by grind [Bp,Uf]
def yn{a b d}(e:Ji a b d=Z0):∃c:b<ZK a,d=0/\48<=((a[b]'c).toNat:E)/\((a[b]'c).toNat:E)<=57/\Eh a b=(a[b]'c).toNat:=by grind [Ji,aq,Uf]
def Aa.drewN{K b c}(a:Aa K b c) d:Aa K b (Y1 c d):=⟨a.os,a.tape,a.output,a.size,a.block⟩
def ed g a b c d l i (k:Fl i g b a c l)(o:0<=d)(x:ZK b<=1000000000000000):C_ 286 #[P_ g,ZX .u8 d] i λj e=>j=ZI (Y5 #[])/\Fl e g b (Pa b a c d) (Pt b a c d) l/\Aa (λf=>f=g) i e:=by
 have m:=Fk a b c d i k o;refine q_ ?_;go_wp2_with fail
 apply m.m;rintro j s ⟨rfl,q,p⟩;have e:K (Fl s g b a c l/\Aa (λf=>f=g) i s):=p ▸ ⟨k.drew q,(Aa.refl _ _).drewN q⟩;clear k m p
 cases f:Bp b a c d with
 | true=>
  have h:K (Pa b a c d=_/\Pt b a c d=c):=⟨aD f,aD f⟩;have w:=Hq o f;have⟨t,u,_⟩:=e.1.cells;have v:=R_ 1 _ _ e.1;clear f;go_wp2;go_end0;rw[h.1,h.2,show(a:E)+1=((a+1:H):E) by omega];have⟨n,r⟩:=e.1.k (a+1);exact⟨X,n,e.2.T r⟩
 | false=>
  have h:K (Pa b a c d=a/\Pt b a c d=_):=⟨aC (by rw[f];decide),aC (by rw[f];decide)⟩;clear f;go_wp2_with fail
  apply (No _ a b c _ _ e.1).m;rintro j u ⟨rfl,n,r⟩;have t:=K_ n (e.2.T r);clear n r e;go_wp2;apply bodyPost_ret (results_none X _ _ _) X;rw[h.1,h.2];exact⟨X,t⟩
def Py(d:ZC)(e:E)(f:ZG):H->H->E->H->E×H×H
 |0,b,c,a=>(c,b,a)
 |g+1,b,c,a=>if Ji d a e=Z0/\¬(f=Z0/\b=1) then Py d e f g (b+1) (10*c+(Eh d a-48)) (a+1) else(c,b,a)
def Oh(d:ZC)(b:H)(a:E)(e:H)(f:ZG):E×H×H×E:=
 if Bp d b a 48=Z0/\f=ZZ then(0,0,b,wrg a)
 else let c:=Py d a (Bp d b a 48) e 0 0 b;(c.1,c.2.1,c.2.2,if c.2.1=0 then wrg a else a)
def gh {h:H} (d c:H) b a k {t n} (m:Fl n h b d a t) (c0:c<=5) (b8:ZK b<=1000000000000000):C_ 285 #[P_ h,I c,ZR k] n λi e=>i=ZI (Y5 #[ZX ZQ (Oh b d a c k).1,ZX ZQ (Oh b d a c k).2.1])/\Fl e h b (Oh b d a c k).2.2.1 (Oh b d a c k).2.2.2 t/\Aa (λl=>l=h) n e:=by
  have a0:=Fk d b a 48 n m C;have⟨x,L⟩:=ez_ (Oh b d a c k);rw[L];refine q_ ?_;go_wp2_with fail
  apply a0.m;rintro i a4 ⟨rfl,f,a3⟩;have w:K (Fl a4 h b d a t/\Aa (λl=>l=h) n a4):=a3 ▸ ⟨m.drew f,(Aa.refl _ _).drewN f⟩;clear m a0 a3;generalize z:Bp b d a 48=o
  by_cases R:o=Z0/\k=ZZ
  · obtain⟨rfl,rfl⟩:=R;have v:K (x=(0,0,d,wrg a)):=(by show _=_;rw[<- L];exact aD ⟨z,X⟩);clear z;go_wp2_with fail
    apply (No _ d b a _ _ w.1).m;rintro i N ⟨rfl,l,D⟩;have P:=K_ l (w.2.T D);clear l D w;go_wp2;go_ret2
    rw[v];exact⟨X,P⟩
  have v:K (x=((Py b a o c 0 0 d).1,(Py b a o c 0 0 d).2.1,(Py b a o c 0 0 d).2.2,if(Py b a o c 0 0 d).2.1=0 then wrg a else a)):=(by show _=_;rw[<- L,<- z];exact aC (z ▸ R));have a7:(o&&!k)=ZZ:=w_;clear z R L;have⟨u,S⟩:=Z_ o;rw[S] at v;have a1:=Y S;clear S
  cases o<;>cases k<;>first|grind|skip
  all_goals
    clear a7;go_wp2_with fail
    go_loopw [10,9] (λp q g=>∃(j e:H) (f:E),p=I j/\q=I f/\j<=c/\0<=f/\f<10^j/\e<=d+j/\K (Py b a u c 0 0 d=Py b a u (c-j) j f e)/\K (Fl g h b e a t/\Aa (λl=>l=h) n g)) (m4_ c)
    exact⟨0,d,0,X,X,v_,O,C,O,X,w⟩;clear w;obtain⟨j,e,f,rfl,rfl,b7,c1,c2,b9,G,g⟩:=hrel
    by_cases Q:j<c/\Ji b e a=Z0/\¬(u=Z0/\j=1)
    · obtain⟨M,r,s⟩:=Q;have⟨a5,c5,b5,b6,P⟩:=yn r;have D:K (Py b a u c 0 0 d=Py b a u (c-(j+1)) (j+1) (10*f+(Eh b e-48)) (e+1)):=(by show _=_;rw[G,show c-j=(c-(j+1))+1 by omega,Py,aD ⟨r,s⟩]);have q:=Rk b a g.1;rw[r] at q;have a2:j<(c:E):=O;have b1:=F_ e (ZK b);have a8:(10:E)^(j+1)=_:=Int.pow_succ _ _
      have c3:(10:E)^j<=100000:=by
        have:j=0∨j=1∨j=2∨j=3∨j=4∨j=5:=O
        grind
      rw[P] at D;have W:K (_->((j:E)==1)=_):=λi=>aO (λm=>s ⟨i,O⟩);clear G r s P;go_wp2_with fail
      apply q.m;rintro i N ⟨rfl,y,A⟩;have p:K (Fl N h b e a t/\Aa (λl=>l=h) n N):=A ▸ ⟨g.1.drew y,g.2.drewN y⟩;clear g q A;try have a6:=W.out a1.s
      clear W;have⟨b2,b3,_⟩:=p.1.cells;have b4:=R_ 1 _ _ p.1;generalize c4:((b[e]'a5).toNat:E)=l at *;have c6:IntKind.u8.wrap (l-48)=l-48:=(by simp[wrap,IntKind.bits,signed];omega);have c7:_=l-48:=Au O O;have c8:_=10*f:=Au O O;have c9:_=10*f+(l-48):=Au O O;go_upto_region 10 with fail;go_quiet (fail);go_wp2;go_roundw
      case rel=>
        have⟨a9,b0⟩:=(p.1.drew nq).k (e+1);exact⟨j+1,e+1,10*f+(l-48),g_,X,O,O,p_ a8,O,D,a9,(p.2.drewN _).T b0⟩
      exact z_
    have W:K (Py b a u c 0 0 d=(f,j,e)):=by
      show _=_;rw[G]
      by_cases M:j<c
      rw[show c-j=(c-(j+1))+1 by omega,Py,aC (λm=>Q ⟨M,m⟩)];rw[show c-j=0 by omega,Py]
    have a8:K (x=(f,j,e,if j=0 then wrg a else a)):=(by show _=_;rw[v,W]);clear G W v
    by_cases M:j<c
    have a2:j<(c:E):=O;have q:=Rk b a g.1;go_wp2_with fail
    apply q.m;rintro i wr ⟨rfl,y,A⟩;have p:K (Fl wr h b e a t/\Aa (λl=>l=h) n wr):=A ▸ ⟨g.1.drew y,g.2.drewN y⟩;clear g q A;have g:=p;clear p
    cases r:Ji b e a
    rotate_left
    have s:=Decidable.byContradiction λm=>Q ⟨M,r,m⟩;have a6:((j:E)==1)=_:=beq_iff_eq.2 O;have a5:=Y s.1;clear s
    rotate_left
    have a2:¬j<(c:E):=O
    all_goals
      first|exact absurd (a1.T a5) C|skip
      go_wp2_with fail
      all_goals first
        | have i:=beq_iff_eq.1 ‹((j:Int)==0)=true›
          have N:K (x=(f,j,e,wrg a)):=w_;clear i;apply (No _ _ b a _ _ g.1).m;rintro i a9 ⟨rfl,l,D⟩;have P:=K_ l (g.2.T D);clear l D g;go_wp2;go_ret2
          rw[N];exact⟨X,P⟩
        | have i:=beq_eq_false_iff_ne.1 ‹((j:Int)==0)=false›
          have N:K (x=(f,j,e,a)):=w_;go_ret2
          rw[N];exact⟨X,g⟩
def Ym(c:ZC)(e:E):H->E->H->E×H×H
 |0,b,a=>(b,0,a)
 |d+1,b,a=>if Ji c a e=Z0 then Ym c e d (10*b+(Eh c a-48)) (a+1) else(b,d+1,a)
def ptF(c:ZC)(b:H)(a:E)(e:H)(f:E):E×H×H×E:=
 if Bp c b a 46=Z0/\0<e then
  let g:=if Ji c (b+1) a=Z0 then a else wrg a
  let d:=Ym c g e f (b+1)
  (d.1,d.2.1,d.2.2,g)
 else(f,e,b,a)
def jk(b:ZC)(d:H)(f:E)(g:H):E×H×E:=
 let e:=Bp b d f 45
 let c:=Oh b (if e=Z0 then d+1 else d) f 5 Z0
 let a:=ptF b c.2.2.1 c.2.2.2 g c.1
 (if e=Z0 then -(a.1*10^a.2.1) else a.1*10^a.2.1,a.2.2.1,a.2.2.2)
def ZjU{a c d}(b:Ji a c d=Z0):=(of_decide_eq_true b).2
def Zgj e g h:∀b a c d,0<=c->c<10^a->0<=(Py e g h b a c d).1/\(Py e g h b a c d).1<10^(b+a)
 |0,a,c,d,f,i=>by simpa [Py] using ⟨f,i⟩
 | b +1,a,c,d,f,i=>by
  unfold Py;split
  ·rename_i j;have:=ZjU j.1;have:=Zgj e g h b (a+1) (10*c+(Eh e d-48)) (d+1) O O
   grind
  refine⟨f,?_⟩
  have j:(10:E)^a<=10^(b+1+a):=by
   have:=Nat.pow_le_pow_right (show 0<10 by omega) (show a<=b+1+a by omega)
   grind
  omega
def Zni a b c:0<=(Oh a b c 5 Z0).1/\(Oh a b c 5 Z0).1<100000:=by unfold Oh;rw[aC s_];exact Zgj a c _ 5 0 0 b O C
def Zao{d:H}(k:H){c:H} b q {p n}(b4:Fl n d b k q p)(e3:c<=3)(d2:ZK b<=1000000000000000):C_ 328 #[P_ d,I c] n λv a=>v=ZI (ZX ZQ (jk b k q c).1)/\Fl a d b (jk b k q c).2.1 (jk b k q c).2.2 p/\Aa (λh=>h=d) n a:=by
 have G:=Fk k b q 45 n b4 C;have⟨c7,b0⟩:=ez_ (jk b k q c);rw[b0];refine q_ ?_;go_wp2_with fail
 apply G.m;rintro v c4 ⟨rfl,m,j⟩;have x:K (Fl c4 d b k q p/\Aa (λh=>h=d) n c4):=j ▸ ⟨b4.drew m,(Aa.refl _ _).drewN m⟩;clear b4 G j m;have⟨a8,a1⟩:=ez_ (Bp b k q 45);rw[a1];obtain⟨P,a0⟩:∃P,K (P=if a8=Z0 then k+1 else k):=⟨_,X⟩;go_upto_if 14 with fail
 go_cut [] (λa=>K (Fl a d b P q p/\Aa (λh=>h=d) n a))
 case first=>
  cases a8 with
  | true=>
   have d0:=Hq C a1;have⟨b1,b2,_⟩:=x.1.cells;have b3:=R_ 1 _ _ x.1;have a:K (_=k+1):=a0.out;go_wp2;go_meet
   have⟨Q,R⟩:=x.1.k (k+1);rw[a];exact⟨Q,x.2.T R⟩
  | false=>
   have a:K (_=k):=a0.out;go_wp2;go_meet
   rw[a];exact x
 clear x;have s:=gh _ 5 b q Z0 hcut.out.1 O d2;have N:=Zni b P q;have⟨c6,a9⟩:=ez_ (Oh b P q 5 Z0);rw[a9] at s N;obtain⟨m,e5,f,o⟩:=c6;simp only at s N;go_wp2_with fail
 apply s.m;rintro v f0 ⟨rfl,c1,c3⟩;have a3:=K_ c1 (hcut.out.2.T c3);clear c1 c3 hcut s;have G:=Fk _ b _ 46 _ a3.1 C;go_wp2_with fail
 apply G.m;rintro v y ⟨rfl,r,j⟩;have u:K (Fl y d b f o p/\Aa (λh=>h=d) n y):=j ▸ ⟨a3.1.drew r,a3.2.drewN r⟩;clear a3 G j r;have⟨g,z⟩:=ez_ (ptF b f o c m);have⟨b8,w⟩:=ez_ (Bp b f o 46);rw[w];go_upto_region 7 with fail;go_cut [34] (λe a=>e=ZR (b8&&ZE (0<c))/\a=y)
 case first=>
  cases b8 with
  |false=>go_wp2;go_meet;grind
  |true=>go_wp2;go_meet;grind
 obtain⟨rfl,j⟩:=hcut;obtain rfl:=j.s;clear j;have⟨d8,D⟩:=ez_ ((b8&&ZE (0<c)));rw[D];go_upto_if 34 with fail
 go_cut [8,6] (λl e a=>l=I (g.2.1:H)/\e=I g.1/\K (g.2.1<=c/\0<=g.1/\g.1<10^(8-g.2.1)/\Fl a d b g.2.2.1 g.2.2.2 p/\Aa (λh=>h=d) n a))
 case first=>
  cases d8 with
  | false=>
   have S:K (g=(m,c,f,o)):=by
    show _=_;have M:=D.out;rw[<- z];refine aC λa=>?_;rw[<- w,a.1,aF a.2] at M
    cases M
   go_wp2;go_meet
   rw[S];refine⟨X,X,x_,N.1,?_,u⟩;have:(c:H)=0∨c=1∨c=2∨c=3:=O
   grind
  | true=>
   have M:=D.out;rw[Bool.and_eq_true,decide_eq_true_eq] at M;obtain⟨rfl,d7⟩:=M;have d0:=Hq C w;obtain⟨i,a6⟩:∃i,K (i=if Ji b (f+1) o=Z0 then o else wrg o):=⟨_,X⟩;have S:K (g=((Ym b i c m (f+1)).1,(Ym b i c m (f+1)).2.1,(Ym b i c m (f+1)).2.2,i)):=(by show _=_;rw[<- z,a6];exact aD ⟨w,d7⟩);clear z w D;have⟨b1,b2,c8,_⟩:=u.1.cells;have b3:=R_ 1 _ _ u.1;have a4:K (Fl (ZO y (J d 1) (I (f+1))) d b (f+1) o p/\Aa (λh=>h=d) n (ZO y (J d 1) (I (f+1)))):=(by have⟨Q,R⟩:=u.1.k (f+1);exact⟨Q,u.2.T R⟩);clear u;go_upto_region 9 with fail;generalize (ZO y) (J d 1) (I ((f:E)+1))=f1 at *;clear b1 b2 c8 b3;have A:=Rk b _ a4.1;go_wp2_with fail
   apply A.m;rintro v b9 ⟨rfl,r,j⟩;have L:K (Fl b9 d b (f+1) o p/\Aa (λh=>h=d) n b9):=j ▸ ⟨a4.1.drew r,a4.2.drewN r⟩;clear a4 A j r;have⟨c9,W⟩:=ez_ (Ji b (f+1) o);rw[W];go_upto_if 45 with fail
   go_cut [8,6] (λl e a=>l=I (c:H)/\e=I m/\K (Fl a d b (f+1) i p/\Aa (λh=>h=d) n a))
   case first=>
    cases c9 with
    | true=>
     have a:K (i=o):=(by show _=_;rw[a6];exact aD W);go_wp2;go_meet
     rw[a];exact⟨X,X,L⟩
    | false=>
     have a:K (i=wrg o):=(by show _=_;rw[a6];exact aC (by rw[W];decide));go_wp2_with fail
     apply (No d (f+1) b o p b9 L.1).m;rintro v t ⟨rfl,e,h⟩;have l:=K_ e (L.2.T h);clear e h L;go_wp2;go_meet
     rw[a];exact⟨X,X,l⟩
   obtain⟨rfl,rfl,c0⟩:=hcut;clear L a6 W;go_wp2_with fail
   go_loopw [8,6] (λt Q R=>∃(a l:H) (e:E),t=I a/\Q=I e/\a<=c/\0<=e/\e<10^(8-a)/\K (Ym b i c m (f+1)=Ym b i a e l)/\K (Fl R d b l i p/\Aa (λh=>h=d) n R)) (λt _ _=>ZL (intOf t))
   case atStart=>
    refine⟨c,f+1,m,X,X,x_,N.1,?_,X,c0⟩;have:(c:H)=1∨c=2∨c=3:=O
    rcases this with rfl|rfl|rfl<;>omega
   clear c0;obtain⟨a,l,e,rfl,rfl,d3,d5,b5,t,a2⟩:=hrel
   by_cases d4:0<a
   ·obtain⟨a,rfl⟩:∃b7,a=b7+1:=⟨a-1,O⟩;have e0:0<((a+1:H):E):=O;have A:=Rk b _ a2.1;go_wp2_with fail
    apply A.m;rintro v c5 ⟨rfl,r,j⟩;have a5:K (Fl c5 d b l i p/\Aa (λh=>h=d) n c5):=j ▸ ⟨a2.1.drew r,a2.2.drewN r⟩;clear a2 A j r
    cases a7:Ji b l i with
    | true=>
     have⟨d1,_,e1,e2,c2⟩:=yn a7;have s:K (Ym b i c m (f+1)=Ym b i a (10*e+(Eh b l-48)) (l+1)):=(by show _=_;rw[t,Ym,aD a7]);rw[c2] at s;have d9:=F_ l (ZK b);have b6:(10:E)^(8-a)=10^(8-(a+1))*10:=by rw[show 8-a=(8-(a+1))+1 by omega];omega
     have d6:(10:E)^(8-(a+1))<=10000000:=by
      have:a=0∨a=1∨a=2:=O
      rcases this with rfl|rfl|rfl<;>decide
     have⟨b1,b2,_⟩:=a5.1.cells;have b3:=R_ 1 _ _ a5.1;generalize e4:((b[l]'d1).toNat:E)=h at *;have e6:IntKind.u8.wrap (h-48)=h-48:=(by simp[wrap,IntKind.bits,signed];omega);have e7:_=h-48:=Au O O;have e8:_=10*e:=Au O O;have e9:_=10*e+(h-48):=Au O O;clear t a7 c2;go_upto_region 15 with fail;go_quiet (fail);go_wp2;go_roundw
     case rel=>
      have⟨Q,R⟩:=(a5.1.drew nq).k (l+1);exact⟨a,l+1,10*e+(h-48),g_,X,O,O,p_ b6,s,Q,(a5.2.drewN _).T R⟩
     exact z_
    | false=>
     have h:K (g=(e,a+1,l,i)):=(by show _=_;rw[S,t,Ym,aC (by rw[a7];decide)]);go_wp2;go_meet
     rw[h]
     grind
   have Q:a=0:=O;subst Q;have h:K (g=(e,0,l,i)):=(by show _=_;rw[S,t,Ym]);go_wp2;go_meet
   rw[h]
   grind
 obtain⟨rfl,rfl,i⟩:=hcut;clear u D w N;have⟨M,R,S,_⟩:=i.out;have A:K (c7=(if a8=Z0 then -(g.1*10^g.2.1) else g.1*10^g.2.1,g.2.2.1,g.2.2.2)):=(by show _=_;rw[<- b0];unfold jk;simp only;rw[a1,<- a0,a9];simp only;rw[z]);clear b0 a9 z a1 a0;obtain⟨L,l,a4,a5⟩:=g;simp only at M R S i A;go_wp2_with fail
 go_loopw [8,6] (λt Q h=>∃(a:H) (e:E),t=I a/\Q=I e/\a<=l/\0<=e/\e<10^(8-a)/\K (L*10^l=e*10^a)/\h=wc) (λt _ _=>ZL (intOf t))
 grind
 obtain⟨a,e,rfl,rfl,d3,d5,b5,t,W⟩:=hrel;subst W
 by_cases d4:0<a
 ·obtain⟨a,rfl⟩:∃b7,a=b7+1:=⟨a-1,O⟩;have b6:(10:E)^(8-a)=10^(8-(a+1))*10:=by rw[show 8-a=(8-(a+1))+1 by omega];omega
  have d6:(10:E)^(8-(a+1))<=10000000:=by
   have:a=0∨a=1∨a=2:=O
   grind
  have s:K (L*10^l=10*e*10^a):=w_;clear t;refine J_ ?_;exact⟨a,10*e,g_,X,O,O,p_ b6,s,trivial⟩
 have Q:a=0:=O;subst Q;have a2:e<100000000:=b5;have h:K (L*10^l=e):=w_;clear t b5
 cases a8 with
 | true=>
  go_wp2;go_ret;rw[A,h];exact⟨X,i.2.2.2⟩
 | false=>
  go_wp2;go_ret;rw[A,h];exact⟨X,i.2.2.2⟩
def pu(a:ZC)(b:H):ZG:=Yx a b 0||Bp a b 0 32||Bp a b 0 44||Bp a b 0 10
def ij(c:ZC):H->U E->H->U E×H×E
 |0,b,a=>(b,a,2)
 | d +1,b,a=>
  if Bp c a 0 34=Z0 then
   if Bp c (a+1) 0 34=Z0/\F b≠8 then ij c d (b++[34]) (a+2) else(b,a+1,0)
  else if pu c a=Z0/\F b≠8 then ij c d (b++[Eh c a]) (a+1) else(b,a,2)
def qe b x {a}(c:a=ZB [x]):ZB b++a=ZB (b++[x]):=by rw[c];apply ByteArray.ext;simp[ZB]
def Bi a:ZK (ZB a)=F a:=by simp[ZB,ZK]
def ZfQ{a b}(c:b<a.size):a.extract b (b+1)=strOfNums [Eh a b]:=by rw[aq c];apply ByteArray.ext;rw[ByteArray.data_extract];apply Array.ext;show(a.data.extract b (b+1)).size=1;rw[Array.size_extract];have:a.data.size=a.size:=rfl;omega;intro e f d;have:e=0:=(by simp[strOfNums] at d;omega);subst this;simp[strOfNums];rfl
def jr{a b}(c:pu a b=Z0):b<ZK a:=by grind [pu,Yx,Bp,Uf]
def ZcM{e} n a {l k}(p:Fl k e a n 0 l)(a8:Bp a n 0 34=Z0)(b8:ZK a<=1000000000000000):C_ 344 #[P_ e] k λo b=>o=ZI (YW (ZB (ij a 9 [] (n+1)).1))/\Fl b e a (ij a 9 [] (n+1)).2.1 (ij a 9 [] (n+1)).2.2 l/\Aa (λi=>i=e) k b:=by
 have g:=ed _ n a 0 34 _ k p C b8;have b2:Pa a n 0 _=_:=aD a8;have b3:Pt a n 0 _=0:=aD a8;rw[b2,b3] at g;have⟨x,a5⟩:=ez_ (ij a 9 [] (n+1));rw[a5];clear p b2 b3 a8;refine q_ ?_;go_wp2_with fail
 apply g.m;rintro o c4 ⟨rfl,M,b5⟩;have b1:=K_ M b5;clear M b5 g;go_wp2_with fail
 go_loopw [3] (λc f=>∃(d:U E) (b:H),c=YW (ZB d)/\F d<=8/\K (x=ij a (9-F d) d b)/\K (Fl f e a b 0 l/\Aa (λi=>i=e) k f)) (λc _=>9-(match c with|.string b=>ZK b|_=>0))
 exact⟨[],n+1,X,s_,a5.s,b1⟩;clear b1 a5;obtain⟨d,b,rfl,c3,m,w⟩:=hrel;have⟨D,G,a6,_⟩:=w.1.cells;have g:=Fk _ a 0 34 _ w.1 C;obtain⟨t,b7⟩:∃t,9-F d=t+1:=⟨8-F d,O⟩;rw[b7] at m;go_wp2_with fail
 apply g.m;rintro o N ⟨rfl,f,h⟩;have c:K (Fl N e a b 0 l/\Aa (λi=>i=e) k N):=h ▸ ⟨w.1.drew f,w.2.drewN f⟩;clear w g h f D G a6
 cases q:Bp a b 0 34 with
 | true=>
  have b4:=Hq C q;have⟨D,G,a6,_⟩:=c.1.cells;have a7:=R_ 1 _ _ c.1;have s:K (Fl (ZO N (J e 1) (I (b+1))) e a (b+1) 0 l/\Aa (λi=>i=e) k (ZO N (J e 1) (I (b+1)))):=(by have⟨Q,R⟩:=c.1.k (b+1);exact⟨Q,c.2.T R⟩);clear c;go_upto_region 7 with fail;generalize (ZO N) (J e 1) (I ((b:E)+1))=b0 at *;clear D G a6 a7;have g:=Fk _ a 0 34 _ s.1 C;go_wp2_with fail
  apply g.m;rintro o P ⟨rfl,f,h⟩;have j:K (Fl P e a (b+1) 0 l/\Aa (λi=>i=e) k P):=h ▸ ⟨s.1.drew f,s.2.drewN f⟩;clear s g h f;have a9:=Bi d
  by_cases i:Bp a (b+1) 0 34=Z0/\F d≠8
  ·have r:K (x=ij a t (d++[34]) (b+2)):=(by show _=_;rw[m,ij,aD q,aD i]);have u:=Hq C i.1;rw[i.1];have⟨D,G,_⟩:=j.1.cells;have a7:=R_ 1 _ _ j.1;have v:K (_++(⟨#[34]⟩:ZC)=_):=qe d 34 X;have b9:F d<8:=O;have a4:9-F (d++[34])=t:=(by rw[Qe,length_singleton];omega);clear q i m;go_wp2;go_roundw
   case rel=>
    have⟨Q,R⟩:=j.1.k (b+2);exact⟨d++[34],b+2,by rw[v],t_,a4 ▸ r,Q,j.2.T R⟩
   rw[v];simp[Bi];omega
  have r:K (x=(d,b+1,0)):=(by show _=_;rw[m,ij,aD q,aC i]);clear q
  cases u:Bp a (b+1) 0 34 with
  | true=>
   have h8:((ZK (ZB d):E)==8)=Z0:=beq_iff_eq.2 (by
    have:F d=8:=Decidable.byContradiction λp=>i ⟨u,p⟩
    omega)
   clear u i m;go_wp2;go_ret;rw[r];exact⟨X,j⟩
  | false=>
   clear u i m;go_wp2;go_ret;rw[r];exact⟨X,j⟩
 | false=>
  have g:=gg a 0 c.1;go_wp2_with fail
  apply g.m;rintro o b0 ⟨rfl,f,h⟩;have j:K (Fl b0 e a b 0 l/\Aa (λi=>i=e) k b0):=h ▸ ⟨c.1.drew f,c.2.drewN f⟩;clear g h f c;have⟨y,a0⟩:=ez_ (Yx a b 0);rw[a0];have c:=j;clear j;have g:=Fk _ a 0 32 _ c.1 C;go_wp2_with fail
  apply g.m;rintro o P ⟨rfl,f,h⟩;have j:K (Fl P e a b 0 l/\Aa (λi=>i=e) k P):=h ▸ ⟨c.1.drew f,c.2.drewN f⟩;clear g h f c;have⟨z,a1⟩:=ez_ (Bp a b 0 32);rw[a1];have c:=j;clear j;have g:=Fk _ a 0 44 _ c.1 C;go_wp2_with fail
  apply g.m;rintro o b6 ⟨rfl,f,h⟩;have j:K (Fl b6 e a b 0 l/\Aa (λi=>i=e) k b6):=h ▸ ⟨c.1.drew f,c.2.drewN f⟩;clear g h f c;have⟨A,a2⟩:=ez_ (Bp a b 0 44);rw[a2];have c:=j;clear j;have g:=Fk _ a 0 10 _ c.1 C;go_wp2_with fail
  apply g.m;rintro o W ⟨rfl,f,h⟩;have j:K (Fl W e a b 0 l/\Aa (λi=>i=e) k W):=h ▸ ⟨c.1.drew f,c.2.drewN f⟩;clear g h f c;have⟨L,a3⟩:=ez_ (Bp a b 0 10);rw[a3];have c:=j;clear j;have S:K (pu a b=(y||z||A||L)):=(by show _=_;unfold pu;rw[a0,a1,a2,a3]);have a9:=Bi d;clear a0 a1 a2 a3;obtain⟨s,u⟩:∃s,K (ZE (F d=8)=s):=⟨_,X⟩
  have h8:((ZK (ZB d):E)==8)=s:=by
   rw[<- u,a9]
   by_cases p:F d=8
   rw[aF p];exact beq_iff_eq.2 O;rw[aE p];exact aO O
  go_upto_region 16 with fail;go_cut [72] (λi r=>i=ZR (!(y||z||A||L)||s)/\r=W)
  case first=>
   clear a9
   cases y<;>cases z<;>cases A<;>cases L<;>(go_wp2;go_meet;first|exact⟨X,X⟩|exact⟨by rw[h8];rfl,rfl⟩|exact⟨s_,rfl⟩)
  obtain⟨rfl,h⟩:=hcut;obtain rfl:=h.s;clear h
  by_cases i:pu a b=Z0/\F d≠8
  ·have r:K (x=ij a t (d++[Eh a b]) (b+1)):=(by show _=_;rw[m,ij,aC (by rw[q];decide),aD i]);have b4:=jr i.1;have v:=Y (qe d _ (ZfQ b4));rw[show(!(y||z||A||L)||s)=ZZ by rw[<- S,i.1,<- u,aE i.2];rfl];have⟨D,G,_⟩:=c.1.cells;have a7:=R_ 1 _ _ c.1;have c0:0<=(b:E):=O;have c1:b<=(b:E)+1:=O;have c2:b+1<=(ZK a:E):=O;have a4:9-F (d++[Eh a b])=t:=(by rw[Qe,length_singleton];omega);have b9:F d<8:=O;clear q i m S h8 u;go_upto_region 18 with fail;go_quiet (fail);go_wp2;go_roundw
   case rel=>
    have⟨Q,R⟩:=(c.1.drew nq).k (b+1);exact⟨d++[Eh a _],b+1,by rw[<- v],t_,a4 ▸ r,Q,(c.2.drewN _).T R⟩
   (try simp only[v.out]);(try simp[Bi]);(try omega)
  have r:K (x=(d,b,2)):=by show _=_;rw[m,ij,aC (by rw[q];decide),aC i]
  rw[show(!(y||z||A||L)||s)=Z0 by
   rw[<- S,<- u]
   by_cases M:pu a b=Z0
   rw[aF (Decidable.byContradiction λp=>i ⟨M,p⟩),Bool.or_true]
   rw[Bool.not_eq_true _|>.mp M];rfl]
  clear q i m S h8 u;go_wp2_with fail
  apply (No e b a 0 l W c.1).m;rintro o R ⟨rfl,v,Q⟩;have j:K (Fl _ _ a _ 2 _/\_):=⟨v,c.2.T Q⟩;clear v Q c;go_wp2;go_ret;rw[r];exact⟨X,j⟩
def Nj(c:ZC):H->U E->H->U E×H
 |0,b,a=>(b,a)
 |d+1,b,a=>if Yx c a 0=Z0 then Nj c d (b++[Eh c a]) (a+1) else(b,a)
def iy(a:ZC)(b:H):U E×H×E:=
 if Bp a b 0 34=Z0 then ij a 9 [] (b+1) else((Nj a 8 [] b).1,(Nj a 8 [] b).2,0)
def Zj2{b c a d}(f:a<b.size)(g:c<=a)(e:b.extract c a=strOfNums d):b.extract c (a+1)=strOfNums (d++[Eh b a]):=by rw[<- qe d _ (ZfQ f),<- e,ByteArray.extract_append_extract,Nat.min_eq_left g,Nat.max_eq_right O]
def ZiA{e} b a {p j}(D:Fl j e a b 0 p)(a3:b<=ZK a)(a2:ZK a<=1000000000000000):C_ 327 #[P_ e] j λu c=>u=ZI (YW (ZB (iy a b).1))/\Fl c e a (iy a b).2.1 (iy a b).2.2 p/\Aa (λi=>i=e) j c:=by
 have N:=Fk b a 0 34 j D C;have⟨y,s⟩:=ez_ (iy a b);rw[s];refine q_ ?_;go_wp2_with fail
 apply N.m;rintro u P ⟨rfl,o,n⟩;have k:K (Fl P e a b 0 p/\Aa (λi=>i=e) j P):=n ▸ ⟨D.drew o,(Aa.refl _ _).drewN o⟩;clear D N n o
 cases x:Bp a b 0 34 with
 | true=>
  have c:=ZcM b a k.1 x a2;have v:iy a b=_:=aD x;rw[<- v,s] at c;clear v;go_wp2_with fail
  apply c.m;rintro u G ⟨rfl,d,f⟩;have g:=K_ d (k.2.T f);clear d f k c;go_wp2;go_ret;exact⟨X,g⟩
 | false =>
  have M:K (y=((Nj a 8 [] b).1,(Nj a 8 [] b).2,0)):=(by show _=_;rw[<- s];exact aC (by rw[x];decide));have⟨t,l,z,_⟩:=k.1.cells;clear x s;go_upto_region 5 with fail;clear t l z;go_loopw [5] (λ_ f=>∃(d:U E) (c:H),F d<=8/\K (c=b+F d)/\c<=ZK a/\K (a.extract b c=ZB d)/\K (Nj a 8 [] b=Nj a (8-F d) d c)/\K (Fl f e a c 0 p/\Aa (λi=>i=e) j f)) (λ_ c=>8-(match ZV c (J e 1) with|some (ZX _ o)=>ZL o-b|_=>0))
  exact⟨[],b,s_,X,a3,by show _=_;apply ByteArray.ext;simp[ZB],X,k⟩;clear k;obtain⟨d,c,a7,r,a9,q,f,g⟩:=hrel;have a8:b<=c:=p_ r.out;have⟨t,l,z,_⟩:=g.1.cells
  by_cases a6:F d<8
  ·have W:c-(b:E)<8:=p_ r.out;have L:=gg a 0 g.1;have Q:=Y l;obtain⟨w,a0⟩:∃w,8-F d=w+1:=⟨7-F d,O⟩;rw[a0] at f;go_wp2_with fail
   apply L.m;rintro u G ⟨rfl,A,n⟩;have h:K (Fl G e a c 0 p/\Aa (λi=>i=e) j G):=n ▸ ⟨g.1.drew A,g.2.drewN A⟩;clear g L n A t l z;have⟨t,l,_⟩:=h.1.cells
   cases m:Yx a c 0 with
   | true=>
    have a1:=jr (by unfold pu;rw[m];rfl);have i:K (Nj a 8 [] b=Nj a w (d++[Eh a c]) (c+1)):=(by show _=_;rw[f,Nj,aD m]);have R:=Y (Zj2 a1 O q);have S:8-F (d++[Eh a c])=w:=w_;have a5:=R_ 1 _ _ h.1;clear m f q;go_wp2;go_roundw
    case rel=>
     have⟨v,a4⟩:=h.1.k (c+1);exact⟨d++[Eh a _],c+1,t_,by show _=_;rw[r];simp;omega,O,R,S ▸ i,v,h.2.T a4⟩
    case measure=>
     have v:=(h.1.k (c+1)).1.cells.2.1;rw[show((c:E)+1)=((c+1:H):E) by omega,v,Q.out]
     grind
   | false=>
    have i:K (y=(d,c,0)):=(by show _=_;rw[M,f,Nj,aC (by rw[m];decide)]);have v:0<=(b:E):=O;have R:b<=(c:E):=O;have S:c<=(ZK a:E):=O;clear m f;go_upto_region 9 with fail;go_quiet (fail);go_wp2;go_ret;rw[i,<- q];exact⟨X,h.1.drew _,h.2.drewN _⟩
  have W:¬c-(b:E)<8:=p_ r.out;have i:K (y=(d,c,0)):=(by show _=_;rw[M,f,show 8-F d=0 by omega,Nj]);have v:0<=(b:E):=O;have R:b<=(c:E):=O;have S:c<=(ZK a:E):=O;clear f;go_upto_region 9 with fail;go_quiet (fail);go_wp2;go_ret;rw[i,<- q];exact⟨X,g.1.drew _,g.2.drewN _⟩
def mi{d}:∀(e:U (U ZY)) a,(∀f∈e,F f=d)->a<F e->∀b,b<d->e.flatten[a*d+b]? =(Z e a [])[b]?
 |[],a,_,c=>by simp at c
 |h::i,0,g,_=>λb j=>w_
 |h::i,a+1,g,c=>λb j=>by have k:=g h s_;rw[flatten_cons,getElem?_append_right w_,show(a+1)*d+b-F h=a*d+b by grind];exact mi i a (λf c=>g f (by simp[c])) (by simpa using c) b j
def fi{d}:∀(b:U (U ZY)),(∀a∈b,F a=d)->F b.flatten=F b*d
 |[],_=>s_
 |g::e,c=>by rw[flatten_cons,Qe,fi e (λa f=>c a (by simp[f])),c g s_,length_cons,Nat.add_mul];omega
def Yk{b}:∀(c:U (U ZY)) a,(∀e∈c,F e=b)->a<=F c->(ZU a c).flatten=ZU (a*b) c.flatten
 |[],a,_,d=>s_
 |f::g,0,_,_=>s_
 |f::g,a+1,h,d=>by have i:=h f s_;rw[take_succ_cons,flatten_cons,flatten_cons,Yk g a (λe d=>h e (by simp[d])) (by simpa using d),take_append,aI (l:=f) w_,i,show(a+1)*b-b=a*b by grind]
structure Xr(g:ZT)(c e b:H)(f)(a:U (U ZY)):Prop where
 M:ZD g c e b f (F a) a.flatten
 h:∀d∈a,F d=b
section
variable {w w':ZT} {base ty b:H} {v v':ZY} {a:U (U ZY)}
def Xr.nil{w} base {ty b}:Xr w base ty b (N_) []:=⟨rn_,s_⟩
def Xr.p{K}(c:Xr w base ty b v a)(f:Aa K w w')(e:∀d,ZW v=T d->¬K d):Xr w' base ty b v a:=⟨f.M c.M e,c.h⟩
def Xr.q(c:Xr w base ty b v a)(d:E_ w w'):Xr w' base ty b v a:=c.p (.a (S:=λ_=>False) d) (λ_ _=>id)
def Xr.d(e:Xr w base ty b v a):∃c d,v=ZH c (F a) d:=by
 rcases e.M.2 with⟨rfl,i⟩|⟨h,f,g,rfl,_⟩
 ·grind
 grind
def Xr.at(e:Xr w base ty b v a){i}(m:i<F a):∃d g,v=L_ d (F a) g/\F a<=g/\base<=d/\d<B w.1/\(∀c,YT w (J d c)=ZZ)/\∀c,c<b->∀f,(Z a i [])[c]? =T f->ZV w (J d (i*b+c))=T f:=by
 rcases e.M.2 with⟨_,r⟩|⟨k,j,q,rfl,l,h,n,_⟩
 omega;refine⟨k,j,X,n,l,(Qb h).1,λc=>R_ c _ _ h,λc o f p=>?_⟩;rw[World.ownsRow.cellAt e.M (i*b+c) (gh_ (aK b (show i+1<=F a by omega))),mi a i e.h m c o];exact p
def Xr.P{x}(e:Xr w base ty b v a)(h:ZD w' base ty b v' (F a+1) (a.flatten++x))(g:F x=b):Xr w' base ty b v' (a++[x]):=by
 refine⟨?_,λd f=>?_⟩
 ·grind
 rcases mem_append.1 f with c|c
 exact e.h d c
 grind
def Xr.upto{g r c d}(e:Xr w base ty b (V g r c) a)(f:d<=F a):Xr w base ty b (V g d c) (ZU d a):=by
 have i:∀c∈ZU d a,_:=λc m=>e.h c (aL m);refine⟨⟨fi _ i,?_⟩,i⟩;rw[length_take,Nat.min_eq_left f]
 rcases e.M.2 with⟨h,t⟩|⟨k,s,j,h,l,n,u,o,p,q⟩
 ·grind
 injection h with e1 e2 e3;subst e1 e3;refine ZJ ⟨k,c,j,X,l,n,O,o,p,?_⟩;rw[Yk a d e.h f,<- q,take_take,Nat.min_eq_left (aK _ f)]
end
def bJ(c a b:E):E->U Cd->U E
 |_,[]=>[]
 |f,d::e=>if f<=min (Bz a c d.h) b then d.v::bJ c a b (min (Bz a c d.h) b+1) e else bJ c a b f e
theorem Xs c a b f d e:bJ c a b f (d::e)=if f<=min (Bz a c d.h) b then d.v::bJ c a b (min (Bz a c d.h) b+1) e else bJ c a b f e:=rfl
theorem jh{g e c}:∀d a,c<a->bJ g e c a d=[]
 |[],a,b=>X
 |h::f,a,b=>by unfold bJ;rw[aC O];exact jh f a b
def Zjl{tot bins j}:∀b a,(∀c∈b,Bz bins tot c.h<=j)->bJ tot bins j a b=Fu tot bins a b
 |[],a,d=>X
 | c::e,a,d=>by
  have f:=d c s_;have g:=Zjl (tot:=tot) (bins:=bins) (j:=j) e
  grind [Xs,Fu]
def xy c b d:∀e f,f<=d+1->e.Pairwise (λa g=>a.v<g.v)->bJ c b (d+1) f e=if e.findIdx (λa=>ZE (d+1<=Bz b c a.h))<F e/\(bJ c b d f e).getLast?≠T (Z e (e.findIdx (λa=>ZE (d+1<=Bz b c a.h))) e0).v then bJ c b d f e++[(Z e (e.findIdx (λa=>ZE (d+1<=Bz b c a.h))) e0).v] else bJ c b d f e
 |[],f,j,h=>by simp[bJ]
 | a ::g,f,j,h=>by
  have i:=pairwise_cons.1 h
  by_cases m:d+1<=Bz b c a.h
  ·grind [Xs,jh]
  have k:(a::g).findIdx (λa=>ZE (d+1<=Bz b c a.h))=g.findIdx (λa=>ZE (d+1<=Bz b c a.h))+1:=(by simp[findIdx_cons,m]);rw[k];have l:Z (a::g) (g.findIdx (λa=>ZE (d+1<=Bz b c a.h))+1) e0=Z g _ e0:=rfl;rw[l];have p:min (Bz b c a.h) (d+1)=Bz b c a.h:=O;have q:min (Bz b c a.h) d=Bz b c a.h:=O
  by_cases o:f<=Bz b c a.h
  ·have n:=xy c b d g (Bz b c a.h+1) O i.2
   grind [Xs]
  have n:=xy c b d g f j i.2
  grind [Xs]
end Go.Proofs.YtfcgnpchbcmdeaaGreat
