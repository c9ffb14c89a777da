import Derived.Test.YtfcgnpchbcmdeaaGreatZsaf
open Go.Value renaming bool->ZR,tuple->Y5,int->ZX,ownBlock->ZW,agg->Y9,slice->ZH,pointer->Y7
open ByteArray renaming size->ZK
open _root_ renaming Nat->H,Int->E,ByteArray->ZC,rfl->X,List->U,Array->YZ,Bool->ZG,Option->Y0
open Go renaming World->ZT,maxLen->Y2,Value->ZY,madeCells->YV
open Go.Ending renaming returned->ZI
open Bool renaming false->ZZ,true->Z0
open Go.World renaming frozen?->YT,setCell->ZO,drewN->Y1,alloc->ZN,grownBy->Y3,cell?->ZV,ownsRow->ZD
open Decidable renaming decide->ZE
open Go.IntKind renaming i64->ZQ
open Int renaming toNat->ZL
open List renaming length->F,take->ZU,getD->Z,drop->ZF,replicate->Y6
open Array renaming size->B,toList->Y4
open Option renaming some->T,none->ZP
open Go.Proofs.Tryz renaming prog->Y8
open Or renaming inl->ZM,inr->ZJ
namespace Go.Proofs.YtfcgnpchbcmdeaaGreat
set_option linter.all false
set_option maxRecDepth 100000
set_option maxHeartbeats 8000000
open Go.RowKit List Nat Go.World Go.Proofs.Tryz Go.Value Go.IntKind Go.Lib Go.Region
structure er(b)(c)(a:SS):Prop where
 d:H_ b c #[I a.i,ZR a.p,ZR a.h,Q_ a.t,ZR a.a,Q_ a.n,I a.l,I 0] 293
 z:ZK a.t<=1000000/\ZK a.n<=1000000/\a.l<=9223372036854775807
def RsQ(c:H)(a:E×SS)(f:ZT)(d:Ending)(b:ZT):Prop:=d=ZI (I a.1)/\er b c a.2/\Aa (λe=>e=c) f b
section
variable {w w' W:ZT} {b:ZC} {yb i:H} {s:SS} {x y:E}
def er.cells(a:er w yb s):D_ w yb 0 (I s.i)/\D_ w yb 1 (ZR s.p)/\D_ w yb 2 (ZR s.h)/\D_ w yb 3 (Q_ s.t)/\D_ w yb 4 (ZR s.a)/\D_ w yb 5 (Q_ s.n)/\D_ w yb 6 (I s.l)/\∀b,YT w (J yb b)=ZZ:=
 ⟨n_ 0 a.d,n_ 1 a.d,n_ 2 a.d,n_ 3 a.d,n_ 4 a.d,n_ 5 a.d,n_ 6 a.d,λb=>R_ b _ _ a.d⟩
def ug(b:er w yb s):C_ 188 #[P_ yb] w λc w'=>c=ZI (Y5 #[])/\er w' yb (ez s)/\Aa (λa=>a=yb) w w':=by have⟨d,e,f,g,h,i,j,k⟩:=b.cells;have a:=Y b;clear b;refine q_ ?_;go_wp2;go_end0;exact⟨X,⟨fm 3 (fm 2 (fm 6 (fm 1 a.d))),a.z.2.1,a.z.2.1,by show(-1:E)<=_;decide⟩,(((tp_ w yb 1 _).put 6 _).put 2 _).put 3 _⟩
def nxS(s:SS):SS:=if s.l=0 then ez s else On s
def Zh8(a:er w yb s):C_ 187 #[P_ yb] w λf w'=>f=ZI (ZR (ZE (s.l≠0)))/\er w' yb (nxS s)/\Aa (λb=>b=yb) w w':=by
 unfold nxS;have⟨j,k,l,m,n,o,h,p⟩:=a.cells;have c:=Y a;have q:=a.z.2.2
 by_cases b:s.l=0
 ·rw[aD b];rw[b] at h;have e:=Y (ug a);clear a;refine q_ ?_;go_wp2_with fail
  apply e.m;rintro f g ⟨rfl,a⟩;have d:=Y a;clear e a;go_wp2;go_ret;exact⟨by simp[b],d⟩
 rw[aC b];unfold On;have i:(s.l==0)=ZZ:=aO b;clear a
 by_cases e:0<s.l
 ·rw[aD e];have g:=tp_ w yb 6 (I (s.l-1));have d:K (er (ZO w (J yb 6) (I (s.l-1))) yb {s with l:=s.l-1}):=⟨fm 6 c.d,c.z.1,c.z.2.1,by show s.l-1<=_;omega⟩;clear c;refine q_ ?_;go_wp2;go_ret;exact⟨by rw[aF b];rfl,d,g⟩
 rw[aC e];refine q_ ?_;go_wp2;go_ret;exact⟨X,c,.refl _ _⟩
def Zj8{a d}(e:i<5)(c:Sh b (5-i) s=a)(f:s.l≠0)(g:Ze b i (On s)=(0,d)):Sh b (5-(i+1)) d=a:=by rw[Yf e,show stS b i s=_ from aC f,g] at c;rw[show 5-(i+1)=4-i by omega];exact c
def Zh7{a5}(p:er w yb s)(a3:ZK b<=1000000)(a1:∀W,E_ w W->C_ 76 #[P_ a5] W (U_ (Q_ b) W)):C_ 130 #[P_ yb,P_ a5] w (RsQ yb (svS b s) w):=by
 have⟨y,t,z,A,D,G,L,M⟩:=p.cells;have u:=K_ p a1;have⟨h,q⟩:=ez_ (svS b s);rw[q.out];clear p a1
 by_cases v:s.p=Z0
 ·rw[v] at t;rw[show h=(5,s) from q.out.s.T (aD v)];refine q_ ?_;go_wp2;go_ret;exact⟨X,u.1,.refl _ _⟩
 have q:K (Sh b 5 s=h):=(aC v).s.T q.out;rw[eq_false_of_ne_true v] at t;clear v;refine q_ ?_;go_wp2_with fail
 apply (u.2 _ y_).m;rintro P a6 ⟨rfl,R⟩;have N:K (er a6 yb s/\Aa (λx=>x=yb) w a6):=⟨⟨ab_ R u.1.d,u.1.z⟩,.a R⟩;clear u R y t z A D G L M;go_wp2_with fail
 go_loopw [6] (λc d=>∃i:H,c=I (i+1:H)/\i<=5/\K (∃a,er d yb a/\Sh b (5-i) a=h/\Aa (λx=>x=yb) w d)) (λc _=>6-ZL (intOf c))
 exact⟨0,X,O,s,N.1,q,N.2⟩;obtain⟨i,rfl,a8,a0⟩:=hrel;clear N q
 by_cases Q:i<5
 ·obtain⟨a,f,a2,l⟩:=a0;have S:=Y (Zh8 f);have r:=K_ a2 l;have a7:((i+1:H):E)<=5:=O;clear f a2 l;go_wp2_with fail
  apply S.m;rintro P k ⟨rfl,f,l⟩;have g:=Y (r.2.T l);clear S l
  by_cases m:a.l=0
  ·have e:K (RsQ yb h w (ZI (ZX ZQ 6)) k):=(by have:=r.1;rw[Yf Q,show stS b i a=_ from aD m] at this;rw[<- this];exact⟨X,(show nxS a=_ from aD m) ▸ f,g⟩);have P:ZE (a.l≠0)=ZZ:=(by simp[m]);rw[P];clear f r;go_wp2;go_ret;exact e
  have f:er k yb (On a):=(show nxS a=_ from aC m) ▸ f;rw[aF m];have⟨y,t,z,A,D,G,L,M⟩:=f.cells;have a9:=f.z.1;have d:=Y f;have j:K (∀{c},Ze b i (On a)=(0,c)->Sh b (5-(i+1)) c=h):=Zj8 Q r.1 m
  have o:K (∀{c},Ze b i (On a)=(7,c)->(7,c)=h):=λ{c} p=>by have:=r.1;rw[Yf Q,show stS b i a=_ from aC m,p] at this;exact this
  clear f r m;generalize On a=c at *
  rcases(show i=0∨i=1∨i=2∨i=3∨i=4 by omega) with rfl|rfl|rfl|rfl|rfl
  ·have e:K (∃a,er k yb a/\Sh b (5-1) a=h/\_):=⟨c,d,j X,g⟩;clear d j o g y t z A D G L M;go_wp2;go_roundw;exact⟨1,g_,O,e⟩;exact z_
  ·by_cases a4:c.i<ZK c.t+ZK b
   ·have e:K (∀n,RsQ yb h w (ZI (ZX ZQ 7)) (Y1 k n)):=λn=>o (aD ⟨X,a4⟩) ▸ ⟨X,⟨d.d,d.z⟩,g.q (below_drewN y_ n)⟩;have x:(c.i:E)<ZK c.t+ZK b:=O;clear d j o g;go_upto_region 12 with fail;go_quiet (fail);go_wp2;go_ret;exact e _
   have e:K (∀n,∃a,er (Y1 k n) yb a/\Sh b (5-2) a=h/\Aa (λx=>x=yb) w (Y1 k n)):=λn=>⟨c,⟨d.d,d.z⟩,j (aC λp=>a4 p.2),g.q (below_drewN y_ n)⟩;have x:¬(c.i:E)<ZK c.t+ZK b:=O;clear d j o g;go_upto_region 12 with fail;go_quiet (fail);go_wp2;go_roundw;exact⟨2,g_,O,e _⟩;exact z_
  ·have e:K (∃a,er k yb a/\Sh b (5-3) a=h/\_):=⟨c,d,j X,g⟩;clear d j o g y t z A D G L M;go_wp2;go_roundw;exact⟨3,g_,O,e⟩;exact z_
  ·have e:K (∃a,er (ZO (ZO k (J yb 2) (ZR Z0)) (J yb 3) (Q_ b)) yb a/\Sh b (5-4) a=h/\_):=⟨{c with h:=Z0,t:=b},⟨fm 3 (fm 2 d.d),a3,d.z.2⟩,j X,g.T ((tp_ k yb 2 (ZR Z0)).put 3 (Q_ b))⟩;clear d j o g;go_wp2;go_roundw;exact⟨4,g_,O,e⟩;exact z_
  have e:K (∃a,er (ZO (ZO k (J yb 4) (ZR Z0)) (J yb 5) (Q_ b)) yb a/\Sh b (5-5) a=h/\_):=⟨{c with a:=Z0,n:=b},⟨fm 5 (fm 4 d.d),d.z.1,a3,d.z.2.2⟩,j X,g.T ((tp_ k yb 4 (ZR Z0)).put 5 (Q_ b))⟩;clear d j o g;go_wp2;go_roundw;exact⟨5,g_,O,e⟩;exact z_
 obtain rfl:i=5:=O;obtain⟨a,f,rfl,l⟩:=a0;have e:K (RsQ yb (0,a) w _ wr):=⟨X,f,l⟩;clear f l;go_wp2;go_ret;exact e
def Zh2(b:er w yb s)(p:x<=9223372036854775807):C_ 132 #[P_ yb,I x,I y] w (RsQ yb (ZdT x y s) w):=by
 unfold ZdT;have⟨j,h,k,l,m,n,r,t⟩:=b.cells;have a:=Y b;clear b j k l m n
 by_cases b:x<0∨y<0
 ·rw[aD b]
  by_cases o:x<0
  all_goals
   refine q_ ?_;go_wp2;go_ret;exact⟨X,a,.refl _ _⟩
 rw[aC b];have o:¬x<0:=O;have v:¬y<0:=O
 by_cases c:s.p=Z0
 ·rw[aD c];rw[c] at h;clear c;refine q_ ?_;go_wp2;go_ret;exact⟨X,a,.refl _ _⟩
 rw[aC c];rw[eq_false_of_ne_true c] at h;clear c;have d:K (er (ZO w (J yb 6) (I x)) yb {s with l:=x}/\Aa (λe=>e=yb) w (ZO w (J yb 6) (I x))):=⟨⟨fm 6 a.d,a.z.1,a.z.2.1,p⟩,tp_ w yb 6 (I x)⟩;clear a
 by_cases e:x=0
 ·rw[aD e];subst x;have f:=Y (ug d.1);refine q_ ?_;go_wp2_with fail
  apply f.m;rintro u q ⟨rfl,i,g⟩;have d:K (RsQ yb (0,ez s) w _ q):=⟨X,i,d.2.T g⟩;clear f i g;go_wp2;go_ret;exact d
 rw[aC e];have e:(x==0)=ZZ:=aO e;refine q_ ?_;go_wp2;go_ret;exact⟨X,d⟩
def ZeN(c:er w yb s):C_ 133 #[P_ yb] w (RsQ yb (Ze0 s) w):=by
 unfold Ze0;have⟨e,d,f,g,h,i,j,k⟩:=c.cells;have b:=Y c;clear c e f g h i j
 by_cases a:s.p=Z0
 ·rw[aD a];rw[a] at d;clear a;refine q_ ?_;go_wp2;go_ret;exact⟨X,⟨fm 1 b.d,b.z⟩,tp_ w yb 1 _⟩
 rw[aC a];rw[eq_false_of_ne_true a] at d;clear a;refine q_ ?_;go_wp2;go_ret;exact⟨X,b,.refl _ _⟩
end
def Ad.alloc{w a c d}(e:Ad w a c d) b:Ad (ZN w b) a c d:=ra_ e b
def By{a p q f e l}(w:f.guard=ZP) i x (z:f.op=.call {callee:=.builtin .append,args:=#[i,x],argTypes:=#[25,25]}) g b k j (D:e.eval i=b)(A:Ad a g b k) n m (G:e.eval x=L_ n 1 m)(v:D_ a n 0 (I j))(Q:F k<=1000000000)(u:g<=B a.1)(r:∀c d,K (Ad d g c (k++[j])/\Y3 a d (ZW b)/\(ZW c=ZW b∨ZW c=T (B a.1)/\E_ a d))->wpList Y8 p l q (e.put f.dst c) d):wpList Y8 p l (f::q) e a:=by
 obtain⟨P,y,L,M,N⟩:=info_parts Zkv;refine Dl w i x 25 z _ 3 P _ 1 8 underlying25 y L M N X C b _ _ D A _ 1 m [I j] G X ?_ ?_ C (by unfold Y2;omega) O u ?_
 ·intro o s h
  cases o with
  |zero=>simp at h;subst h;simpa [Addr.add] using v
  |succ o=>simp at h
 intro s h;simp at h;subst h;rfl;intro c d h;obtain⟨o,s,t,_,_⟩:=h;exact r _ _ ⟨Ad.P o,s,t⟩
def Bz(a c b:E):E:=a*b/c
def Fu(b a:E):E->U Cd->U E
 |_,[]=>[]
 |e,c::d=>if e<=Bz a b c.h then c.v::Fu b a (Bz a b c.h+1) d else Fu b a e d
def Bm(a:U Cd)(b:E):U E:=
 if F a=0 then[] else if F a<=b then(ZU (F a-1) a).map (λc=>c.v) else Fu (Ae a) b 1 (ZU (F a-1) a)
def Zhb{a:U Cd}{b c}(d:b<c)(e:c<=F a):ZF b (ZU c a)=Z a b e0::ZF (b+1) (ZU c a):=by grind [drop_eq_getElem_cons]
def wi{b a c}(g:0<=b)(h:b<=16)(d:0<=c)(i:c<=a)(j:1<=a):0<=Bz b a c/\Bz b a c<=16:=by
 unfold Bz;have e:=Int.mul_nonneg g d;have f:=Int.mul_le_mul h i d O;constructor;exact Int.ediv_nonneg e O;have:=Int.ediv_le_ediv (show 0<a by omega) f
 rwa [Int.mul_ediv_cancel _ O] at this
def Zn{b a c} i (g:0<=c)(h:c<=16)(d:0<=b)(k:b<=a)(l:1<=a)(q:a<=1000000000000):C_ 317 #[I b,I a,I c] i (V_ (ZX ZQ (Bz c a b)) i):=by
 have j:=Int.mul_nonneg g d;have n:_*b<=_*1000000000000:=Int.mul_le_mul h O d O;have f:=wi g h d k l;have m:a≠0:=O;have r:=aO m
 have e:K (Bz _ a _=(_*b).tdiv _):=show _=_ by unfold Bz;rw[Int.tdiv_eq_ediv_of_nonneg j]
 unfold Hid at e;rw[e] at f ⊢;obtain⟨o,p⟩:=f;refine dl_ ?_;go_enter func317,ntmps317;go_wp2;go_ret;exact⟨X,X⟩
def Zdx{g h b o i e}(w:Ln e g h b)(z:F b<=o)(x:F b≠0)(A:F b<=4194304)(p:(F b:E)<=i):C_ 273 #[V (T (J g h)) (F b) o,I i] e λc d=>∃a,c=ZI a/\Ad d (B e.1) a (Bm b i)/\E_ e d:=by
 have s:K (Bm b _=_):=show _=_ by unfold Bm;rw[aC x,aD p]
 have t:=Y w;obtain⟨d,r⟩:∃d,F b=d+1:=⟨F b-1,O⟩;have n:=Y r;rw[r] at z A p ⊢;have a2:(((d:E)+1)==0)=_:=aO O;have a0:d+1<=i:=O;refine q_ ?_;go_wp2_with fail
 go_loopw [28,6] (λk j f=>∃a:H,k=I a/\a<=d/\K (Ad f (B e.1) j ((ZU a b).map (λc=>c.v)))/\E_ e f) (m4_ d)
 exact⟨0,X,v_,Ad.nil,y_⟩;obtain⟨a,rfl,q,l,f⟩:=hrel
 by_cases a1:a<d
 ·have k:=t.out;have j:a<F b:=p_ n
  obtain⟨P,Q,R,S⟩:D_ wr g (h+a*4) (I (Z b a e0).v)/\D_ wr g (h+a*4+1) (I (Z b a e0).t)/\D_ wr g (h+a*4+2) (I (Z b a e0).h)/\D_ wr g (h+a*4+3) (I (Z b a e0).g):=
   ⟨T_ f (k.v a j),T_ f (k.t a j),T_ f (k.h a j),T_ f (k.g a j)⟩
  have v:K ((ZU _ b).map (λc=>c.v)=(ZU a b).map (λc=>c.v)++[(Z b a e0).v]):=show _=_ by rw[Rm j];simp
  have u:K (F ((ZU a b).map (λc=>c.v))=a):=w_;generalize (ZU a b).map (λc=>c.v)=L,Z b a e0=N at *;have W:=F_ a d;have G:=f.size;have D:F L<=1000000000:=(by rw[u];omega);go_wp2_with (at_builtin;refine By X (.tmp 32) _ X _ _ _ N.v X ((l.alloc _).alloc _) _ 1 X ?_ D ?_ ?_)
  ·simp[go_sem]
  simp;omega;intro a5 M m;have y:E_ e M:=(by obtain⟨a3,c,a4⟩:=m.out;exact f.T (((y_.alloc G _).alloc t_ _).grown c t_ (λa q=>(l.lt a q).1)));have c:=Y m.1;refine J_ ?_;exact⟨a+1,g_,O,v ▸ c,y⟩
 have j:¬a<(d:E):=O
 have c:K (Ad wr (B e.1) u6 (Bm b i)):=show Ad _ _ _ _ by rw[s,n];have:a=d:=O;subst this;exact l
 go_wp2;go_ret;exact⟨_,X,c,f⟩
def ZaV{n o b M d h}(w:Ln h n o b)(q:Bc b)(a7:F b<=M)(a9:F b<=4194304)(c0:2<=d)(N:d<=16)(R:d<(F b:E)):C_ 273 #[V (T (J n o)) (F b) M,I d] h λv c=>∃a,v=ZI a/\Ad c (B h.1) a (Bm b d)/\E_ h c:=by
 have x:F b≠0:=O;have a3:=Y w;have a4:=Y q;obtain⟨c,s⟩:∃c,F b=c+1:=⟨F b-1,O⟩;have D:=Y s
 have a2:K (Bm b d=Fu _ _ 1 (ZU c b)):=show _=_ by unfold Bm;rw[aC x,aC O,s];rfl
 have y:Ae b=(Z b c e0).h:=(by unfold Ae;rw[aC x,s];rfl);have L:=w.h c O;rw[<- y] at L;have a0:1<=Ae b:=(by have:=q.at (show c<F b by omega);rw[y];omega);have b2:=(Dk q).2;have a5:K (∀a,a<_->_):=λa t=>Nq q t;rw[s] at a7 a9 R ⊢;have c2:(((c:E)+1)==0)=_:=aO O;have c1:¬c+1<=d:=O;clear w q x s R y;generalize Ae b=a1 at *;refine q_ ?_;go_wp2_with fail
 go_loopw [48,6,10] (λe g i f=>∃(a:H) (k:E) (j:U E),e=I a/\i=I k/\1<=k/\k<=17/\a<=c/\F j<=a/\K (Ad f (B h.1) g j)/\K (j++Fu a1 d k (ZF a (ZU c b))=Bm b d)/\E_ h f) (λe _ _ _=>c-ZL (intOf e))
 exact⟨0,1,[],X,X,C,C,v_,x_,Ad.nil,by show _=_;rw[a2];rfl,y_⟩;clear L;obtain⟨a,k,j,rfl,rfl,c4,c5,t,c3,p,e,f⟩:=hrel
 by_cases a8:a<c
 ·have r:=a3.out;have i:a<F b:=by rw[D];omega
  obtain⟨b5,b6,b7,b8⟩:D_ wr n (o+a*4) (I (Z b a e0).v)/\D_ wr n (o+a*4+1) (I (Z b a e0).t)/\D_ wr n (o+a*4+2) (I (Z b a e0).h)/\D_ wr n (o+a*4+3) (I (Z b a e0).g):=
   ⟨T_ f (r.v a i),T_ f (r.t a i),T_ f (r.h a i),T_ f (r.g a i)⟩
  have z:0<=(Z b a e0).h:=p_ (a4.at i);have A:=a5 a i;have Q:=Zhb a8 (by rw[D];omega);have g:=e.out;rw[Q] at g;clear Q e;generalize (Z b) a e0=l at *;have b1:=wi (show 0<=d by omega) N z A a0;obtain⟨c8,c9⟩:=b1;have b9:=F_ a c;have S:=f.size;have b0:F j<=1000000000:=O;simp only[Fu] at g;have G:=Y (λm=>Zn m O N z A a0 b2);generalize Bz d a1 l.h=W at *;clear r i z A
  by_cases P:k<=W
  ·rw[aD P] at g;have e:=Y g;clear g;go_wp2_with fail
   apply (G _).m;rintro v b3 ⟨rfl,rfl⟩;go_wp2_with (at_builtin;refine By X (.tmp 60) _ X _ _ _ l.v X ((p.alloc _).alloc _) _ 1 X ?_ b0 ?_ ?_)
   ·simp[go_sem]
   simp;omega;intro d0 b4 u;have a6:E_ h b4:=(by obtain⟨c6,m,c7⟩:=u.out;exact f.T (((y_.alloc S _).alloc t_ _).grown m t_ (λa t=>(p.lt a t).1)));have m:=Y u.1;clear u;go_wp2;go_roundw;exact⟨a+1,W+1,j++[l.v],g_,g_,O,O,O,t_,m,by show _=_;rw[append_assoc];exact e,a6⟩;exact z_
  rw[aC P] at g;have e:=Y g;clear g;go_wp2_with fail
  apply (G _).m;rintro v b3 ⟨rfl,rfl⟩;have m:=p.alloc (O_ #[I l.v,I l.t,I l.h,I l.g] 98);have u:=Y m;clear m;go_wp2;go_roundw;exact⟨a+1,k,j,g_,X,O,O,O,O,u,e,f.T (y_.alloc S _)⟩;exact z_
 have g:¬a<(c:E):=O
 have m:K (Ad wr (B h.1) u6 (Bm b d)):=show Ad _ _ _ _ by have:=e.out;rw[drop_eq_nil_of_le t_] at this;simp only[Fu,append_nil] at this;rw[<- this];exact p
 clear p e;go_wp2;go_ret;exact⟨_,X,m,f⟩
def Zdw{f a g b d}(l:Cj d f a)(k:Bc a)(i:F a<=g)(m:2<=b)(n:b<=16):C_ 273 #[V f (F a) g,I b] d λh e=>∃c,h=ZI c/\Ad e (B d.1) c (Bm a b)/\E_ d e:=by
 obtain⟨j,c|⟨o,p,rfl,h⟩⟩:=l;have e:Bm a b=[]:=(by unfold Bm;rw[aD c]);rw[e,c];refine er_ ?_;exact⟨_,X,Ad.nil,y_⟩
 by_cases c:F a=0
 have e:Bm a b=[]:=(by unfold Bm;rw[aD c]);rw[e,c];refine er_ ?_;exact⟨_,X,Ad.nil,y_⟩
 by_cases e:(F a:E)<=b
 exact Zdx h i c j e;exact ZaV h k i j m n O
end Go.Proofs.YtfcgnpchbcmdeaaGreat
namespace Go.Proofs.YtfcgnpchbcmdeaaGreat
open List Nat Go.World Go.Proofs.Tryz Go.Value Go.IntKind Go.Lib Go.Region
set_option linter.all false
set_option maxRecDepth 100000
set_option maxHeartbeats 8000000
def ZhF:U (E×E)->E->E
  |[],_=>0
  |a::c,b=>(if a.1<b then a.2 else 0)+ZhF c b
structure jf(b)(c:U Cd):Prop where
 j:∀a∈c,a.t<=ZhF b a.v/\ZhF b a.v+Qj b a.v<=a.h/\a.g<=Qj b a.v
 f:∀d∈b,∃a∈c,a.v<=d.1
 g:∀d∈b,∃a∈c,d.1<=a.v
 e:Ae c=Bv b
theorem Ur d e:∀i b c,F d-b+(F e-c)<=i->(∀a,b<=a->a<F d->∃f∈Ef d e i b c,f.v=(Z d a e0).v)/\(∀a,c<=a->a<F e->∃f∈Ef d e i b c,f.v=(Z e a e0).v)
 |0,b,c,j=>⟨λa g h=>O,λa g h=>O⟩
 | i + 1,b,c,j=>by
  simp only[Ef];split
  ·rename_i m;have⟨k,l⟩:=Ur d e i (b+1) c O;refine⟨λa g h=>?_,λa g h=>?_⟩
   ·by_cases f:a=b
    subst f;exact⟨_,mem_cons_self,X⟩
    grind
   grind
  rename_i m;split
  ·rename_i n;have⟨k,l⟩:=Ur d e i b (c+1) O;refine⟨λa g h=>?_,λa g h=>?_⟩
   ·grind
   by_cases f:a=c
   subst f;exact⟨_,mem_cons_self,X⟩
   grind
  rename_i n;split
  ·rename_i p
   have o:(Z d b e0).v=(Z e c e0).v:=by
    rcases Int.lt_trichotomy (Z d b e0).v (Z e c e0).v with j|j|j
    omega;exact j;omega
   have⟨k,l⟩:=Ur d e i (b+1) (c+1) O;refine⟨λa g h=>?_,λa g h=>?_⟩
   ·by_cases f:a=b
    subst f;exact⟨_,mem_cons_self,X⟩
    grind
   by_cases f:a=c
   subst f;exact⟨_,mem_cons_self,o⟩
   grind
  grind
theorem qr c b a:Ae (c::b::a)=Ae (b::a):=by unfold Ae;simp[Z]
theorem wq a:Ae [a]=a.h:=by simp[Ae]
theorem fo{a b}:∀c f g,f<=F a->g<=F b->F a-f+(F b-g)<=c->(f<F a∨g<F b)->Ae (Ef a b c f g)=Ae a+Ae b
 |0,f,g,_,_,k,l=>O
 | c + 1,f,g,s,t,k,l=>by
  have v:∀h d e,d<=F a->e<=F b->F a-d+(F b-e)<=c->(d=F a->e=F b->h.h=Ae a+Ae b)->Ae (h::Ef a b c d e)=Ae a+Ae b:=λh d e n o p u=>by
   by_cases j:d<F a∨e<F b
   ·have i:=fo c _ _ n o p j
    cases m:Ef a b c d e with
    | nil=>
     grind [Ur]
    | cons r q=>
     rw[m] at i;rw[qr];exact i
   have i:Ef a b c d e=[]:=by
    cases c with
    |zero=>rfl
    | succ c=>
     grind [Ef]
   grind [wq]
  simp only[Ef];split
  ·grind [Ae,seen,Dz]
  rename_i i;split
  ·grind [Ae,seen,Dz]
  grind [Ae,Pb]
def ZkP{b:U Cd}{c}(d:c∈b):∃a,a<F b/\Z b a e0=c:=by obtain⟨a,e,rfl⟩:=aM d;exact⟨a,e,w_⟩
def ZcQ{d}(g:d.Pairwise λa b=>a.1<b.1) b h:Sk (b::h) d=Sk h d+(if ∃a∈d,a.1=b.1 then b.2 else 0):=by
 induction d with
 |nil=>simp[Sk]
 | cons a e m=>
  rw[pairwise_cons] at g;have:=m g.2;simp only[Sk,Qj];rw[this]
  by_cases f:b.1=a.1
  ·rw[aD f];have j:∃c∈a::e,_=_:=⟨a,s_,f.s⟩
   grind
  rw[aC f]
  by_cases i:∃c∈e,c.1=b.1
  ·have j:∃c∈a::e,c.1=b.1:=by obtain⟨c,l,k⟩:=i;exact⟨c,by simp[l],k⟩
   grind
  grind
def ZgD{c:U (E×E)}(f:c.Pairwise λa b=>a.1<b.1){x}:∀d:U (E×E),(∀b∈d,∃a∈c,a.1=b.1)->Sk d (c.filter λa=>ZE (a.1<x))=ZhF d x
 |[],_=>by simp[ZhF,qq]
 | b ::h,e=>by
  rw[ZcQ (f.sublist filter_sublist),ZgD f h (λi g=>e i (by simp[g]))];simp only[ZhF]
  by_cases g:b.1<x
  ·rw[aD g,aD ?_];omega;have⟨a,j,i⟩:=e b s_
   grind
  grind
def ZgC{b:U (E×E)}(f:b.Pairwise λc a=>c.1<a.1):∀d:U (E×E),(∀a∈d,∃c∈b,c.1=a.1)->Sk d b=Bv d
 |[],_=>by simp[Bv,qq]
 |a::h,e=>by rw[ZcQ f,ZgC f h (λi g=>e i (by simp[g])),aD (e a s_)];simp only[Bv];omega
def Zck{x:E}:∀g i,g.Pairwise (λd b=>d.1<b.1)->∀a∈Bo i g,a.t=i+Bv (g.filter λd=>ZE (d.1<a.v))
 |[],_,_=>by simp[Bo]
 | d ::j,i,h=>by
  rw[pairwise_cons] at h;intro a c;simp only[Bo] at c
  rcases mem_cons.1 c with rfl|c
  ·have:(d::j).filter (λb=>ZE (b.1<d.1))=[]:=by
    rw[filter_eq_nil_iff];intro b f
    rcases mem_cons.1 f with rfl|f
    simp
    grind
   grind [Bv]
  have m:=Zck (x:=x) j _ h.2 a c
  have n:d.1<a.v:=by
   have:∀(e:U (E×E)) (k:E) (a:Cd),a∈Bo k e->∃b∈e,b.1=a.v:=by
    intro e
    induction e with
    |nil=>intro k a c;simp[Bo] at c
    | cons b e f=>
     grind [Bo]
   have⟨b,f,l⟩:=this j _ a c;have:=h.1 b f;omega
  grind [Bv]
def Uv:∀(b:U (E×E)) (c:E),(∀a∈Bo c b,∃d∈b,d.1=a.v/\d.2=a.g/\a.h=a.t+a.g)/\(∀d∈b,∃a∈Bo c b,a.v=d.1)/\(b≠[]->Ae (Bo c b)=c+Bv b)
  |[],c=>by simp[Bo]
  | d ::e,c=>by
    have⟨g,h,i⟩:=Uv e (c+d.2);refine⟨λa j=>?_,λf k=>?_,λ_=>?_⟩
    · grind [Bo]
    · simp only[Bo]
      grind [mem_cons_self]
    cases e with
    |nil=>simp[Bo,wq,Bv]
    | cons f e=>
      grind [Bo,qr,Bv]
def jf.a{f e}(a:Ej f e):jf f (Bo 0 e):=by
 have⟨n,s,o⟩:=Uv e 0;have k:∀i:_,(∀c∈i,_)->_:=λi m=>Zt (λc b=>a.g c (m c b));refine⟨λd j=>?_,λg h=>?_,λg h=>?_,?_⟩
 ·have⟨c,b,q,r,p⟩:=n d j;have l:=Zck (x:=0) e 0 a.f d j;rw[k _ (λc b=>(mem_filter.1 b).1),ZgD a.f f a.all] at l;have:=a.g c b
  grind
 ·have⟨c,b,d⟩:=a.all g h
  grind
 ·have⟨c,b,d⟩:=a.all g h
  grind
 by_cases d:e=[]
 ·subst d
  have:f=[]:=by
   cases f with
   |nil=>rfl
   |cons g l=>obtain⟨c,b,_⟩:=a.all g s_;cases b
  subst this;rfl
 rw[o d,k e (λ_ b=>b),ZgC a.f f a.all];omega
def mu(a:E×E):U (E×E)->U (E×E)
 |[]=>[a]
 |b::c=>if a.1<b.1 then a::b::c else if a.1=b.1 then(b.1,b.2+a.2)::c else b::mu a c
def gf:U (E×E)->U (E×E)
  |[]=>[]
  |a::b=>mu a (gf b)
def bt c:∀d a,(∃b∈mu c d,b.1=a)↔(c.1=a∨∃b∈d,b.1=a)
 |[],a=>by simp[mu]
 | b::f,a=>by
  simp only[mu];split;simp;split;rename_i e;simp[e];have e:=bt c f a
  grind
def us{a}:∀d,d.Pairwise (λa b=>a.1<b.1)->(mu a d).Pairwise λa b=>a.1<b.1
 |[],_=>by simp[mu]
 | b::e,c=>by
  rw[pairwise_cons] at c;simp only[mu];split
  ·grind [pairwise_cons]
  split;rw[pairwise_cons];exact c;rename_i i j;rw[pairwise_cons];refine⟨λf h=>?_,us e c.2⟩
  rcases(bt a e f.1).1 ⟨f,h,X⟩ with g|⟨l,k,g⟩
  omega
  grind
def Zf4{c}:∀d,d.Pairwise (λc a=>c.1<a.1)->∀a∈mu c d,(a.1≠c.1->a∈d)/\(a.1=c.1->(∃b,(a.1,b)∈d/\a.2=b+c.2)∨(a.2=c.2/\∀b∈d,b.1≠a.1))
 |[],_,a,b=>by grind [mu]
 | k::f,e,a,b=>by
  rw[pairwise_cons] at e;simp only[mu] at b;split at b
  ·grind
  split at b
  ·grind
  rename_i g h
  rcases mem_cons.1 b with rfl|b
  ·grind
  obtain⟨i,j⟩:=Zf4 f e.2 a b
  grind
def Tw:∀n:U (E×E),Ej n (gf n)
  |[]=>Ej.nil
  | m ::i=>by
    have d:=Tw i;have k:=bt m (gf i);refine⟨us _ d.f,λa c=>?_,λa c=>?_,λa c=>?_⟩
    · rcases(k a.1).1 ⟨a,c,X⟩ with b|⟨f,e,b⟩
      · grind
      obtain⟨q,l,g⟩:=d.e f e
      grind
    · rcases mem_cons.1 c with rfl|c
      obtain⟨j,h,b⟩:=(k a.1).2 (ZM X);exact⟨j,h,b⟩;obtain⟨f,e,b⟩:=d.all a c;obtain⟨j,h,g⟩:=(k a.1).2 (ZJ ⟨f,e,b⟩);exact⟨j,h,g⟩
    obtain⟨o,p⟩:=Zf4 (gf i) d.f a c;simp only[Qj]
    by_cases b:a.1=m.1
    · rw[aD b.s]
      rcases p b with⟨q,l,g⟩|⟨g,t⟩
      · have:=d.g _ l
        grind
      have:Qj i a.1=0:=qt (λf e s=>by
        obtain⟨j,h,r⟩:=d.all f e
        grind)
      omega
    rw[aC (λe=>b e.s),d.g a (o b)];omega
def ZcK{a b}(c:Ej a b):gf a=b:=(Tw a).a c
def Ko(a b:U E):U Cd:=Bo 0 (gf (Ao a b))
def Fc a b:Ae (Bf a b)=Ae a+Ae b:=by grind [fo,Bf,Mq,Ae]
def Gn{a} b:Ae (Ep a b)=Ae a:=by grind [Ep,Ae]
theorem uu{L} b:∀a,F (Fd L b a)<=a+1
 |0=>by simp[Fd]
 | a+1=>by
  have:=uu (L:=L) b a
  grind [Fd]
def Jh a {size}(b:2<=size):F (Ep a size)<=size:=by grind [Ep,uu]
def Av(d:E):U (U Cd)->U Cd->U (U Cd)
 |[],a=>[a]
 |b::c,a=>if F b=0 then a::c else[]::Av d c (Ep (Bf b a) d)
def Aw:U (U Cd)->E
  |[]=>0
  |a::b=>Ae a+Aw b
structure Gt(b:U (U Cd)):Prop where
 j:∀a∈b,Bc a
 y:∀a∈b,F a<=32
def Gb:∀{Ls:U (U Cd)},(∀a∈Ls,Bc a)->0<=Aw Ls
  |[],_=>by simp[Aw]
  |a::d,b=>by have:=(Dk (b a s_)).1;have:=Gb (Ls:=d) (λa c=>b a (by simp[c]));simp only[Aw];omega
def Gt.nil:Gt []:=⟨s_,s_⟩
def Va{size}(k:2<=size)(p:size<=32):∀{d b},Gt d->Bc b->F b<=32->Aw d+Ae b<=1000000000000->Gt (Av size d b)/\Aw (Av size d b)=Aw d+Ae b
 |[],b,f,e,i,l=>by refine⟨⟨?_,?_⟩,?_⟩;simp[Av,e];simp[Av,i];simp[Av,Aw]
 | h ::q,b,f,e,i,l=>by
  have o:=f.j h s_;have g:Gt q:=⟨λc a=>f.j c (by simp[a]),λc a=>f.y c (by simp[a])⟩;have t:=Gb g.j;have u:=(Dk e).1;simp only[Aw] at l;simp only[Av];split
  ·rename_i j;refine⟨⟨λc a=>?_,λc a=>?_⟩,?_⟩
   ·rcases mem_cons.1 a with rfl|a
    exact e;exact g.j c a
   ·rcases mem_cons.1 a with rfl|a
    exact i;exact g.y c a
   grind [Ae,Aw]
  have j:=Fy o e O;have n:=j.e (Ge j size);have v:Ae (Ep (Bf h b) size)=Ae h+Ae b:=(by rw[Gn,Fc]);have s:=Jh (Bf h b) k;obtain⟨m,r⟩:=Va k p g n O O;refine⟨⟨λc a=>?_,λc a=>?_⟩,?_⟩
  ·rcases mem_cons.1 a with rfl|a
   exact Bc.nil;exact m.j c a
  ·rcases mem_cons.1 a with rfl|a
   simp;exact m.y c a
  grind [Ae,Aw]
def qh b:∀c a,F (Av b c a)<=F c+1
 |[],a=>by simp[Av]
 | d::e,a=>by
  have:=qh b e (Ep (Bf d a) b)
  grind [Av]
def Dv(a:H):H->U (U Cd)->U E->U E->U (U Cd)
 |0,b,_,_=>b
 |e+1,b,c,d=>if F c=0 then b else Dv a e (Av a b (Ko (ZU a c) (ZU a d))) (ZF a c) (ZF a d)
def Fw(b:E):U Cd->U (U Cd)->U Cd
 |a,[]=>a
 |a,c::d=>Fw b (Ep (Bf a c) b) d
def Dw(a:H)(b c:U E):U Cd:=Fw a [] (Dv a (F b) [] b c)
end Go.Proofs.YtfcgnpchbcmdeaaGreat
namespace Go.Proofs.YtfcgnpchbcmdeaaGreat
set_option linter.all false
set_option maxRecDepth 100000
set_option maxHeartbeats 8000000
open Go.RowKit List Nat Go.World Go.Proofs.Tryz Go.Value Go.IntKind Go.Lib Go.Region
def vg{x:Cd}{a}(c:0<=x.t/\0<=x.h/\x.t<=1000000000000/\x.h<=1000000000000):C_ 154 #[Y9 #[I x.v,I x.t,I x.h,I x.g]] a λb d=>b=ZI (ZX ZQ (x.t+x.h))/\d=ZN a (O_ #[I x.v,I x.t,I x.h,I x.g] 98):=by obtain⟨e,f,g,h⟩:=c;refine er_ ?_;exact⟨X,X⟩
structure Zfn(a:U Cd)(d)(e b:H):Prop where
 p:e<=b
 k:b+2<=F a
 l:∀c,e<=c->c<b->Jt a c+Jt a (c+1)<d
 j:b+2=F a∨¬Jt a b+Jt a (b+1)<d
def ZbL{t} b G k m {o}(u:Cj o t b)(N:Bc b)(Q:k+2<=F b):C_ 89 #[V t (F b) G,I k,I m] o λl e=>∃a:H,l=ZI (ZX ZQ a)/\Zfn b m k a/\E_ o e:=by
 have b7:=u.1;have⟨D,r⟩:=Y_ u N;refine q_ ?_;go_wp2_with fail
 go_loopw [1] (λc d=>∃a:H,c=I a/\k<=a/\a+2<=F b/\K (∀h,k<=h->h<a->Jt b h+Jt b (h+1)<m)/\E_ o d) (m1_ (F b))
 exact⟨k,X,x_,Q,λh v w=>absurd w O,y_⟩;obtain⟨a,rfl,x,y,q,j⟩:=hrel
 by_cases b6:a+2<F b
 ·rcases D.out with⟨_,b4|⟨c,d,rfl,P⟩⟩;omega;have i:=P.q j;have b5:=i.lt O;have b2:=r.at (show a<F b by omega);have b3:=r.at (show a+1<F b by omega);obtain⟨W,a0,a1,a2⟩:D_ wr c (d+a*4) (I (Z b a e0).v)/\D_ wr c (d+a*4+1) (I (Z b a e0).t)/\D_ wr c (d+a*4+2) (I (Z b a e0).h)/\D_ wr c (d+a*4+3) (I (Z b a e0).g):=⟨i.v a O,i.t a O,i.h a O,i.g a O⟩;obtain⟨a7,a8,a9,b0⟩:D_ wr c (d+(a+1)*4) (I (Z b (a+1) e0).v)/\D_ wr c (d+(a+1)*4+1) (I (Z b (a+1) e0).t)/\D_ wr c (d+(a+1)*4+2) (I (Z b (a+1) e0).h)/\D_ wr c (d+(a+1)*4+3) (I (Z b (a+1) e0).g):=⟨i.v (a+1) O,i.t (a+1) O,i.h (a+1) O,i.g (a+1) O⟩
  have z:0<=(Z b a e0).t/\0<=(Z b a e0).h/\(Z b a e0).t<=1000000000000/\(Z b a e0).h<=1000000000000:=O;have A:0<=(Z b (a+1) e0).t/\0<=(Z b (a+1) e0).h/\(Z b (a+1) e0).t<=1000000000000/\(Z b (a+1) e0).h<=1000000000000:=O
  have s:K (Jt b a+Jt b (a+1)=_+_+(_+_)):=show _=_ from X
  have L:ZE ((a:_)+2<(F b:E))=_:=aF O;have b1:ZE (a+2<_)=_:=aF O;have a3:0<=(a:E):=O;have a4:a+1<(F b:E):=O;have a5:a<(F b:E):=O;generalize (Z b) a e0=f,Z b (a+1) e0=g at *;have⟨R,S⟩:=Y_ z A;obtain⟨c1,c2,c3,c4⟩:=z;obtain⟨c5,c6,c7,c8⟩:=A;have b9:i64.wrap (a+2)=a+2:=(by rw[wrap_i64];omega);have b8:i64.wrap (a+1)=a+1:=(by rw[wrap_i64];omega);have c0:i64.wrap (f.t+f.h+(g.t+g.h))=f.t+f.h+(g.t+g.h):=(by rw[wrap_i64];omega);have a6:0<=(a:E)+1:=O
  by_cases n:f.t+f.h+(g.t+g.h)<m
  ·have M:=aF n
   have p:K (∀h,k<=h->h<a+1->Jt b h+Jt b (h+1)<m):=λh v w=>by
    by_cases l:h=a
    subst l;rw[s];exact n;exact q h v O
   go_wp2_with fail
   go_region_held3 (λe=>D_ e c (d+a*4) (I f.v)/\D_ e c (d+a*4+1) (I f.t)/\D_ e c (d+a*4+2) (I f.h)/\D_ e c (d+a*4+3) (I f.g)/\D_ e c (d+(a+1)*4) (I g.v)/\D_ e c (d+(a+1)*4+1) (I g.t)/\D_ e c (d+(a+1)*4+2) (I g.h)/\D_ e c (d+(a+1)*4+3) (I g.g)) (go_keep) (first|(go_at_call 154;apply (vg O).m;rintro l e ⟨rfl,rfl⟩))
   all_goals go_wp2
   all_goals
    go_roundw;exact⟨a+1,g_,O,O,p,((j.alloc j.size _).alloc (by have:=j.size;simp;omega) _).drew⟩;exact z_
  have M:=aE n;have p:K (Zfn b _ _ a):=⟨x,y,q,ZJ (s ▸ n)⟩;go_wp2_with fail
  go_region_held3 (λe=>D_ e c (d+a*4) (I f.v)/\D_ e c (d+a*4+1) (I f.t)/\D_ e c (d+a*4+2) (I f.h)/\D_ e c (d+a*4+3) (I f.g)/\D_ e c (d+(a+1)*4) (I g.v)/\D_ e c (d+(a+1)*4+1) (I g.t)/\D_ e c (d+(a+1)*4+2) (I g.h)/\D_ e c (d+(a+1)*4+3) (I g.g)) (go_keep) (first|(go_at_call 154;apply (vg O).m;rintro l e ⟨rfl,rfl⟩))
  all_goals go_wp2
  all_goals go_ret
  all_goals exact⟨a,X,p,((j.alloc j.size _).alloc (by have:=j.size;simp;omega) _).drew⟩
 have L:ZE ((a:_)+2<(F b:E))=_:=aE O;have p:K (Zfn b _ _ a):=⟨x,y,q,ZM O⟩;go_wp2_with fail
 go_big_quiet (fail);go_wp2;go_ret;exact⟨a,X,p,below_drewN j _⟩
def atK(a:U Cd)(b k:H):H:=if k=0 then 1 else Cy a b k
def ZhN{a}(k:Bc a){b d j:H}{f e}(h:3<=F a)(s:2<=b)(q:0<=e)(o:e<(b:E)-1)(n:f*(b-1)+e=4*(d+1:H)*Ae a)(g:Zfn a (if 0<e then f+1 else f) (atK a b d) j):j=Cy a b (d+1):=by
 have r:∀c,Jt a c+Jt a (c+1)<(if 0<e then f+1 else f)↔Rz a b (d+1) c=Z0:=λc=>by rw[Zkn O q o n];unfold Rz;grind
 have p:1<=atK a b d:=(by unfold atK;split;omega;exact(Gi a b d h).f);refine ZaE.a ⟨aG p g.p,g.k,λc l m=>?_,?_⟩ (Gi a b _ h)
 ·by_cases i:atK a b d<=c
  exact(r c).1 (g.l c i m);unfold atK at i;split at i;omega;exact vh k ((Gi a b d h).l c l O)
 rcases g.j with i|i
 exact ZM i
 grind
def ZpU{a} c b (d:3<=F a):atK a c b+2<=F a:=by unfold atK;split;omega;exact(Gi a c b d).k
def nc{L} b:∀a,F (Fd L b a)<=a+1
 |0=>by simp[Fd]
 | a+1=>by
  have:=nc (L:=L) b a;simp only[Fd]
  grind
def Zd2{l j c b}(h:Ln l j c b):∀a k,(flat b)[a]? =T k->ZV l (((J j c):Addr).add a)=T k:=by
 intro a k m;have o:a<F b*4:=by rw[<- Cg];grind
 have n:∀b f i,f<F b->i<4->(flat b)[f*4+i]? =(Es (Z b f e0))[i]?:=by
  intro b
  induction b with
  |nil=>grind
  | cons e b p=>
   intro f i g d
   cases f with
   |zero=>grind [flat,Es]
   | succ f=>
    grind [flat,Es]
 have d:=n b (a/4) (a%4) O O;rw[show a/4*4+a%4=a by omega,m] at d;rw[(Go.WideShapes.add_plain j c a)];have g:a/4<F b:=O
 rcases(show a%4=0∨a%4=1∨a%4=2∨a%4=3 by omega) with e|e|e|e
 rw[e] at d;rw[show c+a=c+a/4*4 by omega,h.v _ g];exact d.s;rw[e] at d;rw[show c+a=c+a/4*4+1 by omega,h.t _ g];exact d.s;rw[e] at d;rw[show c+a=c+a/4*4+2 by omega,h.h _ g];exact d.s;rw[e] at d;rw[show c+a=c+a/4*4+3 by omega,h.g _ g];exact d.s
def Vt b:∀c∈flat b,c.oneCell'=Z0:=by
 induction b with
 |nil=>simp[flat]
 | cons e b d=>
  intro c a;simp only[flat,mem_append] at a
  rcases a with a|a
  ·simp[Es] at a;rcases a with rfl|rfl|rfl|rfl<;>rfl
  exact d c a
def ZlV{d e a c b:E}(h:0<a)(k:0<=e)(g:c<=a)(i:0<=b)(j:d*a+e=c*b):d<=b:=by
 have f:d*a<=b*a:=by
  have:c*b<=a*b:=Int.mul_le_mul_of_nonneg_right g i
  grind
 exact Int.le_of_mul_le_mul_right f h
def Ai.kept{e f c a b d}(g:Ai e c a b)(h:Y3 e f (T d))(i:ZW a≠T d):Ai f c a b:=World.ownsRow.kept g h (ZJ i)
def Ai.c{e g d f b j k l m}(h:Ai e g d f)(i:Qm e b j k l m):ZW d≠T b:=by
 intro a
 rcases h.2 with⟨rfl,_⟩|⟨p,n,o,rfl,_,c,_⟩
 simp[ZW] at a;simp[ZW] at a;subst a;rw[i] at c;simp at c
def ZpT{b:ZT}{s:YZ Oper}{t:U Oper}{e:Oper}{x:Act}{l:Exit->Act->ZT->Prop}{f g:Operand}{d a i}(c:Cj b d a)(A:d=ZP->i=0)(hK:∀k h,K (Ai h (B b.1) k a/\E_ b h)->wpList Y8 s l t (x.put e.dst k) h)(m:e.guard=ZP:=by rfl)(o:e.op=.call {callee:=.builtin .append,args:=#[f,g],argTypes:=#[29,29]}:=by rfl)(p:x.eval f=ZH ZP 0 0:=by rfl)(q:x.eval g=ZH d (F a) i:=by rfl):wpList Y8 s l (e::t) x b:=by
 have⟨r,n,D,G,L⟩:=info_parts bq;obtain⟨Q,c⟩:=c
 cases d with
 | none=>
  obtain rfl:a=[]:=w_;obtain rfl:=A X;exact wpList_append_own_none m f g 29 o (B b.1) 98 r 4 underlying29 n _ 0 [] p (Ai.nil _ _) q (hK _ _ ⟨Ai.nil _ _,y_⟩)
 | some u=>
  refine wpList_append_own b m f g 29 o (B b.1) 98 r _ 4 32 underlying29 n D G L X C _ 0 [] p (Ai.nil _ _) u (F a) i (flat a) q (Cg a) (λM N j=>?_) (Vt a) (by unfold Y2;omega) O x_ λk h w y _=>hK _ _ ⟨?_,y_.grown y x_ (λz v=>by cases v)⟩
  ·rcases c with c|⟨P,R,v,z⟩
   rw[eq_nil_of_length_eq_zero c] at j;cases j
   cases v;exact Zd2 z M N j
  simpa [Ai] using w
def ym{a1 b a2} p {d}(u:Cj d a1 b)(m:Bc b)(d5:a1=ZP->a2=0):C_ 47 #[V a1 (F b) a2,I p] d λg A=>∃c,g=ZI c/\Ai A (B d.1) c (Ep b p)/\E_ d A:=by
 have⟨n,G⟩:=Y_ u m;have f0:=u.1;obtain⟨a,d7⟩:∃a:H,max p 2=a:=⟨ZL (max p 2),O⟩;have d8:2<=a:=O
 have r:K (Ep b p=if F b<=a then b else Fd b a (a-2)++[Z b (F b-1) e0]):=show _=_ by grind [Ep]
 refine q_ ?_;go_upto_region 1 with fail;go_cut [1] (λc f=>c=I a/\f=d)
 case first=>
  by_cases c:p<2<;>(go_wp2;go_meet;grind)
 obtain⟨rfl,e1⟩:=hcut;obtain rfl:=e1.s;clear d7 u m
 by_cases c0:F b<=a
 ·rw[aD c0] at r;go_wp2_with (at_builtin;apply ZpT n d5)
  intro y a8 c;refine wr_ ?_;exact⟨_,X,by rw[r];exact c.1,c.2⟩
 rw[aC c0] at r;have P:3<=F b:=O;obtain⟨e4,f6,rfl,b3,b4,b5,b6,e6⟩:=n.at (i:=0) O;simp only[Nat.zero_mul,Nat.add_zero] at b3 b4 b5 b6;have c6:K (Fd b a 0=[_]):=rfl;generalize (Z b) 0 e0=e at *;have e5:0<F b:=O;have d4:∀k:ZT,(Instr.makeSlice 29 (I 0) (I a)).run Y8 k=.ok (L_ (B k.1) 0 a) (ZN k (O_ (YV #[I 0,I 0,I 0,I 0] (a*4)) 98)):=λ_=>mk_ 4;go_upto_region 5 with fail;go_cut [6] (λc f=>K (Ai f (B d.1) c [e])/\E_ d f)
 case first=>
  have j:∀(k:ZT) m,B d.1<=m->B k.1=m->Ai (ZN k (O_ (YV #[I 0,I 0,I 0,I 0] (a*4)) 98)) (B d.1) (L_ m 0 a) []:=λk m u g=>by subst g;exact ownsRow_made k _ a u (by unfold Y2;omega) (size_madeCells _ _)
  have⟨x,s,t,v,w⟩:=info_parts bq;have l:∀f h,([I e.v,I e.t,I e.h,I e.g]:U ZY)[f]? =T h->_:=one_at (w:=ZN d (O_ (YV #[I 0,I 0,I 0,I 0] (a*4)) 98)) (g:=B d.1+1) (c:=#[I e.v,I e.t,I e.h,I e.g]) (t:=98) s_;go_region_law (refine Se X _ _ 29 X _ 98 x _ 4 32 underlying29 s t v w X C (V _ 0 a) 0 [] X (by first|exact(j d _ x_ X).alloc _|exact j (ZN d _) (B d.1+1) O s_) _ 1 1 [I e.v,I e.t,I e.h,I e.g] X X (by first|exact l|exact λf h c=>X_ (one_new d _ 98 f h c)) (by simp[oneCell']) (by unfold Y2;omega) O u_ ?_;intro y a8 P q;have o:=((r_.alloc s_ _).drew).grown q u_ (λc b9=>by simp[ZW] at b9;omega))
  all_goals go_wp2
  all_goals go_meet
  all_goals exact⟨by simpa [Ai,flat,Es,Hid] using P,o⟩
 obtain⟨b1,v⟩:=hcut;have f9:=(Dk G).1;have g0:=(Dk G).2;have e7:=v.size;go_wp2_with fail
 apply (ZcR b (n.q v)).m;rintro g A ⟨rfl,rfl⟩;generalize a0:Ae b=S at *;replace a0:=Y a0;clear b3 b4 b5 b6 d4;go_wp2_with fail
 go_loopw [6,8,9,36] (λo q s h l=>∃(c:H) (j f:E),c<=a-2/\q=I (atK b a c:H)/\s=I (Jy b a c:H)/\h=I c/\K (Ai l (B d.1) o (Fd b a c)/\Qm l (B A.1) (4*S) ((a:E)-1) j f/\j*((a:E)-1)+f=(c:E)*(4*S))/\0<=f/\f<(a:E)-1/\0<=j/\E_ d l) (λ_ _ _ h _=>a-ZL (intOf h))
 case atStart=>exact⟨0,0,0,v_,X,X,X,⟨c6 ▸ (b1.alloc _),hn_,s_⟩,O,O,O,v.alloc v.size _⟩
 clear b1 v;obtain⟨c,g3,f8,b9,rfl,rfl,rfl,f,d6,f2,f4,w⟩:=hrel;have f5:=ZlV O d6 O O f.2.2;have c2:=w.size;have a9:=Y (ZpU a c P);have e8:=nc (L:=b) a c
 by_cases e9:c<a-2
 case neg=>
  have q:¬c<(a:E)-2:=O;obtain⟨l,o⟩:∃l,F b=l+1:=⟨F b-1,O⟩;rw[show a-2=c by omega,show F b-1=l by omega] at r;obtain⟨_,_,⟨⟩,c8,c9,d0,d1,_⟩:=(n.q w).at (i:=l) O;generalize (Z b) l e0=h,Fd b a c=e2 at *;go_wp2_with (at_builtin;refine ap_ [I h.v,I h.t,I h.h,I h.g] (f.1.alloc _) ?_)
  intro e3 c5 j;have a4:=(w.alloc c2 _).grown j.2.1 t_ (λR x=>(f.1.lt R x).1);have x:=Y (Ai.P j.1);clear j;refine wr_ ?_;exact⟨_,X,r ▸ x,a4⟩
 have f1:c<(a:E)-2:=O;go_wp2_with fail
 apply (ZkW f.2.1 O O O O).m;rintro g g1 ⟨rfl,q,z,b7,c1,a6,a7,c4,f7,a5⟩;have W:K (q*(a-1)+z=(c+1:H)*(4*S)):=(by show _=_;rw[c1,f.2.2,show((c+1:H):E)=(c:E)+1 by omega,Int.add_mul,Int.one_mul]);have t:=K_ (f.1.kept a5 (f.1.c f.2.1)) b7;have b8:=w.grown a5 c2 (λR x=>by simp at x;omega);clear c1 a5 b7 f w;go_wp2_with fail
 apply (td t.2 O).m;rintro g g2 ⟨rfl,rfl⟩;generalize s:(if 0<z then q+1 else q)=d2;generalize b0:atK b a c=c7 at *;replace s:=K_ s b0;clear b0;go_wp2_with fail
 apply (ZbL b a2 c7 d2 (Y (n.q b8)) G a9).m;rintro g a8 ⟨l,rfl,a3,o⟩;have b2:=Y (ZhN G P d8 a6 a7 (by rw[a0,W,<- Int.mul_assoc,Int.mul_comm 4 ((c+1:H):E),Int.mul_assoc]) (by rw[s.2,s.1];exact a3));have f3:=a3.k;have N:=Y (t.1.q o);have M:K (Qm _ _ _ _ _ _):=(o.block _ t.2.lt).T t.2;have Q:=bt_ b8 o;have d9:=Q.size;have D:K (atK b a (c+1)=l/\Jy b a (c+1)=l):=by rw[b2];exact⟨by simp[atK],by simp[Jy]⟩
 have L:K (Fd b a (c+1)=if l=Jy b a c then Fd b a c else Fd b a c++[Z b l e0]):=(by show _=_;rw[b2];rfl);clear a3 o t s a9;generalize Jy b a c=c3 at *
 by_cases y:l=c3
 ·rw[aD y] at L;have h:(l !=(c3:E))=ZZ:=(by rw[bne_eq_false_iff_eq];omega);replace y:=Y y;refine J_ ?_;exact⟨c+1,q,z,O,by rw[D.1],by rw[D.2,y],g_,⟨L ▸ N,M,W⟩,a6,a7,c4,Q⟩
 rw[aC y] at L;obtain⟨_,_,⟨⟩,c8,c9,d0,d1,_⟩:=(n.q Q).at (i:=l) O;generalize (Z b) l e0=h,Fd b a c=e2 at *;go_wp2_with (at_builtin;refine ap_ [I h.v,I h.t,I h.h,I h.g] (N.alloc _) ?_)
 intro e3 c5 j;have a4:=(Q.alloc d9 _).grown j.2.1 t_ (λR x=>(N.lt R x).1);have x:=Y (Ai.P j.1);have R:K (Qm c5 (B A.1) (4*S) (a-1) q z):=(by have d3:=M.lt;unfold Qm;rw[j.2.1.block _ t_ (λg=>(N.c M) g.s),hb_ a8 _ _ d3];exact M);clear j;refine J_ ?_;exact⟨c+1,q,z,O,by rw[D.1],by rw[D.2],g_,⟨L ▸ x,R,W⟩,a6,a7,c4,a4⟩
def Kq(a:E×E):Cd:=⟨a.1,0,0,a.2⟩
def Yi{a B x c b}(f:F a=c)(e:b<4) d:(flat (a++x::B)).set (c*4+b) d=flat a++((Es x).set b d++flat B):=by grind [Cb,flat,Cg]
def Mn{a b}{x:Cd}{c}(e:F a=c) d:(flat (a++x::b)).set (c*4+1) (I d)=flat (a++⟨x.v,d,x.h,x.g⟩::b):=by rw[Yi e O,Cb];rfl
def Mo{a b}{x:Cd}{c}(e:F a=c) d:(flat (a++x::b)).set (c*4+2) (I d)=flat (a++⟨x.v,x.t,d,x.g⟩::b):=by rw[Yi e O,Cb];rfl
def Mp{a b}{x:Cd}{c}(e:F a=c) d:(flat (a++x::b)).set (c*4+3) (I d)=flat (a++⟨x.v,x.t,x.h,d⟩::b):=by rw[Yi e O,Cb];rfl
theorem Ai.at{b i a j e g x k n}(h:Ai b i (L_ a n j) (e++x::g))(l:n=F (e++x::g))(o:F e=k):ZV b (J a (k*4))=T (I x.v)/\ZV b (J a (k*4+1))=T (I x.t)/\ZV b (J a (k*4+2))=T (I x.h)/\ZV b (J a (k*4+3))=T (I x.g)/\∀f,YT b (J a f)=ZZ:=by
 subst l
 have d:∀c,c<4->ZV b (J a (k*4+c))=(Es x)[c]?:=λc m=>by
  rw[World.ownsRow.cellAt h (k*4+c) t_,Cb]
  grind [flat,Cg]
 exact⟨d 0 O,d 1 O,d 2 O,d 3 O,λf=>World.ownsRow.frozenAt h f⟩
def Ai.b{i g c h e d a b f}(j:Ai i g (L_ c e h) a)(k:e=F a)(m:F b=F a)(l:(flat a).set d f=flat b):Ai (ZO i (J c d) f) g (L_ c e h) b:=by
 subst k;have:=(World.ownsRow.stored j d f).1;unfold Ai
 grind
def Rj{M}(f:∀c∈M,0<=c.2) b:0<=Bv (ZU b M)/\Bv (ZU b M)<=Bv M:=by
 have e:∀a:U (E×E),(∀c∈a,0<=c.2)->0<=Bv a:=by
  intro a d
  induction a with
  |nil=>simp[Bv]
  |cons c h g=>grind [Bv]
 have d:=Tx (ZU b M) (ZF b M);rw[take_append_drop] at d
 grind
def Vy(a:U (E×E))(b:H):U Cd:=Bo 0 (ZU b a)++(ZF b a).map Kq
def Zia a b:F (Vy a b)=F a:=by simp[Vy,Pw];omega
def Zlg{c} d a {e f}(v:Ai f e (L_ c (F a) d) (a.map Kq))(y:∀D∈a,0<=D.2)(Q:Bv a<=1000000000000)(P:F a<=4194304):C_ 84 #[L_ c (F a) d] f λh b=>h=ZI (Y5 #[])/\Ai b e (L_ c (F a) d) (Bo 0 a)/\Y3 f b (T c):=by
 have⟨p,g⟩:=Y_ v y;refine ew_ ?_;go_loopw [2,7] (λj i h=>∃b:H,b<=F a/\i=I b/\j=I (Bv (ZU b a))/\K (Ai h e (L_ c (F a) d) (Vy a b)/\Y3 f h (T c))) (m2_ (F a))
 exact⟨0,v_,X,X,by simpa [Vy,Bo] using p.out,Ay⟩;obtain⟨b,N,rfl,rfl,q⟩:=hrel;obtain⟨l,x⟩:=q;have m:=Y x
 by_cases i:b<F a
 ·have z:=aN i;have w:Vy a b=Bo 0 (ZU b a)++Kq a[b]::(ZF (b+1) a).map Kq:=(by unfold Vy;rw[z];rfl);have j:F (Bo 0 (ZU b a))=b:=(by rw[Pw];simp;omega);have k:=Zia a b;rw[w] at l k;have⟨r,s,t,u,M⟩:=l.at (by rw[k]) j;have R:=Rj g b;have A:=Rj g (b+1);have n:Bv (ZU (b+1) a)=Bv (ZU b a)+a[b].2:=by rw[Qi i,Tx];simp[Bv]
  have o:K (Ai (ZO (ZO wr (J c (b*4+1)) (I (Bv (ZU b a)))) (J c (b*4+2)) (I (Bv (ZU b a)+a[b].2))) e (L_ c (F a) d) (Vy a (b+1))):=(by have G:=l.b (by rw[k]) s_ (Mn j (Bv (ZU b a)));have L:=G.b w_ s_ (Mo j (Bv (ZU b a)+a[b].2));have h:Vy a (b+1)=Bo 0 (ZU b a)++⟨a[b].1,Bv (ZU b a),Bv (ZU b a)+a[b].2,a[b].2⟩::(ZF (b+1) a).map Kq:=(by grind [Vy,Zk,Bo]);rw[h];exact L);have h:=Y n;have L:=g _ (Qf i);simp only[Kq] at r s t u;rw[n] at A;generalize Bv (ZU b a)=S,a[b].2=a0,a[b].1=W at *;have G:=F_ b _;refine J_ ?_;exact⟨b+1,O,g_,by rw[h],o,Aq (Aq m _) _⟩
 have j:F a=b:=O;have h:K (Ai wr e (L_ c (F a) d) (Bo 0 a)):=(by grind [Vy]);go_wp2;go_end0;exact⟨X,h,m⟩
def Ns{i M N l m t}(a5:l.guard=ZP) P x (b0:l.op=.call {callee:=.builtin .append,args:=#[P,x],argTypes:=#[29,29]}) q (a6:prog.info? 98=T q)(p:q.size=4) v f g r e a b d c (n:F a=e)(a8:r=F (a++d::b))(b1:m.eval P=L_ f e g)(a1:Ai i v (L_ f r g) (a++d::b)) u w (b3:m.eval x=ZH (T u) 1 w)(a9:∀L Q,[I c.v,I c.t,I c.h,I c.g][L]? =T Q->ZV i (u.add L)=T Q)(a0:∀s,Ai s v (L_ f r g) (a++c::b)->Y3 i s (T f)->wpList Y8 M t N (m.put l.dst (L_ f (e+1) g)) s):wpList Y8 M t (l::N) m i:=by
 subst a8
 rcases a1.2 with⟨j,_⟩|⟨b5,b4,h,j,a2,A,D,a4,y,b2⟩
 simp at j;simp only[slice.injEq,Option.some.injEq,Addr.mk.injEq,and_true,true_and] at j;obtain⟨rfl,rfl⟩:=j;have a7:F (a++d::b)=e+1+F b:=(by simp[n];omega);have z:F (flat a)=e*4:=(by rw[Cg,n]);refine wpList_plain a5 λK hK=>?_;have G:=run_append_room (P:=Y8) i 29 l.type 98 q underlying29 a6 f e g _ A _ 1 w _ (by rw[p];rfl) a9 (by simp[oneCell']) O (by rw[p,y];simp;omega);rw[p] at G;have a3:Y4 h=flat (a++d::b)++ZF (F (a++d::b)*4) (Y4 h):=by rw[<- b2,take_append_drop]
 have o:ZU (e*4) (Y4 h)++[I c.v,I c.t,I c.h,I c.g]++ZF (e*4+4) (Y4 h)=flat (a++c::b)++ZF (F (a++d::b)*4) (Y4 h):=by
  rw[a3];generalize (Y4 h).drop (F (a++d::b)*4)=k;rw[Cb,Cb];have R:ZU (e*4) (flat a++flat (d::b)++k)=flat a:=by rw[append_assoc,<- z,take_left]
  have S:ZF (e*4+4) (flat a++flat (d::b)++k)=flat b++k:=(by rw[append_assoc,<- drop_drop,<- z,drop_left];simp[flat,Es]);have W:List.drop (F (a++d::b)*4) (flat a++flat (d::b)++k)=k:=(by rw[<- Cb,<- Cg,drop_left]);rw[R,S,W];simp[flat,Es]
 have R:F (flat (a++c::b)++ZF (F (a++d::b)*4) (Y4 h))=g*4:=(by have k:F (Y4 h)=g*4:=(by rw[Array.length_toList,y]);rw[Qe,Cg,length_drop,k];rw[a7] at D ⊢;have:F (a++c::b)=e+1+F b:=(by simp[n]<;>omega);omega);unfold Oper.wp;simp only[execOp,b0,resolve,invoke,builtin,Sem.run_bind,Sem.run_pure,Result.andThen_ok,map_toArray,map_cons,map_nil,b1,b3,G];refine hK _ _ (a0 _ ?_ ?_)
 ·refine⟨by rw[Cg],ZJ ⟨f,g,_,s_,a2,setRow_heap i f _ _ _ _ A,?_,a4,?_,?_⟩⟩
  ·simpa using D
  simp only[length_cons,length_nil] at o ⊢;rw[size_toArray];simp only[Nat.zero_add,reduceAdd];rw[o];exact R;simp only[length_cons,length_nil,Nat.zero_add,reduceAdd];rw[o,show F (a++c::b)*4=F (flat (a++c::b)) by rw[Cg],take_left]
 exact⟨X,X,X,by simp[setRow],λS _ k=>setRow_other i f S _ (λj=>k (by rw[j]))⟩
def Ai.g{i f e d h g a c}(k:Ai i f (L_ e h d) (a++c))(q:h=F (a++c))(p:g=F a):Ai i f (L_ e g d) a:=by
 subst q p
 rcases k.2 with⟨b,_⟩|⟨u,t,j,b,l,o,r,m,n,s⟩
 simp at b;simp only[slice.injEq,Option.some.injEq,Addr.mk.injEq,and_true,true_and] at b;obtain⟨rfl,rfl⟩:=b;refine⟨Cg a,ZJ ⟨e,d,j,X,l,o,by simp at r;omega,m,n,?_⟩⟩;have:ZU (F a*4) (flat (a++c))=flat a:=(by rw[Cb,<- Cg,take_left]);rw[<- this,<- s,take_take];congr 1;simp<;>omega
def ZlQ{a}(c:∀b∈a,1<=b.2) g:Qj a g<=Bv a:=by
 induction a with
 |nil=>simp[Qj,Bv]
 | cons b i e=>
  have h:=e (λf d=>c f (by simp[d]));have d:=c b s_;simp only[Qj,Bv];split<;>omega
def od{a:ZT}{d}(f:B a.1=d){b}:∀c e,(Y4 b)[c]? =T e->ZV (ZN a (O_ b 98)) (((J d 0):Addr).add c)=T e:=by subst f;exact one_new a b _
def Hi{g h i:ZT}{c}(a:Y3 g h c)(b:Y3 h i c):Y3 g i c:=
 ⟨b.os.T a.os,b.tape.T a.tape,b.output.T a.output,aG a.size b.size,λf d e=>(b.block f (Qh d a.size) e).T (a.block f d e)⟩
def Lc{b c f}(a:E_ b c):Y3 b c f:=⟨a.os,a.tape,a.output,a.size,λe d _=>a.block e d⟩
structure Sn(d:U (E×E))(b)(a)(c:U Cd):Prop where
 sum:Ej (ZU b d) a
 y:F a+F c=b
def Fj(c:U (E×E))(d:H)(b:U (E×E))(a:U Cd):U Cd:=b.map Kq++(a++(ZF d c).map Kq)
def Zeq{a b d c}(e:Sn a b d c)(f:b<=F a):F (Fj a b d c)=F a:=by have:=e.y;simp[Fj];omega
def qo{a:U (E×E)}{b} c:ZU (b+1) a=ZU b a++[a[b]]:=Qi c
def Zer{a b e d c g}(f:Sn a b (e++[(c,g)]) d){i}(h:c=a[b].1):Sn a (b+1) (e++[(c,g+a[b].2)]) (d++[Kq a[b]]):=by refine⟨?_,by have:=f.y;simp at this ⊢;omega⟩;rw[qo i];have:=f.sum.c a[b].2;rw[show a[b]=(c,a[b].2) from Prod.ext h.s X];exact this
def nz{c b d q}(h:Sn c b d q){t}(m:c.Pairwise λx i=>x.1<=i.1)(v:∀p y r,d=r++[(p,y)]->p≠c[b].1):Ej (ZU (b+1) c) (d++[c[b]]):=by
 rw[qo t];refine h.sum.P λi l=>?_;have u:i.1<=c[b].1:=by have⟨j,g,e⟩:=mem_iff_getElem.1 l;rw[getElem_take] at e;rw[<- e];exact pairwise_iff_getElem.1 m j b (by simp at g;omega) _ (by simp at g;omega)
 rcases Int.lt_or_eq_of_le u with k|k
 exact k;exfalso;have⟨o,a,z⟩:=h.sum.all i l;have f:=ne_nil_of_mem a;have n:=(dropLast_concat_getLast f).s;apply v _ _ _ n;have A:(d.getLast f).1<=c[b].1:=by have⟨D,w,s⟩:=h.sum.e _ (getLast_mem f);have⟨j,g,e⟩:=mem_iff_getElem.1 w;rw[getElem_take] at e;rw[<- s,<- e];exact pairwise_iff_getElem.1 m j b (by simp at g;omega) _ (by simp at g;omega)
 have g:o.1<=(d.getLast f).1:=by
  have e:=h.sum.f;rw[n] at a e
  rcases mem_append.1 a with a|a
  have:=(pairwise_append.1 e).2.2 o a (d.getLast f) s_;omega;simp at a;rw[a];exact Int.le_refl _
 omega
def fq{b a d c}(h:Sn b a d c) i:∃e f g,Fj b a d c=d.map Kq++e::f/\Fj b (a+1) (d++[b[a]]) g=d.map Kq++Kq b[a]::f/\F (d++[b[a]])+F g=a+1:=by
 have f:=h.y;have g:=aN i
 cases c with
 |nil=>exact⟨Kq _,(ZF (a+1) b).map _,[],by unfold Fj;rw[g,map_cons,nil_append],by unfold Fj;simp,by simp at f ⊢;omega⟩
 |cons e c=>exact⟨e,c++Kq _::(ZF (a+1) b).map _,c++[Kq b[a]],by unfold Fj;rw[g,map_cons];rfl,by unfold Fj;simp,by simp at f ⊢;omega⟩
def ny{e} j (a:U (E×E)){n r}(a4:Ai r n (L_ e (F a) j) (a.map Kq))(b4:a.Pairwise λq i=>q.1<=i.1)(b1:∀q∈a,1<=q.2/\q.2<=1000)(d8:F a<=2097152):C_ 83 #[L_ e (F a) j] r λu b=>∃c,u=ZI (ZH (T ⟨e,0,ZP⟩) (F c) j)/\Ej a c/\F c<=F a/\Ai b n (L_ e (F c) j) (c.map Kq)/\Y3 r b (T e):=by
 have⟨b7,b0,e2,b6,e3⟩:=info_parts bq;have d6:=(B_ a4 e X).2;have⟨b8,a8,a1⟩:=y3_ a4 b4 b1;clear a4 b4 b1;refine q_ ?_;go_wp2_with fail
 go_loopw [3,11] (λh g d=>∃(b:H) (c:U (E×E)) (f:U Cd),b<=F a/\g=I b/\h=ZH (T (J e 0)) (F c) j/\K (Sn a b c f/\Ai d n (L_ e (F a) j) (Fj a b c f)/\Y3 r d (T e))) (m2_ (F a))
 exact⟨0,[],[],v_,X,X,⟨Ej.nil,X⟩,by simpa [Fj] using b8.out,Ay⟩;obtain⟨b,c,f,d7,rfl,rfl,b9⟩:=hrel;obtain⟨g,o,N⟩:=b9;have L:=Y N;have e1:=N.size;have d5:e<B wr.1:=O
 by_cases P:b<F a
 ·have d4:=g.y;have b5:=aN P;have a9:Fj a b c f=(c.map Kq++f)++Kq a[b]::(ZF (b+1) a).map Kq:=(by unfold Fj;rw[b5,map_cons,append_assoc]);have x:=Zeq g O;have a5:=o;rw[a9] at a5;have⟨c0,c1,c2,c3,d2⟩:=a5.at (by rw[<- a9,x]) (show F (c.map Kq++f)=b by simp;omega);simp only[Kq] at c0 c1 c2 c3;have d9:=a1 _ (Qf P);have c9:=F_ b (F a);have W:=Y o;clear o a5 N
  rcases eq_nil_or_concat c with M|⟨d,q,M⟩
  ·subst M;have⟨G,s,t,m,A,D⟩:=fq g P;have l:Sn a _ _ _:=⟨nz g a8 (λw r d u=>by simp at u),D⟩;have⟨u,a2,a0⟩:=y3_ l A (m ▸ W)
   have S:K (_=F (_++G::s)):=show _=_ by rw[<- m,x]
   clear l m A D;generalize a[b]=i at *;go_wp2_with fail
   go_big_quiet (fail);go_wp2_with (at_builtin;refine Ns X _ _ X b7 b0 b6 _ e j _ 0 [] s G (Kq i) X S X (a0.q (by repeat(first|with_reducible exact y_|with_reducible refine below_drewN ?_ _|with_reducible apply Below.drew|with_reducible refine Below.alloc ?_ u_ _))) _ 1 X (od s_) ?_)
   intro a7 z w;have a3:K (Ai a7 n (L_ e (F a) j) (Fj a (b+1) ([]++[i]) t)):=a2 ▸ z;have R:=Y (Hi L (Hi (Lc (by repeat(first|with_reducible exact y_|with_reducible refine below_drewN ?_ _|with_reducible apply Below.drew|with_reducible refine Below.alloc ?_ u_ _))) w));clear z w;refine J_ ?_;exact⟨b+1,[]++[i],t,O,g_,s_,u,a3,R⟩
  rw[concat_eq_append] at M;subst M;obtain⟨h,k⟩:=q;have v:Fj a b (d++[(h,k)]) f=d.map Kq++Kq (h,k)::(f++(ZF b a).map Kq):=(by unfold Fj;simp);have y:=W.out;rw[v] at y;have⟨c4,c5,c6,c7,_⟩:=y.at (by rw[<- v,x]) (show F (d.map Kq)=F d by simp);simp only[Kq] at c4 c5 c6 c7;have b3:k=Qj _ h:=g.sum.g (h,k) s_;have b2:∀Q∈ZU b a,_:=λQ a6=>(a1 Q (aL a6)).1;have e0:0<=k/\k<=1000*2097152:=by have l:=Zv b2 h;have m:=ZlQ b2 h;have p:=Uz (ps:=ZU b a) (λQ a6=>(a1 Q (aL a6)).2);have s:F (ZU b a)<=2097152:=t_;omega
  have d0:0<=(F d:E):=O;have d3:F d<b:=(by have:=g.y;simp at this;omega);have d1:F d<(F d:E)+1:=O
  by_cases p:h=a[b].1
  ·have l:=Zer g p;have u:=Y l
   have m:K (Fj a (b+1) (d++[(h,k+a[b].2)]) (f++[Kq a[b]])=d.map Kq++⟨h,0,0,k+a[b].2⟩::(f++(ZF b a).map Kq)):=show _=_ by unfold Fj;rw[b5];simp only[map_append,map_cons,map_nil,append_assoc,cons_append,nil_append,Kq]
   have t:=Y y
   have s:K (_=F (d.map _++_)):=show _=_ by rw[<- v,x]
   have c8:=beq_iff_eq.2 p;clear l b3 y v p;generalize a[b]=i at *;go_wp2_with fail
   go_big_quiet (fail);go_wp2_with fail
   go_region
   all_goals go_wp2
   all_goals
    go_roundw
    case rel=>
     refine⟨b+1,d++[(h,k+i.2)],f++[Kq i],O,g_,s_,u,?_,?_⟩;rw[m];exact(t.q (by repeat(first|with_reducible exact y_|with_reducible refine below_drewN ?_ _|with_reducible apply Below.drew|with_reducible refine Below.alloc ?_ u_ _))).b s s_ (Mp s_ _);refine Aq (Hi L (Lc ?_)) _
     repeat(first|with_reducible exact y_|with_reducible refine below_drewN ?_ _|with_reducible apply Below.drew|with_reducible refine Below.alloc ?_ u_ _)
    exact z_
  have c8:=aO p;have⟨G,s,t,m,A,D⟩:=fq g P;have l:Sn a _ _ _:=⟨nz g a8 (λw r z u=>by have:=(append_inj_right' u X);simp at this;rw[<- this.1];exact p),D⟩;have⟨u,a2,a0⟩:=y3_ l A (m ▸ W)
  have S:K (_=F (_++G::s)):=show _=_ by rw[<- m,x]
  clear l m A D;clear b3 y v p;generalize a[b]=i at *;go_wp2_with fail
  go_big_quiet (fail);go_wp2_with (at_builtin;refine Ns X _ _ X b7 b0 b6 _ e j _ _ _ s G (Kq i) s_ S X (a0.q (by repeat(first|with_reducible exact y_|with_reducible refine below_drewN ?_ _|with_reducible apply Below.drew|with_reducible refine Below.alloc ?_ u_ _))) _ 1 X (od s_) ?_)
  intro a7 z w;have a3:K (Ai a7 n (L_ e (F a) j) (Fj a (b+1) ((d++[(h,k)])++[i]) t)):=(by rw[a2];simp only[map_append,map_cons,map_nil,append_assoc,cons_append,nil_append];exact z);have R:=Y (Hi L (Hi (Lc (by repeat(first|with_reducible exact y_|with_reducible refine below_drewN ?_ _|with_reducible apply Below.drew|with_reducible refine Below.alloc ?_ u_ _))) w));clear z w;refine J_ ?_;exact⟨b+1,(d++[(h,k)])++[i],t,O,g_,s_,u,a3,R⟩
 have k:F a=b:=O;have d:K (Ej a c/\Ai wr n (L_ e (F c) j) (c.map Kq)):=by refine⟨by have:=g.sum;rwa [aI O] at this,?_⟩;have h:Fj a b c f=c.map Kq++f:=(by unfold Fj;rw[drop_eq_nil_of_le O];simp);rw[h] at o;exact o.g (by have:=g.y;simp;omega) s_
 have h:K (F c<=F a):=show _<=_ by have:=g.y;omega
 clear o N k g;go_wp2;go_ret;exact⟨c,X,d.1,h,d.2,L⟩
def ZmU:(prog.info? 29).map (λa=>(a.zero,a.size,a.bytes))=T (T (N_),1,24):=k_
theorem Ai.e{c n m b}(j:Ai c n m b)(l:F b<=4194304):∃g h,m=ZH g (F b) h/\Cj c g b/\(g=ZP->h=0)/\F b<=h:=by
 have i:=j
 rcases j.2 with⟨rfl,k⟩|⟨d,o,s,rfl,_,p,q,_⟩
 exact⟨ZP,0,by rw[k],⟨l,ZM k⟩,λ_=>X,O⟩;refine⟨_,o,X,⟨l,ZJ ⟨d,0,X,?_⟩⟩,(λe=>by cases e),q⟩
 have t:∀a,a<F b->D_ c d (a*4) (I (Z b a e0).v)/\D_ c d (a*4+1) (I (Z b a e0).t)/\D_ c d (a*4+2) (I (Z b a e0).h)/\D_ c d (a*4+3) (I (Z b a e0).g)/\∀r,YT c (J d r)=ZZ:=λa f=>by have e:b=ZU a b++Z b a e0::ZF (a+1) b:=(by grind [drop_eq_getElem_cons,take_append_drop]);rw[e] at i;exact Ai.at (n:=F b) (by rw[<- e] at i ⊢;exact i) (by rw[<- e]) t_
 refine⟨λ_=>(Qb p).1,λa f=>?_,λa f=>?_,λa f=>?_,λa f=>?_⟩
 ·grind
 ·grind
 ·grind
 grind
def Ai.m{e b b' d a}(c:Ai e b' d a)(j:b<=b'):Ai e b d a:=by
 refine⟨c.1,?_⟩
 rcases c.2 with l|⟨i,f,g,h,k,m⟩
 exact ZM l;exact ZJ ⟨i,f,g,h,aG j k,m⟩
structure kj(e:ZT)(c)(f)(d)(a:U (U Cd)):Prop where
 M:ZD e c 29 1 f (F a) d
 j:∀b,b<F a->Ai e c (Z d b (N_)) (Z a b [])
def Zdb(e:ZT)(b:H)(c:ZY)(a:U (U Cd)):Prop:=∃d,kj e b c d a
def Ai.grown{w g}{b h c m l:H}{f e a n}(d:Ai w b f a)(i:ZD w h c m e l n)(k:c≠98)(j:Y3 w g (ZW e)):Ai g b f a:=
 World.ownsRow.kept d j (Ap i d k)
def kj.q{f w' base d e a}(b:kj f base d e a)(c:E_ f w'):kj w' base d e a:=
 ⟨(Aa.a (S:=λ_=>False) c).M b.M (λ_ _=>id),λh g=>(b.j h g).q c⟩
def kj.put{h k e o j i d c b g}(f:kj h k (L_ e j o) d c)(s:j=F c)(t:Ai h k b g)(u:i<j):kj (ZO h (J e i) b) k (L_ e j o) (d.set i b) (c.set i g)/\Y3 h (ZO h (J e i) b) (T e):=by
 subst s;obtain⟨r,n⟩:=World.ownsRow.stored f.M i b;have v:F d=F c:=p_ f.M.1;refine⟨⟨by simpa using r,λa p=>?_⟩,n⟩;simp only[length_set] at p
 by_cases q:a=i
 subst q;have l:Z (d.set a b) a (N_)=b:=w_;have m:Z (c.set a g) a []=g:=w_;rw[l,m];exact t.grown f.M C n;have l:Z (d.set i b) a (N_)=Z d a (N_):=w_;have m:Z (c.set i g) a []=Z c a []:=w_;rw[l,m];exact(f.j a p).grown f.M C n
def kj.h{e h i g c}(d:kj e h i g c)(m:0<F c):∃b f,i=L_ b (F c) f/\h<=b/\b<B e.1/\(∀a,a<F c->ZV e (J b a)=T (Z g a (N_)))/\∀a,YT e (J b a)=ZZ:=by
 have p:F g=F c:=p_ d.M.1
 rcases d.M.2 with⟨_,n⟩|⟨b,f,l,rfl,j,k,_⟩
 omega;refine⟨b,f,X,j,(Qb k).1,λa o=>?_,λa=>World.ownsRow.frozenAt d.M a⟩;rw[World.ownsRow.cellAt d.M a O]
 grind
def Qy(b:U (U Cd))(a:H):U (U Cd):=Y6 a []++ZF a b
def nl{a b}(c:b<=F a):F (Qy a b)=F a:=by simp[Qy];omega
def Zm2{b a}:Z (Qy b a) a []=Z b a []:=by simp[Qy,Z,getElem?_append_right]
def ZbD{b a}(d:a<F b) c:(Qy b a).set a c=Y6 a []++c::ZF (a+1) b:=by unfold Qy;rw[aN d,set_append_right _ _ s_,length_replicate,Nat.sub_self,set_cons_zero]
def ZhC{b a}(c:a<F b):(Qy b a).set a []=Qy b (a+1):=by rw[ZbD c,Qy,replicate_succ',append_assoc];rfl
def Ze7{size}{a:U (U Cd)}{l b}(c:b<F a)(d:F (Z a b [])=0):Av size (ZF b a) l=l::ZF (b+1) a:=by
 rw[aN c]
 grind [Av]
def ZcN{size}{a:U (U Cd)}{l b}(c:b<F a)(d:F (Z a b [])≠0):Av size (ZF b a) l=[]::Av size (ZF (b+1) a) (Ep (Bf (Z a b []) l) size):=by
 rw[aN c]
 grind [Av]
def gj{a:U (U Cd)}{b}(c:b<F a):Aw (ZF b a)=Ae (Z a b [])+Aw (ZF (b+1) a):=by rw[aN c];have:Z a b []=a[b]:=(by simp[Z,c]);rw[this];rfl
def Um{a:U (U Cd)}{b}(c:b<F a):Z a b []∈a:=w_
def Ze6{e} b3 c9 b {g d} p (d8:Zdb p e b3 b)(l:Ai p e c9 g)(c7:Gt b)(s:Bc g)(b0:F g<=32)(e4:2<=d)(g6:d<=32)(y:Aw b+Ae g<=1000000000000)(e1:F b<=1000)(g4:e<=B p.1):C_ 318 #[b3,c9,I d] p λa1 c=>∃a,a1=ZI a/\Zdb c e a (Av d b g)/\Below e p c:=by
 obtain⟨f8,a3⟩:=d8;obtain⟨g8,_⟩:=info_parts ZmU
 have e7:∃d4 d6,b3=ZH d4 (F b) d6:=by
  rcases a3.M.2 with⟨rfl,c⟩|⟨k,d7,a,rfl,_⟩
  ·grind
  grind
 obtain⟨d0,W,rfl⟩:=e7;have b6:=Y a3;have w:=x4_ l s b0 y;have a0:=Y c7;obtain⟨f,b1⟩:=W_ (F b);have q:=Y b1;rw[<- b1] at e1 ⊢;clear a3 l c7 s b0 y b1;refine q_ ?_;go_wp2_with fail
 go_loopw [11,1] (λj k h=>∃(a:H) (c:U Cd) (o:U ZY),j=I a/\a<=f/\K (kj h e (V d0 f W) o (Qy b a)/\Ai h e k c/\Bc c/\F c<=32/\Aw (ZF a b)+Ae c<=1000000000000/\Av d b g=Y6 a []++Av d (ZF a b) c)/\Below e p h) (m4_ f)
 exact⟨0,g,f8,X,v_,⟨by have:=b6.out;rw[<- q] at this;exact this,w.1,w.2.1,w.2.2.1,w.2.2.2,X⟩,y_⟩;clear b6 w;obtain⟨a,c,o,rfl,c3,d3,P⟩:=hrel;obtain⟨n,l,s,b0,y,u⟩:=d3
 skip
 have g7:=P.size
 by_cases a8:a<f
 ·have h:a<F b:=(by rw[<- q];exact a8);have a9:=nl (show a<=F b by omega);obtain⟨k,d7,e6,c2,g5,a6,a7⟩:=n.h O;injection e6 with hv1 hv2 hv3;subst hv1 hv3;clear hv2;have Q:=a6 a O;have M:=n.j a O;rw[Zm2] at M;have D:=a0.j _ (Um h);have e8:=a0.y _ (Um h);have f5:=gj h;obtain⟨d5,b7,b2,a2,e2,_⟩:=M.e O;rw[b2] at Q;have e0:=a7 a;have g1:=F_ a f;have A:=Y n;obtain⟨m,j,R,x,t,_⟩:=l.e O;subst R
  by_cases L:F (Z b a [])=0
  ·have r:=Ze7 (size:=d) (l:=c) h L;have v:K (Zdb (ZO wr (J k a) (V m (F c) j)) e (L_ k f W) (Av d b g)/\Below e p (ZO wr (J k a) (V m (F c) j))):=(by obtain⟨S,c8⟩:=n.put (i:=a) (a9 ▸ q) l a8;refine⟨⟨o.set a (V m (F c) j),?_⟩,P.setCell c2 _⟩;rw[u,r,<- ZbD h];exact S);rw[L] at Q;clear n l a6 M a2 x b2 u a7 r a9 t;go_wp2;go_ret;exact⟨_,X,v.1,v.2⟩
  have r:=ZcN (size:=d) (l:=c) h L;have g3:((F (Z b a []):E)==0)=_:=aO O;have f2:=(Dk D).1;have f3:=(Dk s).1;have f4:=Gb (Ls:=ZF (a+1) b) (λz v=>a0.j z (mem_of_mem_drop v));have G:=Fy D s O;have b8:=G.e (Ge G d);have e9:=Jh (Bf (Z b a []) c) e4;have f0:=Mq (Z b a []) c;have f6:Ae (Ep (Bf (Z b a []) c) d)=Ae (Z b a [])+Ae c:=(by rw[Gn,Fc]);have b5:=Y (mz b7 j a2 x D s)
  have z:K (Bc (Bf (Z b a []) c)/\F (Bf (Z b a []) c)<=64/\Bc (Ep (Bf (Z b a []) c) d)/\F (Ep (Bf (Z b a []) c) d)<=32/\Aw (ZF (a+1) b)+Ae (Ep (Bf (Z b a []) c) d)<=1000000000000/\Av d b g=Y6 (a+1) []++Av d (ZF (a+1) b) (Ep (Bf (Z b a []) c) d)):=(by refine⟨G,O,b8,O,O,?_⟩;rw[u,r,replicate_succ',append_assoc];rfl);have d2:=Y h;clear n l a6 M a2 x b2 u a7 r a9 G b8 e9 f0 f6 f2 f3 f4 D e8 f5 y s e2 t L h;generalize (F (Z b a []))=f1 at *;go_wp2_with fail
  apply b5.m;rintro a1 f9 ⟨h0,rfl,c6,a5⟩;have e5:=a5.size;obtain⟨g0,g2,rfl,c0,c4,_⟩:=c6.e (p_ z.2.1);have b4:=Y (ym d c0 z.1 c4);clear c6 c0 c4 b5;generalize (F (Bf (Z b a []) c))=g9 at *;go_wp2_with fail
  apply b4.m;rintro a1 v ⟨f7,rfl,c5,c1⟩;have N:=a5.T (c1.m e5)
  have d9:∃d1,K (kj (ZO v (J k a) (N_)) e (L_ k f W) d1 (Qy b (a+1))/\Ai (ZO v (J k a) (N_)) e f7 (Ep (Bf (Z b a []) c) d)/\Bc (Ep (Bf (Z b a []) c) d)/\F (Ep (Bf (Z b a []) c) d)<=32/\Aw (ZF (a+1) b)+Ae (Ep (Bf (Z b a []) c) d)<=1000000000000/\Av d b g=Y6 (a+1) []++Av d (ZF (a+1) b) (Ep (Bf (Z b a []) c) d))/\Below e p (ZO v (J k a) (N_))/\D_ v k a (V d5 f1 b7)/\YT v (J k a)=ZZ:=by
   have a4:=A.q N;have h:=d2.out;have t:f=F (Qy b a):=(nl (Nat.le_of_lt h)) ▸ q;obtain⟨S,c8⟩:=a4.put (i:=a) t (Ai.nil v e) a8;rw[ZhC h] at S;have e3:=(c5.m (show e<=B f9.1 by omega)).grown a4.M C c8;refine⟨_,⟨S,e3,z.2.2⟩,?_,?_,?_⟩;exact(P.T (N.m O)).setCell c2 _;exact T_ N Q;have b9:=a4.M;rw[<- t] at b9;exact World.ownsRow.frozenAt b9 a
  obtain⟨d1,S,a4,b9,c8⟩:=d9;clear c5 c1 N a5 A b4 z Q e0;go_wp2;go_roundw
  grind
  exact z_
 have a6:a=f:=O;have r:Av d b g=Y6 a []++[c]:=(by rw[u,drop_eq_nil_of_le (p_ q.out)];rfl);have t:F (Qy b a)=f:=(by rw[nl (by have:=q.out;omega)];exact q.s);have L:Qy b a=Y6 a []:=(by unfold Qy;rw[drop_eq_nil_of_le (p_ q.out),append_nil]);have a7:¬a<(f:E):=O;obtain⟨m,j,R,x,a2,_⟩:=l.e O;subst R;have A:=Y n;have h:K (ZD wr e 29 1 (V d0 f W) f o):=gh_ n.M;have S:=Y l;have Q:K (Av d b g=Qy b a++[c]):=L ▸ r;clear n l r L u s y x a2;go_wp2_with (at_builtin;refine ap_ [V m (F c) j] (h.alloc _) ?_)
 intro a4 M N
 have v:K (Zdb M e a4 (Av d b g)/\Below e p M):=by
  obtain⟨a9,D,b2,_⟩:=N;have R:F o=f:=p_ h.1;refine⟨⟨o++[V m (F c) j],?_⟩,?_⟩
  ·rw[Q];refine⟨w_,λi G=>?_⟩;rw[Qe,t] at G;simp at G
   by_cases a5:i<f
   have k:Z (o++[ZH m (F c) j]) i (N_)=Z o i (N_):=w_;have z:Z (Qy b a++[c]) i []=Z (Qy b a) i []:=w_;rw[k,z];exact((A.j i O).alloc _).grown (h.alloc _) C D;have a1:i=f:=O;subst a1;have k:Z (o++[ZH m (F c) j]) i (N_)=ZH m (F c) j:=w_;have z:Z (Qy b a++[c]) i []=c:=w_;rw[k,z];exact(S.alloc _).grown (h.alloc _) C D
  exact P.T ((y_.alloc O _).grown D t_ (λa c3=>(h.lt a c3).1))
 skip
 go_wp2;go_ret;exact⟨_,X,v.1,v.2⟩
def Ze2{p s t e c k g o h z D A G L wc y x M}{q n i a}(m:c<=Y2)(l:Ed a e c q n i):C_ 41 #[Y7 (T p),Y9 #[I 1,I s,I t,V e c k,I g,I o,I h,V z D A,V G L wc,Q_ y,I x,I M]] a (U_ (ZR Z0) a):=by
 refine dl_ ?_;go_enter func41,ntmps41;go_wp2_with fail
 apply (ZgY m (l.q r_)).m;rintro j d ⟨rfl,b⟩;have u:=l.q (r_.T (b.m s_));have N:ZV d (J (B a.1) 3)=T (V e c k):=(by rw[b.cell (p:=(J (B a.1) 3)) s_];simp);have P:ZV d (J (B a.1) 4)=T (I g):=(by rw[b.cell (p:=(J (B a.1) 4)) s_];simp);have Q:ZV d (J (B a.1) 5)=T (I o):=(by rw[b.cell (p:=(J (B a.1) 5)) s_];simp);have R:ZV d (J (B a.1) 6)=T (I h):=(by rw[b.cell (p:=(J (B a.1) 6)) s_];simp);have w:=r_.T (b.m s_);have f:=Y w;have r:=Y u;go_wp2_with fail
 go_region_with (first
  |(go_at_call 68;apply (Ee).m;rintro j v ⟨rfl,rfl⟩)
  |(go_at_call 69;refine(Rh _ _ q n i m ?_).m ?_;exact r.q y_.drew;rintro j S ⟨rfl,v⟩));(all_goals go_wp2);(all_goals go_ret);(all_goals exact⟨Tr s_,f.T ((y_.drew.T v).m f.size)⟩);end Go.Proofs.YtfcgnpchbcmdeaaGreat
namespace Go.Proofs.YtfcgnpchbcmdeaaGreat
set_option linter.all false
set_option maxRecDepth 100000
set_option maxHeartbeats 8000000
open Go.RowKit List Nat Go.World Go.Proofs.Tryz Go.Value Go.IntKind Go.Lib Go.Region
structure OpD where
 a:E
 l:E
 t:E
 g:Y0 Addr
 A:H
 e:H
 k:E
 size:E
 b:E
 i:Y0 Addr
 vl:H
 h:H
 c:Y0 Addr
 d:H
 j:H
 n:ZC
 x:E
 y:E
 p:H->ZG
 fs:H->E
 u:H->E
 f:U E
 o:U E
def Ck(f:ZT)(g:Y0 Addr)(c:H)(d:U E):Prop:=
 F d=c/\(∀h∈d,(Lit.int ZQ h).wf=Z0)/\(c=0∨∃a e,g=T ⟨a,e,ZP⟩/\a<B f.1/\∀b,b<c->ZV f (J a (e+b))=T (I (Z d b 0)))
structure OpR(b)(a:OpD):Prop where
 A:a.A<=Y2
 vl:a.vl<=Y2
 d:a.d<=Y2
 c:Ed b a.g a.A a.p a.fs a.u
 f:Ck b a.i a.vl a.f
 o:Ck b a.c a.d a.o
 e:a.i=ZP->a.vl=0/\a.h=0
 g:a.c=ZP->a.d=0/\a.j=0
structure OpC(d:ZT)(b c)(a:OpD):Prop where
 t:ZV d (J b c)=T (I a.a)
 D:ZV d (J b (c+1))=T (I a.l)
 G:ZV d (J b (c+2))=T (I a.t)
 e:ZV d (J b (c+3))=T (V a.g a.A a.e)
 h:ZV d (J b (c+4))=T (I a.k)
 i:ZV d (J b (c+5))=T (I a.size)
 j:ZV d (J b (c+6))=T (I a.b)
 k:ZV d (J b (c+7))=T (V a.i a.vl a.h)
 l:ZV d (J b (c+8))=T (V a.c a.d a.j)
 n:ZV d (J b (c+9))=T (Q_ a.n)
 f:ZV d (J b (c+10))=T (I a.x)
 g:ZV d (J b (c+11))=T (I a.y)
def Ub(d:ZT)(g:Y0 Addr)(c:H)(e:H->OpD):Prop:=
 c<=Y2/\(c=0∨∃b f,g=T ⟨b,f,ZP⟩/\b<B d.1/\∀a,a<c->OpC d b (f+a*12) (e a)/\OpR d (e a))
def OpC.q{f w' c b e d}(t:OpC f b e d)(u:Below c f w')(v:b<c):OpC w' b e d:=by obtain⟨g,h,k,l,m,n,o,q,r,s,i,j⟩:=t;have a:=λw=>u.cell (p:=(J b w)) v;exact⟨(a _).T g,(a _).T h,(a _).T k,(a _).T l,(a _).T m,(a _).T n,(a _).T o,(a _).T q,(a _).T r,(a _).T s,(a _).T i,(a _).T j⟩
end Go.Proofs.YtfcgnpchbcmdeaaGreat
