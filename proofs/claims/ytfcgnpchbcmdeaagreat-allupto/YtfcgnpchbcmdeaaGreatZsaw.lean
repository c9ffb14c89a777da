import Derived.Test.YtfcgnpchbcmdeaaGreatZsau
open _root_ renaming Nat->H,Int->E,List->U,Array->YZ,Option->Y0,rfl->X,Bool->ZG,Int->Z5,ByteArray->ZC
open List renaming getD->Z,length->F,take->ZU
open Array renaming size->B,size->Z3
open Go renaming World->ZT,Value->ZY,strOfNums->ZB
open Option renaming some->T,none->ZP
open Go.Value renaming slice->ZH,ownBlock->ZW,int->ZX,bool->ZR,agg->Y9,pointer->Y7,tuple->Y5,string->YW
open Go.Obj renaming cells->YU
open Go.World renaming alloc->ZN,setCell->ZO,ownsRow->ZD,grownBy->Y3,cell?->ZV,frozen?->YT,drewN->Y1,drew->YY
open Go.IntKind renaming i64->ZQ
open Bool renaming false->ZZ,true->Z0
open Decidable renaming decide->ZE
open Int renaming toNat->ZL
open Go.Ending renaming returned->ZI
open Go.Proofs renaming intOf->ZA
open Or renaming inl->ZM,inr->ZJ
open ByteArray renaming size->ZK
namespace Go.Proofs.YtfcgnpchbcmdeaaGreat
set_option linter.all false
set_option maxRecDepth 100000
set_option maxHeartbeats 32000000
open Go.RowKit List Nat Go.World Go.Proofs.Tryz Go.Value Go.IntKind Go.Lib Go.Region
def btR(c:U (E×U VS))(b:H->ES)(a:H):U H:=(Bn c a).map (Gq (b a))
def esR(b:H)(a:H->ES):U ES:=(range (b+1)).map a
def Ud(c:H)(b:U (E×U VS))(a:H->ES):U (U H):=(range (c+1)).map (btR b a)
def jl{c b a}(d:a<c+1):Z (esR c b) a Sf=b a:=by simp[esR,Z,d]
def Qn{d c b a}(e:a<d+1):Z (Ud d c b) a []=btR c b a:=by simp[Ud,Z,e]
def Xx{a b c}:F (btR a b c)=F a:=by simp[btR,Bn]
def ZjA{a E i b}(c:b<F a):Z (btR a E i) b 0=Gq (E i) (Z (Z a b oy).2 i Ax):=by simp[btR,Bn,Z,c]
def yt c b d:∀a,F (ys c b d a)<=a
 |0=>by simp[ys]
 |a+1=>by have:=yt c b d a;simp only[ys,Qe,exC];split<;>simp<;>omega
def ZfP d c b:∀a,F (jm d c b a)<=a*b
 |0=>by simp[jm]
 |a+1=>by have:=ZfP d c b a;have:=yt d c a b;simp only[jm,Qe,Nat.add_mul];omega
def ep(k l:ZT)(m f:H)(a:Ft):Prop:=∃i g h j e c d b,RfX l (B k.1) m f i g h j e c d a.g (a.f.map BS.fs) (a.f.map BS.N) b/\b.Perm a.r/\Em b
structure jd(a wr:ZT)(cf:YZ ZY)(p d e f:H)(h l i m j n o k c b g):Prop where
 u:MkY wr (B a.1) (B a.1+1+1) (B a.1+1) p (ZH h d l) Dg Dg Dg (ZH i e m) (ZH j f n) o k c b g
 cf:wr.1[B a.1]? =T (YU cf 37 (0,0))
 t:E_ a wr
 y:F c=d/\F b=e/\F g=f
section
variable {w wr w':ZT} {a:YZ ZY} {n i j l f p:H} {g h c:Y0 Addr} {m cb d:H} {kvs:U (ZY×ZY)} {e:U ZY} {Ks:U KS} {Bb:U (U H)} {o:U H}
def jd.r{w c:ZT}{a n}(d:c=ZN (ZN (ZN w (YU a 37)) (YU #[I (n:H),Dg,Dg,Dg,Dg] 142)) (YU #[P_ (B w.1+1),Dg,Dg] 331)):jd w c a n 0 0 0 ZP 0 ZP 0 ZP 0 [] [] [] [] []:=by
 subst d;refine⟨⟨?_,?_,ja.nil,Mk.nil,Ad.nil,λi b=>by simp at b,λi b=>by simp at b⟩,?_,(r_.alloc s_ _).alloc t_ _,X,X,X⟩
 ·simpa [MaB] using ha_ (ZN (ZN w (YU a 37)) (YU #[I (n:H),Dg,Dg,Dg,Dg] 142)) (YU #[P_ (B w.1+1),Dg,Dg] 331)
 exact(hc_ s_).T (by simpa [Nt] using ha_ (ZN w (YU a 37)) (YU #[I (n:H),Dg,Dg,Dg,Dg] 142));exact((hc_ t_).T (hc_ s_)).T hn_
def jd.q(b:jd w wr a n i j l g m h cb c d kvs e Ks Bb o)(f:E_ wr w'):jd w w' a n i j l g m h cb c d kvs e Ks Bb o:=
 ⟨b.u.q f,(f.block _ (Qb b.cf).1).T b.cf,bt_ b.t f,b.y⟩
def jd.x{b f z y t A}(k:jd w wr a n i j l g m h cb c d kvs e Ks Bb o)(r:ZD wr (B w.1) f z t y A)(v:f≠37)(u:Y3 wr w' (ZW t))(D:B w.1<b) q x:(ZO w' (J b q) x).1[B w.1]? =T (YU a 37 (0,0))/\E_ w (ZO w' (J b q) x):=by have s:=(Aa.refl _ _).grown u (λx p _=>p);exact⟨((Aa.refl (λx=>x=b) w').setCell (p:=(J b q)) (λ_=>X) _).g (s.g k.cf (λf=>Ag r f k.cf v X)) O,(k.t.T (s.b k.t.size λx p=>(B_ r x p).1)).setCell (by show _<=b;omega) _⟩
def jd.b(b:jd w wr a n i j l g m h cb c d kvs e Ks Bb o):ZD wr (B w.1) 227 4 (ZH g i m) i ((zipWith Bs Ks kvs).flatten):=by
 have:=b.u.A.M.M
 rwa [b.u.A.a,b.y.1] at this
def jd.A(b:jd w wr a n i j l g m h cb c d kvs e Ks Bb o):ZD wr (B w.1) 25 1 (ZH h j cb) j e:=by
 have:=b.u.t.M
 rwa [length_map,b.y.2.1] at this
def jd.v(b:jd w wr a n i j l g m h cb c d kvs e Ks Bb o):ZD wr (B w.1) 3 1 (ZH c l d) l ((An o).map (ZX ZQ)):=by
 have:=b.u.w;unfold Ad at this
 rwa [Ak,b.y.2.2] at this
def jd.z{u r k}(q:jd w wr a n i j l g m h cb c d kvs e Ks Bb o)(A:Ad wr (B w.1) u k.e.f)(D:Bj wr (B w.1) r k.e.c)(G:Bl (ZH c l d) u)(s:Y3 wr w' (ZW (ZH g i m)))(L:ZD w' (B w.1) 227 4 (L_ f (i+1) p) (i+1) ((zipWith Bs Ks kvs).flatten++[ZR k.e.a,u,r,I k.d])):ZV w' (J (B w.1+1+1) 0)=T (P_ (B w.1+1))/\ZV w' (J (B w.1+1) 1)=T (ZH g i m)/\YT w' (J (B w.1+1) 1)=ZZ/\K (jd w (ZO w' (J (B w.1+1) 1) (L_ f (i+1) p)) a n (i+1) j l (T ⟨f,0,ZP⟩) p h cb c d (kvs++[(u,r)]) e (Ks++[k]) Bb o)/\∀{b r n t},ZD wr b 3 1 r n t->ZD (ZO w' (J (B w.1+1) 1) (L_ f (i+1) p)) b 3 1 r n t:=by
 obtain⟨v,b,x⟩:=q.u.z (u:=(u,r)) A D G s (by rw[q.y.1];exact L);have⟨y,z⟩:=q.x q.b C s (b:=B w.1+1) O 1 (L_ f (i+1) p);exact⟨n_ 0 x,n_ 1 b,R_ 1 _ 142 b,⟨v,y,z,by simp[q.y.1],q.y.2⟩,λt=>Am (World.ownsRow.kept t s (Ap q.b t C)) b C⟩
def jd.k{q B}(k:jd w wr a n i j l g m h cb c d kvs e Ks Bb o)(x:Ad wr (Z3 w.1) q (An B))(y:∀i,i<F Bb->Bl (Z e i Dg) q)(z:Bl (ZH c l d) q)(s:Y3 wr w' (ZW (ZH h j cb)))(A:ZD w' (Z3 w.1) 25 1 (L_ f (j+1) p) (j+1) (e++[q])):ZV w' (J (Z3 w.1+1+1) 1)=T (ZH h j cb)/\YT w' (J (Z3 w.1+1+1) 1)=ZZ/\K (jd w (ZO w' (J (Z3 w.1+1+1) 1) (L_ f (j+1) p)) a n i (j+1) l g m (T ⟨f,0,ZP⟩) p c d kvs (e++[q]) Ks (Bb++[B]) o):=by obtain⟨t,r⟩:=k.u.k x y z s (by rw[k.y.2.1];exact A);have⟨u,v⟩:=k.x k.A C s (b:=Z3 w.1+1+1) O 1 (L_ f (j+1) p);exact⟨n_ 1 r,R_ 1 _ 331 r,t,u,v,k.y.1,by simp[k.y.2.1],k.y.2.2⟩
def jd.D{z:H}(k:jd w wr a n i j l g m h cb c d kvs e Ks Bb o)(r:Y3 wr w' (ZW (ZH c l d)))(x:ZD w' (B w.1) 3 1 (L_ f (l+1) p) (l+1) ((An o).map (ZX ZQ)++[I z]))(v:ZW (L_ f (l+1) p)=ZW (ZH c l d)∨ZW (L_ f (l+1) p)=T (B wr.1)/\Below (B wr.1) wr w'):ZV w' (J (B w.1+1+1) 2)=T (ZH c l d)/\YT w' (J (B w.1+1+1) 2)=ZZ/\K (jd w (ZO w' (J (B w.1+1+1) 2) (L_ f (l+1) p)) a n i j (l+1) g m h cb (T ⟨f,0,ZP⟩) p kvs e Ks Bb (o++[z])):=by have⟨s,q⟩:=k.u.D (z:=z) r (Ad.P (by rw[Ak,k.y.2.2];exact x)) (v.imp_right And.left);have⟨t,u⟩:=k.x k.v C r (b:=B w.1+1+1) O 2 (L_ f (l+1) p);exact⟨n_ 2 q,R_ 2 _ 331 q,s,t,u,k.y.1,k.y.2.1,by simp[k.y.2.2]⟩
end
structure FeS(a b:ZT)(d:H)(e f)(c:ES)(g:E):Prop where
 o:jb b d c.a e f g
 v:Ad b (B a.1) e c.f
 os:Bj b (B a.1) f c.c
 t:E_ a b
 k:B a.1<=d
section
variable {a b w':ZT} {fb:H} {vb vw:ZY} {e:ES} {d:E}
def FeS.r{b c d e}(g:Ad c (B a.1) (ZH d (F b) e) b)(f:E_ a c):FeS a (ZN c (YU #[ZR ZZ,ZH d (F b) e,Dg,I 0] 227)) (B c.1) (ZH d (F b) e) Dg ⟨ZZ,b,[]⟩ 0:=⟨hn_,g.q r_,Bj.nil,bt_ f r_,f.size⟩
def FeS.lt(c:FeS a b fb vb vw e d):fb<B b.1:=c.o.cells.2.2
def FeS.q(c:FeS a b fb vb vw e d)(f:E_ b w'):FeS a w' fb vb vw e d:=⟨(f.block _ c.lt).T c.o,c.v.q f,c.os.q f,bt_ c.t f,c.k⟩
def FeS.put(c:FeS a b fb vb vw e d) f:FeS a (ZO b (J fb 3) (I f)) fb vb vw e f:=⟨hs_ _ fb 3 _ 227 _ c.o,Am c.v c.o C,Am c.os c.o C,c.t.setCell c.k _,c.k⟩
def FeS.c{c g}(f:FeS a b fb vb vw e d)(i:Bj b (B a.1) g c.c)(k:c.f=[]):FeS a (ZO (ZO (ZO (ZO b (J fb 0) (ZR c.a)) (J fb 1) Dg) (J fb 2) g) (J fb 3) (I 0)) fb Dg g c 0:=by have j:=Aa.h b fb (ZR c.a) Dg g (I 0);exact⟨hs_ _ fb 3 _ 227 _ (hs_ _ fb 2 _ 227 g (hs_ _ fb 1 _ 227 Dg (hs_ b fb 0 _ 227 (ZR c.a) f.o))),k ▸ Ad.nil,j.M i λl h e=>Ag i h f.o C e,f.t.T (j.b f.t.size λl h=>p_ f.k),f.k⟩
end
def ZoW b d c:∃(g:H->U KS) (f:H->U (U H)) (h:H->U H),(g 0=[]/\f 0=[]/\h 0=[])/\(∀a,a<b+1->g (a+1)=g a++[⟨c a,Yc (c a) (btR d c a)⟩]/\f (a+1)=f a++[btR d c a]/\h (a+1)=h a++[Dt (Cz (btR d c a) (Yc (c a) (btR d c a)))])/\g (b+1)=Ex (esR b c) (Ud b d c) (b+1)/\f (b+1)=Ud b d c/\h (b+1)=(range (b+1)).map (Ik (Iv (esR b c) (Ud b d c) (b+1))):=by
 refine⟨Ex (esR b c) (Ud b d c),λa=>ZU a (Ud b d c),λa=>(range a).map (Ik (Iv (esR b c) (Ud b d c) (b+1))),⟨X,X,X⟩,λa e=>⟨?_,?_,?_⟩,X,aI (by simp[Ud]),X⟩;rw[Zbx,kF,jl e,Qn e];show List.take _ _=_;rw[Qi (by simp[Ud];omega)];simp[Ud];simp only[range_succ,map_append,map_cons,map_nil,Ik];rw[Nk _ _ e,oF,jl e,Qn e]
def Zn7{e h f m g n a d}(c:Rq a)(l:a.a=e)(k:a=Cp Ra e h f m g n):Vc ⟨a,d⟩:=by have i:=c.p;have j:=c.u;refine⟨i,j,λb=>?_,λb=>?_⟩<;>(simp only at b;rw[l] at b;show _=[];rw[k,Cp,b];rfl)
def Zo0{a b}(d:Vc ⟨a,0⟩):(Xi b (F a.f+F a.c+2)).1=Yc a b:=by have c:=d.g;simp only[KS.g] at c;rw[c,Yc,Znk O];simp
def Zj7{a:U H}{b}(c:F a=b):Ct (λd=>((Z a d 0:H):E)) b b=An a:=by
 rw[Im,<- c];apply ext_getElem<;>simp[An,Z]
 grind
def Uc{c m:ZT}{d e k b i n f l a j o}(h:ZD c d e k b i n)(g:ZD m (B c.1) f l a j o):Bl b a:=by
 have p:=B_ h;have q:=B_ g;unfold Bl
 cases s:ZW b<;>cases r:ZW a<;>grind
def ZjL{b dd c a}(f:F b=c)(d:a<c):Dt (ZU (a+1) (Cz b dd))=Dt (ZU a (Cz b dd))+(if Z b a 0=dd then 0 else 1)/\Dt (ZU a (Cz b dd))<=a:=by
 have e:a<F (Cz b dd):=(by simp[Cz];omega);rw[Rl e,Pm];have:=Ui (ZU a (Cz b dd));rw[length_take] at this;have:Z (Cz b dd) a ZZ=ZE (Z b a 0≠dd):=by simp[Cz,Z,f ▸ d]
 grind
structure MkO(b g:H)(c:U KS)(h:U (U ZG))(e:U (U H)):Prop where
 j:F c=b+1
 o:F e=b+1
 l:∀a,a<b+1->F (Z e a [])=g
 x:∀a,a<b+1->Vc (Z c a Aj)
 q:∀a,a<b+1->(Z c a Aj).g<=18
 i:∀a,a<b+1->∀d,Z (Z e a []) d 0<(Z c a Aj).g
 k:∀a,a<b+1->F (Z h a [])=g
 os:∀d,d<g->∀f,f<F c->Z (Z h f []) d ZZ=sO c e f d
def Zqa{d n e b p s}{o:H->ZG}{q:H->E}(h:F e=n)(r:∀a,b a=Cp Ra (o a) (q a) p s (Bn e a) (Jp e))(i:∀a,a<d+1->Rq (b a)/\(b a).a=o a/\(b a).b<=16):MkO d n (Ex (esR d b) (Ud d e b) (d+1)) (Iv (esR d b) (Ud d e b) (d+1)) (Ud d e b):=by
 have hK:∀a,a<d+1->Z (Ex (esR d b) (Ud d e b) (d+1)) a Aj=⟨b a,Yc (b a) (btR e b a)⟩:=λa c=>by rw[Gf _ _ c,kF,jl c,Qn c]
 have l:∀a,a<d+1->Z (Iv (esR d b) (Ud d e b) (d+1)) a []=Cz (btR e b a) (Yc (b a) (btR e b a)):=λa c=>by rw[Nk _ _ c,oF,jl c,Qn c]
 have m:=Ev (esR d b) (Ud d e b) (d+1);refine⟨m,by simp[Ud],λa c=>by rw[Qn c,Xx,h],λa c=>hK a c ▸ Zn7 (i a c).1 (i a c).2.1 (r a),λa c=>by rw[hK a c];have:=(i a c).2.2;show(b a).b+2<=18;omega,λa c k=>?_,λa c=>by rw[l a c];simp[Cz,Xx,h],λk j g f=>?_⟩
 ·rw[hK a c,Qn c]
  by_cases j:k<F e
  rw[ZjA j];exact xz;rw[Qc,getElem?_eq_none (by rw[Xx];omega)];show 0<(b a).b+2;omega
 rw[m] at f;rw[sO,l g f,Qn f,hK g f];simp[Cz,Z,show k<F (btR e b g) by rw[Xx,h];exact j]
section
variable {m n:H} {Ks:U KS} {Os:U (U ZG)} {Bb:U (U H)} {Gs:U GS}
def MkO.G(g:MkO m n Ks Os Bb)(t:m+1<=4)(l:(∀k∈Gs,rg m n (m+1) Ks k)/\F Gs<=m+1):rf n Ks (Gk Gs) ((Gk Gs).map λb=>Hs Ks Bb b n):=by
 have p:F (Gk Gs)=F Gs:=(by simp[Gk]);have o:∀a,a<F Gs->Z (Gk Gs) a []=(Z Gs a Fm).fs/\Z ((Gk Gs).map λb=>Hs Ks Bb b n) a []=Hs Ks Bb (Z Gs a Fm).fs n/\rg m n (m+1) Ks (Z Gs a Fm):=λa b=>⟨by simp[Gk,Z,b],by simp[Gk,Z,b],l.1 _ (by simp[Z,b])⟩;refine⟨s_,O,λa b=>?_,λa b f=>?_,λa b=>?_,λa b c e=>?_⟩<;>(simp only[length_map,p] at b;obtain⟨h,i,d⟩:=o a b);rw[i];simp[Hs]
 ·rw[i]
  by_cases q:f<n
  have j:=(ZdL (Ks:=Ks) (Bb:=Bb) (r:=f) (λc e=>by have j:=g.i c (d.fs c e) f;have r:=g.q c (d.fs c e);omega) _ (Qa (F (Z Gs a Fm).fs))).1;rw[take_length] at j;have s:=d.y;have r:Z (Hs Ks Bb (Z Gs a Fm).fs n) f 0=(rc Ks Bb f (Z Gs a Fm).fs).1:=(by simp[Hs,Z,q]);omega;rw[Qc,getElem?_eq_none (by simp[Hs];omega)];simp
 rw[h];have:=d.y;omega;rw[h] at e;rw[g.j];exact d.fs c e
def MkO.c{c e}(d:MkO m n Ks Os Bb)(t:Ex e Bb (m+1)=Ks)(u:Iv e Bb (m+1)=Os)(s:Ib m Ks Os n c=Gs):∃(j:H->H->ZG) (h:H->H->H),(∀b a,exC j h b a=if Iz Ks (Gk Gs) ((Gk Gs).map λf=>Hs Ks Bb f n) b a≠Z (Z Bb a []) b 0 then[⟨b,a,Z (Z Bb a []) b 0⟩] else[])/\(jm j h (m+1) n).Perm (Bx m n c e Bb).r/\Em (jm j h (m+1) n)/\(Bx m n c e Bb).g=Ks/\(Bx m n c e Bb).f.map BS.fs=Gk Gs/\(Bx m n c e Bb).f.map BS.N=(Gk Gs).map λf=>Hs Ks Bb f n:=by
 have o:=Yt (budget:=c) d.k (Ks:=Ks) (λa i=>p_ (d.q a i));have g:=np m n c e Bb;have k:=Pr m Ks Os n c;have l:=Wv m Ks Os n c;unfold Bx at g ⊢;rw[t,u] at g ⊢;rw[s] at o g k l ⊢;have p:=Zj1 (p:=λb a=>ZE (Iz Ks (Gk Gs) ((Gk Gs).map λf=>Hs Ks Bb f n) b a≠Z (Z Bb a []) b 0)) (b:=λb a=>Z (Z Bb a []) b 0) g (ZaK d.j k l d.i d.os);exact⟨_,_,λb a=>by simp[exC],p.1,p.2,xu Os Bb n Gs ⟨Ks,[],[]⟩,by simpa [Fp] using jg Os Bb n Ks Gs ⟨Ks,[],[]⟩,ZaJ (λi r q v=>d.j ▸ ((o.1 i r).fs q v)) (λa i=>d.i a (d.j ▸ i)) d.os⟩
def Zg3{a}(c:a<F Gs):ZU (a+1) ((Gk Gs).map λb=>Hs Ks Bb b n)=ZU a ((Gk Gs).map λb=>Hs Ks Bb b n)++[Hs Ks Bb (Z Gs a Fm).fs n]/\F (ZU a ((Gk Gs).map λb=>Hs Ks Bb b n))=a:=by refine⟨?_,by rw[length_take];simp[Gk];omega⟩;rw[Qi (by simp[Gk];exact c)];simp[Gk,Z,c]
def Zoo{f l g n m a}(i:Mk f l (ZH g (F Gs) n) m ((Gk Gs).map An))(j:a<F Gs):∃c b e,g=T ⟨c,0,ZP⟩/\ZV f (J c a)=T (ZH b (F (Z Gs a Fm).fs) e)/\NuV f b (Z Gs a Fm).fs:=by
 have k:a<F ((Gk Gs).map An):=by simpa [Gk] using j
 have⟨c,q,b,e,o,h,_,p,_⟩:=i.at k;have d:=i.j a k;rw[p] at d;rw[show Z ((Gk Gs).map An) a []=An (Z Gs a Fm).fs by simp[Gk,Z,j],Ak] at h d;injection o with e1;exact⟨c,b,e,e1,h,d.f X⟩
def Zcs{g:ZT}{b c a e f n h}(d:ZD g c a e f n h)(l:b<=c):ZD g b a e f n h:=⟨d.1,d.2.imp_right λ⟨k,i,j,a,m,o⟩=>⟨k,i,j,a,aG l m,o⟩⟩
def ZmK{pp bb c a b d}(j:a<=200)(h:c<=4)(m:b<=c):xbF (jm pp bb c a++ys pp bb a b) b a d=d/\F (jm pp bb c a++ys pp bb a b)<=1000000:=by
 refine⟨ui λk g f=>?_,?_⟩
 ·have i:Z (jm pp bb c a++ys pp bb a b) k Dm∈jm pp bb c a++ys pp bb a b:=by rw[Qc,Qd g];exact Qf g
  rcases mem_append.1 i with e|e
  have:=(jt a).1 e;have:=f.1;omega;have:=(Yz b).1 e;have:=f.2;omega
 rw[Qe];have e:=ZfP pp bb c a;have i:=yt pp bb a b;have l:=Nat.mul_le_mul j h;omega
def MkX.bits{wr:ZT}{x q c n W R S a0 a1 a2 P y Ks Bb Q i r}(b:MkX wr x q c n W R S a0 a1 a2 P y Ks Bb Q)(e:i<F Bb)(N:r<n):∃l p d o,∀a,Aa (λm=>m=c) wr a->ZV a (J q 0)=T (P_ c)/\ZV a (J q 1)=T (L_ l (F Bb) p)/\ZV a (J l i)=T (L_ d n o)/\ZV a (J d r)=T (I (Z (Z Bb i []) r 0:H)):=by
 have h:=b.v;have⟨l,p,a3,o,w,t,_,z,⟨a4,M⟩,_⟩:=b.t.at (i:=i) (by simpa using e);have G:Z (Bb.map An) i []=An (Z Bb i []):=(by simp[Z,e]);have f:=b.t.j i (by simpa using e);rw[z] at f;rw[G,Ak,b.u i e] at t f;rw[length_map] at w;obtain⟨d,rfl,_,_,u,_⟩:=f.b (by rw[Ak];exact b.u i e) N;rw[Bq] at u;have⟨a5,D⟩:=Ac f (k:=d) X;have g:=b.r;subst w;have j:∀a k s,Aa (λm=>m=c) wr a->ZV wr k=T s->k.block≠c->ZV a k=T s:=λa k s A v L=>(cb_ (A.block _ (aJ _ _ v) L)).T v;exact⟨l,p,d,o,λa m=>⟨j a _ _ m (n_ 0 g) (h.o g C),j a _ _ m (n_ 1 g) (h.o g C),j a _ _ m t (h.o M C),j a _ _ m u (h.o D C)⟩⟩
end
def Zh6{S:H}(c9 b f9 f:H){P y:H} d9 {N R l5 c6 k} g o (h7:Du o S 0 (f+1) R l5 c6)(g3:Xq o d9 b (f+1) k)(i3:kt k)(b5:b<=200)(g6:f+1<=4)(k5:y<=20)(k7:2<=P)(g8:P<=32)(h8:2<=N)(h9:N<=16)(i0:∀i,i<f+1->R i=Z0->1<=c6 i)(d0:∀i,g i=Cp Ra (R i) (c6 i) N P (Bn k i) (Jp k))(i1:∀i,i<f+1->Rq (g i)/\(g i).a=R i/\(g i).b<=16):C_ 179 #[Y9 #[ZH (T ⟨S,0,ZP⟩) (f+1) c9,ZX ZQ N,ZX ZQ P,ZX ZQ y],ZH d9 b f9] o λj p=>∃a,j=ZI (Y7 (T ⟨a,0,ZP⟩))/\ep o p a b (Bx f b y (esR f g) (Ud f k g))/\Below (Z3 o.1) o p:=by
 have⟨j9,j7,k0,a3,x⟩:=ZoW f k g;generalize b3:f+1=n at *;have⟨n4,g2⟩:=ez_ (ZN (ZN (ZN o (YU #[L_ S n c9,I N,I P,I y] 37)) (YU #[I b,Dg,Dg,Dg,Dg] 142)) (YU #[P_ (Z3 o.1+1),Dg,Dg] 331));have⟨e,d6,d7,d5,f3⟩:=y5_ (jd.r g2.s) g3.1 g3 h7 i3;have a4:=x3_ d0 i1 i0;replace x:=Y x;replace b3:=Y b3;clear g3 h7 i3 d0 i1 i0;go_enter func179,ntmps179;go_upto_region 3 with fail;rw[g2];clear g2;go_loopw [6] (λm a=>∃(d:H) (f5:Y0 Addr) (g0:H) (f6:Y0 Addr) (c4:H) (f7:Y0 Addr) (g1:H) (e2:U (ZY×ZY)) (f8:U ZY),m=ZX ZQ d/\d<=n/\Hid (jd o a #[L_ S n c9,I N,I P,I y] b d d d f5 g0 f6 c4 f7 g1 e2 f8 (j9 d) (j7 d) (k0 d))) (λm _=>n-ZL (ZA m))
 case atStart=>exact⟨0,_,_,_,_,_,_,_,_,X,v_,by rw[a3.1,a3.2.1,a3.2.2];exact e⟩
 clear e a3;obtain⟨d,f5,g0,f6,c4,f7,g1,e2,f8,rfl,b4,e⟩:=hrel;have b9:=n_ 0 e.cf;have j4:=n_ 1 e.cf;have j5:=n_ 2 e.cf;have j6:=n_ 3 e.cf;have d1:=(Qb e.cf).1
 by_cases W:d<n
 case neg=>
  obtain rfl:n=d:=O;rw[x.2.1,x.2.2.1,x.2.2.2] at e;obtain rfl:=b3.out;clear b3;have⟨w,b4⟩:=Z_ (Ex (esR f g) (Ud f k g) (f+1));have⟨i5,g7⟩:=Z_ (Iv (esR f g) (Ud f k g) (f+1));have⟨h,g5⟩:=Z_ (Ib f w i5 b y);have K:=Zqa d6 a4.1 a4.2.1;rw[b4,g7] at K e;have⟨u,r,e9,f0⟩:=K.c b4 g7 g5;have a5:=Yt (budget:=y) K.k (Ks:=w) (λi t=>p_ (K.q i t));have M:=e.u.h (by rw[K.j,K.o]) (λi t=>K.l i (K.o ▸ t)) (λi t=>K.x i (K.j ▸ t));have f1:=Zlf b f y Dg Dg e2 f8 wr M K.j b5 g6 k5 (λi t=>p_ (K.q i t)) K.k K.os;rw[g5] at a5 f1;have i4:=Y (K.G g6 a5);have h3:=K_ e.cf e.t;have d1:=e.t.size;have l4:F h<=4:=p_ a5.2;replace M:=Y M;replace K:=Y K;replace a5:=Y a5;replace e9:=Y e9;replace f0:=Y f0;clear b4 g7 g5 e x a4 d5 f3 d7 d6
  generalize ZH f5 (f+1) g0=b7,ZH f6 (f+1) c4=g9,ZH f7 (f+1) g1=m0 at *;generalize b3:f+1=n at *;obtain⟨h1,rfl⟩:=W_ wr;go_wp2_with fail
  apply f1.m;rintro _ Q ⟨rfl,l9,i7,c7,D,b6⟩;have⟨b1,b2,d2⟩:=D.d;rw[show F ((Gk h).map An)=F h by simp[Gk]] at d2;subst d2;replace M:=Y (M.i b6 c7);have a3:Hid (CoI Q Q (Z3 o.1+1) b b7 (ZH b1 (F h) b2) (ZH ZP 0 0) Dg [] []):=⟨Aa.refl _ _,c7,Mk.nil,c7.lt⟩;replace D:=x3_ c7 D b6;have j3:=b6.size;clear c7 b6 f1;go_wp2_with fail
  go_loopw [12] (λm c=>∃(l:H) (a6:Y0 Addr) (a7:H) (e0:U ZY),m=ZX ZQ l/\l<=F h/\Hid (CoI Q c (Z3 o.1+1) b b7 (ZH b1 (F h) b2) (ZH a6 l a7) Dg e0 (ZU l ((Gk h).map λa=>Hs w (Ud f k g) a b)))) (λm _=>F h-ZL (ZA m))
  case atStart=>exact⟨0,_,_,_,X,v_,a3⟩
  clear a3;obtain⟨l,a6,a7,e0,rfl,l6,j⟩:=hrel;have A:=M.i j.u j.v;have a0:=D.2.1.i D.1 j.u;have v:=n_ 0 A.r;have e7:=n_ 2 j.v
  by_cases g4:l<F h
  case neg=>
   obtain rfl:l=F h:=O;rw[aI (by simp[Gk])] at j;generalize ((Gk h).map λa=>Hs w (Ud f k g) a b)=e8 at *;replace D:=D.2.2.T j.u;have h2:Hid (∀z,Aa (λs=>s=Z3 o.1+1) wr z->_):=λz m=>n_ 0 ((D.T m).g h3.1 O);have c:Hid (ExI wr wr (Z3 o.1+1) b b7 (ZH b1 (F h) b2) (ZH a6 (F h) a7) Dg (jm u r n 0)):=⟨Aa.refl _ _,j.v,Xr.nil _,j.v.lt⟩;obtain⟨h0,rfl⟩:=W_ wr;replace A:=Y A;replace a0:=K_ a0 D;clear M a5 D;go_wp2_with fail
   go_loopw [14] (λm p=>∃(a:H) (b8:ZY),m=ZX ZQ a/\a<=b/\Hid (ExI h0 p (Z3 o.1+1) b b7 (ZH b1 (F h) b2) (ZH a6 (F h) a7) b8 (jm u r n a))) (λm _=>b-ZL (ZA m))
   case atStart=>exact⟨0,_,X,v_,c⟩
   clear c v e7;obtain⟨a,b8,rfl,i2,c⟩:=hrel
   by_cases e1:a<b
   case neg=>
    obtain rfl:b=a:=O;have v:=n_ 0 (A.i c.u c.v).r;have d0:Hid (ep o wr (Z3 o.1+1) b (Bx f b y (esR f g) (Ud f k g))/\E_ o wr):=(by obtain⟨q,c2,t,G,L⟩:=f0;refine⟨⟨b7,ZH b1 (F h) b2,ZH a6 (F h) a7,b8,e2,i7,e0,_,?_,q,c2⟩,h3.2.T ((a0.2.T c.u).b d1 λs p=>O)⟩;rw[t,G,L];exact⟨c.v,(A.i c.u c.v).A,(a0.1.i j.v c.u).m d1,(j.y.i j.v c.u).m (aG d1 j3),⟨Zcs c.r.M (aG d1 a0.2.size),c.r.h⟩,(A.i c.u c.v).x,le_succ _⟩);go_wp2;go_ret;exact⟨_,X,d0.1,d0.2⟩
   have b9:=h2 wr c.u;rw[<- append_nil (jm u r n a)] at c;have⟨l1,l2⟩:=F_ a b;go_wp2_with fail
   rename_i m1;go_loopw [15] (λm p=>∃(i:H) (b8:ZY),m=ZX ZQ i/\i<=n/\Hid (ExI h0 p (Z3 o.1+1) b b7 (ZH b1 (F h) b2) (ZH a6 (F h) a7) b8 (jm u r n a++ys u r a i))) (λm _=>n-ZL (ZA m))
   case atStart=>exact⟨0,_,X,v_,c⟩
   clear c b9;obtain⟨i,b8,rfl,t,c⟩:=hrel;have b9:=h2 wr c.u
   by_cases l7:i<n
   case neg=>
    obtain rfl:n=i:=O;go_wp2;go_roundw;case rel=>exact⟨a+1,_,g_,O,c⟩
    case measure=>exact z_
   have⟨h6,j0⟩:=ZmK (pp:=u) (bb:=r) (d:=Iz w (Gk h) e8 a i) (aG i2 b5) (b3 ▸ g6) t;have f2:=oz b a i w (Gk h) e8 wr ⟨(A.i c.u c.v).h.j,⟨_,n_ 2 c.v,(a0.1.i j.v c.u).h⟩,⟨_,n_ 3 c.v,(j.y.i j.v c.u).h⟩,⟨_,n_ 4 c.v,XsV.N c.r⟩⟩ i4 e1 (p_ K.j) j0;rw[h6] at f2;have⟨l8,k9,l3,k8,c5⟩:=A.bits (i:=i) (p_ K.o) e1;have⟨v,c8,h4,h5⟩:=c5 wr c.u;have a2:jm u r n a++ys u r a (i+1)=jm u r n a++ys u r a i++exC u r a i:=(by simp[ys]);rw[e9 a i] at a2;replace a2:=Y a2;replace c5:=Y c5;have⟨j2,k1⟩:=F_ i n;have l0:=(F_ i (F (Ud f k g)) (p_ K.o)).2;clear h6;generalize jm u r n a++ys u r a i=f4 at *;generalize Iz w (Gk h) e8 a i=k4,Z (Z (Ud f k g) i []) a 0=c3 at *;go_wp2_with fail
   apply f2.m;rintro _ d4 ⟨rfl,q⟩;have G:=X_ v;have c0:=X_ c8;have c1:=X_ h4;have L:=X_ h5;replace c:=Y (c.q q);clear q f2 v c8 h4 h5 b9
   cases s:k4==(c3:Z5)
   case true=>
    rw[aC (p_ (beq_iff_eq.1 s)),append_nil] at a2;go_wp2;go_roundw;case rel=>exact⟨i+1,_,g_,O,a2 ▸ c⟩
    case measure=>exact z_
   rw[aD (p_ (beq_eq_false_iff_ne.1 s))] at a2;have⟨i6,i9,d2⟩:=c.r.d;rw[length_map] at d2;subst d2;have a1:=n_ 4 c.v;have g8:=c.u.size
   have c2:Hid (∀a9,ZD (YY (ZN d4 a9)) (Z3 h0.1) 231 3 (ZH i6 (F f4) i9) (F f4) ((f4.map Cw).flatten)):=λa9=>by
    have:=(c.q (r_ (o:=a9)).drew).r.M
    rwa [length_map] at this
   go_upto_region 37 with fail;refine Af (λp=>ZV p _=T _/\ZV p _=T _/\ZV p _=T _/\ZV p _=T _/\ZV p _=T _) 28 k_ ⟨G,a1,c0,c1,L⟩ λhHeld=>?_;refine G_ ?_;refine on_ 24 λKK hK=>?_;go_simp;refine hK _ _ ⟨X_ G,X_ a1,X_ c0,X_ c1,X_ L⟩ λhHeld=>?_;clear hK KK G a1 c0 c1 L;try simp only[Act.put,tA_,tB_,tC_]
   refine on_ 25 λKK hK=>?_;refine aq_ [I a,I i,I c3] (c2 _) ?_;rintro k6 b0 ⟨d3,a8,_,_,k2,j8,rfl⟩;have⟨d8,p⟩:=(c.q r_.drew).P (x:=⟨a,i,c3⟩) a8 d3;rw[<- a2] at d8;replace d8:=Y d8;have⟨e3,e4,e5,e6⟩:=c5 b0 ((c.q r_.drew).u.grown a8 λd b4 j1=>p_ (B_ c.r.M d b4).1);have k3:=n_ 4 p;have j1:=R_ 4 _ 142 p;clear d3 a8 p c c2 c5;refine hK _ _ ⟨e3,k3,e4,e5,e6⟩ λhHeld=>?_;clear hK KK;refine G_ ?_;refine le_ ?_;go_wp2;go_roundw;case rel=>exact⟨i+1,_,g_,O,d8⟩
   case measure=>exact z_
  obtain⟨f2,b8,e3,rfl,c4,c0⟩:=Zoo a0 g4;have m:=a5.1 (Z h l Fm) (by simp[Z,g4]);have⟨s,a1⟩:=Zg3 (Ks:=w) (Bb:=Ud f k g) (n:=b) g4;have z:=Zb8 b e3 b8 w (Ud f k g) wr A.h c0 (λc p=>K.j ▸ m.fs c p) b5 (p_ m.y) (λc p a=>oj_ (K.q c (m.fs c p)) (K.i c (m.fs c p) a));have e1:F (Hs w (Ud f k g) (Z h l Fm).fs b)=b:=(by simp[Hs]);replace s:=Y s;clear a0 A m c0;generalize ((Gk h).map λa=>Hs w (Ud f k g) a b).take l=c1 at *;generalize Hs w (Ud f k g) (Z h l Fm).fs b=c5 at *;generalize (F (Z h l Fm).fs)=e4 at *;have⟨e5,e6⟩:=F_ l (F h);go_wp2_with fail
  apply z.m;rintro _ d4 ⟨f4,rfl,a,q⟩;obtain⟨d8,e8,rfl⟩:=a.d;rw[Ak,e1] at a ⊢;have a2:=Y (λi (t:i<F c1)=>Uc (j.y.j i (by rw[length_map];exact t)) a);replace a:=Y (a.m j.u.size);replace j:=Y (j.q q);have G:=n_ 0 (M.i j.u j.v).r;have L:=n_ 3 j.v;have g8:=j.u.size
  have c2:Hid (∀a9,ZD (YY (ZN d4 a9)) (Z3 Q.1) 25 1 (ZH a6 l a7) l e0):=λa9=>by
   have:=(j.q (r_ (o:=a9)).drew).y.M
   rwa [length_map,a1] at this
  clear v e7 z q c4;go_upto_region 28 with fail;refine Af (λp=>ZV p _=T _/\ZV p _=T _) 16 k_ ⟨G,L⟩ λhHeld=>?_;refine G_ ?_;refine on_ 12 λKK hK=>?_;go_simp;refine hK _ _ ⟨X_ G,X_ L⟩ λhHeld=>?_;clear hK KK G L;try simp only[Act.put,tA_,tB_,tC_]
  refine on_ 13 λKK hK=>?_;refine aq_ [ZH d8 b e8] (c2 _) ?_;rintro k6 b0 ⟨d3,a8,_,_,k2,j8,rfl⟩;obtain⟨c,p⟩:=(j.q r_.drew).P (N:=c5) (a.q r_.drew) a2 a8 (by rw[a1];exact d3);rw[<- s] at c;replace c:=Y c;have c3:=n_ 0 (M.i ((j.q r_.drew).u.grown a8 λt c8 j1=>by have:=(B_ j.y.M t c8).1;omega) p).r;have t:=n_ 3 p;have j1:=R_ 3 _ 142 p;clear d3 a8 p j a c2;refine hK _ _ ⟨c3,t⟩ λhHeld=>?_;clear hK KK;refine G_ ?_;refine le_ ?_;go_wp2;go_roundw;case rel=>exact⟨l+1,_,_,_,g_,O,c⟩
  case measure=>exact z_
 have h6:=d5.lt O;have a9:ZV wr (J S (d*3))=T (ZR (R d)):=kd_ e.t (by simpa using d5.t d W) h6;have c2:ZV wr (J S (d*3+2))=T (I (c6 d)):=kd_ e.t (by simpa using d5.G d W) h6;have u:=a4.1 d;unfold Cp at u;have⟨a7,j8⟩:=Y_ (a4.2.1 d W) (a4.2.2 d W);have c5:=Zac d9 b n f9 d P N y (T ⟨S,0,ZP⟩) n c9 k wr (d7.q e.t) W f3 b5 k7 g8 h8 h9;obtain⟨h1,rfl⟩:=W_ wr;go_wp2_with fail
 apply c5.m;rintro j Q ⟨d8,e8,rfl,i5,g5⟩;clear c5;generalize Fb (Bn k d) (Jp k) N P=l0 at *;have c:=Y (FeS.r i5 g5);go_upto_region 6 with fail;generalize (ZN Q) (YU #[ZR ZZ,ZH d8 (F l0) e8,Dg,I 0] 227)=j3 at *;have G:=X_ b9 c.t;have c0:=X_ j4 c.t;have c1:=X_ j5 c.t;have L:=X_ j6 c.t;have a1:=X_ a9 c.t;clear i5;go_upto_if 40 with fail
 go_cut [7] (λm a=>m=Y7 (T ⟨Z3 Q.1,0,ZP⟩)/\∃g9 j1,Hid (FeS h1 a (Z3 Q.1) g9 j1 (g d) 0))
 case first=>
  cases r:R d with
  | false=>
   rw[r] at a1;rw[r,aC C] at u;rw[<- u] at c;clear u a9;go_wp2;go_meet
   exact⟨X,_,_,c⟩
  | true=>
   rw[r] at a1;have h:=ZeO d9 b n f9 d N P y (c6 d) S c9 k j3 (d7.q (bt_ e.t c.t)) W f3 b5 h8 h9 (X_ c2 c.t) (j8 r);rw[r,aD X] at u;have M:(g d).f=[]:=u ▸ X;rw[<- u] at h;clear a9;go_wp2_with fail
   apply h.m;rintro j A ⟨m,p,rfl,a,l⟩;replace a:=Y (a.c c.t.size);replace c:=c.q l;have⟨⟨t,v,w,z⟩,i6,_⟩:=c.o.cells;replace c:=Y (c.c a M);clear h a l G c0 c1 L a1 u;have c:Hid (∀R,R=(g d).a->_):=λR s=>s ▸ c;generalize (F (g d).c)=q at *;go_wp2;go_meet
   exact⟨X,_,_,c _ (by rw[a7.2.1,r])⟩
 clear G c0 c1 L a1 b9 j4 j5 j6 a9 c2 u c j3 g5;obtain⟨rfl,g9,j1,c⟩:=hcut;obtain⟨b8,d2,rfl⟩:=c.v.d;obtain⟨c7,d3,rfl⟩:=c.os.a;have⟨A,b7⟩:=Y_ (Zn7 (d:=0) a7.1 a7.2.1 (a4.1 d)) (λa (s:a<b)=>ZjA (E:=g) (i:=d) (d6.s ▸ s));have D:F (btR k g d)=b:=Xx.T d6;replace x:=Y (x.1 d W);have⟨⟨e3,e4,e5,e6⟩,_,m4⟩:=c.o.cells;have m5:=c.k;have k8:=c.t.size;generalize (Z3 Q.1)=h2 at *;generalize btR k g d=B at *;generalize g d=j at *;have k6:=Gm b O;have a6:=Gl b wc (Z3 wc.1) O x_;rw[<- In (λa=>((Z B a 0:H):Z5))] at a6;replace a6:=Y a6;go_wp2_with fail
 go_loopw [9] (λm h=>∃a:H,m=ZX ZQ a/\a<=b/\Hid (Ad h (Z3 wc.1) (L_ (Z3 wc.1) b b) (Ct (λa=>((Z B a 0:H):Z5)) b a))/\Hid (E_ wc h)) (λm _=>b-ZL (ZA m))
 case atStart=>exact⟨0,X,v_,a6,r_⟩
 clear k6 a6;obtain⟨a,rfl,e1,h,l⟩:=hrel;have l:=l.out
 by_cases w:a<b
 case neg=>
  obtain rfl:b=a:=O;rw[Zj7 D] at h;have f2:Hid (∀z,E_ wr z->_):=λz b1=>Zce (T ⟨Z3 wc.1,0,ZP⟩) b b (F j.f+F j.c+2) B z ((h.q b1).m v_) D b5 (by have:=A.g;have:=a7.2.2;simp only[KS.g] at *;omega);rw[Zo0 A] at f2;have h0:=Km b8 c7 (F j.f) (F j.c) d2 d3 j.a 0 wr A.1 A.2.1;replace c:=c.q l;have⟨⟨e3,e4,e5,e6⟩,_⟩:=c.o.cells;replace c:=Y c;generalize Yc j B=m at *;obtain⟨n6,rfl⟩:=W_ wr;clear b7;go_wp2_with fail
  apply h0.m;rintro _ d4 ⟨rfl,q⟩;go_wp2_with fail
  apply (f2 _ q).m;rintro _ m0 ⟨rfl,rfl⟩;replace c:=c.q q;have⟨⟨l6,b6,l7,l8⟩,i6,_⟩:=c.o.cells;replace h:=Y (Am (j:=3) (u:=I m) ((h.q q).m k8) c.o C);replace c:=Y (c.put m);clear h0 f2 e3 e4 e5 e6 q l;go_upto_region 16 with fail;generalize (ZO m0) (J h2 3) (I m)=b0 at *;clear l6 b6 l7 l8 i6;go_loopw [10,11] (λr p s=>∃(a a8:H),p=ZX ZQ a/\a<=b/\r=ZX ZQ (Dt (ZU a (Cz B m)):H)/\s=Y1 b0 a8) (λ_ p _=>b-ZL (ZA p))
  case atStart=>exact⟨0,0,X,v_,X,X⟩
  obtain⟨a,a8,rfl,i2,rfl,rfl⟩:=hrel
  by_cases w:a<b
  case pos=>
   have r:=(Ad.c h (by rw[Ak,D]) w).1;rw[Bq] at r;have⟨p,a0⟩:=ZjL (dd:=m) D w;replace p:=Y p;generalize (Z B) a 0=t at *;generalize Dt (ZU a (Cz B m))=M at *;have v:=F_ a b;have a2:=c.o.cells.1.2.2.2
   cases s:t==(m:Z5)
   case' false=>rw[aC (p_ (beq_eq_false_iff_ne.1 s))] at p
   case' true=>rw[aD (p_ (beq_iff_eq.1 s))] at p
   all_goals
    go_upto_region 18 with fail;go_quiet (fail);go_wp2;go_roundw;case rel=>exact⟨a+1,_,g_,O,by rw[p];go_num,by first|rfl|simp⟩
    case measure=>exact z_
  obtain rfl:b=a:=O;rw[aI (by simp[Cz,D])];have k9:=Ui (Cz B m);rw[show F (Cz B m)=b by simp[Cz,D]] at k9;generalize Dt (Cz B m)=m1 at *;have g7:E_ b0 (Y1 b0 a8):=below_drewN y_ _;generalize (Y1 b0) a8=n5 at *;have a2:=x4_ (Uc e.v c.v) (Uc e.v h) (λi t=>Uc (e.u.t.j i (by rw[length_map];exact t)) h) (λt c8=>(B_ e.b t c8).2);have r:=e.t.size;replace c:=Y (c.q g7);replace h:=Y ((Ad.q h g7).m r);replace e:=Y (e.q c.t);have⟨⟨t,M,a0,a5⟩,_⟩:=c.o.cells;have v:=n_ 0 e.u.r;have b2:=n_ 1 e.u.v;have i4:=e.t.size;generalize h5:j.a=f0,F j.f=e0,F j.c=e9 at *;go_upto_region 20 with fail
  refine Af (λp=>ZV p _=T _/\ZV p _=T _/\ZV p _=T _/\ZV p _=T _/\ZV p _=T _/\ZV p _=T _) 16 k_ ⟨v,b2,t,M,a0,a5⟩ λhHeld=>?_;refine G_ ?_;refine on_ 12 λKK hK=>?_;go_simp;refine hK _ _ ⟨X_ v,X_ b2,X_ t,X_ M,X_ a0,X_ a5⟩ λhHeld=>?_;clear hK KK v b2 t M a0 a5;try simp only[Act.put,tA_,tB_,tC_]
  refine on_ 13 λKK hK=>?_;refine aq_ [ZR f0,ZH b8 e0 d2,ZH c7 e9 d3,I m] (e.q r_.drew).b ?_;rintro n0 j2 ⟨j0,f1,_,_,l4,l2,rfl⟩;have⟨c3,c8,k3,p,g4⟩:=(e.q r_.drew).z (k:=⟨j,m⟩) ((c.q r_.drew).v.m r) ((c.q r_.drew).os.c r) a2.1 f1 (h5 ▸ j0);have f4:jb j2 h2 f0 (ZH b8 e0 d2) (ZH c7 e9 d3) m:=((Aa.refl _ _).grown f1 λ_ s _=>s).g (h5 ▸ (c.q r_.drew).o) λs=>p_ (a2.2.2.2 _ s);have⟨⟨t,M,a0,a5⟩,_⟩:=f4.cells;replace h:=Y (g4 (Ad.q h r_.drew));clear j0 f1 f4 g4 e c;refine hK _ _ ⟨c3,c8,t,M,a0,a5⟩ λhHeld=>?_;clear hK KK;refine G_ ?_;refine le_ ?_;clear c3 c8 k3 t M a0 a5 hHeld;generalize (ZO j2) (J (Z3 o.1+1) 1) (L_ l4 (d+1) l2)=n1 at *;have v:=n_ 1 p.u.r;have i4:=p.t.size;go_wp2_with (at_builtin;refine ap_ [L_ (Z3 wc.1) b b] (p.q r_).A ?_)
  rintro m8 l9 ⟨i7,h3,_,_,l3,l1,rfl⟩;have⟨k1,k4,e⟩:=(p.q r_).k (B:=B) (Ad.q h r_) a2.2.2.1 a2.2.1 h3 i7;clear i7 h3 p h a2 v;go_upto_region 22 with fail;generalize (ZO l9) (J (Z3 o.1+1+1) 1) (L_ l3 (d+1) l1)=n2 at *;have e7:=n_ 2 e.u.r;have i4:=e.t.size;clear k1 k4;go_wp2_with (at_builtin;refine ap_ [I m1] (e.q r_).v ?_)
  rintro m9 n3 ⟨i9,h4,k2,_,m7,m6,rfl⟩;have⟨m2,m3,e⟩:=(e.q r_).D h4 i9 (by simpa using k2);rw[<- x.1,<- x.2.1,<- x.2.2] at e;clear i9 h4 e7;go_wp2;go_roundw;case rel=>exact⟨d+1,_,_,_,_,_,_,_,_,g_,O,e⟩
  case measure=>exact z_
 rcases(d7.q (bt_ e.t c.t)).2 with M|⟨s,rfl,p⟩
 omega;have⟨_,e7,c8,a5,_,a0⟩:=p a w;have⟨a8,b0,b6⟩:=a0 d W;have j2:=aJ _ _ a5;have k1:=aJ _ _ a8;have m:Hid (∀z,E_ wc z->_):=λz b1=>Zle (Z3 h1.1) 0 j (Z (Z k a oy).2 d Ax) z (c.q b1).v (c.q b1).os a7.1 A.2.2.1 A.2.2.2;rw[<- b7 a w] at m;have a2:=Y (Kg (λa=>((Z B a 0:H):Z5)) w);have r:=Y (Fg (λa=>((Z B a 0:H):Z5)) e1).s;clear p a0;generalize (Z (Z k a oy).2) d Ax=t at *;obtain⟨f2,f4,g4⟩:=t;generalize Ct (λa=>((Z B a 0:H):Z5)) b a=f1 at *;generalize (Z B) a 0=c3 at *;generalize j.a=f0,F j.f=e0,F j.c=e9 at *;go_upto_region 12 with fail;refine rg_ wc 13 λhHeld=>?_;refine G_ ?_;refine oc_ 11 (m _ l.drew) ?_;rintro _ d4 ⟨rfl,q⟩;replace h:=h.q (bt_ y_.drew q)
 have⟨v,b2⟩:=Ad.c h r w;replace h:=Y (Ad.put (k:=a) h r c3).1;rw[a2] at h;replace l:=bt_ l.drew q;clear m b7;refine⟨_,X,l,λhHeld=>G_ ?_⟩;refine le_ ?_;go_wp2;go_roundw;case rel=>exact⟨a+1,g_,O,h,l.setCell x_ _⟩
 case measure=>exact z_
section
variable {w:ZT} {base db n:H} {vF vB vC vX:ZY} {kvs:U (ZY×ZY)} {bvs cvs:U ZY} {Ks:U KS} {Fs Cs:U (U H)} {a:U XS}
def RfX.m{e}(b:RfX w base db n vF vB vC vX kvs bvs cvs Ks Fs Cs a)(c:e<=base):RfX w e db n vF vB vC vX kvs bvs cvs Ks Fs Cs a:=by
 have d:∀{k j i:H} {l m},ZD w base k j l i m->ZD w e k j l i m:=λg=>⟨g.1,by
  rcases g.2 with f|⟨p,h,o,f,q,r⟩
  exact ZM f
  exact ZJ ⟨p,h,o,f,aG c q,r⟩⟩
 exact⟨b.v,⟨⟨d b.A.M.M,b.A.M.h⟩,b.A.y,λh f=>⟨d (b.A.j h f).1,d (b.A.j h f).2⟩⟩,b.w.m c,b.y.m c,⟨d b.r.M,b.r.h⟩,b.x,aG c b.t⟩
def ZdM i (b:RfX w base db n vF vB vC vX kvs bvs cvs Ks Fs Cs a)(c:i<F Ks):C_ 139 #[P_ db,I i] w λd f=>d=ZI (Y5 #[(Z kvs i Lm).1,(Z kvs i Lm).2,ZX ZQ 0])/\∃e,f=Y1 w e:=by
 have⟨z,t,d,_,_,_,_,e⟩:=b.A.M.at (i:=i) (b.A.a ▸ c);rw[b.A.a] at d;subst d;have u:=n_ 1 b.v;have h:Z (zipWith Bs Ks kvs) i []=Bs (Z Ks i Aj) (Z kvs i Lm):=by simp[Z,getElem?_zipWith,c,show i<F kvs by rw[b.A.y];exact c]
 rw[h] at e;have o:=e 1 O _ X;have p:=e 2 O _ X;have⟨j,l,f⟩:=(b.A.j i c).1.d;have⟨k,m,g⟩:=(b.A.j i c).2.a;generalize (Z kvs) i Lm=s at *;obtain⟨A,D⟩:=s;simp only at f g o p ⊢;subst f g;have v:¬(i:E)<0:=O;have x:¬F Ks<=(i:E):=O;have y:=F_ i _;generalize (F (Z Ks i Aj).e.f)=q at *;generalize (F (Z Ks i Aj).e.c)=r at *;clear b e h;refine dl_ ?_;go_enter func139,ntmps139;go_upto_region 3 with fail;go_quiet (fail);go_wp2;apply bodyPost_ret (v:=Y5 #[V j q l,V k r m,I 0]) (by simp[results,results139,go_sem]) X
 grind
def Zbc a (b:DkV w db n Ks)(i:¬(0<=a/\a<(F Ks:E))):C_ 139 #[P_ db,I a] w (V_ (Y5 #[Dg,Dg,ZX ZQ 1]) w):=by
 have⟨j,f,c⟩:=b.h;obtain⟨d,e,rfl⟩:=c.1;clear b c;refine dl_ ?_;go_enter func139,ntmps139
 by_cases g:a<0
 ·go_wp2;apply bodyPost_ret (v:=Y5 #[Dg,Dg,I 1]) (by simp[results,results139,go_sem]) X
  grind
 have h:F Ks<=a:=O;go_wp2;apply bodyPost_ret (v:=Y5 #[Dg,Dg,I 1]) (by simp[results,results139,go_sem]) X
 grind
end
def sw{c f g e i j k l h d a}(b:ra a c f g e i j k d l h Z0):C_ 126 #[P_ c] a (V_ (Y5 #[Y7 ZP,ZX ZQ 1,ZX ZQ 0]) a):=by
 have m:=b.cells.2.2.2;clear b;refine q_ ?_;go_wp2;go_ret3
 exact⟨X,X⟩
def zz{d i l h n o p} b e {f} a (c:ra a d i l h n o p f b e ZZ)(j:b≠0):C_ 126 #[P_ d] a λg m=>g=ZI (Y5 #[Y7 ZP,ZX ZQ b,ZX ZQ e])/\∃k,m=Y1 a k:=by
 have⟨_,g,k,m⟩:=c.cells;have q:=bne_iff_ne.2 j;clear c;refine q_ ?_;go_upto_region 4 with fail;go_quiet (fail);go_wp2;go_ret3
 exact⟨X,_,X⟩
def RcP(h:ZT)(g m b l:H)(k:E)(o e:H)(j:ZC)(d:H->ES)(a:U (E×U VS)×H×E)(f:Ending)(c:ZT):Prop:=
 ra c g m (b+1) l k o e j 0 0 Z0/\Aa (λn=>n=g) h c/\
 ((a.2.2≠0/\f=ZI (Y5 #[Y7 ZP,I a.2.2,I a.2.1]))∨(a.2.2=0/\∃i,f=ZI (Y5 #[P_ i,I 0,I 0])/\ep h c i (F a.1) (Bx b (F a.1) e (esR b d) (Ud b a.1 d))))
def ZeL(b i f p m:H){o:H} l d n s R q k (G:ra k b i (f+1) p l m o d 0 0 ZZ)(v:Du k i 0 (f+1) n s R)(a4:i≠b)(M:i<B k.1)(a3:f+1<=4)(c6:∀a,a<f+1->0<=s a/\(n a=ZZ->s a<=3))(c2:ZK d<=1000000000000000)(b6:o<=20)(c4:2<=m)(c5:m<=32)(b4:2<=l)(y:l<=16)(c0:∀a,a<f+1->n a=Z0->1<=R a)(c3:∀c,c=Kr d (f+1) n s (ZK d+1) [] 0->c.2.2=0->kt c.1/\(∀c8∈c.1,F c8.2=f+1)/\(∀a,q a=Cp Ra (n a) (R a) l m (Bn c.1 a) (Jp c.1))/\∀a,a<f+1->Rq (q a)/\(q a).a=n a/\(q a).b<=16):C_ 126 #[P_ b] k λS g=>RcP k b i f p l m o d q (Kr d (f+1) n s (ZK d+1) [] 0) S g:=by
 have⟨⟨_,_,_,_,_⟩,d5,_,d6⟩:=G.cells;have d9:=R_ 7 _ _ G;have⟨A,N⟩:=W_ (ZO k (J b 7) (ZR Z0));have t:Aa (λe=>e=b) k A:=N ▸ ((Aa.refl (λe=>e=b) k).setCell (p:=(J b 7)) (λ_=>X) _);have b2:ra A b i (f+1) p l m o d 0 0 Z0:=N ▸ (ht_ 7 _ _ _ G);have a0:Du A _ 0 _ n s _:=⟨v.k,λe3=>Qh (v.lt e3) t.size,λa z=>by rw[<- v.t a z];simp[ZV,t.block i M a4],λa z=>by rw[<- v.D a z];simp[ZV,t.block i M a4],λa z=>by rw[<- v.G a z];simp[ZV,t.block i M a4]⟩;have c1:=Qh M t.size;have a9:=Y (λh g=>wk _ p d l m o h (a0.q g) (Qh c1 g.size) a3 c6 c2);have x:=c3 _ X;generalize Kr d (f+1) n s (ZK d+1) [] 0=c at *
 have⟨P,a8,b0⟩:=y3_ (λh j r D g e u w=>Zh6 p D r f j q h (a0.q g) w (x e).1 u a3 b6 c4 c5 b4 y c0 (x e).2.2.1 (x e).2.2.2) (λe=>(x e).2.1) N;have u:=K_ b2 t;have⟨D,a2⟩:=W_ (f+1);have Q:=Y a2;rw[<- a2] at a9 P a8 u;clear G v a0 N b2 t c2 c3 x c0 c6 a2 a3 b6 c4 c5 b4 y c1;refine q_ ?_;go_upto_region 6 with fail;rw[<- b0];clear b0 d5 d6 d9;have b7:=u.1.cells.1;refine Af (λg=>ZV g _=T _/\ZV g _=T _/\ZV g _=T _/\ZV g _=T _/\ZV g _=T _) 9 k_ b7 (λhHeld=>?_);refine G_ ?_;refine on_ 8 λKK hK=>?_;go_simp;apply (a9 _ y_.drew).m;rintro S j ⟨d0,f2,w,rfl,f1,c7,a1,L,b3,y⟩;have r:Below (B A.1) _ _:=y_.drew.T y;have W:ra _ _ _ D _ _ _ _ d 0 0 _:=(r.block _ (Qb u.1).1).T u.1;have a7:=u.2.q r
 obtain⟨a6,c9,rfl⟩:=a1.d
 have h:K (Fl j d0 d c.2.1 c.2.2 (V a6 (F w) c9)/\ra j b i D p l m o d 0 0 Z0/\Aa (λe=>e=b) k j/\B k.1<=B j.1/\E_ A j/\F w=F c.1/\F w<=200/\(c.2.2=0->Xq j a6 (F w) D c.1)):=⟨c7,W,a7,a7.size,r,by rw[<- L];simp,b3,λe=>by
  rw[<- L]
  refine a1.h X (λc8 g=>a8 e _ (by rw[<- L];exact mem_map_of_mem g)) (by rw[Q];omega)⟩
 have b8:=W.cells.1;clear c7 W a7 y r u b7 a1 L b3;go_simp;refine hK _ _ b8 (λhHeld=>?_);clear hK KK;try simp only[Act.put,setIfInBounds_toArray,set_cons_succ,set_cons_zero]
 refine le_ ?_;have⟨_,d8,b1,_⟩:=h.1.cells
 by_cases e:c.2.2=0
 ·have e4:(c.2.2 !=0)=ZZ:=(by rw[e];rfl);rw[e] at b1;go_upto_region 9 with fail;have b9:D_ j b 0 (L_ i D p)/\D_ j b 1 (I l)/\D_ j b 2 (I m)/\D_ j b 3 (I o)/\D_ j d0 3 (V a6 (F w) c9):=w_;clear d8 b1 b8;refine Af (λg=>ZV g _=T _/\ZV g _=T _/\ZV g _=T _/\ZV g _=T _/\ZV g _=T _) 8 k_ b9 (λhHeld=>?_);refine G_ ?_;refine la1_ λKK hK=>?_;go_simp;apply (P _ _ _ _ (h.2.2.2.2.1.T (y_.drew)) e h.2.2.2.2.2.2.1 ((h.2.2.2.2.2.2.2 e).q y_.drew)).m;rintro S f0 ⟨d1,rfl,g,r⟩
  have d2:K (RcP k b i f p l m o d q c (ZI (Y5 #[P_ d1,I 0,I 0])) f0):=(by have b5:Below (B j.1) _ _:=y_.drew.T r;have a5:=h.2.1;rw[Q] at a5;rw[h.2.2.2.2.2.1] at g;obtain⟨e8,e6,e7,e9,e5,d4,d7,d3,e0,e1,e2⟩:=g;exact⟨(b5.block _ (Qb a5).1).T a5,h.2.2.1.q b5,ZJ ⟨e,d1,X,e8,e6,e7,e9,e5,d4,d7,d3,e0.m h.2.2.2.1,e1,e2⟩⟩);clear g r b9 h P;go_simp;apply hK _ _;clear hK KK;try simp only[Act.put,setIfInBounds_toArray,set_cons_succ,set_cons_zero]
  refine Ew (i:=9) k_ X k_ (λKK hK=>?_);go_simp;apply hK _ _;clear hK KK;try simp only[Act.put,setIfInBounds_toArray,set_cons_succ,set_cons_zero]
  refine Ew (i:=10) k_ X k_ (λKK hK=>?_);go_simp;apply hK _ _;clear hK KK;try simp only[Act.put,setIfInBounds_toArray,set_cons_succ,set_cons_zero]
  refine Ew (i:=11) k_ X k_ (λKK hK=>?_);go_simp;apply hK _ _;clear hK KK;try simp only[Act.put,setIfInBounds_toArray,set_cons_succ,set_cons_zero]
  refine Fr k_ ?_ _;go_wp2;go_ret3
  exact d2
 have e4:=bne_iff_ne.2 e;go_upto_region 8 with fail;go_quiet (fail);go_wp2;go_ret3
 rw[Q] at h;exact⟨h.2.1,h.2.2.1.drewN _,ZM ⟨e,X⟩⟩
def ZkJ b:∀a,a<=4->Ba (b+4294967296) a=Ba b a:=λa c=>by
 rcases(show a=0∨a=1∨a=2∨a=3∨a=4 by omega) with rfl|rfl|rfl|rfl|rfl
 rfl
 all_goals
  simp only[Ba,Tu,nil_append,cons_append]
  grind [Ba,Tu]
def Zcd a b d (f:b<=4)(g: -4294967296<=a)(h:a<=1000000000000):C_ 135 #[I a,I (b:H)] d (U_ (YW (ZB (Ba a b))) d):=by
 by_cases e:0<=a
 have c:ZL a=a:=O;have:=To a (ZL a) b d O O (ZM ⟨e,c.s⟩);rw[c] at this;exact this;have c:ZL (a+4294967296)=a+4294967296:=O;have:=To a (ZL (a+4294967296)) b d O O (ZJ ⟨O,O⟩);rw[c,ZkJ a b f] at this;exact this
def ZdB{a}(b:Ec a):Ab (ZB a)=a:=by
 unfold Ab ZB;simp only[map_map]
 conv=>rhs;rw[<- map_id a]
 refine map_congr_left λd c=>?_;have:=b d c
 grind [UInt8.toNat_ofNat']
def Zn3:∀(a:U E) {z:H},z<4294967296->Ec a->nF z a<4294967296
 |[],z,b,_=>by simpa [nF,nJ,ZcT] using b
 |d::a,z,b,c=>by have e:=c d s_;rw[zp z e];exact Zn3 a (ZbJ (xor_lt_two_pow (n:=32) b O) 8) (λg f=>c g (by simp[f]))
def Zoy{a}(b:Ec a):0<=Gy a/\Gy a<4294967296:=by
 have d:Zg5 a=_:=lp a (z:=4294967295) C b;have c:=Zn3 a (z:=4294967295) C b;unfold Gy;rw[d];have e:=Xu 4294967295 _ C c;have f:4294967295^^^_<_:=xor_lt_two_pow (n:=32) C c
 grind
def fx a c (f:Ec a)(o:F a<=1000000):C_ 134 #[Q_ (ZB a)] c (U_ (YW (ZB (a++Ba (Gy a) 4))) c):=by
 have d:=Zb9 (ZB a) c (by rw[Bi];omega);rw[ZdB f] at d;have n:=Zoy f;have j:K (∀b,Calls _ _ #[_,ZX _ 4] b λe _=>_):=λb=>Zcd (Gy a) 4 b O O O;have i:K (ZB (a++Ba (Gy a) 4)=_):=(Nn _ _).s;have s:¬9223372036854775807<ZK (ZB a)+ZK (ZB (Ba (Gy a) 4)):=(by rw[Bi,Bi,Dr];omega);generalize ZB a=l at *;generalize ZB (Ba (Gy a) 4)=p at *;generalize Gy a=m at *;refine dl_ ?_;go_enter func134,ntmps134;go_wp2_with fail
 apply d.m;rintro e q ⟨rfl,k⟩;obtain rfl:=k.s;go_wp2_with fail
 apply (j _).m;rintro e r ⟨rfl,g⟩;have h:=Y g;clear g;go_wp2;go_ret;exact⟨by rw[i];rfl,h⟩
end Go.Proofs.YtfcgnpchbcmdeaaGreat
