import Derived.Test.YtfcgnpchbcmdeaaGreatZsba
import Derived.Test.YtfcgnpchbcmdeaaGreatZsaz
import Derived.Test.YtfcgnpchbcmdeaaGreatZsay
open Bool renaming false->ZZ,true->Z0
open List renaming length->F,getD->Z,drop->ZF
open _root_ renaming rfl->X,List->U,Bool->ZG,Nat->H,Int->E,Option->Y0
open Int renaming toNat->ZL
open ByteArray renaming size->ZK
open Decidable renaming decide->ZE
open Array renaming size->B
open Go renaming Value->ZY,World->ZT
open Go.Value renaming int->ZX,bool->ZR,agg->Y9,ownBlock->ZW,slice->ZH
open Go.IntKind renaming i64->ZQ
open Go.World renaming alloc->ZN,cell?->ZV,setCell->ZO,ownsRow->ZD,grownBy->Y3,drew->YY
open Or renaming inl->ZM,inr->ZJ
open Go.Proofs.Tryz renaming prog->Y8
open Option renaming some->T,none->ZP
open Go.Ending renaming returned->ZI
open Go.Proofs renaming intOf->ZA
namespace Go.Proofs.YtfcgnpchbcmdeaaGreat
set_option linter.all false
set_option maxRecDepth 100000
set_option maxHeartbeats 16000000
open Go.RowKit List Nat Go.World Go.Proofs.Tryz Go.Value Go.IntKind Go.Lib Go.Region
theorem ZlY a:wrg a≠0:=by unfold wrg;split<;>omega
def Zps{a b}(c:(Oh a b 0 2 ZZ).2.2.2=0):1<=(Oh a b 0 2 ZZ).1:=by grind [Oh,Bp,ZlY,Ji,Py]
def ZfV{f g i h}:∀c a b d,(Vv f g i h c a b d).2.2=0->F (Vv f g i h c a b d).1=F b+c
 |0,a,b,d,_=>X
 | c+1,a,b,d,e=>by
  unfold Vv at e ⊢;simp only at e ⊢
  by_cases j:(jn f d (i a) (ZL (h a)) (El a g)).2.2=0
  rw[aD j] at e ⊢;rw[ZfV c (a+1) _ _ e,Qe,length_singleton];omega
  grind
theorem Zls a c f e b (d:(iq a c f e b).2.2.2=0):1<=(iq a c f e b).1/\F (iq a c f e b).2.1=c:=by
 unfold iq at d ⊢;simp only at d ⊢
 by_cases g:Pt a (Oh a b 0 2 ZZ).2.2.1 (Oh a b 0 2 ZZ).2.2.2 44=0
 rw[aD g] at d ⊢;have h:(Oh a b 0 2 ZZ).2.2.2=0:=(by grind [Pt,ZlY]);refine⟨Zps h,?_⟩;rw[ZfV c 0 [] _ d];simp
 grind
def Zcn{e d i h}:∀f b c,(∀a∈b,1<=a.1/\F a.2=d)->∀a∈(Kr e d i h f b c).1,1<=a.1/\F a.2=d
 |0,b,c,g=>g
 | f + 1,b,c,g=>by
  unfold Kr
  by_cases j:c<ZK e
  ·rw[aD j]
   by_cases k:F b=200
   ·grind
   rw[aC k];simp only
   by_cases l:(iq e d i h c).2.2.2=0
   ·rw[aD l];refine Zcn f _ _ (λa m=>?_)
    grind [Zls]
   grind
  grind
def Zih{b g e f l d}(q:∀a,a<b+1->g a=ZZ->0<=e a/\e a<=3)(p:Bt (b+1) g e RS.h (Ab f) 0=.ok l)(m:d=(Kr f (b+1) g e (ZK f+1) [] 0).1)(h:Zfr (b+1) l d):kt d/\∀c∈d,F c.2=b+1:=by
 have j:∀c∈d,1<=c.1/\F c.2=b+1:=m ▸ (Zcn _ _ 0 s_);have i:=Vd.a O q _ (Vd.h) (Ja.h (show 1<=b+1 by omega)) p;refine⟨λs o=>⟨⟨(j s o).1,?_⟩,λu r=>?_⟩,λc n=>(j c n).2⟩;exact(i.k _ (by rw[h.1];grind)).2;obtain⟨a,t,rfl⟩:=aM r;have k:a<b+1:=w_;apply i.j a k _;rw[h.2 a k]
 grind
def Ip(a:U XS)(x:XS):ZG:=ZE (F a=0)||ZE (Na (Z a (F a-1) Dm) x<0)
def sp(n:H){b0 a9 b1:ZY}{a1:U (ZY×ZY)}{a0:U BS}(b:U XS)(x:XS)(c:ZT)(e:DsX c n b0 a9 b1 a1 a0 b)(b8:F b<=1000000):C_ 234 #[P_ n,Y9 #[I (x.M:H),I (x.f:H),I (x.i:H)]] c (U_ (ZR (Ip b x)) c):=by
 have⟨c3,b2,a7⟩:=e.j.d;subst a7;have a3:=n_ 2 e.r;have W:=Y e.j;have P:K (∀(h:XS) (d:ZT),C_ 148 #[Y9 #[I (h.M:H),I (h.f:H),I (h.i:H)],Y9 #[I (x.M:H),I (x.f:H),I (x.i:H)]] d (U_ (ZX ZQ (Na h x)) d)):=λh d=>(Hz h x d).m (λ_ _ e=>⟨e.1,e.2.q⟩);have b6:K (Ip b x=(ZE (F b=0)||ZE (Na (Z b (F b-1) Dm) x<0))):=rfl;generalize Ip b x=t at *;have⟨l,g⟩:=W_ (ZN c (O_ #[I (x.M:H),I (x.f:H),I (x.i:H)] 184));have o:H_ l (B c.1) #[I (x.M:H),I (x.f:H),I (x.i:H)] 184:=g ▸ (ha_ c _);have i:K (E_ c l):=(by show Below _ _ _;rw[g];exact r_);have A:=n_ 0 o;have D:=n_ 1 o;have G:=n_ 2 o;have u:=T_ i a3;have R:=P.out;generalize a5:F b=p at *
 by_cases a4:p=0
 ·subst a4;have m:K (t=Z0):=w_;generalize x.M=s at *;generalize x.f=r at *;generalize x.i=q at *;refine q_ ?_;go_upto_region 1 with fail;rw[<- g];clear g;go_upto_region 2 with fail;generalize a:(-1:E)=f;have j:ZE (f<0)=Z0:=(by rw[<- a];rfl);go_quiet (fail);go_wp2;go_ret;exact⟨by rw[m];rfl,below_drewN i _⟩
 obtain⟨a,rfl⟩:∃a,p=a+1:=⟨p-1,O⟩;have b9:(((a+1:H):E)-1)=(a:E):=O;have b7:(a:E)<((a+1:H):E):=O;have⟨j,a6,c1,b3,b4,b5⟩:=W.b a5 (k:=a) O;have⟨v,w,y⟩:=k3_ i b3 b4 b5;subst a6;have m:K (t=ZE (Na (Z b a Dm) x<0)):=w_;have S:=R (Z b a Dm);generalize Na (Z b a Dm) x=a2 at *;generalize (Z b a Dm).M=N at *;generalize (Z b a Dm).f=M at *;generalize (Z b a Dm).i=L at *;generalize x.M=s at *;generalize x.f=r at *;generalize x.i=q at *;have Q:K (∀d:ZT,E_ l d->C_ 148 #[Y9 #[I (N:H),I (M:H),I (L:H)],Y9 #[I (s:H),I (r:H),I (q:H)]] d (U_ (ZX ZQ a2) l)):=λd z=>(S d).m (λ_ _ e=>⟨e.1,z.T (e.2.m z.size)⟩);generalize c0:a+1=a8 at *;refine q_ ?_
 go_upto_region 1 with fail;rw[<- g];clear g;go_upto_region 2 with fail;go_region_held3 (λf=>D_ f n 2 (L_ j a8 b2)/\D_ f j (a*3) (I (N:H))/\D_ f j (a*3+1) (I (M:H))/\D_ f j (a*3+2) (I (L:H))/\D_ f (B c.1) 0 (I (s:H))/\D_ f (B c.1) 1 (I (r:H))/\D_ f (B c.1) 2 (I (q:H))) (first|exact⟨u,v,w,y,A,D,G⟩|exact⟨T_ aA u,T_ aA v,T_ aA w,T_ aA y,T_ aA A,T_ aA D,T_ aA G⟩) (first|(go_at_call 148;apply (Q _ y_.drew).m;rintro f c2 ⟨rfl,aA⟩))
 have f:=Y (i.T (aA.m i.size));go_wp2;go_ret;exact⟨by rw[m];rfl,f⟩
def ZhL(a:Ft)(x:XS):ZG:=
 Wx (Z a.g x.f Aj).e (Z a.g x.f Aj).d (x.i:H)&&(ZE (0<Z (Xg (Z a.f (De a x.f) Df).N (Z a.f (De a x.f) Df).g) x.M 0)&&ZE (Z (Xg (Z a.f (De a x.f) Df).N (Z a.f (De a x.f) Df).g) x.M 0<Lv a (De a x.f) (Iy a x.f)))
def Fi(a:Ft)(b:H)(x:XS):ZG:=ZE (x.M<b)&&(ZE (x.f<F a.g)&&ZhL a x)
def ZpY{m:ZT}{q:ZY}{c:U H}{d:H}(s:F c<=200)(u:d<64)(w:Id m 0 q c d):∃i h g,q=.iface i (P_ g)/\(i=382/\h=323∨i=380/\h=371)/\(∀a:ZT,(method 535 i (P_ g) "At").run Y8 a=.ok (h,P_ g) a)/\∀a:ZT,E_ m a->∀b,b<F c->Calls Y8 h #[P_ g,I (b:H)] a (U_ (ZX ZQ (Z (Xg c d) b 0:H)) a):=by
 rcases w with⟨j,x,rfl,z,G,rfl,t,f⟩|⟨j,x,rfl,n,y,rfl,t,f⟩
 have k:∀a,_->ku a 0 _ _ _ _ _:=λa e=>⟨(e.block _ (Qb f.r).1).T f.r,(Aa.a (S:=λ_=>False) e).M f.M (λ_ _=>id)⟩;unfold Xg;rw[aD j];exact⟨380,371,z,X,ZJ ⟨X,X⟩,λa=>k_,λa e b l=>Ri b c a (k a e) l O⟩;have p:=Gj u;have k:∀a,E_ m a->_:=λa e=>f.q e;have A:=Nat.mul_le_mul s p;unfold Xg;rw[aC j];refine⟨382,323,n,X,ZM ⟨X,X⟩,λa=>k_,λa e b l=>?_⟩;have v:b*Lib.bitLen d+Lib.bitLen d<=F c*Lib.bitLen d:=(by rw[<- succ_mul];exact aK _ l);have o:=Oe n y _ _ _ b a (k a e) (λr=>Jf _ _ r) p v O O;rw[Ni (Z c b 0) (b*Lib.bitLen d) (Lib.bitLen d) (λD r=>Mz c r)] at o
 have r:Z (c.map (· %2^Lib.bitLen d)) b 0=Z c b 0%2^Lib.bitLen d:=w_;rw[r];exact o
def sk(s e:H){e6 e5 e7:ZY}{d9 c3:U (ZY×ZY)}(a1:U XS)(a:Ft)(x:XS)(f:ZT)(k:Ph f s e6 e5 e7 d9 c3 a1 a)(d1:0<F a.f)(d2:F a.f<=1000)(d4:e<=200)(M:∀y∈a.f,F y.N=e)(a7:∀y∈a.f,y.g<64)(p:∀K∈a.g,K.e.b<=16)(d3:0<F a.g)(a9:∀t,t<F a.g->Wh a t (De a t) (Iy a t)):Calls Y8 235 #[P_ s,Y9 #[I (x.M:H),I (x.f:H),I (x.i:H)]] f (U_ (ZR (Fi a e x)) f):=by
 obtain⟨e2,e8,_,_,_,_,rfl,_⟩:=k.w.at (i:=0) d3;have h:=Y (λd (l:E_ f d)=>(⟨k.v.q l,k.w.p (S:=λ_=>False) (Aa.a l) (λ_ _ _ _ _=>id),k.n,k.l⟩:Ph d s _ _ _ _ _ a1 a));obtain⟨g,b,r⟩:=x;have⟨b5,v⟩:=W_ (ZN f (O_ #[I (g:H),I (b:H),I (r:H)] 184));have c:E_ f _:=v ▸ r_;have o:H_ _ _ _ _:=v ▸ (ha_ f _);have b3:=n_ 0 o;have b4:=n_ 1 o;have e3:=n_ 2 o;have f5:=(Qb o).1;have a2:=n_ 0 (h _ c).v.r;have f2:=aJ _ _ a2;have b8:Hid (F (Z a.f 0 Df).N=e):=M _ w_;have m:=x3_ M a7 p;have W:=Y a9;clear k M a7 p a9 o;refine q_ ?_;go_upto_region 1 with fail;rw[<- v];clear v;refine rg_ _ 28 λhHeld=>?_;refine G_ ?_;refine oc_ 3 (Nd s _ _ (h _ c.drew).v d1) ?_;rintro D g1 ⟨rfl,j⟩;rw[b8]
 replace j:=bt_ y_.drew j;refine⟨_,X,j,λhHeld=>?_⟩
 by_cases N:g<e
 case neg=>
  have d0:(e:E)<=g:=O;refine G_ ?_;refine le_ ?_;go_wp2;go_ret;exact⟨by simp[Fi,N],bt_ c j⟩
 have d0:¬(e:E)<=g:=O
 by_cases q:b<F a.g
 case neg=>
  have a3:(F a.g:E)<=b:=O;refine G_ ?_;refine le_ ?_;go_wp2;go_ret;exact⟨by simp[Fi,q],bt_ c j⟩
 have a3:¬(F a.g:E)<=b:=O;have f1:=aE a3;have⟨d8,f6,c0,c4,c1,c5,d6,f3,c6,c7,c8,c9,_,_⟩:=(h b5 c).w.at q;obtain rfl:e2=d8:=w_;have w:=W _ q;have⟨a4,a6⟩:=(h f y_).v.v.j _ w.h;have u:Z a.f (De a b) Df∈a.f:=(by rw[Qc,Qd w.h];grind);have⟨Q,f0,A,b0,d5,f4,a5⟩:=ZpY ((m.1 _ u) ▸ d4) (m.2.1 _ u) a6;have⟨G,L,b1⟩:=a4.d;have a0:=Y (λd l=>Zcy _ _ _ _ _ _ _ _ _ _ a d (h d l) w d2);rw[b1,b0] at a0;have b7:=Y (λd l=>a5 d l _ ((m.1 _ u) ▸ N));have p:=m.2.2 (Z a.g _ Aj) (by rw[Qc,Qd q];grind);have b9:=Y (λd=>Wb c0 c1 c4 c5 (Z a.g b Aj).d r d X X (aG p C))
 have l:Hid (Fi a e ⟨g,b,r⟩=ZhL a ⟨g,b,r⟩):=(by show _=_;simp[Fi,N,q]);unfold ZhL at l;clear w a4 a6 u b0 a5 b1 h W m p d6;generalize Wx (Z a.g b Aj).e (Z a.g b Aj).d (r:H)=e0 at *;generalize (F (Z a.g b Aj).e.f)=f7,F (Z a.g b Aj).e.c=f9,(Z a.g b Aj).e.a=g5,(Z a.g b Aj).d=e9,Z (Xg (Z a.f (De a b) Df).N (Z a.f (De a b) Df).g) g 0=b6,Lv a (De a b) (Iy a b)=e1,F (An (Z a.f (De a b) Df).fs)=P,F a.g=f8 at *;refine G_ ?_;refine oc_ 26 (b9 _) ?_;rintro D g2 ⟨rfl,d⟩;replace d:=bt_ j d;refine⟨_,X,d,λhHeld=>G_ ?_⟩;refine le_ ?_
 cases e0
 ·go_wp2;go_ret;exact⟨by rw[l];rfl,bt_ c d⟩
 have g0:=X_ b4 d;go_wp2_with fail
 apply (a0 _ (bt_ c d)).m;rintro D R ⟨rfl,c2⟩;go_upto_region 4 with fail;have z:E_ b5 (ZN R (O_ #[V G P L,.iface Q (P_ A)] 163)):=bt_ (bt_ d c2) r_;have d7:=n_ 1 (ha_ R (O_ #[V G P L,.iface Q (P_ A)] 163));have e4:=X_ b3 z;generalize (ZN R) (O_ #[V G P L,.iface Q (P_ A)] 163)=g3 at *
 rcases d5 with⟨rfl,rfl⟩|⟨rfl,rfl⟩
 all_goals
  go_wp2_with fail
  apply (b7 _ (bt_ c z)).m;rintro D g4 ⟨rfl,n⟩;have n:=bt_ (bt_ c z) n;clear e4 d7 b3 b4 e3 c6 c7 c8 c9 a2
  by_cases b2:0<b6
  ·by_cases a8:b6<e1
   ·go_wp2;go_ret;exact⟨by rw[l];simp[b2,a8],n⟩
   go_wp2;go_ret;exact⟨by rw[l];simp[a8],n⟩
  go_wp2;go_ret;exact⟨by rw[l];simp[b2],n⟩
end Go.Proofs.YtfcgnpchbcmdeaaGreat
namespace Go.Proofs.YtfcgnpchbcmdeaaGreat
set_option linter.all false
set_option maxRecDepth 100000
set_option maxHeartbeats 16000000
open Go.RowKit Go.Lib Go.Sort List Nat Go.World Go.Proofs.Tryz Go.Value Go.IntKind Go.Lib Go.Region
def rdX(a:U E):XS:=⟨ZL (Z a 0 0),ZL (Z a 1 0),ZL (Z a 2 0)⟩
def Vr(b:Ft)(e:H)(d:U E):H->Y0 (U XS×U E)
 |0=>T ([],d)
 | f+1=>match Vr b e d f with
  |none=>ZP
  |some (c,a)=>if(Ip c (rdX a)&&Fi b e (rdX a))=Z0 then T (c++[rdX a],ZF 3 a) else ZP
def ZjY(a:Ft)(c:H)(b:U E){k m:H}(f:Vr a c b k=ZP)(g:k<=m):Vr a c b m=ZP:=by
 induction m with
 |zero=>grind
 | succ m d=>
  by_cases e:k=m+1
  ·grind
  simp only[Vr,d O]
def ZjX{b:Ft}{d:H}{f:U E}{e c a}(g:Vr b d f e=T (c,a)):Vr b d f (e+1)=if(Ip c (rdX a)&&Fi b d (rdX a))=Z0 then T (c++[rdX a],ZF 3 a) else ZP:=by simp only[Vr,g]
def Zpc{a:U E}(b:∀x∈a,0<=x/\x<=255):a.headD 0=((rdX a).M:E)/\a.tail.headD 0=((rdX a).f:E)/\a.tail.tail.headD 0=((rdX a).i:E)/\a.tail.tail.tail=ZF 3 a:=by rcases a with _|⟨x,_|⟨c,_|⟨d,a⟩⟩⟩<;>simp_all [rdX]<;>omega
def sn{a:U XS}{x:XS}(e:Em a)(c:Ip a x=Z0):Em (a++[x]):=by
 refine pairwise_append.2 ⟨e,s_,λm f b g=>?_⟩;simp only[mem_cons,not_mem_nil,or_false] at g;subst g;have l:=length_pos_of_mem f;unfold Ip at c;rw[aE O,Bool.false_or,decide_eq_true_eq] at c
 have j:(Z a (F a-1) Dm).M<b.M∨(Z a (F a-1) Dm).M=b.M/\(Z a (F a-1) Dm).f<b.f:=by
  have:ltOf Na (Z a (F a-1) Dm) b=Z0:=by unfold ltOf;simpa using c
  rw[(ltX (Z a (F a-1) Dm) b)] at this
  simpa using this
 obtain⟨h,i,rfl⟩:=aM f
 rcases Nat.lt_or_ge h (F a-1) with d|d
 ·have k:=pairwise_iff_getElem.1 e h (F a-1) i O d
  grind
 grind
structure ExS(d:H)(b wr:ZT)(e f:H)(l:U E)(n m g:ZY)(k j:U (ZY×ZY))(h:U KS)(i:U BS)(c:U XS):Prop where
 o:Vp d wr e n m g k j c ⟨h,i,c⟩
 u:Cn wr f l
 t:Aa (λa=>a=f∨a=e) b wr
 z:∀a,ZW g=T a->B b.1<=a
 p:d<=B b.1
section
variable {d:H} {w wr w2:ZT} {db b:H} {l e:U E} {c vB vX:ZY} {kvs bvs:U (ZY×ZY)} {Ks:U KS} {bs:U BS} {a:U XS}
def Vp.zero{e:H}{d:Ft}(b:Vp e wr db c vB vX kvs bvs a d):Ph wr db c vB vX kvs bvs a d:=⟨b.v.m v_,b.w.m v_,b.n,b.l⟩
def Vp.f{k:H->Prop}{e:H}{j:Ft}(b:Vp d wr db c vB vX kvs bvs a j)(g:Aa k wr w2)(f:et k wr e)(m:168≠e)(n:403≠e)(o:396≠e)(p:405≠e)(q:5≠e)(r:163≠e)(s:184≠e)(t:172≠e)(u:9≠e)(l:3≠e):Vp d w2 db c vB vX kvs bvs a j:=
 ⟨⟨g.g b.v.r (f.at b.v.r m),Pe.f b.v.v g f n o p q (f.M b.v.v.M r) (λi h=>f.M (b.v.v.j i h).1 l),g.M b.v.j (f.M b.v.j s)⟩,b.w.f g f t u (λi h=>f.M (b.w.j i h).1 l),b.n,b.l,b.o,b.x,b.p⟩
def ExS.i(f:ExS d w wr db b l c vB vX kvs bvs Ks bs a)(j:Cn w2 b e)(h:Aa (λg=>g=b) wr w2):ExS d w w2 db b e c vB vX kvs bvs Ks bs a:=by have⟨S,k,_⟩:=f.u.r;exact⟨f.o.f h (et.x k) C C C C C C C C C C,j,f.t.T (h.m (λg _ i=>ZM i)),f.z,f.p⟩
def ExS.q(e:ExS d w wr db b l c vB vX kvs bvs Ks bs a)(f:E_ wr w2):ExS d w w2 db b l c vB vX kvs bvs Ks bs a:=e.i (e.u.q f) (.a f)
def ExS.ab(f:ExS d w wr db b l c vB vX kvs bvs Ks bs a):C_ 165 #[P_ b] wr λg h=>g=ZI (ZX ZQ (l.headD 0))/\K (ExS d w h db b l.tail c vB vX kvs bvs Ks bs a):=(Eg b l wr f.u).m λ_ _ e=>⟨e.1,f.i e.2.1 e.2.2⟩
def ExS.G(e:ExS d w wr db b l c vB vX kvs bvs Ks bs a):ZV wr (J db 2)=T vX:=M_ 2 _ 168 (0,0) e.o.v.r
def ExS.P{h:ZT}{g:ZY}{x:XS}(e:ExS d w wr db b l c vB vX kvs bvs Ks bs a)(v:Ip a x=Z0)(n:Y3 wr h (ZW vX))(y:ZD h 0 184 3 g (F a+1) (Jw a++Cw x))(u:ZW g=ZW vX∨ZW g=T (B wr.1)):ExS d w (ZO h ⟨db,2,ZP⟩ g) db b l c vB g kvs bvs Ks bs (a++[x]):=by
 have k:=(Aa.refl _ wr).grown n (λf hk _=>hk);have i:=et.D e.o.v.j;have⟨t,j,z,A⟩:=e.u.r;have s:Aa (λf=>f=db) h (ZO h ⟨db,2,ZP⟩ g):=(Aa.refl (λf=>f=db) h).setCell (p:=J db 2) (λ_=>X) _;have p:=et.x (k.g e.o.v.r (i.at e.o.v.r C));have r:=e.o.w.f k i C C (λo m=>i.M (e.o.w.j o m).1 C)
 have q:∀f,ZW g=T f->B w.1<=f:=λf hk=>by
  rcases u with m|m
  rw[m] at hk;exact e.z f hk;rw[m] at hk;injection hk with hk;have:=e.t.size;omega
 refine⟨⟨e.o.v.P n (Nu.P y),r.f s p C C (λo m=>p.M (r.j o m).1 C),List.Perm.refl _,sn e.o.l v,e.o.o,e.o.x,λf hk=>aG e.p (q f hk)⟩,⟨t,s.g (k.g j (i.at j C)) (p.at (k.g j (i.at j C)) C),z,A⟩,(e.t.grown n (λf hk m=>absurd (e.z f hk) O)).setCell (p:=J db 2) (λ_=>ZJ X) _,q,e.p⟩
end
def ExE(i:H)(e f:ZT)(a d:H)(p o:ZY)(l k:U (ZY×ZY))(g:U KS)(j:U BS)(m:Y0 (U XS×U E))(b:Ending):Prop:=match m with
 |none=>b=ZI (ZR ZZ)/\Aa (λc=>c=d∨c=a) e f
 |some (h,n)=>b=ZI (ZR Z0)/\∃q,ExS i e f a d n p o q l k g j h
def Xa(s i p g:H)(n:U E)(M L:ZY)(G D:U (ZY×ZY))(e:U KS)(d:U BS)(h:ZT)(u:Cn h p n)(b2:Vp s h i M L (N_) G D [] ⟨e,d,[]⟩)(c7:s<=B h.1)(a8:0<F d)(b0:F d<=1000)(b5:g<=200)(a7:∀W∈d,F W.N=g)(b3:∀W∈d,W.g<64)(b1:∀K∈e,K.e.b<=16)(b4:0<F e)(b6:∀t,t<F e->Wh ⟨e,d,[]⟩ t (De ⟨e,d,[]⟩ t) (Iy ⟨e,d,[]⟩ t)):Calls Y8 168 #[P_ i,P_ p] h λj x=>ExE s h x i p M L G D e d (Vr ⟨e,d,[]⟩ g (ZF 2 n) (Lf n 2)) j:=by
 have d6:=zn u.a 2;have a:Hid (ExS s h h i p n M L (N_) G D e d []):=⟨b2,u,Aa.refl _ _,by simp[ZW],c7⟩;have a2:=qa p 2 n h u O;have a3:Hid (∀z m q f (b:XS),ExS s h z i p m M L q G D e d f->C_ 235 #[P_ i,Y9 #[I b.M,I b.f,I b.i]] z (U_ (ZR (Fi ⟨e,d,[]⟩ g b)) z)):=λz m q f b c5=>sk i g f ⟨e,d,f⟩ b z c5.o.zero a8 b0 b5 a7 b3 b1 b4 (λt c=>by have:=b6 t c;exact⟨this.h,this.i,this.g,this.j,this.A,this.n,this.q⟩);generalize (⟨e,d,[]⟩:Ft)=r at *;clear u b2 a8 b0 b5 a7 b3 b1 b4 b6;generalize Lf n 2=o,ZF 2 n=w at *;refine q_ ?_;go_wp2_with fail
 apply a2.m;rintro j w2 ⟨rfl,b7,b8⟩;replace a:=Y (a.i b7 b8);clear b7 b8 a2;go_wp2_with fail
 go_loopw [8] (λc k=>∃(l:H) (f:U XS) (m:U E) (q:ZY),c=ZX ZQ l/\l<=o/\F f<=l/\Hid (Vr r g w l=T (f,m))/\Hid (ExS s h k i p m M L q G D e d f)) (λc _=>o-ZL (ZA c))
 case atStart=>exact⟨0,[],w,_,X,v_,x_,X,a⟩
 clear a;obtain⟨l,f,m,q,rfl,d5,d7,K,a⟩:=hrel
 by_cases c6:l<o
 case neg=>
  obtain rfl:l=o:=O;go_wp2;go_ret;show ExE _ _ _ _ _ _ _ _ _ _ _ (Vr r g w l) _;rw[K];exact⟨X,q,a⟩
 have⟨y,Q,R⟩:=y3_ (Zpc a.u.a) (ZjX K) (λu=>ZjY r g w (k:=l+1) (m:=o) u c6);clear K;generalize rdX m=b,ZF 3 m=e0 at *;have k:=a.ab;rw[y.1] at k;go_wp2_with fail
 apply k.m;rintro j e2 ⟨rfl,a⟩;have k:=a.ab;rw[y.2.1] at k;go_wp2_with fail
 apply k.m;rintro j e3 ⟨rfl,a⟩;have k:=a.ab;rw[y.2.2.1,y.2.2.2] at k;go_wp2_with fail
 apply k.m;rintro j N ⟨rfl,a⟩;clear y k;go_upto_region 4 with fail;have c:=ha_ N (O_ #[I b.M,I b.f,I b.i] 184);have c2:Hid (ZW q≠T (B N.1)):=λj=>Nat.lt_irrefl _ (B_ a.o.v.j _ j).2;replace a:=Y (a.q (w2:=ZN N (O_ #[I b.M,I b.f,I b.i] 184)) r_);generalize (ZN N) (O_ #[I b.M,I b.f,I b.i] 184)=c0,B N.1=a4 at *;have a9:=(Qb c).1;have d0:=n_ 0 c;have d1:=n_ 1 c;have d2:=n_ 2 c;replace c:=Y c;go_wp2_with fail
 apply (sp i f b c0 (a.o.v.m v_) O).m;rintro j d3 ⟨rfl,P⟩;replace a:=Y (a.q P);have c9:=kb_ P
 cases v:Ip f b
 ·have x:=R (by rw[Q,v];rfl);go_wp2;go_ret;show ExE _ _ _ _ _ _ _ _ _ _ _ (Vr r g w o) _;rw[x];exact⟨X,a.t⟩
 go_wp2_with fail
 apply (a3 d3 _ _ f b a).m;rintro j c1 ⟨rfl,A⟩;replace a:=Y (a.q A);replace A:=bt_ P A
 cases a0:Fi r g b
 ·have x:=R (by rw[Q,v,a0];rfl);go_wp2;go_ret;show ExE _ _ _ _ _ _ _ _ _ _ _ (Vr r g w o) _;rw[x];exact⟨X,a.t⟩
 rw[v,a0] at Q;replace v:=Y v;replace c:=Y ((A.block a4 a9).T c);clear P c9 A d0 d1 d2 a0 R a3 a9;obtain⟨c3,c4,rfl⟩:=a.o.v.j.d;have a5:=a.G;go_upto_region 6 with fail;refine Af (λx=>ZV x _=T _/\ZV x _=T _/\ZV x _=T _/\ZV x _=T _) 10 k_ ⟨a5,n_ 0 c,n_ 1 c,n_ 2 c⟩ (λhHeld=>?_);refine G_ ?_;refine on_ 6 λKK hK=>?_;go_simp;refine hK _ _ ⟨X_ a5,X_ (n_ 0 c),X_ (n_ 1 c),X_ (n_ 2 c)⟩ (λhHeld=>?_);clear hK KK;try simp only[Act.put,tA_,tB_,tC_]
 refine on_ 7 λKK hK=>?_;replace a:=Y (a.q (w2:=YY (ZN c1 (O_ #[I b.M,I b.f,I b.i] 184))) r_.drew);replace c:=Y ((r_.drew.block (w':=YY (ZN c1 (O_ #[I b.M,I b.f,I b.i] 184))) _ (Qb c).1).T c);refine aq_ [I b.M,I b.f,I b.i] a.o.v.j ?_;rintro e1 c0 ⟨b9,x,a6,_,d9,d8,rfl⟩;have d4:=Y (a.P v x b9 (a6.imp id And.left));have a1:=((Aa.refl (λS=>ZW (ZH c3 (F f) c4)=T S) _).grown x (λS c8 _=>c8)).g a.o.v.r ((et.D a.o.v.j).at a.o.v.r C);have c8:=R_ 2 _ 168 a1;have S:=(x.block a4 (Qb c).1 c2.s).T c;refine hK _ _ ⟨(n_ 2 a1),n_ 0 S,n_ 1 S,n_ 2 S⟩ (λhHeld=>?_);clear hK KK b9 x a6 a c;refine G_ ?_;refine le_ ?_;go_wp2;go_roundw;case rel=>grind
 case measure=>exact z_
end Go.Proofs.YtfcgnpchbcmdeaaGreat
