import Derived.Test.YtfcgnpchbcmdeaaGreatZsbc
open _root_ renaming Nat->H,Int->E,List->U,Bool->ZG,ByteArray->ZC,rfl->X,Array->YZ,Option->Y0
open List renaming getD->Z,length->F,take->ZU,drop->ZF,replicate->Y6
open Bool renaming true->Z0,false->ZZ
open Option renaming some->T,none->ZP
open Go renaming Value->ZY,World->ZT,strOfNums->ZB
open Array renaming size->B
open ByteArray renaming size->ZK
open Or renaming inl->ZM,inr->ZJ
open Go.World renaming cell?->ZV,frozen?->YT,setCell->ZO,ownsRow->ZD,grownBy->Y3,alloc->ZN,drewN->Y1,drew->YY
open Go.Value renaming bool->ZR,int->ZX,ownBlock->ZW,slice->ZH,tuple->Y5,pointer->Y7
open Go.IntKind renaming i64->ZQ
open Int renaming toNat->ZL
open Decidable renaming decide->ZE
open Go.Ending renaming returned->ZI
open Go.Proofs renaming intOf->ZA
namespace Go.Proofs.YtfcgnpchbcmdeaaGreat
set_option linter.all false
set_option maxRecDepth 100000
set_option maxHeartbeats 8000000
open Go.RowKit List Nat Go.World Go.Proofs.Tryz Go.Value Go.IntKind Go.Lib Go.Region
def buS(b:U E)(K:H)(a:Cu×U ZG×U H):Cu×U ZG×U H:=
 (if Z a.2.1 (Cx b ((K:E)-1) a.1).2 ZZ=Z0 then⟨(Cx b ((K:E)-1) a.1).1.k,Z0⟩ else(Cx b ((K:E)-1) a.1).1,a.2.1.set (Cx b ((K:E)-1) a.1).2 Z0,a.2.2++[(Cx b ((K:E)-1) a.1).2])
structure BuZ(b:ZT)(f cb i ib k:H)(n l m o:ZY)(j:U (ZY×ZY))(g h:U ZY)(e:U KS)(d c:U (U H)):Prop where
 G:eo b f i k n l m o j g h e d c
 cb:∃a,b.1[cb]? =T (O_ a 288)
 ib:∃a,b.1[ib]? =T (O_ a 4)
structure gt(j b:ZT)(k e f:H)(a:U KS)(c:ZC)(d:Cu)(g:U ZG)(vl:ZY)(h:U H):Prop where
 w:Pd b e c d
 y:d.k<=ZK c
 A:Eo b k (L_ f (F a) (F a)) g
 r:F g=F a
 vl:Ad b (B j.1) vl (An h)
 n:∀l∈h,l<F a
 u:Aa (λi=>i=e∨i=f) j b
section
variable {w W d:ZT} {base cb db a n:H} {vF vB vC vX b v':ZY} {kvs:U (ZY×ZY)} {bvs cvs:U ZY} {Ks:U KS} {Fs Cs:U (U H)} {S:ZC} {c e:Cu} {inn:U ZG} {l:U H}
def gt.G(h:gt w W base cb a Ks S c inn b l)(f:BuZ w base cb db a n vF vB vC vX kvs bvs cvs Ks Fs Cs):eo W base db n vF vB vC vX kvs bvs cvs Ks Fs Cs:=
 f.G.p h.u (λo c p d g _ e=>by
  have⟨k,i⟩:=f.cb;have⟨m,j⟩:=f.ib
  rcases e with e|e
  ·rw[e,i] at d;simp at d;have:=d.2
   rcases g with rfl|rfl|rfl|rfl|rfl<;>cases this
  rw[e,j] at d;simp at d;have:=d.2
  rcases g with rfl|rfl|rfl|rfl|rfl<;>cases this)
def gt.call(f:gt w W base cb a Ks S c inn b l)(j:Pd d cb S e)(g:e.k<=ZK S)(h:Aa (λk=>k=cb) W d):gt w d base cb a Ks S e inn b l:=
 ⟨j,g,h.M f.A (λi g=>Ag f.A g f.w C),f.r,h.M f.vl (λi g=>Ag f.vl g f.w C),f.n,f.u.T (h.m (λ_ _ i=>ZM i))⟩
def gt.g(d:gt w W base cb a Ks S c inn b l):=d.call d.w.g.1 d.y d.w.g.2
def gt.q(e:gt w W base cb a Ks S c inn b l)(f:E_ W d):=e.call (e.w.q f) e.y (.a f)
def gt.D(d:gt w W base cb a Ks S c inn b l)(f:base<=cb)(g:base<=a)(e:base<=B w.1):=d.u.b e (λi h=>O)
def gt.cells(d:gt w W base cb a Ks S c inn b l)(e:BuZ w base cb db a n vF vB vC vX kvs bvs cvs Ks Fs Cs):ZV W (J cb 2)=T (ZR c.z)/\YT W (J cb 2)=ZZ/\ZV W (J db 0)=T (I n)/\ZV W (J db 1)=T vF/\ZV W (J db 2)=T vB/\ZV W (J db 3)=T vC/\YT W (J db 2)=ZZ/\YT W (J db 3)=ZZ:=
 ⟨n_ 2 d.w,R_ 2 _ _ d.w,n_ 0 (d.G e).v,n_ 1 (d.G e).v,n_ 2 (d.G e).v,n_ 3 (d.G e).v,R_ 2 _ _ (d.G e).v,R_ 3 _ _ (d.G e).v⟩
def gt.f(d:gt w W base cb a Ks S c inn b l)(f:H):gt w (ZO W (J a f) (ZR Z0)) base cb a Ks S c (inn.set f Z0) b l:=by have g:Aa _ W (ZO W _ (ZR Z0)):=(Aa.refl (λe=>e=a) W).setCell (p:=(J _ f)) (λ_=>X) _;have⟨i,h⟩:=Ac d.A (k:=a) X;exact⟨g.g d.w (λe=>Ag d.A (k:=a) X d.w C e.s),d.y,(d.A.put d.r.s _).1,by rw[length_set];exact d.r,g.M d.vl (λj e=>Ag d.vl e h C),d.n,d.u.T (g.m (λ_ _ e=>ZJ e))⟩
def gt.add{g:H}(e:gt w W base cb a Ks S c inn b l)(k:g<F Ks)(h:Y3 W d (ZW b))(n:ZD d (B w.1) 3 1 v' (F l+1) ((An l).map (ZX ZQ)++[I g])):gt w d base cb a Ks S c inn v' (l++[g]):=by
 have j:=(Aa.refl _ _).grown h (λi f _=>f);refine⟨j.g e.w (λf=>Ag e.vl f e.w C X),e.y,World.ownsRow.kept e.A h (Ap e.vl e.A C),e.r,?_,λo m=>?_,?_⟩
 ·have:Ad d (B w.1) v' (An l++[(g:E)]):=Ad.P (by rw[Ak];exact n)
  simpa [An] using this
 ·rcases mem_append.1 m with f|f
  exact e.n o f;rw[mem_singleton.1 f];exact k
 exact e.u.c j λi f=>ZJ (B_ e.vl i f).1
end
def Zkw{c h:ZT}{i x s w:H}{A y z D m:ZY}{G:U ZY}(n:Nt c i x A y z D)(v:ZD c s 25 1 m w G)(r:Aa (λq=>q=i∨ZW m=T q) c h):(∀{d a:H} {g:YZ ZY},c.1[d]? =T (O_ g a)->a≠142->a≠25->h.1[d]? =T (O_ g a))/\∀{b a d l:H} {e:ZY} {f:U ZY},ZD c b a d e l f->a≠142->a≠25->ZD h b a d e l f:=by
 have p:∀{d a:H} {g:YZ ZY},c.1[d]? =T (O_ g a)->a≠142->a≠25->¬(d=i∨ZW m=T d):=λb e f j=>by
  rcases j with rfl|j
  unfold Nt at n;rw[n] at b;simp at b;exact e b.2.s;have⟨t,k⟩:=Ac v j;rw[k] at b;simp at b;exact f b.2.s
 exact⟨λb e f=>r.g b (p b e f),λo e f=>r.M o (λl u=>by obtain⟨t,k⟩:=Ac o u;exact p k e f)⟩
structure BuK(g b:ZT)(a f l m p:H)(s q r t:ZY)(o:U (ZY×ZY))(j k:U ZY)(c:U KS)(i h:U (U H))(d:ZC)(e:Cu)(n:U ZG):Prop where
 w:Pd b f d e
 y:e.k<=ZK d
 A:Eo b a (L_ m (F c) (F c)) n
 G:eo b a l p s q r t o j k c i h
 D:Below a g b
 v:a<=f
 u:a<=B g.1
section
variable {w W a:ZT} {base cb db b n:H} {vF vB vC vX:ZY} {kvs:U (ZY×ZY)} {bvs cvs:U ZY} {Ks:U KS} {Fs Cs:U (U H)} {S:ZC} {c d:Cu} {inn:U ZG}
def BuK.call(e:BuK w W base cb db b n vF vB vC vX kvs bvs cvs Ks Fs Cs S c inn)(i:Pd a cb S d)(f:d.k<=ZK S)(g:Aa (λh=>h=cb) W a):BuK w a base cb db b n vF vB vC vX kvs bvs cvs Ks Fs Cs S d inn:=
 ⟨i,f,g.M e.A (λj f=>Ag e.A f e.w C),e.G.b e.w (ZM X) g,e.D.T (g.b (aG e.u e.D.size) (λh j=>p_ e.v)),e.v,e.u⟩
def BuK.g(a:BuK w W base cb db b n vF vB vC vX kvs bvs cvs Ks Fs Cs S c inn):=a.call a.w.g.1 a.y a.w.g.2
def BuK.q(d:BuK w W base cb db b n vF vB vC vX kvs bvs cvs Ks Fs Cs S c inn)(e:E_ W a):=d.call (d.w.q e) d.y (.a e)
def BuK.e{g f:ZY}{k:U H}(d:BuK w W base cb db b n vF vB vC vX kvs bvs cvs Ks Fs Cs S c inn)(s:Ad W base g (An k))(p:∀j,j<F Fs->Bl (Z bvs j Dg) g)(i:Y3 W a (ZW vB))(l:ZD a base 25 1 f (F Fs+1) (bvs++[g]))(t:ZW f=ZW vB∨ZW f=T (B W.1)):BuK w (ZO a (J db 2) f) base cb db b n vF f vC vX kvs (bvs++[g]) cvs Ks (Fs++[k]) Cs S c inn/\Nt a db n vF vB vC vX/\∀{h e:H} {m:ZY} {o:U ZY},ZD W h 3 1 m e o->ZD (ZO a (J db 2) f) h 3 1 m e o:=by
 have⟨o,q⟩:=d.G.e s p i l t;have h:=La (i:=2) d.G.v d.G.w.M i l C;have e:=Zkw d.G.v d.G.w.M h.2.2.2;exact⟨⟨e.1 d.w C C,d.y,e.2 d.A C C,o,d.D.T (h.2.2.2.b (aG d.u d.D.size) (λu r=>by rcases r with rfl|m;exact d.G.t;exact(B_ d.G.w.M u m).1)),d.v,d.u⟩,q,λm=>e.2 m C C⟩
def BuK.f{f e:ZY}{g:U H}(d:BuK w W base cb db b n vF vB vC vX kvs bvs cvs Ks Fs Cs S c inn)(s:Ad W base f (An g))(o:∀j,j<F Cs->Bl (Z cvs j Dg) f)(h:Y3 W a (ZW vC))(l:ZD a base 25 1 e (F Cs+1) (cvs++[f]))(t:ZW e=ZW vC∨ZW e=T (B W.1)):BuK w (ZO a (J db 3) e) base cb db b n vF vB e vX kvs bvs (cvs++[f]) Ks Fs (Cs++[g]) S c inn/\Nt a db n vF vB vC vX:=by have⟨p,q⟩:=d.G.f s o h l t;have i:=La (i:=3) d.G.v d.G.y.M h l C;have k:=Zkw d.G.v d.G.y.M i.2.2.2;exact⟨⟨k.1 d.w C C,d.y,k.2 d.A C C,p,d.D.T (i.2.2.2.b (aG d.u d.D.size) (λu r=>by rcases r with rfl|m;exact d.G.t;exact(B_ d.G.y.M u m).1)),d.v,d.u⟩,q⟩
end
def Zf6{c:Type}{f:Cu×c->Cu×c}{b:Cu×c}(a:Cu×c->Prop)(e:a b)(g:∀b,a b->a (f b)):∀d,a (Hr f b d)
 |0=>e
 |d+1=>by have:=Zf6 a e g d;unfold Hr;split;exact this;exact g _ this
def ZlO{c:U E}(k:∀h∈c,0<=h/\h<256)(e d:H)(i:Cu):F (vaC c e d i).2=e/\∀a∈(vaC c e d i).2,0<=a/\a<=d:=by
 unfold vaC;simp only;split
 ·refine Zf6 (f:=spC c e _) (λf=>F f.2.2=e/\∀a∈f.2.2,0<=a/\a<=d) ⟨s_,λa b=>p_ (eq_of_mem_replicate b)⟩ (λf g=>?_) _;unfold spC;split;exact g;refine⟨by simpa using g.1,λa b=>?_⟩
  rcases mem_or_eq_of_mem_set b with j|j
  exact g.2 a j;have:=(Jl k d (Cx c 255 f.1).1).2;omega
 refine⟨by simp[dnC],λa b=>?_⟩;simp only[dnC,mem_map] at b;obtain⟨f,_,rfl⟩:=b;split<;>omega
def Zne{a:U E}{d:E}(b:∀x∈a,0<=x/\x<=d):An (a.map ZL)=a:=by
 unfold An;rw[map_map]
 conv=>rhs;rw[<- map_id a]
 exact map_congr_left λx c=>by have:=b x c;simp;omega
def rf.P{n:H}{i:U KS}{h k:U (U H)}{j N:U H}(f:rf n i h k)(s:F h<1000)(q:F j<=1000)(p:∀l∈j,l<F i)(m:F N=n)(r:∀x∈N,x<=255):rf n i (h++[j]) (k++[N]):=by
 have g:∀{L:U (U H)} {x:U H} {b:H},b<F (L++[x])->(b<F L/\Z (L++[x]) b []=Z L b [])∨Z (L++[x]) b []=x:=λ{L x b} d=>by
  by_cases c:b<F L
  exact ZM ⟨c,w_⟩;right;have:b=F L:=(by simp at d;omega);subst this;simp[Z]
 have o:∀e,Z N e 0<=1000000:=λe=>by
  by_cases c:e<F N
  have:=r _ (Qf c);rw[Qc,Qd c];simp only[Option.getD_some];omega;rw[Qc,getElem?_eq_none O];simp
 refine⟨by simp[f.y],t_,λb d=>?_,λb d e=>?_,λb d=>?_,λb d=>?_⟩
 ·rcases g d with⟨c,a⟩|a
  rw[a];exact f.u b c;rw[a];exact m
 ·rcases g d with⟨c,a⟩|a
  rw[a];exact f.val b c e;rw[a];exact o e
 ·rcases g d with⟨c,a⟩|a
  rw[a];exact f.A b c;rw[a];exact q
 rcases g d with⟨c,a⟩|a
 rw[a];exact f.n b c;rw[a];exact p
theorem Zan{d:U KS}:∀(a:U H) {c:H} {b:H×H},Zu d a c=T b->b.1∈a
 |[],_,_,h=>by cases h
 |e::a,c,b,h=>by unfold Zu at h;split at h;injection h with h;subst h;simp;exact mem_cons_of_mem _ (Zan _ h)
theorem Zcv{d:U KS}{b:U H}{e:H}{c:H×H}(a:Nv d b e=T c):c.1∈b:=by
 unfold Nv at a;split at a
 ·cases a
 exact Zan _ a
def Zio{e:U KS}{a d:U (U H)}{c b:U H}(i:F d=F a)(f:H):Gw e (a++[c]) (d++[b]) (F a) f=Nv e c (Z b f 0):=by unfold Gw;have g:Z (a++[c]) (F a) []=c:=(by simp[Z]);have h:Z (d++[b]) (F a) []=b:=(by rw[<- i];simp[Z]);rw[g,h]
def dfB(b:U KS):Y0 (H×H)->ZG
 |some a=>ZE (a.2=(Z b a.1 Aj).d)
 |none=>ZZ
def gy(f:U E)(h:H)(b:U KS)(c:Cu×U ZG×U (U H)×U (U H)):Cu×U ZG×U (U H)×U (U H):=
 let g:=Cx f (F b) c.1
 let a:=Hr (buS f (F b)) (g.1,c.2.1,[]) g.2
 let e:Cu:=if g.2=0∨40<Bk b a.2.2 then⟨a.1.k,Z0⟩ else a.1
 if e.z=Z0 then(e,a.2.1,c.2.2.1,c.2.2.2)
 else
  let d:=vaC f h (Bk b a.2.2) e
  (⟨d.1.k,d.1.z||(range h).any λi=>dfB b (Nv b a.2.2 (Z (d.2.map ZL) i 0))⟩,a.2.1,c.2.2.1++[a.2.2],c.2.2.2++[d.2.map ZL])
def BuP(q c:ZT)(d g i j l:H)(o p:ZY)(k:U (ZY×ZY))(b:U KS)(e:ZC)(a:Cu×U ZG×U (U H)×U (U H)):Prop:=
 ∃m n f h,Pd c g e a.1/\a.1.k<=ZK e/\Eo c d (L_ j (F b) (F b)) a.2.1/\F a.2.1=F b/\eo c d i l o m n p k f h b a.2.2.1 a.2.2.2/\Below d q c
def Zb7 s j M p f h3 e8 e9 a0 b9 f7 e2 a u N (e:ZC)(b:Cu) g i6 l (f0:BuZ l s j M p f h3 e8 e9 a0 b9 f7 e2 a u N)(b4:Pd l j e b)(k3:Eo l s (L_ p (F a) (F a)) g)(k4:F g=F a)(g8:ZK e<=4000000)(a5:b.k<=ZK e)(m7:f<=200)(hK:F a<=4)(d4:∀a2,XsV a2 a0 i6)(g7:s<=j)(k6:s<=p)(b7:s<=B l.1)(k7:rf f a u N)(m5:F u<=256):C_ 185 #[P_ j,P_ M,L_ p (F a) (F a)] l λt c=>t=ZI (Y5 #[])/\BuP l c s j M p f h3 a0 b9 a e (gy (Ab e) f a (b,g,u,N)):=by
 have⟨d8,h⟩:=ez_ (gy (Ab e) f a (b,g,u,N));rw[h];have e5:F (Ab e)=ZK e:=(by simp[Ab]);have f1:=Qq e;have d6:Hid (gt l l _ j p _ e b _ Dg []):=⟨b4,a5,k3,k4,Ad.nil,λS m4=>by simp at m4,Aa.refl _ _⟩;have v:=Y f0;obtain⟨d9,e0,n1⟩:∃f6 b,h3=ZH f6 (F a) b:=(by have⟨f6,b,t⟩:=f0.G.A.M.d;rw[f0.G.A.a] at t;exact⟨f6,b,t⟩);subst n1;have⟨m1,d7⟩:=Y_ d4 k7;unfold gy at h;simp only at h;have⟨K,g2⟩:=Z_ (F a);have P:=Y g2;clear f0 b4 k3 k4 d4 k7;have⟨_,_,_,L,_,_,_,_⟩:=d6.cells v;rw[g2] at L h hK ⊢;clear g2;refine dl_ ?_;go_enter func185,ntmps185;go_wp2_with fail
 apply (Cl _ K e b l d6.w g8 a5).m;rintro t p4 ⟨rfl,j0,l2⟩;have f3:=Y (d6.call j0 (e5 ▸ Ic (e5 ▸ a5)) l2);have d3:=(Jl f1 K b).2 O;clear j0 l2 d6 L;generalize Cx (Ab e) K b=W at *;obtain⟨W,z⟩:=W;simp only at f3 h d3 ⊢;have⟨h2,g9⟩:=Z_ ((W,g,[]):Cu×U ZG×U H);rw[g9] at h;have i1:=Y g9;clear g9;go_wp2_with fail
 go_loopw [7,8] (λm d n=>∃(k:H) (b:Cu) (g:U ZG) (c:U H),d=ZX ZQ k/\k<=z/\F c=k/\Hid ((b,g,c)=Hr (buS (Ab e) K) h2 k)/\Hid (gt l n s j p a e b g m c)) (λ_ d _=>z-ZL (ZA d))
 case atStart=>exact⟨0,W,g,[],X,v_,X,i1,f3⟩
 clear f3 i1;obtain⟨k,b,g,c,rfl,d2,b6,c3,q⟩:=hrel;have⟨w,R,b1,L,b2,b3,e3,c6⟩:=q.cells v;rw[P] at L
 rcases ZnT k z b.z with⟨e4,o⟩|⟨e4,o⟩|e4
 ·have c7:k<(z:E):=O;rw[o] at w;have A:=Ld (f:=buS _ K) (s:=h2) (k:=k) (by rw[<- c3];exact o);rw[<- c3] at A;have a9:Hid (Hr (buS (Ab e) K) h2 (k+1)=(bdC (Z g (Cx (Ab e) ((K:E)-1) b).2 ZZ) (Cx (Ab e) ((K:E)-1) b).1,g.set (Cx (Ab e) ((K:E)-1) b).2 Z0,c++[(Cx (Ab e) ((K:E)-1) b).2])):=A;have h1:=Au (z:=(K:E)-1) O O;clear A h o c3;go_wp2_with fail
  apply (Cl j _ e b wr q.w g8 q.y).m;rintro t c1 ⟨rfl,a6,a7⟩;have x:=Y (q.call a6 (e5 ▸ Ic (e5 ▸ q.y)) a7);have d1:=(Jl f1 ((K:E)-1) b).2 O;clear a6 a7 q w R b1 L b2 b3 e3 c6 h1;generalize Cx (Ab e) ((K:E)-1) b=y at *;obtain⟨y,i⟩:=y;simp only at x a9 d1 ⊢;have Q:i<K:=O;have m3:=F_ i K;have⟨_,e1,_,_,a3,a4⟩:=x.A.b x.r (k:=i) (P ▸ Q);injection e1 with e1;injection e1 with e1;subst e1;have⟨w,R,_⟩:=x.cells v;generalize b0:Z g i ZZ=a1 at *;go_upto_if 44 with fail
  go_cut [44] (λ_ d=>Hid (gt l d s j p a e (bdC a1 y) g u7 c))
  case first=>cases a1<;>(go_wp2;go_meet;first|exact x|exact x.g)
  have m:=hcut;clear hcut x a3 a4 w R;generalize bdC a1 y=a8 at *;have⟨_,e1,_,_,a3,a4⟩:=m.A.b m.r (k:=i) (P ▸ Q);injection e1 with e1;injection e1 with e1;subst e1;have r:=Y (m.f i);go_upto_region 9 with fail;clear a3 a4 m;generalize (ZO wc) _ _=h4 at *;obtain⟨D,G,rfl⟩:=r.vl.d;rw[Ak,b6] at r ⊢;have b8:=r.u.size;have b5:F (An c)<=1000:=(by rw[Ak];omega);go_wp2_with (at_builtin;refine ap_ [I i] (ra_ r.vl _) ?_)
  intro n7 l4 d;have n:=Y ((r.q r_).add (P ▸ Q) d.2.1 (by rw[<- Ak c];exact d.1));clear d r;refine J_ ?_;exact⟨k+1,a8,g.set i _,c++[i],g_,O,by simp[b6],a9.s,n⟩
 focus
  have a9:Hid (_∨k=z):=ZM o;have c7:k<(z:E):=O;rw[o] at w;clear o e4;go_upto_region 10 with fail
 rotate_left
 focus
  have a9:Hid (b.z=Z0∨k=z):=ZJ O;have c7:¬k<(z:E):=O;clear e4;go_upto_region 10 with fail
 all_goals
  rw[Uq c3 d2 a9] at h;simp only at h;obtain⟨D,G,rfl⟩:=q.vl.d;rw[Ak] at q ⊢;clear a9 c3 c7 w R b1 L b2 b3 e3 c6;have o8:F c<=4:=O;have a8:Hid (∀a2 b,gt l a2 s j p a e b g (V D (F c) G) c->C_ 137 #[P_ M,V D (F c) G] a2 (U_ (ZX ZQ (Bk a c:H)) a2)):=λa2 b b5=>dg _ f _ _ c _ a2 (b5.G v).j (b5.vl.f X) b5.n O;have⟨c0,e6⟩:=Z_ (Bk a c);rw[e6] at h;simp only[e6] at a8;have m0:=Y e6;clear e6;have⟨a3,a4⟩:=Z_ (ZE (z=0∨40<c0));rw[Zdp,a4] at h;go_cut [62] (λm d=>m=ZR a3/\Hid (gt l d s j p a e b g (ZH D (F c) G) c))
  case first=>
   clear h
   by_cases d:z=0
   ·have f9:((z:E)==0)=Z0:=(by simp[d]);have m:Hid (a3=Z0):=a4 ▸ aF (ZM d);clear d d2 b6 d3 a8 a4;go_wp2;go_meet
    exact⟨by rw[m],q⟩
   have f9:((z:E)==0)=ZZ:=t_;have m:Hid (a3=ZE ((c0:E)>40)):=a4 ▸ Bool.eq_iff_iff.2 t_;have b5:=a8 _ b q;clear d d2 b6 d3 a8 a4;go_wp2_with fail
   apply b5.m;rintro t c1 ⟨rfl,c9⟩;replace q:=Y (q.q c9);clear b5 c9;go_wp2;go_meet
   exact⟨by rw[m],q⟩
  obtain⟨rfl,x⟩:=hcut;clear q
  have f5:Hid ((bdC a3 b).z=ZZ->c0<=40):=λt=>by
   rw[<- a4,<- Zdp] at t;split at t
   ·cases t
   omega
  clear a4;have⟨w,R,_⟩:=x.cells v;go_upto_if 62 with fail
  go_cut [62] (λ_ d=>Hid (gt l d s j p a e (bdC a3 b) g (ZH D (F c) G) c))
  case first=>cases a3<;>(clear h d2 b6 d3 f5;go_wp2;go_meet;first|exact x|exact x.g)
  have m:=hcut;clear hcut x w R;generalize bdC a3 b=c5 at *;have⟨w,R,_⟩:=m.cells v
  cases o:c5.z
  ·rw[o] at w;have o6:=f5 o;rw[aC (by rw[o];decide)] at h;clear f5 o d2 b6 d3;go_wp2_with fail
   apply (a8 wc c5 m).m;rintro t c1 ⟨rfl,c9⟩;have r:=Y (m.q c9);clear c9 m w R a8;go_wp2_with fail
   apply (Zci j M f c0 e8 e9 a0 e c5 c1 r.w (r.G v).v g8 r.y m7 O).m;rintro t h4 ⟨rfl,b8⟩;have⟨j8,g3⟩:=ZlO f1 f c0 c5;have n:=Y (r.call b8.2.1 b8.2.2.1 b8.2.2.2);have g4:=b8.1.m (aG b7 r.u.size);have k0:∀k,_->B l.1<=k:=λk a5=>oj_ (B_ b8.1 k a5).1 r.u.size;generalize vaC (Ab e) f c0 c5=Q at *;have⟨y,c8⟩:=Z_ (Q.2.map ZL);have j5:An y=Q.2:=by rw[<- c8];exact Zne g3
   have j7:F y=f:=by rw[<- c8];simpa using j8
   have j6:∀l5∈y,l5<=255:=λl5 d4=>by rw[<- c8] at d4;obtain⟨A,d,rfl⟩:=mem_map.1 d4;have:=g3 A d;omega
   rw[<- j5] at g4;have i0:Hid (((⟨Q.1.k,Q.1.z||(range f).any λd=>dfB a (Nv a c (Z y d 0))⟩:Cu),g,u++[c],N++[y])=d8):=by show _=_;rw[<- h,<- c8]
   have⟨l6,d5⟩:=Y_ (d7.P O O n.n j7 j6) (n.G v);have f2:=K_ g4 k0;have p0:=n.u.size;clear b8 j8 g3 c8 j5 j7 j6 g4 k0 h r m0;have⟨_,_,b1,L,b2,b3,e3,c6⟩:=n.cells v;have⟨n9,o1,k8⟩:=d5.w.d;rw[length_map] at k8;have a1:=Y d5.w.M;rw[length_map] at a1;have h5:Hid (∀i,_->Bl _ (V D _ G)):=λi d1=>tu (v.G.w.j i (by rw[length_map];exact d1)) λk a5=>(B_ n.vl k a5).1;have h6:=Y (λi d1=>tu (v.G.y.j i (by rw[length_map];exact d1)) f2.2);have i3:Hid (Ad h4 _ (V D _ G) _):=n.vl.m b7;have l7:=Y n.n;have l8:=Y n.r;have h8:Hid (BuK l h4 _ j M p f (V d9 _ e0) e8 e9 a0 b9 _ e2 a u N e Q.1 _):=⟨n.w,n.y,n.A,d5,n.D g7 k6 b7,g7,b7⟩;subst k8;clear n v
   go_wp2_with (at_builtin;refine ap_ [V D (F c) G] (ra_ a1 _) ?_)
   rintro n7 l4 ⟨l0,i7,j1,_,n4,n2,m9⟩;have⟨j3,g5,k5⟩:=(h8.q (r_ (o:=O_ #[V D (F c) G] 25))).e (i3.q r_) h5 i7 l0 (j1.imp id (λb4=>by simpa using b4.1));have h7:Hid (Ad _ _ _ _):=k5 (f2.1.q r_);have a7:=Y j3;have g0:=n_ 2 g5;have g1:=R_ 2 _ _ g5;subst m9;clear l0 i7 j1 j3 g5 k5 h8 a1 i3 h5 f2 d5 b1 L b2 b3 e3 c6;go_upto_region 15 with fail;clear g0 g1;generalize (ZO l4) _ _=p6 at *;have⟨o0,o2,k9⟩:=a7.G.y.d;rw[length_map] at k9;have a1:=Y a7.G.y.M;rw[length_map] at a1;have b3:=n_ 3 a7.G.v;have o7:=d7.y ▸ m5;have p1:=aG b7 a7.D.size;subst k9;go_wp2_with (at_builtin;refine ap_ [L_ (B c1.1) f f] (ra_ a1 _) ?_)
   rintro p3 n8 ⟨l1,i9,j2,_,n5,n3,n0⟩;have⟨j4,g6⟩:=(a7.q (r_ (o:=O_ #[L_ (B c1.1) f f] 25))).f (h7.q r_) h6 i9 l1 (j2.imp id (λb4=>by simpa using b4.1));have h9:=Y j4;have g0:=n_ 3 g6;have g1:=R_ 3 _ _ g6;subst n0;clear l1 i9 j2 j4 g6 a7 a1 h6 h7 b3;go_upto_region 16 with fail;clear g0 g1;generalize (ZO n8) _ _=p5 at *;have⟨c2,e7⟩:=Z_ (λd=>(Q.1.z||(range d).any λd=>dfB a (Nv a c (Z y d 0))))
   have i5:Hid (∀d,c2 (d+1)=(c2 d||dfB a (Nv a c (Z y d 0)))):=λd=>by rw[<- e7];simp[range_succ,Bool.or_assoc]
   have i4:Hid (c2 0=Q.1.z):=(by show _=_;rw[<- e7];simp);have f4:Hid (((⟨Q.1.k,c2 f⟩:Cu),g,u++[c],N++[y])=d8):=(by show _=_;rw[<- i0,<- e7]);have i2:Hid (∀d,_=Nv a c (Z y d 0)):=λd=>Zio d7.y d;clear e7 i0 d7;go_wp2_with fail
   go_loopw [11] (λA a6=>∃d:H,A=ZX ZQ d/\d<=f/\Hid (BuK l a6 s j M p f (ZH d9 (F a) e0) (ZH (T ⟨n4,0,ZP⟩) (F u+1) n2) (ZH (T ⟨n5,0,ZP⟩) (F N+1) n3) a0 b9 (f7++[ZH D (F c) G]) (e2++[ZH (T ⟨B c1.1,0,ZP⟩) f f]) a (u++[c]) (N++[y]) e ⟨Q.1.k,c2 d⟩ g)) (λA _=>f-ZL (ZA A))
   case atStart=>exact⟨0,X,v_,i4 ▸ h9⟩
   clear h9 i4;obtain⟨d,rfl,o9,A⟩:=hrel;have b1:=n_ 0 A.G.v;have b2:=n_ 2 A.G.v
   by_cases m6:d<f
   ·have c7:d<(f:E):=O;have h0:=df M f (F u) d i6 (A.G.h (m1 _)) l6 s_ m6;rw[i2] at h0;have b0:=i5 d;have h1:i64.wrap (((F u+1:H):E)-1)=F u:=by rw[Au O O];omega
    have l9:Hid (∀W,Nv a c (Z y d 0)=T W->W.1<K):=λW m8=>by rw[<- P];exact l7 _ (Zcv m8)
    generalize Nv a c (Z y d 0)=n6 at *;go_wp2_with fail
    apply h0.m;rintro t l3 ⟨rfl,j9⟩;have a6:=Y (A.q j9);clear j9 h0 A b1 b2 h1 i2 i5 f4
    cases n6 with
    | none=>
     simp only[re];refine J_ ?_;exact⟨d+1,g_,O,by rw[b0,show dfB a ZP=ZZ from X,Bool.or_false];exact a6⟩
    | some m2=>
     obtain⟨S,c4⟩:=m2;have k2:=l9 _ X;simp only at k2;have⟨p2,o3,_,_,_,_,L,_,_,_,c6⟩:=a6.G.j.z (i:=S) (P ▸ k2);rw[P] at L;have k1:dfB a (T (S,c4))=ZE (c4=(Z a S Aj).d):=rfl;rw[k1] at b0;generalize (Z a S Aj).d=f8 at *;have m3:(S:E)≥0:=O;have o4:0<=(S:E):=O;have o5:(S:E)<K:=O;obtain⟨w,R⟩:ZV l3 (J j 2)=T (ZR (c2 d))/\YT l3 (J j 2)=ZZ:=⟨n_ 2 a6.w,R_ 2 _ _ a6.w⟩;simp only[re];clear k1
     by_cases d0:c4=f8
     ·have f9:((c4:E)==f8)=Z0:=(by simp[d0]);rw[aF d0,Bool.or_true] at b0;clear d0;refine J_ ?_;exact⟨d+1,g_,O,b0 ▸ a6.g⟩
     have f9:((c4:E)==f8)=ZZ:=t_;rw[aE d0,Bool.or_false] at b0;clear d0;refine J_ ?_;exact⟨d+1,g_,O,b0 ▸ a6⟩
   have c7:¬d<(f:E):=O;obtain rfl:d=f:=O
   have a6:Hid (BuP l wr s j M p d (V d9 (F a) e0) a0 b9 a e d8):=(by rw[<- f4];exact⟨_,_,_,_,A.w,A.y,A.A,l8,A.G,A.D⟩);clear f4;go_wp2;go_end0;exact⟨X,by rw[<- P];exact a6⟩
  rw[o] at w;have a6:Hid (BuP l wc s j M p f (V d9 (F a) e0) a0 b9 a e d8):=(by rw[aD o] at h;rw[<- h];exact⟨e8,e9,f7,e2,m.w,m.y,m.A,m.r,m.G v,m.D g7 k6 b7⟩);clear h o;go_wp2;apply bodyPost_ret (results_none X _ _ _) X;exact⟨X,by rw[<- P];exact a6⟩
def ff(d:U ZG)(c:U H):U ZG:=c.foldl (λa b=>a.set b Z0) d
def Zbk(c:U ZG)(b:U H)(a:H):ff c (b++[a])=(ff c b).set a Z0:=by simp[ff]
theorem yx(b:U ZG):∀a:U H,F (ff b a)=F b:=λa=>by
 unfold ff
 induction a generalizing b with
 |nil=>rfl
 |cons c a d=>grind
theorem Uk{b:H}:∀{a:U H} {inn:U ZG},b ∉ a->Z (ff inn a) b ZZ=Z inn b ZZ
 |[],inn,_=>X
 |d::a,inn,e=>by have c:ff inn (d::a)=ff (inn.set d _) a:=rfl;rw[c,Uk (λf=>e (mem_cons_of_mem _ f)),Qc,Qc,getElem?_set_ne (show d≠b from λc=>e (c ▸ (mem_cons_self ..)))]
def Zp2{c g:U E}{a:U H}{K:H}{e:U ZG}{d:Cu}(r:Kv c d (Sr a++g))(hK:K<=256)(n:∀b∈a,b<K)(u:a.Nodup)(o:∀b∈a,Z e b ZZ=ZZ):(Hr (buS c K) (d,e,[]) (F a)).2=(ff e a,a)/\Kv c (Hr (buS c K) (d,e,[]) (F a)).1 g:=by
 have l:Kv c d (a.flatMap (λb=>[((b:H):E)%256])++g):=by
  have f:Sr a=a.flatMap (λb=>[((b:H):E)%256]):=by unfold Sr;rw[map_eq_flatMap]
  grind
 have i:=Kv.a (f:=buS c K) (A:=λf=>(ff _ _,ZU f a)) l (λf h d q m=>by
  have s:=n _ (Qf h);have⟨j,k⟩:=Kv.num (most:=(K:E)-1) m O O
  have p:a[f] ∉ ZU f a:=λt=>by grind [getElem_of_mem,getElem_inj]
  unfold buS;simp only;rw[j,Uk p,o _ (Qf h),aC C,Qi h,Zbk]
  exact⟨X,k⟩) _ x_
 simp only[take_length,drop_length,flatMap_nil,nil_append,take_zero] at i;exact i
theorem Zbe{c:U KS}:∀(b:U H) (d:H),Ii c (An b) (d:E)=Z0->dfB c (Zu c b d)=ZZ
 |[],d,a=>by simp[An,Ii] at a
 | e ::b,d,a=>by
  have f:An (e::b)=(e:E)::An b:=rfl;rw[f] at a;simp only[Ii,Int.toNat_natCast,Oy,decide_eq_true_eq] at a;have g:(Z c e Aj).g=_+2:=rfl;simp only[Zu];split at a
  ·rw[aD O];unfold Wx at a;simp only[dfB]
   grind
  rw[aC O];apply Zbe _ _
  grind
def ZpX{f e:U E}{d:H}{b:U KS}{a:BS}{inn:U ZG}{Fs Cs:U (U H)}{h:Cu}(k:Kv f h (Dq a++e))(c:BRt b d a)(r:d<=200)(hK:F b<=4)(z:F a.fs<=F b)(s:a.fs.Nodup)(q:∀n∈a.fs,Z inn n ZZ=ZZ):(gy f d b (h,inn,Fs,Cs)).2=(ff inn a.fs,Fs++[a.fs],Cs++[a.N])/\Kv f (gy f d b (h,inn,Fs,Cs)).1 e:=by
 have m:Dq a++e=((F a.fs:H):E)%256::(Sr a.fs++(Ia a.N a.g++e)):=(by unfold Dq;simp);rw[m] at k;have A:=c.h;have y:=c.o;have⟨v,u⟩:=k.num (most:=(F b:E)) O O;have⟨w,l⟩:=Zp2 u O c.n s q;have⟨x,j⟩:=Zqn l r c.y c.k O
 have p:((range d).any λg=>dfB b (Nv b a.fs (Z a.N g 0)))=ZZ:=by
  rw[any_eq_false];intro g t;have G:=mem_range.1 t;have D:=c.y;have i:=c.j;unfold Dx at i;simp only[all_eq_true,Bool.or_eq_true,decide_eq_true_eq] at i;have L:=i (Z a.N g 0) w_;unfold Nv
  by_cases o:Z a.N g 0=0
  rw[aD o];exact Bool.false_ne_true
  grind [Zbe]
 unfold gy;simp only;rw[v,w];simp only;rw[<- c.sum,aC (show ¬(F a.fs=0∨40<a.g) by omega),aC (by rw[l.z];decide),x,Ga,p,Bool.or_false];exact⟨X,j.z,j.k,j.t⟩
def riB(a:U XS)(x:XS):ZG:=ZE (a=[]∨(Z a (F a-1) Dm).M<x.M∨(Z a (F a-1) Dm).M=x.M/\(Z a (F a-1) Dm).f<x.f)
def xcB(a:U KS)(c b:U (U H))(d:U XS)(x:XS):ZG:=(goR a c b x.M x.f&&riB d x)&&(ZE (x.i<F (Z a x.f Aj).e.f+F (Z a x.f Aj).e.c+2)&&!decide (x.i=(Z a x.f Aj).d))
def xcR(a:U E)(b:Cu):Cu×XS:=((Cx a 255 (Cx a 255 (Cx a 255 b).1).1).1,⟨(Cx a 255 b).2,(Cx a 255 (Cx a 255 b).1).2,(Cx a 255 (Cx a 255 (Cx a 255 b).1).1).2⟩)
def xcS(b:U E)(f:H)(c:U KS)(e d:U (U H))(a:Cu×U XS):Cu×U XS:=
 if(xcR b a.1).1.z=Z0∨f<=(xcR b a.1).2.M∨F c<=(xcR b a.1).2.f then(⟨(xcR b a.1).1.k,Z0⟩,a.2)
 else(if xcB c e d a.2 (xcR b a.1).2=Z0 then(xcR b a.1).1 else⟨(xcR b a.1).1.k,Z0⟩,a.2++[(xcR b a.1).2])
def xcC(a:U E)(f:H)(e:U KS)(d c:U (U H))(b:Cu):Cu×U XS:=Hr (xcS a f e d c) ((Lj a 2 b).1,[]) (aa (Lj a 2 b).2)
structure eu(h a:ZT)(d e j:H)(m k l g:ZY)(b:ZC)(c:Cu)(i:U XS):Prop where
 w:Pd a d b c
 y:c.k<=ZK b
 v:Nt a e j m k l g
 r:Xr a (B h.1) 231 3 g (i.map Cw)
 u:Aa (λf=>f=d∨f=e) h a
section
variable {w W b:ZT} {base cb db n:H} {vF vB vC vX v':ZY} {kvs:U (ZY×ZY)} {bvs cvs:U ZY} {Ks:U KS} {Fs Cs:U (U H)} {S:ZC} {c d:Cu} {a:U XS}
def eu.G(h:eu w W cb db n vF vB vC vX S c a)(e:eo w base db n vF vB vC Dg kvs bvs cvs Ks Fs Cs)(l:∃k,w.1[cb]? =T (O_ k 288)):eo W base db n vF vB vC vX kvs bvs cvs Ks Fs Cs:=by
 have j:∀b f d,w.1[b]? =T (O_ f d)->d≠288->d≠142->¬(b=cb∨b=db):=λb f d g o p i=>by
  obtain⟨m,q⟩:=l;have r:=e.v
  grind [Nt]
 exact⟨h.v,e.A.p h.u (λb f d g i _=>j b f d g O O),e.w.p h.u (λb f d g i _=>j b _ d g O O),e.y.p h.u (λb f d g i _=>j b _ d g O O),e.G,e.x,e.t⟩
def eu.call(e:eu w W cb db n vF vB vC vX S c a)(i:Pd b cb S d)(j:d.k<=ZK S)(g:Aa (λh=>h=cb) W b):eu w b cb db n vF vB vC vX S d a:=
 ⟨i,j,g.g e.v (λf=>e.v.o e.w C f.s),e.r.p g (λh k f=>Ag e.r.M k e.w C f),e.u.T (g.m (λ_ _ f=>ZM f))⟩
def eu.g(b:eu w W cb db n vF vB vC vX S c a):=b.call b.w.g.1 b.y b.w.g.2
def eu.q(d:eu w W cb db n vF vB vC vX S c a)(e:E_ W b):=d.call (d.w.q e) d.y (.a e)
def eu.cells(b:eu w W cb db n vF vB vC vX S c a):ZV W (J cb 2)=T (ZR c.z)/\YT W (J cb 2)=ZZ/\ZV W (J db 0)=T (I n)/\ZV W (J db 1)=T vF/\ZV W (J db 4)=T vX/\YT W (J db 4)=ZZ:=⟨n_ 2 b.w,R_ 2 _ _ b.w,n_ 0 b.v,n_ 1 b.v,n_ 4 b.v,R_ 4 _ _ b.v⟩
def eu.P{x:XS}(e:eu w W cb db n vF vB vC vX S c a)(j:Y3 W b (ZW vX))(i:ZD b (B w.1) 231 3 v' (F a+1) ((a.map Cw).flatten++Cw x)):eu w (ZO b (J db 4) v') cb db n vF vB vC v' S c (a++[x])/\Nt b db n vF vB vC vX:=by
 have f:=La (i:=4) e.v e.r.M j i C;have l:Nt _ _ n _ _ _ _:=f.1;have k:_≠_:=λd=>e.v.o e.w C d;have g:=e.r.P (x:=Cw x) (by rw[length_map];exact i) X;have o:Aa _ _ (ZO b _ v'):=(Aa.refl (λh=>h=db) _).setCell (p:=(J _ 4)) (λ_=>X) _;refine⟨⟨f.2.2.2.g e.w (λd=>?_),e.y,f.2.1,?_,?_⟩,l⟩
 ·rcases d with d|d
  exact k d;exact Ag e.r.M d e.w C X
 rw[map_append];exact g.p o (λh m d=>by obtain⟨p,q⟩:=Ac g.M m;grind);exact e.u.c f.2.2.2 λh d=>d.elim (λd=>ZM (ZJ d)) λd=>ZJ (B_ e.r.M h d).1
end
def ZmR{a:H}(b:a<65536):aa (Ba (a:H) 2)=a:=by simp only[Ba,Tu,nil_append,cons_append,aa];omega
def Zqq{d i:U E}{f:H}{c:U KS}{h g:U (U H)}{a:U XS}{e:Cu}(v:Kv d e (Ba (a3 a:H) 2++(a.flatMap xB++i)))(L:a3 a<=800)(z:Gu a)(y:∀x∈a,x.M<f/\x.f<a3 c/\x.i<256/\goR c h g x.M x.f=Z0/\x.i<a3 (Z c x.f Aj).e.f+a3 (Z c x.f Aj).e.c+2/\x.i≠(Z c x.f Aj).d)(M:f<=200)(hK:a3 c<=4):(xcC d f c h g e).2=a/\Kv d (xcC d f c h g e).1 i:=by
 have⟨D,A⟩:=v.take (Dr _ 2)
 have k:=Kv.a (f:=xcS d f c h g) (A:=λb=>ZU b a) A (λb l e m w=>by
  have⟨P,Q,R,S,W,a0⟩:=y _ (Qf l);have⟨o,n⟩:=Kv.num (most:=255) w O O;have⟨q,p⟩:=Kv.num (most:=255) n O O;have⟨s,r⟩:=Kv.num (most:=255) p O O;have u:(xcR d e).2=a[b]:=(by unfold xcR;simp only;rw[o,q,s]);have j:Kv d (xcR d e).1 m:=r
  have N:riB (ZU b a) a[b]=Z0:=by
   unfold riB;rw[decide_eq_true_eq]
   by_cases G:b=0
   ·grind
   right;have t:Z (ZU b a) (a3 (ZU b a)-1) Dm=a[b-1]:=w_;rw[t];exact pairwise_iff_getElem.1 z _ b O _ O
  unfold xcS;simp only;rw[u,j.z,aC t_,aD (by unfold xcB;grind)]
  exact⟨by rw[Qi l],j⟩) (a3 a) x_
 simp only[take_length,drop_length,flatMap_nil,nil_append,take_zero] at k;unfold xcC;rw[D,ZmR O];exact k
def ZlG{b:U KS}{e:U H}:∀(a:U H) (d:H),(a++e).Nodup->(a.any λc=>ZE ((c:E)=(re (Zu b (a++e) d)).1))=ZE (d<Bk b a)
 |[],d,_=>by simp[Bk]
 | c ::a,d,g=>by
  have f:Bk b (c::a)=(Z b c Aj).g+Bk b a:=(by simp[Bk]);rw[cons_append,nodup_cons] at g;rw[f,any_cons];simp only[cons_append,Zu]
  by_cases j:d<(Z b c Aj).g
  ·grind [re]
  have h:ZE ((c:E)=(re (Zu b (a++e) (d-(Z b c Aj).g))).1)=ZZ:=by
   cases i:Zu b (a++e) (d-(Z b c Aj).g) with
   |none=>simp[re]
   | some l=>
    have k:=Zan _ i;exact aE λf=>g.1 (by simp only[re] at f;grind)
  rw[aC j,h,ZlG a _ g.2,Bool.false_or]
  grind
def Zbr{g:E}{c:H}:∀{b:U H} {e:ZG},c ∉ b->goF g c b e=ZP
 |[],_,_=>X
 |f::b,e,d=>by simp only[goF];rw[aC (show ¬f=c from λa=>d (a ▸ (mem_cons_self ..)))];exact Zbr λa=>d (mem_cons_of_mem _ a)
def Zf0{f:E}{c:H}{h:U H}:∀{a:U H} {b:ZG},c ∉ a->goF f c (a++c::h) b=T (b||a.any λe=>ZE ((e:E)=f))
 |[],b,_=>by simp[goF]
 |e::a,b,g=>by simp only[cons_append,goF];rw[aC (show ¬e=c from λd=>g (d ▸ (mem_cons_self ..))),Zf0 (λd=>g (mem_cons_of_mem _ d)),any_cons,Bool.or_assoc]
def Zkl{d:H->Y0 ZG}{f:H}{h:ZG}:∀(a b:U H),(∀c∈a,d c=ZP)->d f=T h->goL d (a++f::b)=h
 |[],b,_,e=>by simp[goL,e]
 |c::a,b,g,e=>by simp only[cons_append,goL];rw[g c (mem_cons_self ..),Option.getD_none];exact Zkl a b (λi j=>g i (mem_cons_of_mem _ j)) e
def ZoI{Ks:U KS}{a Cs:U (U H)}{b xr e:H}{c g:U H}(o:b<F a)(i:Z a b []=c++e::g)(n:∀d,d<b->e ∉ Z a d [])(j:(c++e::g).Nodup):goR Ks a Cs xr e=(ZE (0<Z (Z Cs b []) xr 0)&&ZE (Z (Z Cs b []) xr 0<=Bk Ks c)):=by
 unfold goR;have k:range (F a)=range b++b::(range' (b+1) (F a-b-1)):=(by rw[range_eq_range',range_eq_range',<- range'_succ,<- show b+(F a-b-1+1)=F a by omega,<- range'_append_1];congr 2<;>omega);have m:_ ∉ c:=λl=>(nodup_append.1 j).2.2 _ l _ (mem_cons_self ..) X;rw[k];apply Zkl _ _ (λd f=>Zbr (n d (mem_range.1 f)));rw[i,Zf0 m,Bool.false_or];congr 1;unfold Gw Nv;rw[i];generalize (Z (Z Cs b [])) xr 0=h
 by_cases f:h=0
 rw[aD f,f];simp[re];rw[aC f,ZlG _ _ j,aF (show 0<h by omega),Bool.true_and]
 grind
def Zgv{D:Ft}(h:(D.f.flatMap (·.fs)).Perm (range (F D.g))){b:H}(k:b<F D.g):∃a,∃f:a<F D.f,∃e g,D.f[a].fs=e++b::g/\(e++b::g).Nodup/\De D b=a/\Lv D a (Iy D b)=1+Bk D.g e/\∀d (l:d<F D.f),d≠a->b ∉ D.f[d].fs:=by
 obtain⟨c,q,r⟩:∃c∈D.f,b∈c.fs:=by
  have:b∈D.f.flatMap (·.fs):=h.mem_iff.2 (mem_range.2 k)
  simpa using this
 obtain⟨a,f⟩:∃a,D.f.findIdx (λc=>ZE (b∈c.fs))=a:=⟨_,X⟩;have m:a<F D.f:=w_
 have n:b∈D.f[a].fs:=w_;have i:Z D.f a Df=D.f[a]:=w_;have u:=idxOf_lt_length_of_mem n;have j:D.f[a].fs=ZU (D.f[a].fs.idxOf b) D.f[a].fs++b::ZF (D.f[a].fs.idxOf b+1) D.f[a].fs:=(by grind [take_append_drop,drop_eq_getElem_cons]);have⟨o,p⟩:=pairwise_flatMap.1 (h.nodup_iff.2 nodup_range);refine⟨a,m,_,_,j,w_,f,?_,λd l t s=>?_⟩;have:De D b=a:=f;unfold Iy Lv;rw[this,i]
 grind [pairwise_iff_getElem]
def ch{d:Type}{a:U BS}{c:BS->U d}{b:H}(e:b<F a):Z (a.map c) b []=c a[b]:=w_
def vf{d:H}{a:U KS}{b:U BS}(m:∀g∈b,BRt a d g)(o:(b.flatMap (·.fs)).Perm (range (F a))){x:XS}(p:x.f<F a):Fi ⟨a,b,[]⟩ d x=(ZE (x.M<d)&&(ZE (x.f<F a)&&(Wx (Z a x.f Aj).e (Z a x.f Aj).d (x.i:H)&&goR a (b.map (·.fs)) (b.map (·.N)) x.M x.f))):=by
 have⟨c,f,q,r,i,j,k,l,s⟩:=Zgv (D:=⟨a,b,[]⟩) o p;have e:=m _ (Qf f);have n:=ZoI (Ks:=a) (Cs:=b.map (·.N)) (xr:=x.M) (b:=c) w_ ((ch _).T i) (λh t=>w_) j;rw[n,ch f];unfold Fi ZhL;rw[k,l];have h:Z (⟨a,b,[]⟩:Ft).f c Df=b[c]:=w_;rw[h,Zdn e.k (p_ e.h)]
 grind
def Qw{h:Type}{f:Cu×h->Cu×h}{s:Cu×h}(d:H->Cu×h->Prop)(i:s.1.z=ZZ->d 0 s):∀a,(∀e c,e<a->c.1.z=ZZ->d e c->(f c).1.z=ZZ->d (e+1) (f c))->(Hr f s a).1.z=ZZ->d a (Hr f s a)/\s.1.z=ZZ
 |0,_,b=>⟨i b,b⟩
 | a +1,j,b=>by
  cases g:(Hr f s a).1.z with
  |true=>rw[Yr g (le_succ a),g] at b;cases b
  | false=>
   have l:=Qw d i a (λe c k=>j e c O) g;rw[Ld g] at b ⊢
   grind
theorem ZlL{l:U E}{n:H}{c:Cu}(a:(Lj l n c).1.z=ZZ):c.z=ZZ:=by
 unfold Lj at a
 grind
def Vw{l:U E}{m:E}{c:Cu}(a:(Cx l m c).1.z=ZZ):c.z=ZZ/\((Cx l m c).2:E)<=m:=by grind [Cx,ZlL]
theorem Zff{a:U ZC}{b:ZC}(c:Di a=Z0)(e:En b=Z0)(f:containsS a b=ZZ):Di (a++[b])=Z0:=by
 unfold Di at c ⊢;rw[Qe,length_singleton,gn];have d:Is (a++[b]) (F a)=Is a (F a):=by grind [Is]
 grind
def Zik{a:U E}{d:E}(b:Sa a=Z0)(g:¬(a≠[]/\d<=Z a (F a-1) 0)):Sa (a++[d])=Z0:=by
 unfold Sa Sb at b ⊢;simp only[all_eq_true,decide_eq_true_eq,mem_range] at b ⊢;intro c e;rw[Qe,length_singleton] at e
 by_cases f:c+1<F a
 ·have:=b c O
  grind
 grind
def ZoG{a:U E}{d:Cu}(A:∀t∈a,0<=t/\t<256)(i:(jp a d).1.z=ZZ):KRt (jp a d).2/\d.z=ZZ:=by
 unfold jp at i ⊢;simp only at i ⊢;have G:=ZlL (l:=a) (n:=1) (c:=d);have S:ZE ((Lj a 1 d).2=[119])=Z0->(Lj a 1 d).2≠[110]:=w_;generalize Lj a 1 d=r at *;have L:=Vw (l:=a) (m:=255) (c:=r.1);generalize Cx a 255 r.1=v at *;have M:=Vw (l:=a) (m:=16) (c:=v.1);generalize Cx a 16 v.1=m at *;generalize ZE (r.2=[119])=h at *;split at i
 ·rename_i D
  have⟨o,x⟩:=Qw (f:=ftS a) (s:=(m.1,⟨h,[],[]⟩)) (λq b=>b.2.a=h/\(h=Z0->b.2.f=[]/\F b.2.c=q/\Di b.2.c=Z0)/\(h=ZZ->b.2.c=[]/\F b.2.f=q/\Sa b.2.f=Z0/\∀e∈b.2.f,-2147483648<=e/\e<=2147483647)) (λ_=>⟨X,λ_=>⟨X,X,X⟩,λ_=>⟨X,X,X,s_⟩⟩) m.2 (λq b R c o g=>by
   obtain⟨k,s,l⟩:=o;unfold ftS at g ⊢
   cases h with
   | true=>
    grind [ftW,Zff]
   | false=>
    rw[k,aC C] at g ⊢;have⟨p,u,f,j⟩:=l X;unfold ftN at g ⊢;simp only at g ⊢;split at g
    ·cases g
    rename_i w;refine⟨trivial,λn=>(by cases n),λ_=>⟨p,w_,Zik f w,λe c=>?_⟩⟩
    rcases mem_append.1 c with c|c
    exact j e c;have:=bp _ (Np A 4 b.1)
    grind [Ij,sgR]) i
  have y:=M x;have z:=L y.1;refine⟨?_,G z.1⟩;generalize Hr (ftS a) (m.1,⟨h,[],[]⟩) m.2=N at *;obtain⟨Q,n,w,P⟩:=N;obtain⟨k,s,l⟩:=o;simp only at k s l D ⊢;subst k
  cases n with
  | true=>
   obtain⟨rfl,u,f⟩:=s X;have p:(⟨Z0,[],_⟩:ES).b=F P:=rfl;refine⟨⟨ZJ ⟨X,X,w_,qx f⟩,w_,?_,?_⟩,λe c=>by cases c⟩;unfold ci;rw[p,aF O,f];rfl
   grind
  | false=>
   obtain⟨rfl,u,f,j⟩:=l X;have p:(⟨ZZ,_,[]⟩:ES).b=F w:=rfl;refine⟨⟨ZM ⟨X,X,w_,λe c=>p_ (j e c)⟩,w_,?_,?_⟩,j⟩;unfold ci;rw[p,aF O,f];rfl
   grind
 cases i
def fsC(b:U E)(a:Cu×U KS):Cu×U KS:=((jp b a.1).1,a.2++[(jp b a.1).2])
def ZoE{b:U E}{a:Cu}(j:∀f∈b,0<=f/\f<256){c:H}(i:(Hr (fsC b) (a,[]) c).1.z=ZZ):(F (Hr (fsC b) (a,[]) c).2=c/\∀K∈(Hr (fsC b) (a,[]) c).2,KRt K)/\a.z=ZZ:=
 Qw (f:=fsC b) (s:=(a,[])) (λh e=>F e.2=h/\∀K∈e.2,KRt K) (λ_=>⟨X,s_⟩) c (λh e _ _ g k=>⟨by simp[fsC,g.1],λK hK=>by
  rcases mem_append.1 hK with d|d
  exact g.2 K d
  rw[mem_singleton.1 d];exact(ZoG j k).1⟩) i
def yw{b:H}:∀{a:U H} {inn:U ZG},b∈a->b<F inn->Z (ff inn a) b ZZ=Z0
 | c::a,inn,g,f=>by
  have e:ff inn (c::a)=ff (inn.set c _) a:=rfl;rw[e]
  by_cases d:b∈a
  exact yw d (by simpa using f);rw[Uk d]
  grind
theorem Zcx{b:U KS}:∀(a:U H) (d:H),d<Bk b a->dfB b (Zu b a d)=ZZ->Ii b (An a) (d:E)=Z0
 |[],d,f,_=>by simp[Bk] at f
 | c ::a,d,f,e=>by
  have g:An (c::a)=(c:E)::An a:=rfl;have h:Bk b (c::a)=(Z b c Aj).g+Bk b a:=(by simp[Bk]);have i:(Z b c Aj).g=_+2:=rfl;rw[g];simp only[Ii,Int.toNat_natCast,Oy,decide_eq_true_eq];simp only[Zu] at e;split at e
  ·rw[aD O];simp only[dfB] at e;unfold Wx Oy
   grind
  rw[aC O];have:=Zcx a _ O e
  grind
def Zon{l:U E}{K m:H}{a:U ZG}{c:Cu}(n:F a=K)(i:(Hr (buS l K) (c,a,[]) m).1.z=ZZ):(F (Hr (buS l K) (c,a,[]) m).2.2=m/\(Hr (buS l K) (c,a,[]) m).2.1=ff a (Hr (buS l K) (c,a,[]) m).2.2/\(Hr (buS l K) (c,a,[]) m).2.2.Nodup/\∀d∈(Hr (buS l K) (c,a,[]) m).2.2,d<K/\Z a d ZZ=ZZ)/\c.z=ZZ:=
 Qw (f:=buS l K) (s:=(c,a,[])) (λg b=>F b.2.2=g/\b.2.1=ff a b.2.2/\b.2.2.Nodup/\∀d∈b.2.2,d<K/\Z a d ZZ=ZZ) (λ_=>⟨X,X,s_,s_⟩) m (λg b _ _ j e=>by
  obtain⟨o,h,s,p⟩:=j;unfold buS at e ⊢;simp only at e ⊢;split at e
  ·cases e
  rename_i k;have r:=Vw e;generalize Cx l ((K:E)-1) b.1=t at *;have q:_ ∉ _:=λf=>k (by rw[h];exact yw f (n ▸ (p _ f).1));refine⟨by simp[o],by rw[Zbk,h],?_,λd e=>?_⟩
  ·grind
  grind [Uk]) i
def Zom{d:U E}{h:H}{a:U KS}{b:Cu×U ZG×U (U H)×U (U H)}(t:∀c∈d,0<=c/\c<256)(v:F b.2.1=F a)(hK:F a<=4)(f:(gy d h a b).1.z=ZZ):∃c:BS,BRt a h c/\(gy d h a b).2=(ff b.2.1 c.fs,b.2.2.1++[c.fs],b.2.2.2++[c.N])/\c.fs.Nodup/\∀g∈c.fs,Z b.2.1 g ZZ=ZZ:=by
 unfold gy at f ⊢;simp only at f ⊢;have L:=Vw (l:=d) (m:=F a) (c:=b.1);generalize Cx d (F a:E) b.1=i at *;have x:=Zon (l:=d) (m:=i.2) (c:=i.1) v;generalize Hr (buS d (F a)) (i.1,b.2.1,[]) i.2=e at *
 by_cases u:i.2=0∨40<Bk a e.2.2
 ·grind
 simp only[aC u] at f ⊢
 cases o:e.1.z with
 |true=>grind
 | false=>
  simp only[o,Bool.false_eq_true,if_false] at f ⊢;have⟨⟨M,z,A,p⟩,N⟩:=x o;have⟨D,P⟩:=ZlO t h (Bk a e.2.2) e.1;generalize vaC d h (Bk a e.2.2) e.1=q at *;rw[Bool.or_eq_false_iff,any_eq_false] at f;have m:∀j∈q.2.map ZL,j<=Bk a e.2.2:=w_;refine⟨⟨e.2.2,q.2.map _,Bk _ _⟩,⟨by simpa using D,m,w_,w_,w_,λg k=>(p g k).1,X,?_⟩,by rw[z],A,λg k=>(p g k).2⟩;unfold Dx;rw[all_eq_true];intro j n;have⟨y,w,r⟩:=aM n;have l:=f.2 y (mem_range.2 w_);rw[Qc,Qd w,Option.getD_some,r] at l;have G:=m j n;unfold Nv at l
  by_cases s:j=0
  simp[s]
  grind [Zcx]
def Zmv{f:U E}{d g:H}{b:U KS}{e:Cu}(v:∀c∈f,0<=c/\c<256)(hK:F b<=4)(r:(Hr (gy f d b) (e,Y6 (F b) ZZ,[],[]) g).1.z=ZZ):(∃a:U BS,F a=g/\(Hr (gy f d b) (e,Y6 (F b) ZZ,[],[]) g).2=(ff (Y6 (F b) ZZ) (a.flatMap (·.fs)),a.map (·.fs),a.map (·.N))/\(∀c∈a,BRt b d c)/\(a.flatMap (·.fs)).Nodup)/\e.z=ZZ:=
 Qw (f:=gy f d b) (s:=(e,Y6 (F b) ZZ,[],[])) (λm o=>∃a:U BS,F a=m/\o.2=(ff (Y6 (F b) ZZ) (a.flatMap (·.fs)),a.map (·.fs),a.map (·.N))/\(∀c∈a,BRt b d c)/\(a.flatMap (·.fs)).Nodup) (λ_=>⟨[],X,X,s_,s_⟩) g (λm o _ _ t w=>by
  obtain⟨a,z,n,A,D⟩:=t;have⟨c,L,i,s,j⟩:=Zom v (by rw[n];simp[yx]) hK w;rw[n] at i j;refine⟨a++[c],by simp[z],by rw[i];simp[ff],λp l=>?_,?_⟩
  ·grind
  rw[flatMap_append,flatMap_singleton,nodup_append];refine⟨D,s,λh k p l q=>?_⟩;have x:h<F b:=(by have⟨G,y,u⟩:=mem_flatMap.1 k;exact(A G y).n h u);have:=j p l;rw[<- q,yw k (by simpa using x)] at this
  cases this) r
def Znl{K:H}{a:U H}(e:a.Nodup)(d:∀b∈a,b<K)(f:(ff (Y6 K ZZ) a).all id=Z0):a.Perm (range K):=by
 rw[perm_ext_iff_of_nodup e nodup_range];intro b;rw[mem_range];refine⟨d b,λh=>?_⟩
 by_cases c:b∈a
 exact c;have g:=Uk (inn:=Y6 K ZZ) c
 grind [yx,Qf]
def Ze3{a:U XS}{n:H}(g:Gu a)(b:∀x∈a,x.M<n/\x.f<4):F a<=4*n:=by
 have i:∀(a:U XS) (c:H),Gu a->(∀x∈a,x.M<n/\x.f<4/\c<=4*x.M+x.f)->F a<=4*n-c:=λa=>by
  induction a with
  |nil=>simp
  | cons f a h=>
   intro c e b;have j:=b f (mem_cons_self ..);unfold Gu at e;rw[pairwise_cons] at e;have:=h (4*f.M+f.f+1) e.2 (λx d=>w_)
   grind
 have:=i a 0 g (λx d=>⟨(b x d).1,(b x d).2,v_⟩);omega
def Zpt{g:U E}{e:H}{b:U KS}{d c:U (U H)}{f:Cu}(i:(xcC g e b d c f).1.z=ZZ):(Gu (xcC g e b d c f).2/\∀a∈(xcC g e b d c f).2,a.M<e/\a.f<F b/\goR b d c a.M a.f=Z0/\a.i<F (Z b a.f Aj).e.f+F (Z b a.f Aj).e.c+2/\a.i≠(Z b a.f Aj).d)/\f.z=ZZ:=by have⟨j,k⟩:=Qw (f:=xcS g e b d c) (s:=((Lj g 2 f).1,[])) (λ_ h=>Gu h.2/\∀a∈h.2,a.M<e/\a.f<F b/\goR b d c a.M a.f=Z0/\a.i<F (Z b a.f Aj).e.f+F (Z b a.f Aj).e.c+2/\a.i≠(Z b a.f Aj).d) (λ_=>⟨Pairwise.nil,s_⟩) _ (λm h _ _ a l=>by grind [xcS,xcB,riB,gc]) i;exact⟨j,ZlL k⟩
section
variable (a:U E)
def opM:Cu×U E:=Lj a 2 ⟨0,ZZ⟩
def zs:Cu×H:=Cx a 200 (opM a).1
def opK:Cu×H:=Cx a 4 (zs a).1
def Si:Cu×U KS:=Hr (fsC a) ((opK a).1,[]) (opK a).2
def opB:Cu×H:=Cx a 255 (Si a).1
def opG:Cu×U ZG×U (U H)×U (U H):=Hr (gy a (zs a).2 (Si a).2) ((opB a).1,Y6 (opK a).2 ZZ,[],[]) (opB a).2
def opC:Cu:=if(opG a).2.1.all id=Z0 then(opG a).1 else⟨(opG a).1.k,Z0⟩
def opX:Cu×U XS:=xcC a (zs a).2 (Si a).2 (opG a).2.2.1 (opG a).2.2.2 (opC a)
end
def ju{a:U E}(h:∀b∈a,0<=b/\b<256)(d:(Si a).1.z=ZZ):(zs a).2<=200/\F (Si a).2=(opK a).2/\(opK a).2<=4/\∀K∈(Si a).2,KRt K:=by have⟨⟨e,f⟩,g⟩:=ZoE h d;have c:=Vw g;have:((opK a).2:E)<=4:=c.2;have:((zs a).2:E)<=200:=(Vw c.1).2;exact⟨O,e,O,f⟩
def Zk0{a:U E}(e:∀c∈a,0<=c/\c<256){m:H}(f:(Si a).1.z=ZZ)(d:(Hr (gy a (zs a).2 (Si a).2) ((opB a).1,Y6 (opK a).2 ZZ,[],[]) m).1.z=ZZ):∃b:U BS,F b=m/\(Hr (gy a (zs a).2 (Si a).2) ((opB a).1,Y6 (opK a).2 ZZ,[],[]) m).2=(ff (Y6 (F (Si a).2) ZZ) (b.flatMap (·.fs)),b.map (·.fs),b.map (·.N))/\(∀c∈b,BRt (Si a).2 (zs a).2 c)/\(b.flatMap (·.fs)).Nodup:=by have g:=ju e f;rw[<- g.2.1] at d ⊢;exact(Zmv e O d).1
def Zn9{a:U E}(e:∀d∈a,0<=d/\d<256)(v:(opK a).2≠0)(g:(opC a).z=ZZ):∃c:U BS,(opG a).2.2=(c.map (·.fs),c.map (·.N))/\(∀f,Gu f->(∀b∈f,Fi ⟨(Si a).2,c,[]⟩ (zs a).2 b=Z0)->DRt (zs a).2 ⟨(Si a).2,c,f⟩ f)/\∀b:XS,b.f<F (Si a).2->Fi ⟨(Si a).2,c,[]⟩ (zs a).2 b=(ZE (b.M<(zs a).2)&&(ZE (b.f<F (Si a).2)&&(Wx (Z (Si a).2 b.f Aj).e (Z (Si a).2 b.f Aj).d (b.i:H)&&goR (Si a).2 (opG a).2.2.1 (opG a).2.2.2 b.M b.f))):=by
 unfold opC at g;split at g
 ·rename_i x;have l:(Si a).1.z=ZZ:=(by have:=(Qw (f:=gy a (zs a).2 (Si a).2) (λ_ _=>True) (λ_=>trivial) _ (λ_ _ _ _ _ _=>trivial) g).2;exact(Vw this).1);have⟨c,w,o,h,p⟩:=Zk0 e l g;have k:(opG a).2=_:=o;have⟨u,z,y,r⟩:=ju e l
  have i:=Znl (K:=F (Si a).2) p (λf j=>by
   have⟨d,e,m⟩:=mem_flatMap.1 j
   exact(h d e).n f m) w_
  have s:=ZfT λd e=>(h d e).o;rw[i.length_eq,length_range] at s
  have q:0<F c:=by
   have:0∈c.flatMap (·.fs):=i.mem_iff.2 (mem_range.2 O)
   grind
  refine⟨c,by rw[k],λf m n=>⟨u,w_,w_,q,w_,r,h,i,m,n,?_⟩,λb j=>by rw[vf h i j,k]⟩
  have:=Ze3 (n:=200) m (λb t=>by
   have:=Ms (n b t)
   grind)
  omega
 cases g
def KRt.sum{K:KS}(b:KRt K):F K.e.f+F K.e.c=K.e.b:=by
 unfold ES.b Kz
 rcases b.ok.w with a|a
 ·grind
 grind
def Zo5{a:U E}(h:∀f∈a,0<=f/\f<256)(k:(opK a).2≠0)(g:(opX a).1.z=ZZ):∃b:U BS,(opG a).2.2=(b.map (·.fs),b.map (·.N))/\DRt (zs a).2 ⟨(Si a).2,b,(opX a).2⟩ (opX a).2:=by
 unfold opX at g ⊢;have⟨⟨q,r⟩,c⟩:=Zpt g;have⟨b,l,m,n⟩:=Zn9 h k c;refine⟨b,l,m _ q λd p=>?_⟩;have⟨s,e,t,i,u⟩:=r d p
 have o:(Si a).1.z=ZZ:=by
  unfold opC at c;split at c;have j:=c;exact(Vw (Qw (f:=gy a (zs a).2 (Si a).2) (λ_ _=>True) (λ_=>trivial) _ (λ_ _ _ _ _ _=>trivial) j).2).1
  cases c
 have j:Z (Si a).2 d.f Aj=(Si a).2[d.f]:=w_;rw[n d e,t,aF s,aF e];rw[j] at i u ⊢;unfold Wx Oy;rw[((ju h o).2.2.2 _ (Qf e)).sum] at i;simp;omega
def ZmS{a:E}(b:0<=a)(c:a<4294967296):(aa (Ba a 4):E)=a:=by simp only[Ba,Tu,nil_append,cons_append,aa];omega
def Znn{a:U E}{D:Ft}(j:Sm a)(a3:oe a=T D):4<=F a/\(aa (ZF (F a-4) a):E)=Gy (ZU (F a-4) a)/\(opM (ZU (F a-4) a)).2=[71,82]/\(opK (ZU (F a-4) a)).2≠0/\(opC (ZU (F a-4) a)).z=ZZ/\(opX (ZU (F a-4) a)).1.z=ZZ/\(opX (ZU (F a-4) a)).1.k=F a-4/\(Si (ZU (F a-4) a)).2=D.g/\(opG (ZU (F a-4) a)).2.2=(D.f.map (·.fs),D.f.map (·.N))/\(opX (ZU (F a-4) a)).2=D.r/\Br D D.r=a/\∀h∈D.f,h.g=Bk D.g h.fs:=by
 have b:=Zo3 j a3;generalize (ZL (Z a 2 0))=n at b;have v:Br D D.r=a:=(by grind [oe]);have a4:F (Z D.f 0 Df).N=n:=(by have:=b.f _ (Hu Df b.k);exact this.y);have y:a=_++_:=v.s;have b6:F a=F (Hv D D.r)+4:=(by rw[y,Qe,(Dr _ 4)]);have G:ZU (F a-4) a=Hv D D.r:=w_;have w:ZF (F a-4) a=Ba (Gy (Hv D D.r)) 4:=w_;rw[G,w];have f:=Qp .xor 4294967295 (Zg5 (Hv D D.r));refine⟨O,ZmS f.1 f.2,?_⟩;clear f
 have l:Hv D D.r=[71,82]++((n:E)%256::((F D.g:E)%256::(D.g.flatMap Ll++((F D.f:E)%256::(D.f.flatMap Dq++(Ba (F D.r:H) 2++(D.r.flatMap xB++[]))))))):=by
  unfold Hv
  grind
 have⟨r,u⟩:=Z_ (Ba (F D.r:H) 2++(D.r.flatMap xB++([]:U E)));have⟨P,t⟩:=Z_ ((F D.f:E)%256::(D.f.flatMap Dq++r));rw[u,t] at l;have⟨c,p⟩:=Z_ (Hv D D.r);rw[p] at l ⊢;have z:=b.w;have x:=b.i;have b4:=b.l;have b5:=b.y;have Q:Kv c ⟨0,_⟩ _:=⟨X,v_,l⟩;have b3:F c=F a-4:=(by rw[<- p];omega);clear p l w G y a4;have⟨b0,a9⟩:=Q.take (n:=2) X;have⟨b2,b1⟩:=a9.num (most:=200) O O;have⟨a8,a7⟩:=b1.num (most:=4) O O;have M:(zs c).2=n:=b2;have L:(opK c).2=_:=a8
 have i:(Si c).2=D.g/\Kv c (Si c).1 P:=by
  have e:=Kv.a (f:=fsC c) (A:=λd=>ZU d D.g) a7 (λd k a0 N f=>by
   have⟨g,m⟩:=Zp5 (b.g _ (Qf k)) f
   exact⟨by simp only[fsC];rw[g,Qi k],m⟩) (F D.g) x_
  simp only[take_length,drop_length,flatMap_nil,nil_append,take_zero] at e;unfold Si;rw[L];exact e
 rw[<- t] at i;have⟨S,R⟩:=i.2.num (most:=255) O O;have W:(opB c).2=_:=S;have A:=b.h.nodup_iff.2 nodup_range;have q:=b.h.length_eq;rw[length_range] at q
 have g:(opG c).2=(ff (Y6 (F D.g) ZZ) (D.f.flatMap (·.fs)),D.f.map (·.fs),D.f.map (·.N))/\Kv c (opG c).1 r:=by
  have e:=Kv.a (f:=gy c n D.g) (A:=λd=>(ff (Y6 (F D.g) ZZ) ((ZU d D.f).flatMap (·.fs)),(ZU d D.f).map (·.fs),(ZU d D.f).map (·.N))) R (λd k a0 N f=>by
   have a6:D.f.flatMap (·.fs)=(ZU d D.f).flatMap (·.fs)++(D.f[d].fs++(ZF (d+1) D.f).flatMap (·.fs)):=(by grind [take_append_drop,drop_eq_getElem_cons]);rw[a6] at A q;have⟨_,m,o⟩:=nodup_append.1 A;simp only[Qe] at q
   have⟨a1,a2⟩:=ZpX (inn:=ff (Y6 (F D.g) ZZ) ((ZU d D.f).flatMap (·.fs))) (Fs:=(ZU d D.f).map (·.fs)) (Cs:=(ZU d D.f).map (·.N)) f (b.f _ (Qf k)) z x O (nodup_append.1 m).1 (λe a5=>by
    rw[Uk (λs=>o e s e (mem_append_left _ a5) X)]
    grind)
   refine⟨?_,a2⟩;rw[a1,Qi k]
   simp only[flatMap_append,map_append,flatMap_singleton,map_cons,map_nil,ff,foldl_append]) (F D.f) x_
  simp only[take_length,drop_length,flatMap_nil,nil_append,take_zero] at e;unfold opG;rw[M,i.1,L,W];exact e
 have m:opC c=(opG c).1:=by
  unfold opC;rw[if_pos];rw[g.1,all_eq_true];intro h j;have⟨k,d,s⟩:=aM j
  have e:k<F D.g:=by rw[yx] at d;simpa using d
  have:=yw (inn:=Y6 (F D.g) ZZ) (b.h.mem_iff.2 (mem_range.2 e)) (by simpa using e)
  grind
 rw[<- u] at g
 have e:(opX c).2=D.r/\Kv c (opX c).1 []:=by
  unfold opX;rw[m,M,i.1,g.1];refine Zqq g.2 b.u b.r (λN s=>?_) z x;have k:=b.j N s;have d:=Ms k;simp only at d;rw[vf b.f b.h d.2.1] at k;simp only[Bool.and_eq_true,decide_eq_true_eq] at k;obtain⟨_,_,o,a0⟩:=k;have hK:=b.g _ (Hu Aj d.2.1);have f:=hK.ok.g;rw[hK.sum];unfold Wx at o
  grind
 have d:=congrArg F e.2.t;rw[length_drop,length_nil] at d;have k:=e.2.k;exact⟨b0,O,m ▸ g.2.z,e.2.z,O,i.1,by rw[g.1],e.1,v,λh j=>(b.f h j).sum⟩
section
variable {w W b:ZT} {cb db n a:H} {vF vB vC vX:ZY} {S:ZC} {c:Cu} {d:U XS}
structure XbI(w W:ZT)(cb db a:H)(vX:ZY)(x:XS):Prop where
 r:W.1[a]? =T (O_ #[I x.M,I x.f,I x.i] 231)
 t:B w.1<=a
 o:∀b,ZW vX=T b->b≠a
def XbI.p{x:XS}{K:H->Prop}(c:XbI w W cb db a vX x)(e:Aa K W b)(d:¬K a):XbI w b cb db a vX x:=⟨e.g c.r d,c.t,c.o⟩
def XbI.q{x:XS}(c:XbI w W cb db a vX x)(d:E_ W b):XbI w b cb db a vX x:=c.p (.a (S:=λ_=>False) d) id
def XbI.cells{x:XS}(b:XbI w W cb db a vX x):ZV W (J a 0)=T (I x.M)/\ZV W (J a 1)=T (I x.f)/\ZV W (J a 2)=T (I x.i)/\(∀i,YT W (J a i)=ZZ)/\a<B W.1:=⟨n_ 0 b.r,n_ 1 b.r,n_ 2 b.r,λi=>R_ i _ _ b.r,(Qb b.r).1⟩
def eu.e{x:XS}{i:H}{v:ZY}(b:eu w W cb db n vF vB vC vX S c d)(h:XbI w W cb db a vX x):eu w (ZO W (J a i) v) cb db n vF vB vC vX S c d:=by
 have f:Aa _ W (ZO W _ v):=(Aa.refl (λj=>j=a) W).setCell (p:=(J _ i)) (λ_=>X) _
 have l:∀{k m:H} {o:YZ ZY},W.1[k]? =T (O_ o m)->m≠231->¬k=a:=λg p e=>by rw[e,h.r] at g;simp at g;exact p g.2.s
 refine⟨f.g b.w (l b.w C),b.y,f.g b.v (l b.v C),b.r.p f (λj q e=>h.o j q e),?_⟩;have j:=h.t;exact b.u.c f λq e=>ZJ O
end
def im l2 k p h i3 a1 R m6 l3 l5 e w u (a:ZC)(c:Cu) l (e2:eo l l2 p h i3 a1 R Dg m6 l3 l5 e w u)(c8:Pd l k a c)(f7:ZK a<=4000000)(c1:c.k<=ZK a)(n8:h<=200)(hK:F e<=4)(j8:rf h e w u)(j7:∀i,i<F e->F (Z e i Aj).e.f<=16/\F (Z e i Aj).e.c<=16):C_ 186 #[P_ k,P_ p] l λj n=>j=ZI (Y5 #[])/\∃m,eu l n k p h i3 a1 R m a (xcC (Ab a) h e w u c).1 (xcC (Ab a) h e w u c).2:=by
 have⟨f0,z⟩:=ez_ (xcC (Ab a) h e w u c);rw[z];have a8:F (Ab a)=ZK a:=(by simp[Ab]);have d1:=Qq a;have i5:Hid (eu l l k _ h _ _ R _ a c []):=⟨c8,c1,e2.v,Xr.nil _,Aa.refl _ _⟩;have b2:Hid (_/\∃b,_=T (O_ b 288)):=⟨e2,_,c8⟩;obtain⟨b3,b4,m4⟩:∃c6 c,i3=ZH c6 (F e) c:=by have⟨c6,c,j⟩:=e2.A.M.d;rw[e2.A.a] at j;exact⟨c6,c,j⟩
 subst m4;have d5:=K_ j8 j7;unfold xcC at z;have j5:=Iw _ 2 a c l c8 C f7 c1;have g4:=Uu (ZB (Lj (Ab a) 2 c).2);rw[Bi,Ij,St (Np d1 2 c)] at g4;have k2:aa (Lj (Ab a) 2 c).2<65536:=(by have:=bp _ (Np d1 2 c);rw[Ij] at this;exact this);have i6:Hid (∀j1,_->_->eu l j1 k p h (V b3 (F e) b4) a1 R Dg a (Lj (Ab a) 2 c).1 []):=λj1 S e0=>i5.call S (a8 ▸ Tz (a8 ▸ c1)) e0;generalize Lj (Ab a) 2 c=h8 at *;generalize aa h8.2=c9 at *;have⟨h9,h7⟩:=Z_ ((h8.1,[]):Cu×U XS);rw[h7] at z;have i9:=Y h7;have⟨K,h5⟩:=Z_ (F e);have e6:=Y h5;clear e2 c8 j8 j7 h7 i5;rw[h5] at hK;clear h5;refine dl_ ?_;go_enter func186,ntmps186;go_wp2_with fail
 apply j5.m;rintro j o3 ⟨rfl,S,e0⟩;have a3:=Y (i6 _ S e0);clear S e0 j5 i6;go_wp2_with fail
 apply (g4 _ C).m;rintro j f9 ⟨rfl,k0⟩;obtain rfl:=k0.s;clear k0 g4;go_wp2_with fail
 go_loopw [5] (λc2 b=>∃(q:H) (c:Cu) (g:U XS) (m:ZY),c2=ZX ZQ q/\q<=c9/\F g=q/\Hid ((c,g)=Hr (xcS (Ab a) h e w u) h9 q)/\Hid (eu l b k p h (ZH b3 (F e) b4) a1 R m a c g)) (λc2 _=>c9-ZL (ZA c2))
 case atStart=>exact⟨0,h8.1,[],Dg,X,v_,X,i9,a3⟩
 clear a3 i9;obtain⟨q,c,g,m,rfl,l9,W,e3,b1⟩:=hrel;have⟨N,b9,a6,D,A,Q⟩:=b1.cells
 have d2:Hid (c.z=Z0∨q=c9->∃m,eu l wr k p h (V b3 (F e) b4) a1 R m a f0.1 f0.2):=λk2=>by rw[Uq e3 l9 k2] at z;rw[<- z];exact⟨m,b1⟩
 by_cases l8:q<c9
 ·have l6 :q<(c9:E):=O
  cases G:c.z
  ·rw[G] at N;have h0:=Ld (f:=xcS _ h _ _ _) (s:=h9) (k:=q) (by rw[<- e3];exact G);rw[<- e3] at h0
   have s:Hid (Hr (xcS (Ab a) h e w u) h9 (q+1)=if(Cx (Ab a) 255 (Cx (Ab a) 255 (Cx (Ab a) 255 c).1).1).1.z=Z0∨h<=(Cx (Ab a) 255 c).2∨F e<=(Cx (Ab a) 255 (Cx (Ab a) 255 c).1).2 then(⟨(Cx (Ab a) 255 (Cx (Ab a) 255 (Cx (Ab a) 255 c).1).1).1.k,Z0⟩,g)
    else(if xcB e w u g ⟨(Cx (Ab a) 255 c).2,(Cx (Ab a) 255 (Cx (Ab a) 255 c).1).2,(Cx (Ab a) 255 (Cx (Ab a) 255 (Cx (Ab a) 255 c).1).1).2⟩=Z0 then(Cx (Ab a) 255 (Cx (Ab a) 255 (Cx (Ab a) 255 c).1).1).1 else⟨(Cx (Ab a) 255 (Cx (Ab a) 255 (Cx (Ab a) 255 c).1).1).1.k,Z0⟩,g++[⟨(Cx (Ab a) 255 c).2,(Cx (Ab a) 255 (Cx (Ab a) 255 c).1).2,(Cx (Ab a) 255 (Cx (Ab a) 255 (Cx (Ab a) 255 c).1).1).2⟩])):=h0
   clear h0 d2 e3 G;go_wp2_with fail
   apply (Cl k 255 a c wr b1.w f7 b1.y).m;rintro j k9 ⟨rfl,c0,k7⟩;have a3:=Y (b1.call c0 (a8 ▸ Ic (a8 ▸ b1.y)) k7);have m0:=(Jl d1 255 c).1;clear c0 k7 b1 N b9 a6 D A Q;generalize Cx (Ab a) 255 c=d7 at *;obtain⟨d7,d⟩:=d7;simp only at a3 s m0 ⊢;have⟨a2,k3⟩:=Z_ (B k9.1);have h1:Hid (XbI l (ZN k9 (O_ #[I d,I 0,I 0] 231)) k p a2 m ⟨d,0,0⟩):=(by rw[<- k3];exact⟨hn_,a3.u.size,λq c1 j=>p_ (B_ a3.r.M q c1).2⟩);have c3:=Y (a3.q (r_ (o:=O_ #[I d,I 0,I 0] 231)))
   have g9:Hid (a2≠k):=λj=>by have c6:=h1.r;have b:=c3.w;unfold Pd at b;rw[j,b] at c6;simp at c6
   clear a3;go_wp2_with fail
   clear k3;apply (Cl k 255 a d7 _ c3.w f7 c3.y).m;rintro j l0 ⟨rfl,j3,i0⟩;have⟨g5,c4⟩:=Y_ (c3.call j3 (a8 ▸ Ic (a8 ▸ c3.y)) i0) (h1.p i0 g9);have m1:=(Jl d1 255 d7).1;clear j3 i0 c3 h1;generalize Cx (Ab a) 255 d7=d8 at *;obtain⟨d8,b⟩:=d8;simp only at g5 s m1 ⊢;have j0:Hid (XbI l (ZO l0 (J a2 1) (I b)) k p a2 m ⟨d,b,0⟩):=⟨ht_ 1 _ _ _ c4.r,c4.t,c4.o⟩;have d3:=Y (g5.e c4 (i:=1) (v:=I b));have⟨_,r,_,t,_⟩:=c4.cells;have n1:=t 1;clear g5 c4 t;go_wp2_with fail
   clear r n1;generalize (ZO l0) _ _=n0 at *;apply (Cl k 255 a d8 _ d3.w f7 d3.y).m;rintro j l1 ⟨rfl,j4,c2⟩;have⟨g6,c5⟩:=Y_ (d3.call j4 (a8 ▸ Ic (a8 ▸ d3.y)) c2) (j0.p c2 g9);have m2:=(Jl d1 255 d8).1;clear j4 c2 d3 j0;generalize Cx (Ab a) 255 d8=a0 at *;obtain⟨a0,f⟩:=a0;simp only at g6 s m2 ⊢;have h2:Hid (XbI l (ZO l1 (J a2 2) (I f)) k p a2 m ⟨d,b,f⟩):=⟨ht_ 2 _ _ _ c5.r,c5.t,c5.o⟩;have g7:=Y (g6.e c5 (i:=2) (v:=I f));have⟨_,_,o,t,_⟩:=c5.cells;have n2:=t 2;clear g6 c5 t;go_upto_region 7 with fail;clear o n2;generalize (ZO l1) _ _=f9 at *;have⟨N,b9,a6,D,A,Q⟩:=g7.cells;have⟨y,r,o,t,_⟩:=h2.cells;rw[e6] at D s;go_cut [57] (λv n=>v=ZR (ZE (a0.z=Z0∨h<=d∨K<=b))/\∃nq,n=Y1 f9 nq)
   case first=>
    have L:=Y s;clear s
    cases G:a0.z
    ·rw[G] at N
     by_cases S:h<=d
     ·have n:ZE ((d:E)≥h)=_:=aF O;go_quiet (fail);go_wp2;go_meet
      exact⟨by simp[S],_,X⟩
     have n:ZE ((d:E)≥h)=ZZ:=aE O;go_quiet (fail);go_wp2;go_meet
     exact⟨by simp[S,G],_,X⟩
    rw[G] at N;go_quiet (fail);go_wp2;go_meet
    exact⟨by simp[G],_,X⟩
   obtain⟨rfl,nq,k1⟩:=hcut;have⟨a4,a5⟩:=Y_ (g7.q (below_drewN y_ nq)) (h2.q (below_drewN y_ nq));rw[<- k1] at a4 a5;clear k1 g7 h2 N b9 a6 D A Q y r o t;have⟨N,b9,a6,D,A,Q⟩:=a4.cells
   by_cases a7:a0.z=Z0∨h<=d∨K<=b
   ·rw[aD a7] at s;rw[aF a7];have n:Hid (∃m,eu l (ZO wc (J k 2) (ZR Z0)) k p h (V b3 (F e) b4) a1 R m a f0.1 f0.2):=(by rw[Uq s.s l8 (ZM X)] at z;rw[<- z];exact⟨m,a4.g⟩);clear a7 s z a4 a5;go_wp2;apply bodyPost_ret (results_none X _ _ _) X;exact⟨X,n⟩
   rw[aC a7] at s;rw[aE a7];have m5:=Nat.lt_of_not_le (λj=>a7 (ZJ (ZM j)));have k4:=Nat.lt_of_not_le (λj=>a7 (ZJ (ZJ j)));clear a7 D;have⟨d9,l4,f1,f3,f2,f4,D,b5,b6,b7,b8⟩:=(a4.G b2.1 b2.2).j.z (i:=b) (e6 ▸ k4);rw[e6] at D;have⟨n7,o0⟩:=d5.2 b (e6 ▸ k4);have e7:Hid (xcB e w u g ⟨d,b,f⟩=((goR e w u d b&&riB g ⟨d,b,f⟩)&&(ZE (f<F (Z e b Aj).e.f+F (Z e b Aj).e.c+2)&&!decide (f=(Z e b Aj).d)))):=rfl;generalize (Z e b Aj).e.a=g0 at *;generalize (F (Z e b Aj).e.f)=L at *;generalize (F (Z e b Aj).e.c)=M at *;generalize (Z e b Aj).d=c7 at *;have⟨y,r,o,t,d0⟩:=a5.cells;have n5:0<=(b:E):=O;have n6:(b:E)<K:=O;go_upto_region 9 with fail
   go_cut [7] (λv n=>∃f5:H,v=Y7 (T ⟨f5,0,ZP⟩)/\Hid (jb n f5 g0 (ZH f1 L f3) (ZH f2 M f4) c7/\E_ wc n))
   case first=>
    clear a4 a5 s z d5 b2 e7;go_region_held3 (λn=>ZV n (J p 1)=T (L_ d9 K l4)/\ZV n (J a2 1)=T (I b)/\ZV n (J d9 (b*4))=T (ZR g0)/\ZV n (J d9 (b*4+1))=T (V f1 L f3)/\ZV n (J d9 (b*4+2))=T (V f2 M f4)/\ZV n (J d9 (b*4+3))=T (I c7)) (first|exact⟨D,r,b5,b6,b7,b8⟩|exact⟨X_ D,X_ r,X_ b5,X_ b6,X_ b7,X_ b8⟩) (fail)
    go_wp2;go_meet
    exact⟨B wc.1,X,hn_,r_.drew⟩
   rename_i o5;obtain⟨f5,rfl,e4⟩:=hcut;have⟨e5,h3⟩:=Y_ (a4.q e4.2) (a5.q e4.2);clear a4 a5 N b9 a6 D A Q b5 b6 b7 b8 y r o t d0;have⟨y,r,o,t,d0⟩:=h3.cells;go_wp2_with fail
   apply (Zh4 p h d b f e w u g wc ((e5.G b2.1 b2.2).h (XsV.N e5.r)) d5.1 m5).m;rintro j e1 ⟨rfl,f6⟩;have⟨d4,e8⟩:=Y_ (e5.q f6) (h3.q f6);have g2:Hid (jb e1 f5 g0 (V f1 L f3) (V f2 M f4) _):=(Aa.a (S:=λ_=>False) f6).g e4.1 id;clear e5 h3 e4 f6 y r o t d0;generalize goR e w u d b=l7 at *;have⟨_,_,a6,_,A,Q⟩:=d4.cells;have⟨y,r,o,t,d0⟩:=e8.cells;go_upto_if 73 with fail
   go_cut [9] (λv n=>v=ZR (riB g ⟨d,b,f⟩)/\Hid (E_ e1 n))
   case first=>
    clear s z d5 b2 e7
    cases q with
    | zero=>
     have j6:¬((0:H):E)>0:=O;have P:=length_eq_zero_iff.1 W;have n:Hid (riB g ⟨d,b,f⟩=Z0):=(by rw[P];rfl);clear P;go_wp2;go_meet
     exact⟨by rw[n],y_⟩
    | succ a9=>
     have j6:((a9+1:H):E)>0:=O;have⟨k8,k5,j,g8,h4,h6⟩:=(XsV.N d4.r).2 a9 O;rw[W] at j
     have n:Hid (riB g ⟨d,b,f⟩=ZE ((Z g a9 Dm).M<d∨(Z g a9 Dm).M=d/\(Z g a9 Dm).f<b)):=by
      have P:g≠[]:=λc8=>by rw[c8] at W;simp at W
      show _=_;unfold riB;rw[W];simp[P]
     subst j;generalize (Z g) a9 Dm=j9 at *;obtain⟨b0,g3,i4⟩:=j9;simp only at g8 h4 h6 n;have k6:i64.wrap (((a9+1:H):E)-1)=a9:=(by rw[Au O O];omega);clear d4 e8 g2;have⟨i7,f8⟩:=Z_ (ZN e1 (O_ #[I b0,I g3,I i4] 231));have e9:i7.1[B e1.1]? =T (O_ #[I b0,I g3,I i4] 231):=(by rw[<- f8];exact hn_);have P:Hid (E_ e1 i7):=(by rw[<- f8];exact r_);have i1:=n_ 0 e9;have i2:=n_ 1 e9;have m3:=Ah P y;have e0:=Ah P r;clear e9;go_upto_region 14 with fail;clear f8 g8 h4 h6 y r o t d0 a6 A Q
     by_cases S:b0<d
     ·have g1:(b0:E)<d:=O;go_wp2;go_meet
      exact⟨by rw[n];simp[S],P⟩
     have g1:¬(b0:E)<d:=O
     by_cases c0:b0=d
     ·have j2:((b0:E)==d)=Z0:=(by simp[c0]);have d6:Hid (riB g ⟨d,b,f⟩=ZE (g3<b)):=n ▸ (Bool.eq_iff_iff.2 (by simp[c0]));clear c0 n;go_wp2;go_meet
      exact⟨by rw[d6],P⟩
     have j2:((b0:E)==d)=ZZ:=t_;have d6:=Y (n ▸ (aE O));clear c0 n;go_wp2;go_meet
     exact⟨by rw[d6],P⟩
   obtain⟨rfl,P⟩:=hcut;have⟨g8,e9⟩:=Y_ (d4.q P) (e8.q P);have g3:Hid (jb wc _ _ _ _ _):=(Aa.a (S:=λ_=>False) P).g g2 id;clear d4 e8 g2 P a6 A Q y r o t d0;generalize riB g ⟨d,b,f⟩=m7 at *;generalize xcB e w u g ⟨d,b,f⟩=f8 at *;have⟨⟨b5,b6,b7,b8⟩,_,_⟩:=g3.cells;have⟨_,_,o,_,_⟩:=e9.cells;have i4:=Km f1 f2 L M f3 f4 g0 c7;go_upto_region 15 with fail;go_cut [120] (λv n=>v=ZR (!f8)/\Hid (E_ wc n))
   case first=>
    clear s z d5 b2 g8 e9 g3;obtain rfl:=e7.out
    cases l7
    ·go_quiet (fail);go_wp2;go_meet
     exact⟨X,below_drewN y_ _⟩
    cases m7
    ·go_quiet (fail);go_wp2;go_meet
     exact⟨X,below_drewN y_ _⟩
    refine Af (λn=>ZV n _=T _/\ZV n _=T _/\ZV n _=T _/\ZV n _=T _/\ZV n _=T _) 19 k_ ⟨o,b5,b6,b7,b8⟩ λhHeld=>?_;refine G_ ?_;refine oc_ 10 (i4 _ O O) ?_;rintro j n0 ⟨rfl,h4⟩;have n:E_ wc _:=y_.drew.T h4;refine⟨_,X,⟨Ah n o,Ah n b5,Ah n b6,Ah n b7,Ah n b8⟩,λhHeld=>?_⟩;try simp only[Act.put,sA,sB,sC]
    by_cases a9:f<L+M+2
    ·have g1:ZE ((f:E)≥((L+M+2:H):E))=ZZ:=aE O;have d6:¬(L:E)+M+2<=f:=O;have b0:Hid ((Z0&&Z0&&(ZE (f<L+M+2)&&!decide (f=c7)))=!decide (f=c7)):=(by rw[aF a9];rfl);clear a9;refine G_ ?_;refine le_ ?_;go_wp2;go_meet
     exact⟨by rw[b0,Bool.not_not];exact congrArg _ (Bool.eq_iff_iff.2 t_),n⟩
    have g1:ZE ((f:E)≥((L+M+2:H):E))=Z0:=aF O;have d6:(L:E)+M+2<=f:=O;have b0:Hid ((Z0&&Z0&&(ZE (f<L+M+2)&&!decide (f=c7)))=ZZ):=(by rw[aE a9];rfl);clear a9;refine G_ ?_;refine le_ ?_;go_wp2;go_meet
    exact⟨by rw[b0];rfl,n⟩
   obtain⟨rfl,g1⟩:=hcut;have⟨b0,h4⟩:=Y_ (g8.q g1) (e9.q g1);clear g8 e9 g3 g1 e7 b5 b6 b7 b8 o i4;have⟨N,b9,_⟩:=b0.cells;go_upto_if 120 with fail
   go_cut [120] (λ_ n=>Hid (eu l n k p h (ZH b3 (F e) b4) a1 R m a (if f8=Z0 then a0 else⟨a0.k,Z0⟩) g/\XbI l n k p a2 m ⟨d,b,f⟩))
   case first=>
    clear s z
    cases f8
    ·have n:Hid (eu l _ k p h (V b3 _ b4) a1 R m a _ g/\_):=⟨b0.g,h4.p b0.w.g.2 g9⟩;go_wp2;go_meet
     exact n
    have n:=K_ b0.out h4.out;go_wp2;go_meet
    exact n
   have a9:=hcut;clear hcut b0 h4 N b9;generalize (if f8=Z0 then a0 else⟨a0.k,Z0⟩)=j2 at *;have⟨n3,n4,j9⟩:=a9.1.r.d;rw[length_map,W] at j9;have⟨_,_,_,_,A,Q⟩:=a9.1.cells;have⟨y,r,o,_,_⟩:=a9.2.cells;have d6:Hid (eu l (YY (ZN wc (O_ #[I d,I b,I f] 231))) k p h (V b3 (F e) b4) a1 R m a j2 g/\XbI l (YY (ZN wc (O_ #[I d,I b,I f] 231))) k p a2 m ⟨d,b,f⟩):=⟨a9.1.q r_.drew,a9.2.q r_.drew⟩;have i7:Hid (ZD (YY (ZN wc (O_ #[I d,I b,I f] 231))) (B l.1) 231 3 m q ((g.map Cw).flatten)):=(by have:=d6.1.r.M;rw[length_map,W] at this;exact this);have n9:=a9.1.u.size;clear a9 Q;subst j9;go_upto_region 17 with fail;refine Af (λn=>ZV n _=T _/\ZV n _=T _/\ZV n _=T _/\ZV n _=T _) 10 k_ ⟨A,y,r,o⟩ λhHeld=>?_;refine G_ ?_
   refine on_ 6 λKK hK=>?_;go_simp;refine hK _ _ ⟨Ah r_ A,Ah r_ y,Ah r_ r,Ah r_ o⟩ λhHeld=>?_;clear hK KK;try simp only[Act.put,sA,sB,sC]
   refine on_ 7 λKK hK=>?_;refine aq_ [I d,I b,I f] i7 ?_;rintro m9 f9 ⟨k5,n,_,_,o2,o1,m3⟩;have⟨j6,h6⟩:=d6.1.P (v':=m9) (x:=⟨d,b,f⟩) n (W ▸ k5);have a5:=Y j6;have⟨i1,i2,k8,_,_⟩:=(d6.2.p ((Aa.refl _ _).grown n (λq c1 _=>c1)) (λj=>d6.2.o _ j X)).cells;have k6:=n_ 4 h6;have m8:=R_ 4 _ _ h6;subst m3;clear k5 n j6 h6 A y r o d6 i7;refine hK _ _ ⟨k6,i1,i2,k8⟩ λhHeld=>?_;clear hK KK;refine G_ ?_;refine le_ ?_;clear k6 m8 i1 i2 k8 hHeld;generalize (ZO f9) _ _=o4 at *;refine J_ ?_;exact⟨q+1,j2,g++[(⟨d,b,f⟩:XS)],_,g_,O,by simp[W],s.s,a5⟩
  rw[G] at N;have n:=d2 (ZM G);clear d2 G;go_wp2;go_end0;exact⟨X,n⟩
 have l6:¬q<(c9:E):=O;have n:=d2 (ZJ O);clear d2;go_wp2;go_end0;exact⟨X,n⟩
def ZmN{d:U E}(g:∀f∈d,0<=f/\f<256)(a:Cu):Vc (jp d a).2/\F (jp d a).2.e.f<=16/\F (jp d a).2.e.c<=16:=by
 have i:∀(e:ZG) (a:Cu) b,let c:=(Hr (ftS d) (a,⟨e,[],[]⟩) b).2;c.a=e/\(e=Z0->c.f=[])/\(e=ZZ->c.c=[])/\F c.f<=b/\F c.c<=b:=λe a b=>by
  induction b with
  |zero=>simp[Hr]
  | succ b h=>
   grind [Hr,ftS,ftN,ftW]
 grind [Cx,jp,Vc]
structure OpI(b a:ZT)(f g k:H)(i:ZY)(j:U (ZY×ZY))(c:U KS)(d:ZC)(e:Cu):Prop where
 w:Pd a f d e
 y:e.k<=ZK d
 v:Nt a g k i Dg Dg Dg
 A:ja a (B b.1) i j c
 x:∀h,h<F c->Vc (Z c h Aj)
 D:E_ b a
 t:B b.1<=f/\B b.1<=g
section
variable {w W a:ZT} {cb db n:H} {vF v':ZY} {kvs:U (ZY×ZY)} {Ks:U KS} {b:ZC} {c d:Cu}
def OpI.call(e:OpI w W cb db n vF kvs Ks b c)(i:Pd a cb b d)(j:d.k<=ZK b)(f:Aa (λh=>h=cb) W a):OpI w a cb db n vF kvs Ks b d:=
 ⟨i,j,f.g e.v (λg=>e.v.o e.w C g.s),e.A.p f (λp l q o g _ m=>by
  have k:=e.w
  grind [Pd]),e.x,e.D.T (f.b e.D.size (λh g=>p_ e.t)),e.t⟩
def OpI.q(d:OpI w W cb db n vF kvs Ks b c)(e:E_ W a):=d.call (d.w.q e) d.y (.a e)
def OpI.cells(a:OpI w W cb db n vF kvs Ks b c):ZV W (J cb 2)=T (ZR c.z)/\ZV W (J db 1)=T vF/\YT W (J db 1)=ZZ:=⟨n_ 2 a.w,n_ 1 a.v,R_ 1 _ _ a.v⟩
def OpI.u(a:OpI w W cb db n vF kvs Ks b c)(e:H):OpI w (ZO W (J db 0) (I e)) cb db e vF kvs Ks b c:=by have f:Aa (λd=>d=db) W (ZO W (J db 0) (I e)):=(Aa.refl (λd=>d=db) W).setCell (p:=(J db 0)) (λ_=>X) _;exact⟨f.g a.w (a.v.o a.w C),a.y,hs_ _ db 0 _ 142 _ a.v,a.A.p f (λi g j d h _=>a.v.o d O),a.x,a.D.T (f.b a.D.size (λd g=>p_ a.t)),a.t⟩
def OpI.z{K:KS}{u:ZY×ZY}(d:OpI w W cb db n vF kvs Ks b c)(m:Ad W (B w.1) u.1 K.e.f)(o:Bj W (B w.1) u.2 K.e.c)(hK:Vc K)(j:Y3 W a (ZW vF))(l:ZD a (B w.1) 227 4 v' (F Ks+1) ((zipWith Bs Ks kvs).flatten++Bs K u)):OpI w (ZO a (J db 1) v') cb db n v' (kvs++[u]) (Ks++[K]) b c/\Nt a db n vF Dg Dg Dg:=by
 have g:=La (i:=1) d.v d.A.M.M j (n':=F Ks+1) l C;have h:Nt a db n vF Dg Dg Dg:=g.1;have q:Aa (λf=>f=db) a (ZO a (J db 1) v'):=(Aa.refl (λf=>f=db) _).setCell (p:=(J db 1)) (λ_=>X) _;refine⟨⟨g.2.2.2.g d.w (λe=>?_),d.y,g.2.1,(d.A.P m o j l).p q (λk p r f e _=>h.o f O),λi r=>?_,d.D.T (g.2.2.2.b d.D.size (λf p=>?_)),d.t⟩,h⟩
 ·rcases e with e|e
  exact d.v.o d.w C e;exact Ag d.A.M.M e d.w C X
 ·by_cases e:i<F Ks
  ·have:=d.x i e
   grind
  grind
 rcases p with rfl|e
 exact d.t.2;exact(B_ d.A.M.M f e).1
end
theorem ZgA{a:U KS}{d:H}{f:U H}:∀(b:U H) (c:H),(b++d::f).Nodup->Lu d (Zu a (b++d::f) c)=if Bk a b<=c/\c<Bk a b+(Z a d Aj).g then T (c-Bk a b) else ZP
 | [],c,h=>by
  simp only[nil_append,Zu,Bk,map_nil,sum_nil]
  by_cases e:c<(Z a d Aj).g
  rw[aD e,aD O];simp[Lu];rw[aC e,aC O]
  cases g:Zu a f (c-(Z a d Aj).g) with
  |none=>rfl
  | some i=>
   grind [Zan,Lu]
 | g::b,c,h=>by
  have i:Bk a (g::b)=(Z a g Aj).g+Bk a b:=(by simp[Bk]);rw[cons_append,nodup_cons] at h;simp only[cons_append,Zu]
  by_cases e:c<(Z a g Aj).g
  ·grind [Lu]
  rw[aC e,ZgA b _ h.2,i]
  grind
def ZhE{x:H}{a:Ft}{h:U XS}(i:DRt x a h){b c:H}(u:b<F a.g):Tk a h b (De a b) (Iy a b) c=xbF h b c (Iz a.g (a.f.map BS.fs) (a.f.map BS.N) c b):=by
 have⟨d,k,f,y,t,z,o,p,A⟩:=Zgv i.h u;have n:Z a.f d Df=a.f[d]:=w_
 have L:∀e,e<F a.f->e≠d->Lu b (Gw a.g (a.f.map BS.fs) (a.f.map BS.N) e c)=ZP:=λe j G=>by
  unfold Gw;rw[ch j,ch j]
  cases g:Nv a.g a.f[e].fs (Z a.f[e].N c 0) with
  |none=>rfl
  | some l=>
   grind [Zcv,Lu]
 have D:Lu b (Gw a.g (a.f.map BS.fs) (a.f.map BS.N) d c)=if 1+Bk a.g f<=Z a.f[d].N c 0/\Z a.f[d].N c 0<1+Bk a.g f+(Z a.g b Aj).g then T (Z a.f[d].N c 0-(1+Bk a.g f)) else ZP:=by
  unfold Gw Nv;rw[ch k,ch k,t]
  by_cases g:Z a.f[d].N c 0=0
  rw[aD g,aC O];rfl
  grind [ZgA]
 have w:Iz a.g (a.f.map BS.fs) (a.f.map BS.N) c b=if 1+Bk a.g f<=Z a.f[d].N c 0/\Z a.f[d].N c 0<1+Bk a.g f+(Z a.g b Aj).g then Z a.f[d].N c 0-(1+Bk a.g f) else(Z a.g b Aj).d:=by
  unfold Iz;rw[length_map]
  cases g:(range (F a.f)).findSome? (λe=>Lu b (Gw a.g (a.f.map BS.fs) (a.f.map BS.N) e c)) with
  | none=>
   grind
  | some l=>
   obtain⟨e,j,s⟩:=exists_of_findSome?_eq_some g
   grind
 unfold Tk;rw[o,p,n,w];split
 ·rename_i s;unfold xbF
  cases r:h.find? (λm=>ZE (rt c b m)) with
  |none=>rfl
  | some m=>
   have g:=find?_some r;have g:=of_decide_eq_true g;have l:=i.j m (mem_of_find?_eq_some r);unfold Fi ZhL at l;simp only[Bool.and_eq_true,decide_eq_true_eq] at l;have q:=i.f _ (Qf k);have v:=l.2.2.2.2;rw[g.1,g.2,show De ⟨a.g,a.f,[]⟩ b=d from o,show Iy ⟨a.g,a.f,[]⟩ b=Iy a b from X,show Lv ⟨a.g,a.f,[]⟩ d (Iy a b)=_ from p,n,Zdn q.k (p_ q.h)] at v;omega
 rfl
def DRt.a{i:H}{f:Ft}{g:U XS}(a:DRt i f g)(k:g=f.r):Kw i f:=by
 subst k;have m:=a.h.length_eq;rw[length_range] at m;have hK:∀d,d<F f.g->KRt (Z f.g d Aj):=λd e=>a.g _ (Hu _ e);have p:=a.i;refine⟨a.w,a.y,a.i,a.k,a.l,λc b=>⟨(a.f c b).y,(a.f c b).k,(a.f c b).sum⟩,λc b=>(a.f c b).h,λc b=>(a.f c b).o,λc b=>?_,λc b=>(a.f c b).n,λo l=>?_,λd e=>?_,λd e=>(hK d e).ok.a,λd e=>?_,?_,a.u,λj n=>?_⟩
 ·have⟨q,r,h⟩:=append_of_mem b
  grind
 ·simpa using a.h.mem_iff.2 (mem_range.2 l)
 have:=(hK d e).ok.g;show _+2<=18;omega;have:=(hK d e).sum;have:=(hK d e).ok.g;omega
 ·exact a.r.imp λa=>O
 have h:=Ms (a.j j n);simp only at h;have:=(hK j.f h.2.1).ok.g;omega
end Go.Proofs.YtfcgnpchbcmdeaaGreat
